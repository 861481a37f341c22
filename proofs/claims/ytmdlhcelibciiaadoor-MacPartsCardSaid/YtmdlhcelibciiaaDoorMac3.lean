/- The digest by a key. -/
import Derived.Test.YtmdlhcelibciiaaDoorMac2
import Derived.Test.YtmdlhcelibciiaaDoorAppParts
import Derived.Test.YtmdlhcelibciiaaDoorArr2
namespace Go.Proofs.YtmdlhcelibciiaaDoor
open Go.ChangeShapes Go.WideShapes Go.ChangeAt Go.RowKit
theorem masked_to (l r : List Int) (hl : l.length = 64) (m : Int) (hr : Mac.mask l m = r) (w : World) (g : Nat) (hg : w.heap.size + 1 = g) :
    Calls Tryd.prog 15 #[.agg (nrow .u8 l).toArray, .int .u8 m] w fun e w' => e = .returned (.slice (some ⟨g, 0, none⟩) 64 64) ∧ w'.heap[g]? = some (.cells (nrow .u8 r).toArray 5) ∧ Below w.heap.size w w' := by
  subst hr; subst hg
  exact masked_any l hl m w
/-- What the last region of Of reads and writes: the key's block, the inner digest, the result's place. -/
structure OfS (w : World) (g5 g7 : Nat) (b s1 : List Int) (W : World) : Prop where
  rb : W.heap[g5]? = some (.cells (nrow .u8 b).toArray b64T)
  rs : W.heap[g7]? = some (.cells (nrow .u8 s1).toArray b32T)
  rr : ∃ L : List Value, L.length = 32 ∧ W.heap[w.heap.size]? = some (.cells L.toArray b32T)
  low : Below w.heap.size w W
abbrev OfA (w : World) (g5 g7 : Nat) (b s1 : List Int) (W : World) : Prop := W.rangeAt g5 0 (nrow .u8 b) ∧ W.there w.heap.size 0 32 ∧ OfS w g5 g7 b s1 W
theorem OfS.all {w W : World} {g5 g7 : Nat} {b s1 : List Int} (h : OfS w g5 g7 b s1 W) : OfA w g5 g7 b s1 W := by
  obtain ⟨L, hL, hr⟩ := h.rr
  exact ⟨range_row h.rb, there_row hr hL, h⟩
theorem OfS.keep {w W W' : World} {g5 g7 : Nat} {b s1 : List Int} (h : OfS w g5 g7 b s1 W) (hb : Below W.heap.size W W') : OfS w g5 g7 b s1 W' := by
  obtain ⟨L, hL, hr⟩ := h.rr
  exact ⟨row_kept h.rb hb (row_lt h.rb), row_kept h.rs hb (row_lt h.rs), ⟨L, hL, row_kept hr hb (row_lt hr)⟩, h.low.trans (hb.mono h.low.size)⟩
theorem OfS.set {w W : World} {g5 g7 : Nat} {b s1 r : List Int} (h : OfS w g5 g7 b s1 W) (h5 : w.heap.size < g5) (h7 : w.heap.size < g7) (hr : r.length = 32) : OfS w g5 g7 b s1 (W.setCells w.heap.size 0 (nrow .u8 r)) := by
  obtain ⟨L, hL, hrr⟩ := h.rr
  refine ⟨(heap_setCells (by omega) _ _ _).trans h.rb, (heap_setCells (by omega) _ _ _).trans h.rs, ⟨nrow .u8 r, by rw [nrow_len]; exact hr, ?_⟩, below_setCells (Nat.le_refl _) _ _ _ h.low⟩
  rw [setCells_arr info_b32 (by rw [nrow_len]; exact hr) hL (nrow_one _ _) hrr]
  exact row_written hrr
theorem infoS : (Tryd.prog.info? 22).map (fun i => (i.zero, i.size, i.bytes)) = some (some (.slice none 0 0), 1, 24) := by kernel_rfl
set_option maxRecDepth 100000 in
set_option maxHeartbeats 1000000 in
theorem of_any (w : World) (A : Option Addr) (n cap : Nat) (key : List Int) (hn : key.length = n) (hN : Nums .u8 w A key) (hc : n ≤ cap) (hm : cap ≤ maxLen) (hlen : n ≤ 1000000) (hwf : ∀ z ∈ key, 0 ≤ z ∧ z < 256)
    (B : Option Addr) (np pcap : Nat) (ps : List Pt) (msg r : List Int) (hf : flat ps = msg) (hr : Mac.hmac key msg = r) (hnp : ps.length = np) (hpc : np ≤ pcap) (hpm : pcap ≤ maxLen) (hP : Parts w B ps) (hml : msg.length ≤ 900000) (hnp6 : np ≤ 900000) (hmwf : ∀ z ∈ msg, 0 ≤ z ∧ z < 256) (ht : Kt w) :
    Calls Tryd.prog 9 #[.slice A n cap, .slice B np pcap] w fun e w' => e = .returned (.agg (nrow .u8 r).toArray) ∧ Below w.heap.size w w' := by
  have z0 := zero_b32'
  have z1 := zero_b64
  have HN := Lib.hid hN
  have Hn := Lib.hid hn
  have Hwf := Lib.hid hwf
  have HP := Lib.hid hP
  have Hnp := Lib.hid hnp
  have HT := Lib.hid ht
  have Hmw := Lib.hid hmwf
  obtain ⟨b, hb⟩ : ∃ b, Mac.blk key = b := ⟨_, rfl⟩
  have hb64 : b.length = 64 := by rw [← hb]; exact Mac.len_blk key
  have LB : (nrow .u8 b).length = 64 := by rw [nrow_len]; exact hb64
  obtain ⟨ki, hki⟩ : ∃ k, Mac.mask b 54 = k := ⟨_, rfl⟩
  obtain ⟨ko, hko⟩ : ∃ k, Mac.mask b 92 = k := ⟨_, rfl⟩
  obtain ⟨s1, hs1⟩ : ∃ s, Sha.sha (ki ++ msg) = s := ⟨_, rfl⟩
  have hr2 : Sha.sha (ko ++ s1) = r := by rw [← hr, ← hs1, ← hki, ← hko, ← hb]; rfl
  have hs32 : s1.length = 32 := by rw [← hs1]; exact sha_len _
  have hr32 : r.length = 32 := by rw [← hr2]; exact sha_len _
  have SN := sha_new s1 hs32
  have L1 : (nrow .u8 s1).length = 32 := by rw [nrow_len]; exact hs32
  have Hb := Lib.hid hb
  have Hb64 := Lib.hid hb64
  have Hki := Lib.hid hki
  have Hko := Lib.hid hko
  have Hs1 := Lib.hid hs1
  have Hr2 := Lib.hid hr2
  have Hki64 := Lib.hid (show ki.length = 64 by rw [← hki, Mac.len_mask]; exact hb64)
  have Hko64 := Lib.hid (show ko.length = 64 by rw [← hko, Mac.len_mask]; exact hb64)
  have Hkiw := Lib.hid (show ∀ z ∈ ki, 0 ≤ z ∧ z < 256 by rw [← hki]; exact Mac.mask_wf _ _)
  have Hkow := Lib.hid (show ∀ z ∈ ko, 0 ≤ z ∧ z < 256 by rw [← hko]; exact Mac.mask_wf _ _)
  have Hs1w := Lib.hid (show ∀ z ∈ s1, 0 ≤ z ∧ z < 256 by rw [← hs1]; exact Mac.sha_wf _)
  have Hs32 := Lib.hid hs32
  have Hr32 := Lib.hid hr32
  have Hf := Lib.hid hf
  have Hc := Lib.hid (And.intro hc (And.intro hm (And.intro hlen (And.intro hpc (And.intro hpm hml)))))
  clear hN hn hwf hP hnp ht hmwf hb hb64 hki hko hs1 hr2 hs32 hr32 hr hf hc hm hpc hpm
  go_enter Tryd.func9, Tryd.ntmps9
  go_wp2_with fail
  have RR := row_new (W := w) (cs := ncs .u8 z32) (t := b32T) (m := (0, 0))
  have B0 : Below w.heap.size w (w.alloc (.cells (ncs .u8 z32) b32T)) := (Below.refl _ _).alloc (Nat.le_refl _) _
  generalize w.alloc (.cells (ncs .u8 z32) b32T) = W0 at RR B0 ⊢
  refine (keyBlock_any W0 A n cap key b Hb.out Hn.out (HN.out.below B0) Hc.out.1 Hc.out.2.1 Hc.out.2.2.1 Hwf.out (HT.out.keep B0 HT.out.2)).mono ?_
  rintro e w1 ⟨rfl, hB1⟩
  have RR := row_kept RR hB1 (row_lt RR)
  have B1 := B0.trans (hB1.mono B0.size)
  have sb : ∀ W : World, (storeCells ⟨W.heap.size, 0, none⟩ (nrow .u8 b) 0).run Tryd.prog (W.alloc (.cells (nrow .u8 z64).toArray b64T)) = .ok () (W.alloc (.cells (nrow .u8 b).toArray b64T)) := fun W => by
    have := run_storeCells_new (P := Tryd.prog) W b64T (nrow .u8 z64).toArray (nrow .u8 b).toArray (by rw [info_b64]; simp [LB]) (by simp [LB, z64_len]) (all_one (nrow_one _ _))
    simpa using this
  clear hB1 B0
  go_upto_region 2 with (fail)
  have AN := (Below.refl w1.heap.size w1).alloc (Nat.le_refl _) (.cells (nrow .u8 b).toArray b64T)
  have RR := row_kept RR AN (row_lt RR)
  have RB := row_new (W := w1) (cs := (nrow .u8 b).toArray) (t := b64T) (m := (0, 0))
  have B2 := B1.trans (AN.mono B1.size)
  generalize w1.alloc (.cells (nrow .u8 b).toArray b64T) = W2 at RR RB B2 ⊢
  obtain ⟨g5, hg5⟩ : ∃ g, g = w1.heap.size := ⟨_, rfl⟩
  have hg5w : w.heap.size < g5 := by rw [hg5]; exact (Nat.lt_of_lt_of_le (Nat.lt_succ_self _) (show w.heap.size + 1 ≤ w1.heap.size from Nat.succ_le_of_lt (by
    have := row_lt RR
    have h2 := B1.size
    rcases Nat.lt_or_ge w.heap.size w1.heap.size with h | h
    · exact h
    · exfalso; have : w.heap.size = w1.heap.size := by omega
      rw [this] at RR; rw [RR] at RB; injection RB with RB; injection RB with e1 e2; cases e2)))
  rw [← hg5] at RB ⊢
  clear AN B1 hg5 sb
  go_wp2_with (first
    | ((with_reducible refine wpl_arr Tryd.underlying34 info_b64 ?_ (.tmp 5) ?_ g5 (nrow .u8 b) LB ?_ RB ?_); (rfl); (rfl); (rfl))
    )
  refine (masked_to b ki Hb64.out 54 Hki.out _ (W2.heap.size + 1) rfl).mono ?_
  rintro e w3 ⟨rfl, RK, hB3⟩
  have RR := row_kept RR hB3 (row_lt RR)
  have RB := row_kept RB hB3 (row_lt RB)
  have B3 := B2.trans (hB3.mono B2.size)
  have NK := Lib.hid (nums_row RK)
  clear hB3 RK B2
  obtain ⟨i0, hi, hz0, hz1, hz2⟩ := info_parts infoS
  have HI := Lib.hid (And.intro hi (And.intro hz0 (And.intro hz1 hz2)))
  clear hi hz0 hz1 hz2
  go_wp2_with (first
    | (at_builtin; refine wpList_append_parts (Wp := w3) rfl (.tmp 13) (.tmp 14) 32 rfl i0 Tryd.underlying32 HI.out.1 HI.out.2.1 HI.out.2.2.1 HI.out.2.2.2 ⟨some ⟨W2.heap.size + 1, 0, none⟩, 64, ki⟩ 64 Hki64.out ⟨NK.out, Nat.le_of_eq Hki64.out, (show (64 : Nat) ≤ maxLen by decide)⟩ rfl B np pcap ps Hnp.out (HP.out.below B3) rfl (by omega) ?_; intro A4 c4 w4 hP4 hc4 hc4' hB4)
    )
  have B4 := B3.trans (hB4.mono B3.size)
  have RR := row_kept RR hB4 (row_lt RR)
  have RB := row_kept RB hB4 (row_lt RB)
  refine (sum_to w4 A4 (1 + np) c4 _ (ki ++ msg) s1 (by simp only [flat]; rw [Hf.out]) Hs1.out (by rw [List.length_cons, Hnp.out, Nat.add_comm]) hP4 (by rw [List.length_append, Hki64.out]; omega) (by omega) (Mac.app_wf Hkiw.out Hmw.out) (HT.out.keep B4 HT.out.2)).mono ?_
  rintro e w5 ⟨rfl, hB5⟩
  have B5 := B4.trans (hB5.mono B4.size)
  have RR := row_kept RR hB5 (row_lt RR)
  have RB := row_kept RB hB5 (row_lt RB)
  have hlt5' := row_lt RR
  clear hB4 hB5 hP4 B3 B4 HI NK
  go_upto_region 4 with (fail)
  have AN := (Below.refl w5.heap.size w5).alloc (Nat.le_refl _) (.cells (nrow .u8 s1).toArray b32T)
  have RS := row_new (W := w5) (cs := (nrow .u8 s1).toArray) (t := b32T) (m := (0, 0))
  have RR := row_kept RR AN (row_lt RR)
  have RB := row_kept RB AN (row_lt RB)
  have B6 := B5.trans (AN.mono B5.size)
  generalize w5.alloc (.cells (nrow .u8 s1).toArray b32T) = W6 at RS RR RB B6 ⊢
  have hlt5 : w.heap.size < w5.heap.size := hlt5'
  obtain ⟨g7, hg7⟩ : ∃ g, g = w5.heap.size := ⟨_, rfl⟩
  rw [← hg7] at RS hlt5 ⊢
  clear AN B5 SN hg7
  have hS0 : OfS w g5 g7 b s1 W6 := ⟨RB, RS, ⟨nrow .u8 z32, rfl, RR⟩, B6⟩
  have H0 := Lib.hid (show OfA w g5 g7 b s1 W6.drew from (hS0.keep (below_drewN (Below.refl _ _) 1)).all)
  have KA := Lib.hid (show ∀ (W : World) (o : Obj), OfA w g5 g7 b s1 W → OfA w g5 g7 b s1 (W.alloc o) from fun W o h => (h.2.2.keep ((Below.refl _ _).alloc (Nat.le_refl _) _)).all)
  have KC := Lib.hid (show ∀ (W W' : World), OfA w g5 g7 b s1 W → Below W.heap.size W W' → OfA w g5 g7 b s1 W' from fun W W' h hb => (h.2.2.keep hb).all)
  have KS := Lib.hid (show ∀ W : World, OfA w g5 g7 b s1 W → OfA w g5 g7 b s1 (W.setCells w.heap.size 0 (nrow .u8 r)) from fun W h => (h.2.2.set hg5w hlt5 Hr32.out).all)
  have KT := Lib.hid (show ∀ W : World, OfA w g5 g7 b s1 W → Kt W from fun W h => HT.out.keep h.2.2.low HT.out.2)
  have KP := Lib.hid (show ∀ (W7 : World) (g : Nat), Nums .u8 W7 (some ⟨g, 0, none⟩) ko → OfA w g5 g7 b s1 (W7.alloc (.cells #[.slice (some ⟨g, 0, none⟩) 64 64, .slice (some ⟨g7, 0, none⟩) 32 32] 22)) → Parts (W7.alloc (.cells #[.slice (some ⟨g, 0, none⟩) 64 64, .slice (some ⟨g7, 0, none⟩) 32 32] 22)) (some ⟨W7.heap.size, 0, none⟩) [⟨some ⟨g, 0, none⟩, 64, ko⟩, ⟨some ⟨g7, 0, none⟩, 32, s1⟩] from fun W7 g hK hS => by
    have hn2 := nums_row hS.2.2.rs
    have e1 := Hko64.out
    have e2 := Hs32.out
    refine parts_of_row (t := 22) (by rw [List.map_cons, List.map_cons, List.map_nil]; simp only [e1, e2]; exact row_new) ?_
    intro p hp
    simp only [List.mem_cons, List.not_mem_nil, or_false] at hp
    rcases hp with rfl | rfl
    · exact ⟨hK.alloc _, Nat.le_of_eq e1, (show (64 : Nat) ≤ maxLen by decide)⟩
    · exact ⟨hn2, Nat.le_of_eq e2, (show (32 : Nat) ≤ maxLen by decide)⟩)
  have hu5 := Tryd.underlying34
  have hi5 : (Tryd.prog.info? b64T).map (·.size) = some (nrow .u8 b).length := by rw [info_b64, LB]
  have hu4 := Tryd.underlying24
  have LR : (nrow .u8 r).length = 32 := by rw [nrow_len]; exact Hr32.out
  have hi4 : (Tryd.prog.info? b32T).map (·.size) = some (nrow .u8 r).length := by rw [info_b32, LR]
  have hone := nrow_one .u8 r
  have HSL := Lib.hid (show (ko ++ s1).length ≤ 1000000 by rw [List.length_append, Hko64.out, Hs32.out]; decide)
  have HSW := Lib.hid (Mac.app_wf Hkow.out Hs1w.out)
  clear RR RB RS B6 hS0
  go_region_held3 (fun W => W.rangeAt g5 0 (nrow .u8 b) ∧ W.there w.heap.size 0 32 ∧ OfS w g5 g7 b s1 W)
    (first | (with_reducible exact H0.out) | (with_reducible exact KA.out _ _ (by assumption)) | (with_reducible exact KS.out _ (by assumption)) | (with_reducible exact KC.out _ _ (by assumption) hb))
    (first
      | (go_at_call 15; refine (masked_to b ko Hb64.out 92 Hko.out W6.drew (W6.heap.size + 1) rfl).mono ?_; rintro e W7 ⟨rfl, RK, hb⟩; have NK := Lib.hid (nums_row RK))
      | (go_at_call 13; refine (sum_to _ _ 2 2 _ (ko ++ s1) r (by simp [flat]) Hr2.out rfl (KP.out _ _ NK.out (by assumption)) HSL.out (by decide) HSW.out (KT.out _ (by assumption))).mono ?_; rintro e W9 ⟨rfl, hb⟩; have hW9 := Lib.hid (KC.out _ _ (by assumption) hb)))
  obtain ⟨L, hL, hrr⟩ := hW9.out.2.2.rr
  have hset := setCells_arr info_b32 LR hL hone hrr
  have hlow := hW9.out.2.2.low
  rw [hset]
  have RF := row_written (ds := (nrow .u8 r).toArray) hrr
  have BF := setRow_below (t := b32T) (cs := (nrow .u8 r).toArray) hlow (Nat.le_refl _)
  generalize setRow W9 w.heap.size b32T (nrow .u8 r).toArray = WF at RF BF ⊢
  clear hset hlow hrr
  go_wp2
  exact bodyPost_ret (arr_results Tryd.underlying24 info_b32 Tryd.results9 LR rfl RF) rfl ⟨rfl, BF⟩
end Go.Proofs.YtmdlhcelibciiaaDoor
