/- Texts of this proof, merged: Arr2, Mac3, FieldMath, FieldMath2, Put, Pk. -/
import Derived.Test.YtpglhkjgcahdbaaDoorQ3
import Derived.Deep.RegionHeld3
import Derived.Test.YtpglhkjgcahdbaaDoorQ5
import Derived.IntWalk
import Derived.Laws.Bits64
import Derived.Test.YtpglhkjgcahdbaaDoorRows
import Derived.WalkKit
import Derived.ProofKit
import Derived.OpenShut
import Derived.Outline
import Derived.Lib.Hide
import Derived.Test.YtpglhkjgcahdbaaDoorQ2
import Derived.Laws.StructEq
import Derived.Laws.CopyOwn
/- An array that is stored whole in a region that draws its order. No program in it. -/
namespace Go.Proofs.YtpglhkjgcahdbaaDoor
open Go.ChangeShapes Go.WideShapes Go.ChangeAt Go.RowKit
theorem heap_setCells {b k : Nat} (hk : k ≠ b) : ∀ (vs : List Value) (o : Nat) (W : World), (W.setCells b o vs).heap[k]? = W.heap[k]?
  | [], _, _ => rfl
  | v :: r, o, W => by
    rw [World.setCells, heap_setCells hk r (o + 1)]
    exact Below.heap_setCell _ _ _ _ hk
theorem below_setCells {B b : Nat} {w : World} (hb : B ≤ b) : ∀ (vs : List Value) (o : Nat) (W : World), Below B w W → Below B w (W.setCells b o vs)
  | [], _, _, h => h
  | v :: r, o, W, h => by
    rw [World.setCells]
    exact below_setCells hb r (o + 1) _ (below_set h hb)
theorem size_setCells {b : Nat} : ∀ (vs : List Value) (o : Nat) (W : World), (W.setCells b o vs).heap.size = W.heap.size
  | [], _, _ => rfl
  | v :: r, o, W => by
    rw [World.setCells, size_setCells r (o + 1)]
    simp
theorem there_row {W : World} {g n : Nat} {t : TypeId} {L : List Value} (h : W.heap[g]? = some (.cells L.toArray t)) (hL : L.length = n) : W.there g 0 n := fun j hj => by
  simp only [Nat.zero_add]
  refine ⟨?_, frozen_row h j⟩
  rw [cell_of_row _ _ _ _ _ _ h, List.getElem?_toArray, List.getElem?_eq_getElem (by omega)]
  rfl
theorem setCells_arr {P : Program} {T : TypeId} {n : Nat} (hi : (P.info? T).map (·.size) = some n) {W : World} {g : Nat} {L M : List Value} (hL : L.length = n) (hM : M.length = n) (h1 : ∀ v ∈ L, v.oneCell' = true) (h : W.heap[g]? = some (.cells M.toArray T)) : W.setCells g 0 L = setRow W g T L.toArray := by
  have a := run_storeVar_mid (P := P) W g 0 T L.toArray (by rw [List.size_toArray, hL]; exact there_row h hM) (by rw [hi, List.size_toArray, hL]) (all_one h1)
  have b := run_storeVar_row (P := P) W g T T M.toArray L.toArray h (by rw [hi]; simp [hL]) (by simp [hL, hM]) (all_one h1)
  rw [setRow_eq h] at b
  rw [a] at b
  have := (Result.ok.inj b).2
  simpa using this
end Go.Proofs.YtpglhkjgcahdbaaDoor
/- The digest by a key. -/
namespace Go.Proofs.YtpglhkjgcahdbaaDoor
open Go.ChangeShapes Go.WideShapes Go.ChangeAt Go.RowKit
theorem masked_to (l r : List Int) (hl : l.length = 64) (m : Int) (hr : Mac.mask l m = r) (w : World) (g : Nat) (hg : w.heap.size + 1 = g) :
    Calls Tryd.prog 30 #[.agg (nrow .u8 l).toArray, .int .u8 m] w fun e w' => e = .returned (.slice (some ⟨g, 0, none⟩) 64 64) ∧ w'.heap[g]? = some (.cells (nrow .u8 r).toArray 5) ∧ Below w.heap.size w w' := by
  subst hr; subst hg
  exact masked_any l hl m w
/-- What the last region of Of reads and writes: the key's block, the inner digest, the result's place. -/
structure OfS (w : World) (g5 g7 : Nat) (b s1 : List Int) (W : World) : Prop where
  rb : W.heap[g5]? = some (.cells (nrow .u8 b).toArray b64T)
  rs : W.heap[g7]? = some (.cells (nrow .u8 s1).toArray b32T)
  rr : ∃ L : List Value, L.length = 32 ∧ W.heap[w.heap.size]? = some (.cells L.toArray b32T)
  low : Below w.heap.size w W
abbrev OfA (w : World) (g5 g7 : Nat) (b s1 : List Int) (W : World) : Prop := W.rangeAt g5 0 (nrow .u8 b) ∧ W.there w.heap.size 0 32 ∧ OfS w g5 g7 b s1 W
theorem OfS.all {w W : World} {g5 g7 : Nat} {b s1 : List Int} (h : OfS w g5 g7 b s1 W) : OfA w g5 g7 b s1 W := by
  obtain ⟨L, hL, hr⟩ := h.rr
  exact ⟨range_row h.rb, there_row hr hL, h⟩
theorem OfS.keep {w W W' : World} {g5 g7 : Nat} {b s1 : List Int} (h : OfS w g5 g7 b s1 W) (hb : Below W.heap.size W W') : OfS w g5 g7 b s1 W' := by
  obtain ⟨L, hL, hr⟩ := h.rr
  exact ⟨row_kept h.rb hb (row_lt h.rb), row_kept h.rs hb (row_lt h.rs), ⟨L, hL, row_kept hr hb (row_lt hr)⟩, h.low.trans (hb.mono h.low.size)⟩
theorem OfS.set {w W : World} {g5 g7 : Nat} {b s1 r : List Int} (h : OfS w g5 g7 b s1 W) (h5 : w.heap.size < g5) (h7 : w.heap.size < g7) (hr : r.length = 32) : OfS w g5 g7 b s1 (W.setCells w.heap.size 0 (nrow .u8 r)) := by
  obtain ⟨L, hL, hrr⟩ := h.rr
  refine ⟨(heap_setCells (by omega) _ _ _).trans h.rb, (heap_setCells (by omega) _ _ _).trans h.rs, ⟨nrow .u8 r, by rw [nrow_len]; exact hr, ?_⟩, below_setCells (Nat.le_refl _) _ _ _ h.low⟩
  rw [setCells_arr info_b32 (by rw [nrow_len]; exact hr) hL (nrow_one _ _) hrr]
  exact row_written hrr
theorem infoS : (Tryd.prog.info? 22).map (fun i => (i.zero, i.size, i.bytes)) = some (some (.slice none 0 0), 1, 24) := by kernel_rfl
set_option maxRecDepth 100000 in
set_option maxHeartbeats 1000000 in
theorem of_any (w : World) (A : Option Addr) (n cap : Nat) (key : List Int) (hn : key.length = n) (hN : Nums .u8 w A key) (hc : n ≤ cap) (hm : cap ≤ maxLen) (hlen : n ≤ 1000000) (hwf : ∀ z ∈ key, 0 ≤ z ∧ z < 256)
    (B : Option Addr) (np pcap : Nat) (ps : List Pt) (msg r : List Int) (hf : flat ps = msg) (hr : Mac.hmac key msg = r) (hnp : ps.length = np) (hpc : np ≤ pcap) (hpm : pcap ≤ maxLen) (hP : Parts w B ps) (hml : msg.length ≤ 900000) (hnp6 : np ≤ 900000) (hmwf : ∀ z ∈ msg, 0 ≤ z ∧ z < 256) (ht : Kt w) :
    Calls Tryd.prog 18 #[.slice A n cap, .slice B np pcap] w fun e w' => e = .returned (.agg (nrow .u8 r).toArray) ∧ Below w.heap.size w w' := by
  have z0 := zero_b32'
  have z1 := zero_b64
  have HN := Lib.hid hN
  have Hn := Lib.hid hn
  have Hwf := Lib.hid hwf
  have HP := Lib.hid hP
  have Hnp := Lib.hid hnp
  have HT := Lib.hid ht
  have Hmw := Lib.hid hmwf
  obtain ⟨b, hb⟩ : ∃ b, Mac.blk key = b := ⟨_, rfl⟩
  have hb64 : b.length = 64 := by rw [← hb]; exact Mac.len_blk key
  have LB : (nrow .u8 b).length = 64 := by rw [nrow_len]; exact hb64
  obtain ⟨ki, hki⟩ : ∃ k, Mac.mask b 54 = k := ⟨_, rfl⟩
  obtain ⟨ko, hko⟩ : ∃ k, Mac.mask b 92 = k := ⟨_, rfl⟩
  obtain ⟨s1, hs1⟩ : ∃ s, Sha.sha (ki ++ msg) = s := ⟨_, rfl⟩
  have hr2 : Sha.sha (ko ++ s1) = r := by rw [← hr, ← hs1, ← hki, ← hko, ← hb]; rfl
  have hs32 : s1.length = 32 := by rw [← hs1]; exact sha_len _
  have hr32 : r.length = 32 := by rw [← hr2]; exact sha_len _
  have SN := sha_new s1 hs32
  have L1 : (nrow .u8 s1).length = 32 := by rw [nrow_len]; exact hs32
  have Hb := Lib.hid hb
  have Hb64 := Lib.hid hb64
  have Hki := Lib.hid hki
  have Hko := Lib.hid hko
  have Hs1 := Lib.hid hs1
  have Hr2 := Lib.hid hr2
  have Hki64 := Lib.hid (show ki.length = 64 by rw [← hki, Mac.len_mask]; exact hb64)
  have Hko64 := Lib.hid (show ko.length = 64 by rw [← hko, Mac.len_mask]; exact hb64)
  have Hkiw := Lib.hid (show ∀ z ∈ ki, 0 ≤ z ∧ z < 256 by rw [← hki]; exact Mac.mask_wf _ _)
  have Hkow := Lib.hid (show ∀ z ∈ ko, 0 ≤ z ∧ z < 256 by rw [← hko]; exact Mac.mask_wf _ _)
  have Hs1w := Lib.hid (show ∀ z ∈ s1, 0 ≤ z ∧ z < 256 by rw [← hs1]; exact Mac.sha_wf _)
  have Hs32 := Lib.hid hs32
  have Hr32 := Lib.hid hr32
  have Hf := Lib.hid hf
  have Hc := Lib.hid (And.intro hc (And.intro hm (And.intro hlen (And.intro hpc (And.intro hpm hml)))))
  clear hN hn hwf hP hnp ht hmwf hb hb64 hki hko hs1 hr2 hs32 hr32 hr hf hc hm hpc hpm
  go_enter Tryd.func18, Tryd.ntmps18
  go_wp2_with fail
  have RR := row_new (W := w) (cs := ncs .u8 z32) (t := b32T) (m := (0, 0))
  have B0 : Below w.heap.size w (w.alloc (.cells (ncs .u8 z32) b32T)) := (Below.refl _ _).alloc (Nat.le_refl _) _
  generalize w.alloc (.cells (ncs .u8 z32) b32T) = W0 at RR B0 ⊢
  refine (keyBlock_any W0 A n cap key b Hb.out Hn.out (HN.out.below B0) Hc.out.1 Hc.out.2.1 Hc.out.2.2.1 Hwf.out (HT.out.keep B0 HT.out.2)).mono ?_
  rintro e w1 ⟨rfl, hB1⟩
  have RR := row_kept RR hB1 (row_lt RR)
  have B1 := B0.trans (hB1.mono B0.size)
  have sb : ∀ W : World, (storeCells ⟨W.heap.size, 0, none⟩ (nrow .u8 b) 0).run Tryd.prog (W.alloc (.cells (nrow .u8 z64).toArray b64T)) = .ok () (W.alloc (.cells (nrow .u8 b).toArray b64T)) := fun W => by
    have := run_storeCells_new (P := Tryd.prog) W b64T (nrow .u8 z64).toArray (nrow .u8 b).toArray (by rw [info_b64]; simp [LB]) (by simp [LB, z64_len]) (all_one (nrow_one _ _))
    simpa using this
  clear hB1 B0
  go_upto_region 2 with (fail)
  have AN := (Below.refl w1.heap.size w1).alloc (Nat.le_refl _) (.cells (nrow .u8 b).toArray b64T)
  have RR := row_kept RR AN (row_lt RR)
  have RB := row_new (W := w1) (cs := (nrow .u8 b).toArray) (t := b64T) (m := (0, 0))
  have B2 := B1.trans (AN.mono B1.size)
  generalize w1.alloc (.cells (nrow .u8 b).toArray b64T) = W2 at RR RB B2 ⊢
  obtain ⟨g5, hg5⟩ : ∃ g, g = w1.heap.size := ⟨_, rfl⟩
  have hg5w : w.heap.size < g5 := by rw [hg5]; exact (Nat.lt_of_lt_of_le (Nat.lt_succ_self _) (show w.heap.size + 1 ≤ w1.heap.size from Nat.succ_le_of_lt (by
    have := row_lt RR
    have h2 := B1.size
    rcases Nat.lt_or_ge w.heap.size w1.heap.size with h | h
    · exact h
    · exfalso; have : w.heap.size = w1.heap.size := by omega
      rw [this] at RR; rw [RR] at RB; injection RB with RB; injection RB with e1 e2; cases e2)))
  rw [← hg5] at RB ⊢
  clear AN B1 hg5 sb
  go_wp2_with (first
    | ((with_reducible refine wpl_arr Tryd.underlying56 info_b64 ?_ (.tmp 5) ?_ g5 (nrow .u8 b) LB ?_ RB ?_); (rfl); (rfl); (rfl))
    )
  refine (masked_to b ki Hb64.out 54 Hki.out _ (W2.heap.size + 1) rfl).mono ?_
  rintro e w3 ⟨rfl, RK, hB3⟩
  have RR := row_kept RR hB3 (row_lt RR)
  have RB := row_kept RB hB3 (row_lt RB)
  have B3 := B2.trans (hB3.mono B2.size)
  have NK := Lib.hid (nums_row RK)
  clear hB3 RK B2
  obtain ⟨i0, hi, hz0, hz1, hz2⟩ := info_parts infoS
  have HI := Lib.hid (And.intro hi (And.intro hz0 (And.intro hz1 hz2)))
  clear hi hz0 hz1 hz2
  go_wp2_with (first
    | (at_builtin; refine wpList_append_parts (Wp := w3) rfl (.tmp 13) (.tmp 14) 55 rfl i0 Tryd.underlying55 HI.out.1 HI.out.2.1 HI.out.2.2.1 HI.out.2.2.2 ⟨some ⟨W2.heap.size + 1, 0, none⟩, 64, ki⟩ 64 Hki64.out ⟨NK.out, Nat.le_of_eq Hki64.out, (show (64 : Nat) ≤ maxLen by decide)⟩ rfl B np pcap ps Hnp.out (HP.out.below B3) rfl (by omega) ?_; intro A4 c4 w4 hP4 hc4 hc4' hB4)
    )
  have B4 := B3.trans (hB4.mono B3.size)
  have RR := row_kept RR hB4 (row_lt RR)
  have RB := row_kept RB hB4 (row_lt RB)
  refine (sum_to w4 A4 (1 + np) c4 _ (ki ++ msg) s1 (by simp only [flat]; rw [Hf.out]) Hs1.out (by rw [List.length_cons, Hnp.out, Nat.add_comm]) hP4 (by rw [List.length_append, Hki64.out]; omega) (by omega) (Mac.app_wf Hkiw.out Hmw.out) (HT.out.keep B4 HT.out.2)).mono ?_
  rintro e w5 ⟨rfl, hB5⟩
  have B5 := B4.trans (hB5.mono B4.size)
  have RR := row_kept RR hB5 (row_lt RR)
  have RB := row_kept RB hB5 (row_lt RB)
  have hlt5' := row_lt RR
  clear hB4 hB5 hP4 B3 B4 HI NK
  go_upto_region 4 with (fail)
  have AN := (Below.refl w5.heap.size w5).alloc (Nat.le_refl _) (.cells (nrow .u8 s1).toArray b32T)
  have RS := row_new (W := w5) (cs := (nrow .u8 s1).toArray) (t := b32T) (m := (0, 0))
  have RR := row_kept RR AN (row_lt RR)
  have RB := row_kept RB AN (row_lt RB)
  have B6 := B5.trans (AN.mono B5.size)
  generalize w5.alloc (.cells (nrow .u8 s1).toArray b32T) = W6 at RS RR RB B6 ⊢
  have hlt5 : w.heap.size < w5.heap.size := hlt5'
  obtain ⟨g7, hg7⟩ : ∃ g, g = w5.heap.size := ⟨_, rfl⟩
  rw [← hg7] at RS hlt5 ⊢
  clear AN B5 SN hg7
  have hS0 : OfS w g5 g7 b s1 W6 := ⟨RB, RS, ⟨nrow .u8 z32, rfl, RR⟩, B6⟩
  have H0 := Lib.hid (show OfA w g5 g7 b s1 W6.drew from (hS0.keep (below_drewN (Below.refl _ _) 1)).all)
  have KA := Lib.hid (show ∀ (W : World) (o : Obj), OfA w g5 g7 b s1 W → OfA w g5 g7 b s1 (W.alloc o) from fun W o h => (h.2.2.keep ((Below.refl _ _).alloc (Nat.le_refl _) _)).all)
  have KC := Lib.hid (show ∀ (W W' : World), OfA w g5 g7 b s1 W → Below W.heap.size W W' → OfA w g5 g7 b s1 W' from fun W W' h hb => (h.2.2.keep hb).all)
  have KS := Lib.hid (show ∀ W : World, OfA w g5 g7 b s1 W → OfA w g5 g7 b s1 (W.setCells w.heap.size 0 (nrow .u8 r)) from fun W h => (h.2.2.set hg5w hlt5 Hr32.out).all)
  have KT := Lib.hid (show ∀ W : World, OfA w g5 g7 b s1 W → Kt W from fun W h => HT.out.keep h.2.2.low HT.out.2)
  have KP := Lib.hid (show ∀ (W7 : World) (g : Nat), Nums .u8 W7 (some ⟨g, 0, none⟩) ko → OfA w g5 g7 b s1 (W7.alloc (.cells #[.slice (some ⟨g, 0, none⟩) 64 64, .slice (some ⟨g7, 0, none⟩) 32 32] 22)) → Parts (W7.alloc (.cells #[.slice (some ⟨g, 0, none⟩) 64 64, .slice (some ⟨g7, 0, none⟩) 32 32] 22)) (some ⟨W7.heap.size, 0, none⟩) [⟨some ⟨g, 0, none⟩, 64, ko⟩, ⟨some ⟨g7, 0, none⟩, 32, s1⟩] from fun W7 g hK hS => by
    have hn2 := nums_row hS.2.2.rs
    have e1 := Hko64.out
    have e2 := Hs32.out
    refine parts_of_row (t := 22) (by rw [List.map_cons, List.map_cons, List.map_nil]; simp only [e1, e2]; exact row_new) ?_
    intro p hp
    simp only [List.mem_cons, List.not_mem_nil, or_false] at hp
    rcases hp with rfl | rfl
    · exact ⟨hK.alloc _, Nat.le_of_eq e1, (show (64 : Nat) ≤ maxLen by decide)⟩
    · exact ⟨hn2, Nat.le_of_eq e2, (show (32 : Nat) ≤ maxLen by decide)⟩)
  have hu5 := Tryd.underlying56
  have hi5 : (Tryd.prog.info? b64T).map (·.size) = some (nrow .u8 b).length := by rw [info_b64, LB]
  have hu4 := Tryd.underlying40
  have LR : (nrow .u8 r).length = 32 := by rw [nrow_len]; exact Hr32.out
  have hi4 : (Tryd.prog.info? b32T).map (·.size) = some (nrow .u8 r).length := by rw [info_b32, LR]
  have hone := nrow_one .u8 r
  have HSL := Lib.hid (show (ko ++ s1).length ≤ 1000000 by rw [List.length_append, Hko64.out, Hs32.out]; decide)
  have HSW := Lib.hid (Mac.app_wf Hkow.out Hs1w.out)
  clear RR RB RS B6 hS0
  go_region_held3 (fun W => W.rangeAt g5 0 (nrow .u8 b) ∧ W.there w.heap.size 0 32 ∧ OfS w g5 g7 b s1 W)
    (first | (with_reducible exact H0.out) | (with_reducible exact KA.out _ _ (by assumption)) | (with_reducible exact KS.out _ (by assumption)) | (with_reducible exact KC.out _ _ (by assumption) hb))
    (first
      | (go_at_call 30; refine (masked_to b ko Hb64.out 92 Hko.out W6.drew (W6.heap.size + 1) rfl).mono ?_; rintro e W7 ⟨rfl, RK, hb⟩; have NK := Lib.hid (nums_row RK))
      | (go_at_call 31; refine (sum_to _ _ 2 2 _ (ko ++ s1) r (by simp [flat]) Hr2.out rfl (KP.out _ _ NK.out (by assumption)) HSL.out (by decide) HSW.out (KT.out _ (by assumption))).mono ?_; rintro e W9 ⟨rfl, hb⟩; have hW9 := Lib.hid (KC.out _ _ (by assumption) hb)))
  obtain ⟨L, hL, hrr⟩ := hW9.out.2.2.rr
  have hset := setCells_arr info_b32 LR hL hone hrr
  have hlow := hW9.out.2.2.low
  rw [hset]
  have RF := row_written (ds := (nrow .u8 r).toArray) hrr
  have BF := setRow_below (t := b32T) (cs := (nrow .u8 r).toArray) hlow (Nat.le_refl _)
  generalize setRow W9 w.heap.size b32T (nrow .u8 r).toArray = WF at RF BF ⊢
  clear hset hlow hrr
  go_wp2
  exact bodyPost_ret (arr_results Tryd.underlying40 info_b32 Tryd.results18 LR rfl RF) rfl ⟨rfl, BF⟩
end Go.Proofs.YtpglhkjgcahdbaaDoor
/- Numbers as bytes, the highest one first: plain reckoning. No program in it. -/
namespace Go.Proofs.YtpglhkjgcahdbaaDoor
open Go.RowKit

/-- The number of bytes. -/
def be (xs : List Int) : Int := xs.foldl (fun a x => 256 * a + x) 0
theorem be_snoc (xs : List Int) (z : Int) : be (xs ++ [z]) = 256 * be xs + z := by unfold be; rw [List.foldl_append]; rfl
theorem be_bd : ∀ (n : Nat) (xs : List Int), xs.length = n → (∀ x ∈ xs, 0 ≤ x ∧ x ≤ 255) → 0 ≤ be xs ∧ be xs < 256 ^ n
  | 0, xs, h, _ => by
    obtain rfl := List.eq_nil_of_length_eq_zero h
    exact ⟨Int.le_refl _, by decide⟩
  | n + 1, xs, h, hx => by
    have h0 : xs ≠ [] := fun h' => by rw [h'] at h; cases h
    obtain ⟨ys, z, rfl⟩ : ∃ ys z, xs = ys ++ [z] := ⟨_, _, (List.dropLast_concat_getLast h0).symm⟩
    have hl : ys.length = n := by simpa using h
    obtain ⟨h1, h2⟩ := be_bd n ys hl (fun x hm => hx x (by simp [hm]))
    obtain ⟨h3, h4⟩ := hx z (by simp)
    rw [be_snoc, Int.pow_succ]
    omega
theorem pow_le {j : Nat} (h : j ≤ 6) : (256 : Int) ^ j ≤ 281474976710656 := by
  have : j = 0 ∨ j = 1 ∨ j = 2 ∨ j = 3 ∨ j = 4 ∨ j = 5 ∨ j = 6 := by omega
  rcases this with rfl | rfl | rfl | rfl | rfl | rfl | rfl <;> decide
theorem i64_or_nat (a b : Nat) (ha : a < 4611686018427387904) (hb : b < 4611686018427387904) : bits .or .i64 (a : Int) (b : Int) = ((a ||| b : Nat) : Int) := by
  have hx : a ||| b < 2 ^ 62 := Nat.or_lt_two_pow (by omega) (by omega)
  have h1 : (BitVec.ofInt 64 (a : Int)).toNat = a := by
    rw [BitVec.ofInt_natCast, BitVec.toNat_ofNat]; exact Nat.mod_eq_of_lt (by omega)
  have h2 : (BitVec.ofInt 64 (b : Int)).toNat = b := by
    rw [BitVec.ofInt_natCast, BitVec.toNat_ofNat]; exact Nat.mod_eq_of_lt (by omega)
  show IntKind.i64.wrap ((BitVec.ofInt 64 (a : Int) ||| BitVec.ofInt 64 (b : Int)).toNat : Int) = _
  rw [BitVec.toNat_or, h1, h2, IntKind.wrap_i64]
  omega
theorem or_step (a z : Int) (ha : 0 ≤ a) (ha' : a < 281474976710656) (hz : 0 ≤ z) (hz' : z ≤ 255) : bits .or .i64 (a * 256) z = 256 * a + z := by
  obtain ⟨m, rfl⟩ := Int.eq_ofNat_of_zero_le ha
  obtain ⟨k, rfl⟩ := Int.eq_ofNat_of_zero_le hz
  have e := i64_or_nat (m * 256) k (by omega) (by omega)
  have e2 : 2 ^ 8 * m + k = 2 ^ 8 * m ||| k := Nat.two_pow_add_eq_or_of_lt (by omega) m
  rw [show m * 256 = 2 ^ 8 * m by omega, ← e2] at e
  rw [show ((m : Int) * 256) = ((2 ^ 8 * m : Nat) : Int) by omega, e]
  omega
/-- The byte of x that counts 256^t. -/
def byt (x : Int) (t : Nat) : Int := (x / 256 ^ t) % 256
/-- The last k bytes of x. -/
def lay (x : Int) (k : Nat) : List Int := (List.range k).map fun i => byt x (k - 1 - i)
theorem lay_len (x : Int) (k : Nat) : (lay x k).length = k := by simp [lay]
theorem lay_snoc (x : Int) (k j t : Nat) (h : j < k) (ht : (k : Int) - 1 - j = t) : (lay x k).take (j + 1) = (lay x k).take j ++ [byt x t] := by
  rw [List.take_succ_eq_append_getElem (by rw [lay_len]; exact h)]
  congr 2
  have e : k - 1 - j = t := by omega
  simp [lay, e]
end Go.Proofs.YtpglhkjgcahdbaaDoor
/- Numbers that are laid are read as they were: plain reckoning. No program in it. -/
namespace Go.Proofs.YtpglhkjgcahdbaaDoor

theorem byt_succ (x : Int) (t : Nat) : byt x (t + 1) = byt (x / 256) t := by
  unfold byt
  rw [Int.pow_succ, Int.mul_comm]
  first | rw [Int.ediv_ediv (by decide)] | rw [Int.ediv_ediv_of_nonneg (by decide)] | rw [Int.ediv_mul (by decide)]
theorem lay_succ (x : Int) (k : Nat) : lay x (k + 1) = lay (x / 256) k ++ [byt x 0] := by
  unfold lay
  rw [List.range_succ, List.map_append]
  congr 1
  · apply List.map_congr_left
    intro i hi
    rw [List.mem_range] at hi
    rw [show k + 1 - 1 - i = (k - 1 - i) + 1 by omega, byt_succ]
  · simp
theorem be_lay : ∀ (k : Nat) (x : Int), be (lay x k) = x % 256 ^ k
  | 0, x => by simp [lay, be]
  | k + 1, x => by
    rw [lay_succ, be_snoc, be_lay k]
    have hp : (0 : Int) < 256 ^ k := Int.pow_pos (by decide)
    have e0 : byt x 0 = x % 256 := by simp [byt]
    have h1 := Int.emod_nonneg (x / 256) (show (256 : Int) ^ k ≠ 0 by omega)
    have h2 := Int.emod_lt_of_pos (x / 256) hp
    have h3 := Int.mul_ediv_add_emod (x / 256) (256 ^ k)
    have h4 := Int.mul_ediv_add_emod x 256
    rw [e0, Int.pow_succ]
    generalize (256 : Int) ^ k = P at *
    generalize hq : x / 256 / P = q at *
    generalize hr : x / 256 % P = r at *
    have h5 : 0 ≤ x % 256 := Int.emod_nonneg _ (by decide)
    have h6 : x % 256 < 256 := Int.emod_lt_of_pos _ (by decide)
    generalize x % 256 = s at *
    have hx : x = (256 * r + s) + (P * 256) * q := by
      have : (P * 256) * q = 256 * (P * q) := by rw [Int.mul_comm P 256, Int.mul_assoc]
      rw [this]; omega
    rw [hx, Int.add_mul_emod_self_left, Int.emod_eq_of_lt (by omega) (by omega)]
theorem lay_byte (x : Int) (k : Nat) : ∀ y ∈ lay x k, 0 ≤ y ∧ y ≤ 255 := by
  intro y hy
  unfold lay at hy
  obtain ⟨i, _, rfl⟩ := List.mem_map.1 hy
  unfold byt
  have h5 := Int.emod_nonneg (x / 256 ^ (k - 1 - i)) (show (256 : Int) ≠ 0 by decide)
  have h6 := Int.emod_lt_of_pos (x / 256 ^ (k - 1 - i)) (show (0 : Int) < 256 by decide)
  omega
/-- The rows of bytes, one behind the other. -/
def lays (D N : Nat → Int) : Nat → List Int
  | 0 => []
  | j + 1 => lays D N j ++ lay (N j) (D j).toNat
def tails (D N : Nat → Int) (n : Nat) : Nat → List Int
  | 0 => []
  | j + 1 => lay (N (n - (j + 1))) (D (n - (j + 1))).toNat ++ tails D N n j
theorem lays_tails (D N : Nat → Int) (n : Nat) : ∀ j, j ≤ n → lays D N (n - j) ++ tails D N n j = lays D N n
  | 0, _ => by simp [tails]
  | j + 1, h => by
    rw [← lays_tails D N n j (by omega)]
    have e : n - j = (n - (j + 1)) + 1 := by omega
    rw [e]
    simp only [lays, tails, List.append_assoc]
end Go.Proofs.YtpglhkjgcahdbaaDoor
/- Numbers as bytes: Put, by the program. -/
namespace Go.Proofs.YtpglhkjgcahdbaaDoor
open Go.ChangeShapes Go.WideShapes Go.ChangeAt Go.RowKit
theorem info8 : (Tryd.prog.info? 5).map (fun i => (i.zero, i.size, i.bytes)) = some (some (.int .u8 0), 1, 1) := by kernel_rfl
theorem clone_any (w : World) (A : Option Addr) (n c : Nat) (bs : List Int) (hn : bs.length = n) (hN : Nums .u8 w A bs) (hlen : n ≤ 1000000) :
    Calls Tryd.prog 38 #[.slice A n c] w fun e w' => ∃ A' c', e = .returned (.slice A' n c') ∧ OwnN .u8 5 w.heap.size w' A' c' bs ∧ Below w.heap.size w w' := by
  obtain ⟨i0, hi, hz0, hz1, hz2⟩ := info_parts info8
  have HI := Lib.hid (And.intro hi (And.intro hz0 (And.intro hz1 hz2)))
  clear hi hz0 hz1 hz2
  have Hn := Lib.hid hn
  have HN := Lib.hid hN
  clear hn hN
  cases A with
  | none =>
    obtain rfl : bs = [] := by
      rcases HN.out with h | ⟨b, off, h, _⟩
      · exact h
      · cases h
    obtain rfl : n = 0 := by have := Hn.out; simpa using this.symm
    have hq : (binOp .eql 22 (.slice none 0 c) (.slice none 0 0)).run Tryd.prog w = .ok (.bool true) w := by kernel_rfl
    go_enter Tryd.func38, Tryd.ntmps38
    go_wp2
    go_ret
    exact ⟨none, 0, rfl, OwnN.nil (Nat.le_refl _), Below.refl _ _⟩
  | some a =>
    have hq : (binOp .eql 22 (.slice (some a) n c) (.slice none 0 0)).run Tryd.prog w = .ok (.bool false) w := by kernel_rfl
    go_enter Tryd.func38, Tryd.ntmps38
    go_wp2_with (first
      | (at_builtin; refine wpList_append_row rfl _ _ 22 rfl i0 1 Tryd.underlying22 HI.out.1 HI.out.2.1 HI.out.2.2.1 HI.out.2.2.2 (by decide) 0 rfl rfl (OwnN.empty (base := w.heap.size) (Nat.le_refl _)) a n _ bs rfl Hn.out (HN.out.alloc _) (by simp <;> omega) w.heap.size w (Nat.le_refl _) ((Below.refl _ _).alloc (Nat.le_refl _) _) ?_; intro A4 c4 w4 hO4 hB4)
      )
    go_ret
    exact ⟨A4, c4, by simp, by simpa using hO4, hB4⟩

theorem bounded_any (s : Int) (w : World) :
    Calls Tryd.prog 39 #[.int .i64 s] w fun e w' => e = .returned (.int .i64 (min (max s 1) 7)) ∧ w = w' := by
  go_enter Tryd.func39, Tryd.ntmps39
  go_wp2
  all_goals (go_ret; exact ⟨ret_int (by omega), rfl⟩)

set_option maxHeartbeats 2000000 in
theorem put_any (w : World) (A : Option Addr) (n c : Nat) (bs : List Int) (hn : bs.length = n) (hN : Nums .u8 w A bs) (hlen : n ≤ 1000000) (x s : Int) (wx : -9223372036854775808 ≤ x ∧ x ≤ 9223372036854775807) (k : Nat) (hk : min (max s 1) 7 = (k : Int)) :
    Calls Tryd.prog 22 #[.slice A n c, .int .i64 x, .int .i64 s] w fun e w' => ∃ A' c', e = .returned (.slice A' (n + k) c') ∧ OwnN .u8 5 w.heap.size w' A' c' (bs ++ lay x k) ∧ Below w.heap.size w w' := by
  obtain ⟨i0, hi, hz0, hz1, hz2⟩ := info_parts info8
  have HI := Lib.hid (And.intro hi (And.intro hz0 (And.intro hz1 hz2)))
  clear hi hz0 hz1 hz2
  have Hk := Lib.hid hk
  have k1 : 1 ≤ k := by omega
  have k7 : k ≤ 7 := by omega
  clear hk
  go_enter Tryd.func22, Tryd.ntmps22
  go_wp2_with (first
    | (go_at_call 38; refine (clone_any _ A n c bs hn hN hlen).mono ?_; rintro e w1 ⟨A1, c1, rfl, hO1, hB1⟩)
    | (go_at_call 39; refine (bounded_any _ _).mono ?_; rintro e w' ⟨rfl, rfl⟩; rw [Hk.out])
    )
  have HO1 := Lib.hid hO1
  clear hO1 hN
  go_loopw [7, 8] (fun v i wr => ∃ (j : Nat) (A' : Option Addr) (c' : Nat), j ≤ k ∧ i = .int .i64 ((k : Int) - 1 - j) ∧ v = .slice A' (n + j) c' ∧ OwnN .u8 5 w.heap.size wr A' c' (bs ++ (lay x k).take j) ∧ Below w.heap.size w wr) (fun _ i _ => (intOf i + 1).toNat)
  case atStart => exact ⟨0, A1, c1, Nat.zero_le _, by simp, rfl, by simpa using HO1.out, hB1⟩
  case round =>
    obtain ⟨j, A', c', hj, rfl, rfl, hO, hB⟩ := hrel
    have HO := Lib.hid hO
    clear hO hB1
    by_cases hjk : j < k
    · obtain ⟨t, ht⟩ : ∃ t : Nat, (k : Int) - 1 - j = t := ⟨k - 1 - j, by omega⟩
      rw [ht]
      have Ht := Lib.hid ht
      have htk : t = 0 ∨ t = 1 ∨ t = 2 ∨ t = 3 ∨ t = 4 ∨ t = 5 ∨ t = 6 := by omega
      have Hl := Lib.hid (lay_snoc x k j t hjk ht)
      clear ht
      rcases htk with rfl | rfl | rfl | rfl | rfl | rfl | rfl
      all_goals
        have Hlen := Lib.hid (show (bs ++ (lay x k).take j).length = n + j by rw [List.length_append, List.length_take, lay_len, hn]; omega)
        go_wp2_with (first
          | (at_builtin; refine wpList_append_num rfl _ _ 22 rfl i0 1 Tryd.underlying22 HI.out.1 HI.out.2.1 HI.out.2.2.1 HI.out.2.2.2 (by decide) _ Hlen.out rfl (HO.out.alloc _) ⟨wr.heap.size, 0, none⟩ _ _ rfl (alloc_cell0 _ _ _ _ rfl) (by rw [Hlen.out]; omega) w.heap.size w (Nat.le_refl _) (hB.alloc hB.size _) ?_; intro A2 c2 w2 hO2 hb2)
          )
        go_roundw
        case rel => exact ⟨j + 1, A2, c2, by omega, by have := Ht.out; refine congrArg _ ?_; omega, rfl, by rw [Hl.out, ← List.append_assoc]; simpa [byt] using hO2, hb2⟩
        case measure => simp [intOf]
    · obtain rfl : j = k := by omega
      have e : (lay x j).take j = lay x j := List.take_of_length_le (by rw [lay_len]; exact Nat.le_refl _)
      have HE := Lib.hid e
      clear e
      go_wp2
      go_ret
      exact ⟨A', c', rfl, by have := HO.out; rwa [HE.out] at this, hB⟩
end Go.Proofs.YtpglhkjgcahdbaaDoor
/- Packets as rows of cells: twelve whole numbers, sixteen bytes, eight bytes. -/
namespace Go.Proofs.YtpglhkjgcahdbaaDoor
open Go.ChangeShapes Go.WideShapes Go.ChangeAt Go.RowKit
abbrev pkT : TypeId := 26
abbrev b16T : TypeId := 23
abbrev b8T : TypeId := 24
@[ext] structure Pk where
  h : List Int
  s : List Int
  t : List Int
deriving DecidableEq
structure Pk.Wf (p : Pk) : Prop where
  h : p.h.length = 12
  s : p.s.length = 16
  t : p.t.length = 8
/-- The cells of a packet. -/
def pcs (p : Pk) : List Value := nrow .i64 p.h ++ (nrow .u8 p.s ++ nrow .u8 p.t)
theorem pcs_len {p : Pk} (h : p.Wf) : (pcs p).length = 36 := by simp [pcs, nrow_len, h.h, h.s, h.t]
theorem pcs_one (p : Pk) : ∀ v ∈ pcs p, v.oneCell' = true := by
  intro v hv
  simp only [pcs, List.mem_append] at hv
  rcases hv with hv | hv | hv <;> exact nrow_one _ _ v hv
theorem pcs_at {p : Pk} (h : p.Wf) (i : Nat) (hi : i < 12) : (pcs p)[i]? = some (.int .i64 (p.h.getD i 0)) := by
  have := ncs_at .i64 p.h i (by rw [h.h]; exact hi)
  unfold ncs at this
  rw [List.getElem?_toArray] at this
  rw [pcs, List.getElem?_append_left (by rw [nrow_len, h.h]; exact hi), this]
theorem pcs_set {p : Pk} (h : p.Wf) (i : Nat) (hi : i < 12) (x : Int) : (pcs p).set i (.int .i64 x) = pcs { p with h := p.h.set i x } := by
  rw [pcs, pcs, List.set_append_left _ _ (by rw [nrow_len, h.h]; exact hi)]
  simp [nrow, List.map_set]
theorem pcs_secret {p : Pk} (h : p.Wf) : ((pcs p).drop 12).take 16 = nrow .u8 p.s := by
  rw [pcs, List.drop_append_of_le_length (by rw [nrow_len, h.h]; exact Nat.le_refl _), List.drop_of_length_le (by rw [nrow_len, h.h]; exact Nat.le_refl _), List.nil_append, List.take_append_of_le_length (by rw [nrow_len, h.s]; exact Nat.le_refl _), List.take_of_length_le (by rw [nrow_len, h.s]; exact Nat.le_refl _)]
theorem pcs_tag {p : Pk} (h : p.Wf) : ((pcs p).drop 28).take 8 = nrow .u8 p.t := by
  rw [pcs, ← List.append_assoc, List.drop_append_of_le_length (by simp [nrow_len, h.h, h.s]), List.drop_of_length_le (by simp [nrow_len, h.h, h.s]), List.nil_append, List.take_of_length_le (by rw [nrow_len, h.t]; exact Nat.le_refl _)]
theorem splice_mid {α : Type} (A B C X : List α) (o : Nat) (ho : A.length = o) (h : X.length = B.length) : splice (A ++ (B ++ C)) o X = A ++ (X ++ C) := by
  subst ho
  unfold splice
  rw [List.take_left' rfl, h, ← List.append_assoc A B C, List.drop_left' (by simp)]
theorem splice_secret {p : Pk} (h : p.Wf) {s : List Int} (hs : s.length = 16) : splice (pcs p) 12 (nrow .u8 s) = pcs { p with s := s } :=
  splice_mid _ _ _ _ 12 (by rw [nrow_len, h.h]) (by rw [nrow_len, nrow_len, h.s, hs])
theorem splice_tag {p : Pk} (h : p.Wf) {t : List Int} (ht : t.length = 8) : splice (pcs p) 28 (nrow .u8 t) = pcs { p with t := t } := by
  have := splice_mid (nrow .i64 p.h ++ nrow .u8 p.s) (nrow .u8 p.t) [] (nrow .u8 t) 28 (by rw [List.length_append, nrow_len, nrow_len, h.h, h.s]) (by rw [nrow_len, nrow_len, h.t, ht])
  rw [List.append_nil, List.append_nil, List.append_assoc, List.append_assoc] at this
  exact this
theorem info_pk : (Tryd.prog.info? pkT).map (·.size) = some 36 := by kernel_rfl
/-- Of nothing. -/
def pk0 : Pk := ⟨List.replicate 12 0, List.replicate 16 0, List.replicate 8 0⟩
theorem pk0_wf : pk0.Wf := ⟨rfl, rfl, rfl⟩
theorem zero_pk (W : World) : (zeroValue pkT).run Tryd.prog W = .ok (.agg (pcs pk0).toArray) W := by kernel_rfl

/- When two packets are equal. -/
theorem eqf_step {P : Program} {d : Nat} {xs ys : Array Value} {f : Field} {fs : List Field} {W : World} {a b : Value} {q r : Bool} (hn : f.name ≠ "_") (ha : (part f.type xs f.offset).run P W = .ok a W) (hb : (part f.type ys f.offset).run P W = .ok b W) (he : (Op.equalIn d f.type a b).run P W = .ok q W) (hr : (Op.eqFields d xs ys fs).run P W = .ok r W) :
    (Op.eqFields d xs ys (f :: fs)).run P W = .ok (q && r) W := by
  simp only [Op.eqFields, hn, ne_eq, not_false_eq_true, if_true, Sem.run_bind, ha, hb, he, Result.andThen_ok]
  cases q
  · simp
  · simpa using hr
theorem part_num (W : World) {p : Pk} (h : p.Wf) (i : Nat) (hi : i < 12) : (part 3 (pcs p).toArray i).run Tryd.prog W = .ok (.int .i64 (p.h.getD i 0)) W := by
  have hs : (isAgg 3).run Tryd.prog W = .ok false W := by
    unfold isAgg
    simp only [Sem.run_bind, run_underlying Tryd.underlying3, Result.andThen_ok, Sem.run_pure]
  unfold part
  have hc : (pcs p).toArray[i]? = some (.int .i64 (p.h.getD i 0)) := by rw [List.getElem?_toArray]; exact pcs_at h i hi
  simp only [Sem.run_bind, hs, Result.andThen_ok, Bool.false_eq_true, if_false, hc, Sem.run_pure]
theorem part_row (W : World) {T : TypeId} {n o : Nat} (hu : Tryd.prog.underlying T = some (.array n 5)) (hi : (Tryd.prog.info? T).isSome = true) (hc : Tryd.prog.cellsOf T = n) (L : List Value) : (part T L.toArray o).run Tryd.prog W = .ok (.agg ((L.drop o).take n).toArray) W := by
  have hs : (isAgg T).run Tryd.prog W = .ok true W := by
    unfold isAgg
    simp only [Sem.run_bind, run_underlying hu, Result.andThen_ok, Sem.run_pure]
  obtain ⟨i, hi1⟩ := Option.isSome_iff_exists.1 hi
  have hsz : (sizeOf T).run Tryd.prog W = .ok n W := by
    rw [run_sizeOf W hi1, hc]
  unfold part
  simp only [Sem.run_bind, hs, Result.andThen_ok, if_true, hsz, Sem.run_pure]
  congr 2
  simp [List.extract_toArray, List.extract]
theorem eql_int1 (d : Nat) (W : World) (a b : Int) : (Op.equalIn (d + 1) 3 (.int .i64 a) (.int .i64 b)).run Tryd.prog W = .ok (a == b) W := run_equalIn_int W d _ _ _ a b Tryd.underlying3
theorem eql_row (d : Nat) (W : World) {T : TypeId} {n : Nat} (hu : Tryd.prog.underlying T = some (.array n 5)) (x y : List Int) (hx : x.length = n) (hy : y.length = n) : (Op.equalIn (d + 2) T (.agg (nrow .u8 x).toArray) (.agg (nrow .u8 y).toArray)).run Tryd.prog W = .ok (decide (x = y)) W := by
  have he := Tryd.underlying5
  obtain ⟨i, hi⟩ := Option.isSome_iff_exists.1 (show (Tryd.prog.info? 5).isSome = true by kernel_rfl)
  have hc : Tryd.prog.cellsOf 5 = 1 := by kernel_rfl
  rw [show d + 2 = (d + 1) + 1 from rfl, run_equalIn_array W (d + 1) _ _ hu hi, hc, items_ints he W d x y _ (fun i h => ⟨by have := List.mem_range.1 h; omega, by have := List.mem_range.1 h; omega⟩)]
  congr 1
  exact decide_eq_decide.2 (same_getD hx hy)
theorem pk_fields : (Tryd.prog.fieldsOf pkT).toList.map (fun f => (f.name == "_", f.type, f.offset)) = [(false, 3, 0), (false, 3, 1), (false, 3, 2), (false, 3, 3), (false, 3, 4), (false, 3, 5), (false, 3, 6), (false, 3, 7), (false, 3, 8), (false, 3, 9), (false, 3, 10), (false, 3, 11), (false, b16T, 12), (false, b8T, 28)] := by kernel_rfl
/-- Whether the parts of two packets that these fields name are equal. -/
def pkEq (x y : Pk) : List (Bool × TypeId × Nat) → Bool
  | [] => true
  | (_, _, o) :: fs => (if o < 12 then x.h.getD o 0 == y.h.getD o 0 else if o = 12 then decide (x.s = y.s) else decide (x.t = y.t)) && pkEq x y fs
theorem eqf_all (W : World) {x y : Pk} (hx : x.Wf) (hy : y.Wf) : ∀ fs : List Field, (∀ f ∈ fs, f.name ≠ "_" ∧ ((f.type = 3 ∧ f.offset < 12) ∨ (f.type = b16T ∧ f.offset = 12) ∨ (f.type = b8T ∧ f.offset = 28))) →
    (Op.eqFields 9999 (pcs x).toArray (pcs y).toArray fs).run Tryd.prog W = .ok (pkEq x y (fs.map (fun f => (f.name == "_", f.type, f.offset)))) W
  | [], _ => by simp [Op.eqFields, pkEq]
  | f :: fs, h => by
    obtain ⟨hn, h1⟩ := h f (List.mem_cons_self ..)
    have ih := eqf_all W hx hy fs (fun g hg => h g (List.mem_cons_of_mem _ hg))
    rw [List.map_cons, pkEq]
    obtain ⟨nm, ty, off, em, tg⟩ := f
    simp only at h1 hn ⊢
    rcases h1 with ⟨rfl, ho⟩ | ⟨rfl, rfl⟩ | ⟨rfl, rfl⟩
    · rw [if_pos ho]
      exact eqf_step hn (part_num W hx off ho) (part_num W hy off ho) (eql_int1 9998 W _ _) ih
    · rw [if_neg (by decide), if_pos rfl]
      refine eqf_step hn (part_row W Tryd.underlying23 (by kernel_rfl) (by kernel_rfl) _) (part_row W Tryd.underlying23 (by kernel_rfl) (by kernel_rfl) _) ?_ ih
      rw [pcs_secret hx, pcs_secret hy]
      exact eql_row 9997 W Tryd.underlying23 _ _ hx.s hy.s
    · rw [if_neg (by decide), if_neg (by decide)]
      refine eqf_step hn (part_row W Tryd.underlying24 (by kernel_rfl) (by kernel_rfl) _) (part_row W Tryd.underlying24 (by kernel_rfl) (by kernel_rfl) _) ?_ ih
      rw [pcs_tag hx, pcs_tag hy]
      exact eql_row 9997 W Tryd.underlying24 _ _ hx.t hy.t
theorem eql_pk (W : World) {x y : Pk} (hx : x.Wf) (hy : y.Wf) : (Op.equalIn 10000 pkT (.agg (pcs x).toArray) (.agg (pcs y).toArray)).run Tryd.prog W = .ok (decide (x = y)) W := by
  rw [show (10000 : Nat) = 9999 + 1 from rfl, run_equalIn_struct W 9999 pkT _ _ (by kernel_rfl) (by kernel_rfl)]
  have hf : ∀ f ∈ (Tryd.prog.fieldsOf pkT).toList, f.name ≠ "_" ∧ ((f.type = 3 ∧ f.offset < 12) ∨ (f.type = b16T ∧ f.offset = 12) ∨ (f.type = b8T ∧ f.offset = 28)) := fun f hf => by
    have hm : ((f.name == "_"), f.type, f.offset) ∈ (Tryd.prog.fieldsOf pkT).toList.map (fun f => (f.name == "_", f.type, f.offset)) := List.mem_map.2 ⟨f, hf, rfl⟩
    rw [pk_fields] at hm
    simp only [List.mem_cons, Prod.mk.injEq, List.not_mem_nil, or_false] at hm
    refine ⟨fun he => ?_, ?_⟩
    · have : (f.name == "_") = true := by rw [he]; rfl
      rw [this] at hm
      simp at hm
    · rcases hm with ⟨_, h1, h2⟩ | ⟨_, h1, h2⟩ | ⟨_, h1, h2⟩ | ⟨_, h1, h2⟩ | ⟨_, h1, h2⟩ | ⟨_, h1, h2⟩ | ⟨_, h1, h2⟩ | ⟨_, h1, h2⟩ | ⟨_, h1, h2⟩ | ⟨_, h1, h2⟩ | ⟨_, h1, h2⟩ | ⟨_, h1, h2⟩ | ⟨_, h1, h2⟩ | ⟨_, h1, h2⟩
      all_goals first
        | exact Or.inl ⟨h1, by omega⟩
        | exact Or.inr (Or.inl ⟨h1, h2⟩)
        | exact Or.inr (Or.inr ⟨h1, h2⟩)
  rw [eqf_all W hx hy _ hf, pk_fields]
  congr 1
  simp only [pkEq, if_true, Nat.reduceLT, Nat.reduceEqDiff, if_false]
  rw [Bool.eq_iff_iff]
  simp only [Bool.and_eq_true, beq_iff_eq, decide_eq_true_eq, Bool.and_true]
  constructor
  · rintro ⟨h0, h1, h2, h3, h4, h5, h6, h7, h8, h9, h10, h11, hs, ht⟩
    refine Pk.ext ?_ hs ht
    apply List.ext_getElem (by rw [hx.h, hy.h])
    intro i i1 i2
    have hi : i < 12 := by rw [hx.h] at i1; exact i1
    have hall : x.h.getD i 0 = y.h.getD i 0 := by
      have : i = 0 ∨ i = 1 ∨ i = 2 ∨ i = 3 ∨ i = 4 ∨ i = 5 ∨ i = 6 ∨ i = 7 ∨ i = 8 ∨ i = 9 ∨ i = 10 ∨ i = 11 := by omega
      rcases this with rfl | rfl | rfl | rfl | rfl | rfl | rfl | rfl | rfl | rfl | rfl | rfl <;> assumption
    simpa [List.getD, i1, i2] using hall
  · rintro rfl
    simp
end Go.Proofs.YtpglhkjgcahdbaaDoor
