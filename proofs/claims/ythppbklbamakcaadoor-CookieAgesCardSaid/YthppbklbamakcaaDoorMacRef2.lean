/- The document's own digest by a key: the whole. -/
import Derived.Test.YthppbklbamakcaaDoorMacRef
import Derived.Test.YthppbklbamakcaaDoorMac3
namespace Go.Proofs.YthppbklbamakcaaDoor
open Go.ChangeShapes Go.WideShapes Go.ChangeAt Go.RowKit
theorem step_append_row {k : IntKind} {E : TypeId} {base : Nat} {w : World} {A : Option Addr} {c : Nat} {l : List Int} {P : Program} {ops : Array Oper} {F : Prop} {Q : Exit → Act → World → Prop} {K : Act → World → Prop} {o : Oper} {a : Act} (hgd : o.guard = none) (s x : Operand) (t : TypeId)
    (ho : o.op = .call { callee := .builtin .append, args := #[s, x], argTypes := #[t, t] })
    (i : TypeInfo) (bytes : Nat) (ht : P.underlying t = some (.slice E)) (hi : P.info? E = some i) (hz : i.zero = some (.int k 0)) (hsize : i.size = 1) (hby : i.bytes = bytes) (hb8 : bytes ≤ 8)
    (n : Nat) (hn : l.length = n) (hs : a.eval s = .slice A n c) (hown : OwnN k E base w A c l)
    (ad : Addr) (m cc : Nat) (xs : List Int) (hx : a.eval x = .slice (some ad) m cc) (hm : xs.length = m) (hcell : Nums k w (some ad) xs) (hlen : l.length + m < 17592186044415)
    (B : Nat) (W0 : World) (hB : B ≤ base) (hbelow : Below B W0 w)
    (h : ∀ A' c' w', OwnN k E base w' A' c' (l ++ xs) → Below B W0 w' → K (a.put o.dst (.slice A' (n + m) c')) w') : if Region.wanted o (yielded ops a.tmps) = true then Oper.wp P o a w K Q else F := by
  have hw : Region.wanted o (yielded ops a.tmps) = true := by simp [Region.wanted, hgd]
  rw [if_pos hw]
  exact wp_append_row s x t ho i bytes ht hi hz hsize hby hb8 n hn hs hown ad m cc xs hx hm hcell hlen B W0 hB hbelow h
/-- What the last region of Of reads and writes. -/
structure MrS (w : World) (g7 : Nat) (s1 : List Int) (W : World) : Prop where
  rs : W.heap[g7]? = some (.cells (nrow .u8 s1).toArray b32T)
  rr : ∃ L : List Value, L.length = 32 ∧ W.heap[w.heap.size]? = some (.cells L.toArray b32T)
  low : Below w.heap.size w W
abbrev MrA (w : World) (g7 : Nat) (s1 : List Int) (W : World) : Prop := W.there w.heap.size 0 32 ∧ MrS w g7 s1 W
theorem MrS.all {w W : World} {g7 : Nat} {s1 : List Int} (h : MrS w g7 s1 W) : MrA w g7 s1 W := by
  obtain ⟨L, hL, hr⟩ := h.rr
  exact ⟨there_row hr hL, h⟩
theorem MrS.keep {w W W' : World} {g7 : Nat} {s1 : List Int} (h : MrS w g7 s1 W) (hb : Below W.heap.size W W') : MrS w g7 s1 W' := by
  obtain ⟨L, hL, hr⟩ := h.rr
  exact ⟨row_kept h.rs hb (row_lt h.rs), ⟨L, hL, row_kept hr hb (row_lt hr)⟩, h.low.trans (hb.mono h.low.size)⟩
theorem MrS.set {w W : World} {g7 : Nat} {s1 r : List Int} (h : MrS w g7 s1 W) (h7 : w.heap.size < g7) (hr : r.length = 32) : MrS w g7 s1 (W.setCells w.heap.size 0 (nrow .u8 r)) := by
  obtain ⟨L, hL, hrr⟩ := h.rr
  refine ⟨(heap_setCells (by omega) _ _ _).trans h.rs, ⟨nrow .u8 r, by rw [nrow_len]; exact hr, ?_⟩, below_setCells (Nat.le_refl _) _ _ _ h.low⟩
  rw [setCells_arr info_b32 (by rw [nrow_len]; exact hr) hL (nrow_one _ _) hrr]
  exact row_written hrr
set_option maxRecDepth 100000 in
set_option maxHeartbeats 1000000 in
theorem mof_any (w : World) (A : Option Addr) (n cap : Nat) (key : List Int) (hn : key.length = n) (hN : Nums .u8 w A key) (hlen : n ≤ 1000) (hwf : ∀ z ∈ key, 0 ≤ z ∧ z < 256)
    (B : Option Addr) (m capb : Nat) (msg r : List Int) (hm : msg.length = m) (hM : Nums .u8 w B msg) (hml : m ≤ 1000) (hmwf : ∀ z ∈ msg, 0 ≤ z ∧ z < 256) (hr : Mac.hmac key msg = r) :
    Calls Tryd.prog 15 #[.slice A n cap, .slice B m capb] w fun e w' => e = .returned (.agg (nrow .u8 r).toArray) ∧ Below w.heap.size w w' := by
  have z0 := zero_b32'
  have HN := Lib.hid hN
  have Hn := Lib.hid hn
  have Hwf := Lib.hid hwf
  have HM := Lib.hid hM
  have Hm := Lib.hid hm
  have Hmw := Lib.hid hmwf
  obtain ⟨i0, hi, hz0, hz1, hz2⟩ := info_parts infoB
  have HI := Lib.hid (And.intro hi (And.intro hz0 (And.intro hz1 hz2)))
  obtain ⟨b, hb⟩ : ∃ b, Mac.blk key = b := ⟨_, rfl⟩
  have hb64 : b.length = 64 := by rw [← hb]; exact Mac.len_blk key
  obtain ⟨ki, hki⟩ : ∃ k, Mac.mask b 54 = k := ⟨_, rfl⟩
  obtain ⟨ko, hko⟩ : ∃ k, Mac.mask b 92 = k := ⟨_, rfl⟩
  obtain ⟨s1, hs1⟩ : ∃ s, Sha.sha (ki ++ msg) = s := ⟨_, rfl⟩
  have hr2 : Sha.sha (ko ++ s1) = r := by rw [← hr, ← hs1, ← hki, ← hko, ← hb]; rfl
  have hs32 : s1.length = 32 := by rw [← hs1]; exact sha_len _
  have hr32 : r.length = 32 := by rw [← hr2]; exact sha_len _
  have SN := sha_new s1 hs32
  have L1 : (nrow .u8 s1).length = 32 := by rw [nrow_len]; exact hs32
  have Hb := Lib.hid hb
  have Hki := Lib.hid hki
  have Hko := Lib.hid hko
  have Hs1 := Lib.hid hs1
  have Hr2 := Lib.hid hr2
  have Hki64 := Lib.hid (show ki.length = 64 by rw [← hki, Mac.len_mask]; exact hb64)
  have Hko64 := Lib.hid (show ko.length = 64 by rw [← hko, Mac.len_mask]; exact hb64)
  have Hkiw := Lib.hid (show ∀ z ∈ ki, 0 ≤ z ∧ z < 256 by rw [← hki]; exact Mac.mask_wf _ _)
  have Hkow := Lib.hid (show ∀ z ∈ ko, 0 ≤ z ∧ z < 256 by rw [← hko]; exact Mac.mask_wf _ _)
  have Hs1w := Lib.hid (show ∀ z ∈ s1, 0 ≤ z ∧ z < 256 by rw [← hs1]; exact Mac.sha_wf _)
  have Hs32 := Lib.hid hs32
  have Hr32 := Lib.hid hr32
  have HLa := Lib.hid (show ki.length + m < 17592186044415 by rw [Hki64.out]; omega)
  have HLb := Lib.hid (show ko.length + 32 < 17592186044415 by rw [Hko64.out]; omega)
  clear hN hn hwf hM hm hmwf hb hb64 hki hko hs1 hr2 hs32 hr32 hr hi hz0 hz1 hz2
  go_enter Tryd.func15, Tryd.ntmps15
  go_wp2_with fail
  have RR := row_new (W := w) (cs := ncs .u8 z32) (t := b32T) (m := (0, 0))
  have B0 : Below w.heap.size w (w.alloc (.cells (ncs .u8 z32) b32T)) := (Below.refl _ _).alloc (Nat.le_refl _) _
  generalize w.alloc (.cells (ncs .u8 z32) b32T) = W0 at RR B0 ⊢
  refine (mblock_any W0 A n cap key Hn.out (HN.out.below B0) hlen Hwf.out 54 b ki Hb.out Hki.out).mono ?_
  rintro e w1 ⟨A1, c1, rfl, hO1, hB1⟩
  have HO1 := Lib.hid hO1
  have HB1 := Lib.hid hB1
  have NM1 := Lib.hid ((HM.out.below B0).below hB1)
  clear hO1 hB1
  go_wp2_with (first
    | (at_builtin; refine wpList_append_rowA rfl (.tmp 7) (.tmp 8) 22 rfl i0 1 Tryd.underlying22 HI.out.1 HI.out.2.1 HI.out.2.2.1 HI.out.2.2.2 (by decide) 64 Hki64.out rfl HO1.out B m _ msg rfl Hm.out NM1.out HLa.out W0.heap.size W0 (Nat.le_refl _) HB1.out ?_; intro A2 c2 w2 hO2 hB2)
    )
  have N2 := hO2.nums
  refine (rsum_any _ A2 _ c2 (ki ++ msg) s1 Hs1.out (by rw [List.length_append, Hki64.out, Hm.out]) N2 (by omega) (Mac.app_wf Hkiw.out Hmw.out)).mono ?_
  rintro e w3 ⟨rfl, hB3⟩
  have B03 := hB2.trans (hB3.mono hB2.size)
  have RR := row_kept RR B03 (row_lt RR)
  have B3 := B0.trans (B03.mono B0.size)
  have hlt := row_lt RR
  clear hO2 hB2 hB3 N2 B0 B03
  go_upto_region 2 with (fail)
  have AN := (Below.refl w3.heap.size w3).alloc (Nat.le_refl _) (.cells (nrow .u8 s1).toArray b32T)
  have RS := row_new (W := w3) (cs := (nrow .u8 s1).toArray) (t := b32T) (m := (0, 0))
  have RR := row_kept RR AN (row_lt RR)
  have B6 := B3.trans (AN.mono B3.size)
  generalize w3.alloc (.cells (nrow .u8 s1).toArray b32T) = W6 at RS RR B6 ⊢
  obtain ⟨g7, hg7⟩ : ∃ g, g = w3.heap.size := ⟨_, rfl⟩
  rw [← hg7] at RS hlt ⊢
  clear AN B3 SN hg7 z0
  have hS0 : MrS w g7 s1 W6 := ⟨RS, ⟨nrow .u8 z32, rfl, RR⟩, B6⟩
  have KB := Lib.hid (show ∀ W : World, Below W6.heap.size W6 W → MrA w g7 s1 W from fun W h => (hS0.keep h).all)
  have H0 := Lib.hid (show MrA w g7 s1 W6.drew from (hS0.keep (below_drewN (Below.refl _ _) 1)).all)
  have KS := Lib.hid (show ∀ W : World, MrA w g7 s1 W → MrA w g7 s1 (W.setCells w.heap.size 0 (nrow .u8 r)) from fun W h => (h.2.set hlt Hr32.out).all)
  have NS := Lib.hid (show ∀ W : World, Below W6.heap.size W6 W → Nums .u8 W (some ⟨g7, 0, none⟩) s1 from fun W h => nums_row (row_kept RS h (row_lt RS)))
  have NK := Lib.hid (HN.out.below B6)
  have hu4 := Tryd.underlying32
  have LR : (nrow .u8 r).length = 32 := by rw [nrow_len]; exact Hr32.out
  have hi4 : (Tryd.prog.info? b32T).map (·.size) = some (nrow .u8 r).length := by rw [info_b32, LR]
  have hone := nrow_one .u8 r
  clear RR RS B6 hS0
  go_region_held3 (fun W => W.there w.heap.size 0 32 ∧ MrS w g7 s1 W)
    (first | (with_reducible exact H0.out) | (with_reducible exact KS.out _ (by assumption)) | (with_reducible exact KB.out _ hb))
    (first
      | (go_at_call 22; refine (mblock_any W6.drew A n cap key Hn.out (NK.out.drewN 1) hlen Hwf.out 92 b ko Hb.out Hko.out).mono ?_; rintro e W7 ⟨A3, c3, rfl, hO3, hB3⟩; have hb := (below_drewN (Below.refl W6.heap.size W6) 1).trans hB3; have HO3 := Lib.hid hO3; have hb7 := Lib.hid hb)
      | (refine step_append_row rfl (.tmp 12) (.tmp 13) 22 rfl i0 1 Tryd.underlying22 HI.out.1 HI.out.2.1 HI.out.2.2.1 HI.out.2.2.2 (by decide) 64 Hko64.out rfl HO3.out _ 32 _ s1 rfl Hs32.out (NS.out _ hb7.out) HLb.out W6.heap.size W6 (Nat.le_refl _) hb7.out ?_; intro A4 c4 W8 hO4 hb; have HO4 := Lib.hid hO4; have hb8 := Lib.hid hb)
      | (go_at_call 21; refine (rsum_any _ _ _ _ (ko ++ s1) r Hr2.out (by rw [List.length_append, Hko64.out, Hs32.out]) HO4.out.nums (by omega) (Mac.app_wf Hkow.out Hs1w.out)).mono ?_; rintro e W9 ⟨rfl, hB9⟩; have hb := hb8.out.trans (hB9.mono hb8.out.size); have hW9 := Lib.hid (KB.out _ hb)))
  obtain ⟨L, hL, hrr⟩ := hW9.out.2.rr
  have hset := setCells_arr info_b32 LR hL hone hrr
  have hlow := hW9.out.2.low
  rw [hset]
  have RF := row_written (ds := (nrow .u8 r).toArray) hrr
  have BF := setRow_below (t := b32T) (cs := (nrow .u8 r).toArray) hlow (Nat.le_refl _)
  generalize setRow W9 w.heap.size b32T (nrow .u8 r).toArray = WF at RF BF ⊢
  clear hset hlow hrr
  go_wp2
  exact bodyPost_ret (arr_results Tryd.underlying32 info_b32 Tryd.results15 LR rfl RF) rfl ⟨rfl, BF⟩
end Go.Proofs.YthppbklbamakcaaDoor
