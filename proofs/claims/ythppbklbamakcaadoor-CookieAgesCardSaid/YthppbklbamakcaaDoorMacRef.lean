/- The document's own digest by a key. -/
import Derived.Test.YthppbklbamakcaaDoorMacOwn
import Derived.Test.YthppbklbamakcaaDoorDigRef4
namespace Go.Proofs.YthppbklbamakcaaDoor
open Go.ChangeShapes Go.WideShapes Go.ChangeAt Go.RowKit
theorem Mac.take_snoc (b : List Int) (m : Int) (k : Nat) (h : k < b.length) : (Mac.mask b m).take (k + 1) = (Mac.mask b m).take k ++ [Mac.xor8 (b.getD k 0) m] := by
  rw [List.take_succ_eq_append_getElem (by rw [Mac.len_mask]; exact h)]
  have := Mac.mask_at b m k h
  rw [← this]
  simp [List.getD, show k < (Mac.mask b m).length by rw [Mac.len_mask]; exact h]
theorem Mac.pad64_in (l : List Int) (k : Nat) (h : k < l.length) : (Mac.pad64 l).getD k 0 = l.getD k 0 := by
  simp [Mac.pad64, List.getD, List.getElem?_append_left h]
theorem Mac.pad64_out (l : List Int) (k : Nat) (h : l.length ≤ k) (h64 : k < 64) : (Mac.pad64 l).getD k 0 = 0 := by
  simp only [Mac.pad64, List.getD, List.getElem?_append_right h]
  rw [List.getElem?_replicate]
  split <;> simp
set_option maxRecDepth 100000 in
set_option maxHeartbeats 1000000 in
theorem mblock_any (w : World) (A : Option Addr) (n cap : Nat) (key : List Int) (hn : key.length = n) (hN : Nums .u8 w A key) (hlen : n ≤ 1000) (hwf : ∀ z ∈ key, 0 ≤ z ∧ z < 256) (m : Int) (b r : List Int) (hb : Mac.blk key = b) (hr : Mac.mask b m = r) :
    Calls Tryd.prog 22 #[.slice A n cap, .int .u8 m] w fun e w' => ∃ A' c', e = .returned (.slice A' 64 c') ∧ OwnN .u8 5 w.heap.size w' A' c' r ∧ Below w.heap.size w w' := by
  obtain ⟨i0, hi, hz0, hz1, hz2⟩ := info_parts infoB
  have HI := Lib.hid (And.intro hi (And.intro hz0 (And.intro hz1 hz2)))
  have Hn := Lib.hid hn
  have HN := Lib.hid hN
  have Hwf := Lib.hid hwf
  have HL0 := Lib.hid (show ([] : List Int).length + n < 17592186044415 by simp; omega)
  have Hr := Lib.hid hr
  have Hb64 := Lib.hid (show b.length = 64 by rw [← hb]; exact Mac.len_blk key)
  clear hi hz0 hz1 hz2 hn hN hwf hr
  by_cases h64 : 64 < n
  · obtain ⟨s1, hs1⟩ : ∃ s, Sha.sha key = s := ⟨_, rfl⟩
    have hs32 : s1.length = 32 := by rw [← hs1]; exact sha_len _
    have z1 := zero_b32'
    have SN := sha_new s1 hs32
    have L1 : (nrow .u8 s1).length = 32 := by rw [nrow_len]; exact hs32
    have Hs1 := Lib.hid hs1
    have Hs32 := Lib.hid hs32
    have HLs := Lib.hid (show ([] : List Int).length + 32 < 17592186044415 by simp)
    have Hpad := Lib.hid (show b = Mac.pad64 s1 by rw [← hb, ← hs1]; unfold Mac.blk; rw [if_pos (by rw [Hn.out]; exact h64)])
    clear hs1 hs32 hb
    go_enter Tryd.func22, Tryd.ntmps22
    go_wp2_with (first
      | (at_builtin; refine wpList_append_rowA rfl (.tmp 10) (.tmp 11) 22 rfl i0 1 Tryd.underlying22 HI.out.1 HI.out.2.1 HI.out.2.2.1 HI.out.2.2.2 (by decide) 0 rfl rfl (OwnN.empty (base := w.heap.size) (Nat.le_refl _)) A n _ key rfl Hn.out (HN.out.alloc _) HL0.out w.heap.size w (Nat.le_refl _) ((Below.refl _ _).alloc (Nat.le_refl _) _) ?_; intro A1 c1 w1 hO1 hB1; rw [Nat.zero_add])
      )
    rw [List.nil_append] at hO1
    refine (rsum_any _ A1 n c1 key s1 Hs1.out Hn.out hO1.nums (by omega) Hwf.out).mono ?_
    rintro e w2 ⟨rfl, hB2⟩
    have B2 := hB1.trans (hB2.mono hB1.size)
    clear hO1 hB1 hB2
    go_upto_region 4 with (fail)
    have AN := (Below.refl w2.heap.size w2).alloc (Nat.le_refl _) (.cells (nrow .u8 s1).toArray b32T)
    have RR := row_new (W := w2) (cs := (nrow .u8 s1).toArray) (t := b32T) (m := (0, 0))
    have B3 := B2.trans (AN.mono B2.size)
    generalize w2.alloc (.cells (nrow .u8 s1).toArray b32T) = V at RR B3 ⊢
    have N1 := Lib.hid (nums_row RR)
    clear AN B2 SN RR z1
    go_wp2_with ((at_builtin; (refine wpList_append_rowA rfl (.tmp 18) (.tmp 19) 22 rfl i0 1 Tryd.underlying22 HI.out.1 HI.out.2.1 HI.out.2.2.1 HI.out.2.2.2 (by decide) 0 rfl rfl (OwnN.empty (base := w.heap.size) B3.size) _ 32 _ s1 rfl Hs32.out (N1.out.alloc _) HLs.out w.heap.size w (Nat.le_refl _) (B3.alloc B3.size _) ?_); intro A2 c2 w3 hO2 hB3; rw [Nat.zero_add]))
    rw [List.nil_append] at hO2
    have HK := Lib.hid hO2.nums
    have Hkl := Lib.hid Hs32.out
    have W0s := hB3.size
    go_loopw [7, 8, 9] (fun v i _x wr => ∃ (k : Nat) (A' : Option Addr) (c' : Nat), k ≤ 64 ∧ i = .int .i64 k ∧ v = .slice A' k c' ∧ OwnN .u8 5 w3.heap.size wr A' c' (r.take k) ∧ Below w3.heap.size w3 wr) (fun _ i _x _ => 64 - (intOf i).toNat)
    case atStart => exact ⟨0, none, 0, by omega, rfl, rfl, OwnN.nil (Nat.le_refl _), Below.refl _ _⟩
    case round =>
      obtain ⟨k, A', c', hk, rfl, rfl, hO, hB⟩ := hrel
      have HO := Lib.hid hO
      clear hO
      by_cases hlt : k < 64
      · have q1 : (k : Int) < 64 := by omega
        have q0 : (0 : Int) ≤ (k : Int) := by omega
        have Hl := Lib.hid (show (r.take k).length = k by rw [List.length_take, ← Hr.out, Mac.len_mask, Hb64.out]; omega)
        have Hl2 := Lib.hid (show (r.take k).length < 17592186044415 by rw [Hl.out]; omega)
        have Hs := Lib.hid (show r.take (k + 1) = r.take k ++ [Mac.xor8 (b.getD k 0) m] by rw [← Hr.out]; exact Mac.take_snoc b m k (by rw [Hb64.out]; exact hlt))
        by_cases hkl : k < 32
        · have q2 : (k : Int) < (32 : Int) := by omega
          rw [Hpad.out, Mac.pad64_in _ _ (by rw [Hkl.out]; exact hkl)] at Hs
          rcases HK.out.below hB with h0 | ⟨bb, off, rfl, hbb, hcc⟩
          · exact absurd hkl (by have := Hkl.out; rw [h0] at this; simp only [List.length_nil] at this; omega)
          · have cell := hcc k (by rw [Hkl.out]; exact hkl)
            generalize s1.getD k 0 = x at cell Hs
            have hX : bits .xor .u8 x m = Mac.xor8 x m := rfl
            generalize Mac.xor8 x m = y at hX Hs
            clear hcc
            go_wp2_with (first
              | (at_builtin; refine wpList_append_num rfl (.tmp 33) (.tmp 37) 22 rfl i0 1 Tryd.underlying22 HI.out.1 HI.out.2.1 HI.out.2.2.1 HI.out.2.2.2 (by decide) k Hl.out rfl (HO.out.alloc _) ⟨wr.heap.size, 0, none⟩ _ y rfl (by simp) Hl2.out w3.heap.size w3 (Nat.le_refl _) (hB.alloc hB.size _) ?_; intro A4 c4 w4 hO4 hB4)
              )
            go_roundw
            case rel => exact ⟨k + 1, A4, c4, by omega, by go_num, rfl, by rw [Hs.out]; exact hO4, hB4⟩
            case measure => simp [intOf]; omega
        · have q2 : ¬ ((k : Int) < (32 : Int)) := by omega
          rw [Hpad.out, Mac.pad64_out _ _ (by rw [Hkl.out]; omega) hlt] at Hs
          have hX : bits .xor .u8 0 m = Mac.xor8 0 m := rfl
          generalize Mac.xor8 0 m = y at hX Hs
          go_wp2_with (first
            | (at_builtin; refine wpList_append_num rfl (.tmp 33) (.tmp 37) 22 rfl i0 1 Tryd.underlying22 HI.out.1 HI.out.2.1 HI.out.2.2.1 HI.out.2.2.2 (by decide) k Hl.out rfl (HO.out.alloc _) ⟨wr.heap.size, 0, none⟩ _ y rfl (by simp) Hl2.out w3.heap.size w3 (Nat.le_refl _) (hB.alloc hB.size _) ?_; intro A4 c4 w4 hO4 hB4)
            )
          go_roundw
          case rel => exact ⟨k + 1, A4, c4, by omega, by go_num, rfl, by rw [Hs.out]; exact hO4, hB4⟩
          case measure => simp [intOf]; omega
      · obtain rfl : k = 64 := by omega
        have hO := HO.out
        rw [List.take_of_length_le (by rw [← Hr.out, Mac.len_mask, Hb64.out]; exact Nat.le_refl _)] at hO
        rw [show ((64 : Nat) : Int) = 64 from rfl]
        go_wp2
        go_ret
        exact ⟨A', c', rfl, hO.lower W0s, hB3.trans (hB.mono W0s)⟩
  · have Hpad := Lib.hid (show b = Mac.pad64 key by rw [← hb]; unfold Mac.blk; rw [if_neg (by rw [Hn.out]; exact h64)])
    clear hb
    go_enter Tryd.func22, Tryd.ntmps22
    go_wp2_with (first
      | (at_builtin; refine wpList_append_rowA rfl (.tmp 10) (.tmp 11) 22 rfl i0 1 Tryd.underlying22 HI.out.1 HI.out.2.1 HI.out.2.2.1 HI.out.2.2.2 (by decide) 0 rfl rfl (OwnN.empty (base := w.heap.size) (Nat.le_refl _)) A n _ key rfl Hn.out (HN.out.alloc _) HL0.out w.heap.size w (Nat.le_refl _) ((Below.refl _ _).alloc (Nat.le_refl _) _) ?_; intro A1 c1 w1 hO1 hB1; rw [Nat.zero_add])
      )
    rw [List.nil_append] at hO1
    have HK := Lib.hid hO1.nums
    have Hkl := Lib.hid Hn.out
    have W0s := hB1.size
    go_loopw [7, 8, 9] (fun v i _x wr => ∃ (k : Nat) (A' : Option Addr) (c' : Nat), k ≤ 64 ∧ i = .int .i64 k ∧ v = .slice A' k c' ∧ OwnN .u8 5 w1.heap.size wr A' c' (r.take k) ∧ Below w1.heap.size w1 wr) (fun _ i _x _ => 64 - (intOf i).toNat)
    case atStart => exact ⟨0, none, 0, by omega, rfl, rfl, OwnN.nil (Nat.le_refl _), Below.refl _ _⟩
    case round =>
      obtain ⟨k, A', c', hk, rfl, rfl, hO, hB⟩ := hrel
      have HO := Lib.hid hO
      clear hO
      by_cases hlt : k < 64
      · have q1 : (k : Int) < 64 := by omega
        have q0 : (0 : Int) ≤ (k : Int) := by omega
        have Hl := Lib.hid (show (r.take k).length = k by rw [List.length_take, ← Hr.out, Mac.len_mask, Hb64.out]; omega)
        have Hl2 := Lib.hid (show (r.take k).length < 17592186044415 by rw [Hl.out]; omega)
        have Hs := Lib.hid (show r.take (k + 1) = r.take k ++ [Mac.xor8 (b.getD k 0) m] by rw [← Hr.out]; exact Mac.take_snoc b m k (by rw [Hb64.out]; exact hlt))
        by_cases hkl : k < n
        · have q2 : (k : Int) < (n : Int) := by omega
          rw [Hpad.out, Mac.pad64_in _ _ (by rw [Hkl.out]; exact hkl)] at Hs
          rcases HK.out.below hB with h0 | ⟨bb, off, rfl, hbb, hcc⟩
          · exact absurd hkl (by have := Hkl.out; rw [h0] at this; simp only [List.length_nil] at this; omega)
          · have cell := hcc k (by rw [Hkl.out]; exact hkl)
            generalize key.getD k 0 = x at cell Hs
            have hX : bits .xor .u8 x m = Mac.xor8 x m := rfl
            generalize Mac.xor8 x m = y at hX Hs
            clear hcc
            go_wp2_with (first
              | (at_builtin; refine wpList_append_num rfl (.tmp 33) (.tmp 37) 22 rfl i0 1 Tryd.underlying22 HI.out.1 HI.out.2.1 HI.out.2.2.1 HI.out.2.2.2 (by decide) k Hl.out rfl (HO.out.alloc _) ⟨wr.heap.size, 0, none⟩ _ y rfl (by simp) Hl2.out w1.heap.size w1 (Nat.le_refl _) (hB.alloc hB.size _) ?_; intro A4 c4 w4 hO4 hB4)
              )
            go_roundw
            case rel => exact ⟨k + 1, A4, c4, by omega, by go_num, rfl, by rw [Hs.out]; exact hO4, hB4⟩
            case measure => simp [intOf]; omega
        · have q2 : ¬ ((k : Int) < (n : Int)) := by omega
          rw [Hpad.out, Mac.pad64_out _ _ (by rw [Hkl.out]; omega) hlt] at Hs
          have hX : bits .xor .u8 0 m = Mac.xor8 0 m := rfl
          generalize Mac.xor8 0 m = y at hX Hs
          go_wp2_with (first
            | (at_builtin; refine wpList_append_num rfl (.tmp 33) (.tmp 37) 22 rfl i0 1 Tryd.underlying22 HI.out.1 HI.out.2.1 HI.out.2.2.1 HI.out.2.2.2 (by decide) k Hl.out rfl (HO.out.alloc _) ⟨wr.heap.size, 0, none⟩ _ y rfl (by simp) Hl2.out w1.heap.size w1 (Nat.le_refl _) (hB.alloc hB.size _) ?_; intro A4 c4 w4 hO4 hB4)
            )
          go_roundw
          case rel => exact ⟨k + 1, A4, c4, by omega, by go_num, rfl, by rw [Hs.out]; exact hO4, hB4⟩
          case measure => simp [intOf]; omega
      · obtain rfl : k = 64 := by omega
        have hO := HO.out
        rw [List.take_of_length_le (by rw [← Hr.out, Mac.len_mask, Hb64.out]; exact Nat.le_refl _)] at hO
        rw [show ((64 : Nat) : Int) = 64 from rfl]
        go_wp2
        go_ret
        exact ⟨A', c', rfl, hO.lower W0s, hB1.trans (hB.mono W0s)⟩
end Go.Proofs.YthppbklbamakcaaDoor
