/- MacNested holds for any key and any bytes: a digest by a key is a digest of the key's block and a digest. The constants read as the program lays them (the card ties them). No other condition. -/
import Derived.Test.YtmdlhcelibciiaaDoorMacSmall
import Derived.Test.YtmdlhcelibciiaaDoorDigLaw
import Derived.Test.YtmdlhcelibciiaaDoorMacRef
import Derived.Test.YtmdlhcelibciiaaDoorMem5b
import Derived.Deep.RegionHeld3
namespace Go.Proofs.YtmdlhcelibciiaaDoor.macNested
open Go.ChangeShapes Go.WideShapes Go.ChangeAt Go.RowKit

set_option maxRecDepth 100000 in
set_option maxHeartbeats 2000000 in
theorem walk (w : World) (hL : laidMetH Tryd.prog Rows.macNestedRow.laid w)
    (A : Option Addr) (n cap : Nat) (zs : List Int) (hl : n ≤ cap) (hm : cap ≤ maxLen) (hn : zs.length = n) (hN : Nums .u8 w A zs) (hw : ∀ z ∈ zs, (Lit.int .u8 z).wf = true)
    (B : Option Addr) (n' cap' : Nat) (ys : List Int) (hl' : n' ≤ cap') (hm' : cap' ≤ maxLen) (hn' : ys.length = n') (hN' : Nums .u8 w B ys) (hw' : ∀ z ∈ ys, (Lit.int .u8 z).wf = true) :
    Calls Tryd.prog 6 #[.slice A n cap, .slice B n' cap'] w fun e w' => e = .returned (.bool true) ∧ Below w.heap.size w w' := by
  have HT := Lib.hid (kt_of_laid hL)
  have HN := Lib.hid hN
  have Hn := Lib.hid hn
  have HW := Lib.hid (show ∀ z ∈ zs, 0 ≤ z ∧ z < 256 from fun z hz => byte_wf (hw z hz))
  have HN' := Lib.hid hN'
  have Hn' := Lib.hid hn'
  have HW' := Lib.hid (show ∀ z ∈ ys, 0 ≤ z ∧ z < 256 from fun z hz => byte_wf (hw' z hz))
  have HC := Lib.hid (And.intro (And.intro hl hm) (And.intro hl' hm'))
  clear hL hN hn hw hN' hn' hw' hm hm' hl hl'
  by_cases h3 : 64 < n ∨ 300 < n'
  · have hcase : (64 < n) ∨ (n ≤ 64 ∧ 300 < n') := by omega
    clear h3
    rcases hcase with h | ⟨h0, h⟩
    all_goals
      go_enter Tryd.func6, Tryd.ntmps6
      go_wp2_with (go_at_call 8; refine (small_any _ HT.out).mono ?_; rintro e w1 ⟨rfl, hB1⟩)
      go_ret
      exact ⟨rfl, hB1⟩
  · have h1 : n ≤ 64 := by omega
    have h2 : n' ≤ 300 := by omega
    clear h3
    obtain ⟨i0, hi, hz0, hz1, hz2⟩ := info_parts infoB
    have HI := Lib.hid (And.intro hi (And.intro hz0 (And.intro hz1 hz2)))
    have z0 := zero_b32'
    obtain ⟨b, hb⟩ : ∃ b, Mac.blk zs = b := ⟨_, rfl⟩
    have hb64 : b.length = 64 := by rw [← hb]; exact Mac.len_blk zs
    have Hpad := Lib.hid (show b = Mac.pad64 zs by rw [← hb]; unfold Mac.blk; rw [if_neg (by rw [Hn.out]; omega)])
    obtain ⟨ki, hki⟩ : ∃ k, Mac.mask b 54 = k := ⟨_, rfl⟩
    obtain ⟨ko, hko⟩ : ∃ k, Mac.mask b 92 = k := ⟨_, rfl⟩
    obtain ⟨s1, hs1⟩ : ∃ s, Sha.sha (ki ++ ys) = s := ⟨_, rfl⟩
    obtain ⟨r, hr⟩ : ∃ r, Mac.hmac zs ys = r := ⟨_, rfl⟩
    have hr2 : Sha.sha (ko ++ s1) = r := by rw [← hr, ← hs1, ← hki, ← hko, ← hb]; rfl
    have hs32 : s1.length = 32 := by rw [← hs1]; exact sha_len _
    have hr32 : r.length = 32 := by rw [← hr2]; exact sha_len _
    have SN := sha_new s1 hs32
    have L1 : (nrow .u8 s1).length = 32 := by rw [nrow_len]; exact hs32
    have Hb64 := Lib.hid hb64
    have Hki := Lib.hid hki
    have Hko := Lib.hid hko
    have Hs1 := Lib.hid hs1
    have Hr := Lib.hid hr
    have Hr2 := Lib.hid hr2
    have Hs32 := Lib.hid hs32
    have Hki64 := Lib.hid (show ki.length = 64 by rw [← hki, Mac.len_mask]; exact hb64)
    have Hko64 := Lib.hid (show ko.length = 64 by rw [← hko, Mac.len_mask]; exact hb64)
    have Hkiw := Lib.hid (show ∀ z ∈ ki, 0 ≤ z ∧ z < 256 by rw [← hki]; exact Mac.mask_wf _ _)
    have Hkow := Lib.hid (show ∀ z ∈ ko, 0 ≤ z ∧ z < 256 by rw [← hko]; exact Mac.mask_wf _ _)
    have Hs1w := Lib.hid (show ∀ z ∈ s1, 0 ≤ z ∧ z < 256 by rw [← hs1]; exact Mac.sha_wf _)
    have E1 : ∀ W : World, (Op.equalIn 10000 b32T (.agg (nrow .u8 r).toArray) (.agg (nrow .u8 r).toArray)).run Tryd.prog W = .ok true W := fun W => by rw [eql_b32 W r r hr32 hr32, decide_eq_true rfl]
    have HE1 := Lib.hid E1
    clear hi hz0 hz1 hz2 hb hb64 hki hko hs1 hr hr2 hs32 hr32 E1
    go_enter Tryd.func6, Tryd.ntmps6
    go_wp2_with (go_at_call 8; refine (small_any _ HT.out).mono ?_; rintro e w1 ⟨rfl, hB1⟩)
    go_loopw [6, 7, 8, 9] (fun vi vo i _x wr => ∃ (k : Nat) (A1 : Option Addr) (c1 : Nat) (A2 : Option Addr) (c2 : Nat), k ≤ 64 ∧ i = .int .i64 k ∧ vi = .slice A1 k c1 ∧ vo = .slice A2 k c2 ∧ OwnN .u8 5 w1.heap.size wr A1 c1 (ki.take k) ∧ OwnN .u8 5 w1.heap.size wr A2 c2 (ko.take k) ∧ Apart A1 A2 ∧ Below w1.heap.size w1 wr) (fun _ _ i _x _ => 64 - (intOf i).toNat)
    case atStart => exact ⟨0, none, 0, none, 0, by omega, rfl, rfl, rfl, OwnN.nil (Nat.le_refl _), OwnN.nil (Nat.le_refl _), (fun a b ha _ => by cases ha), Below.refl _ _⟩
    case round =>
      obtain ⟨k, A1, c1, A2, c2, hk, rfl, rfl, rfl, hO1, hO2, hAp, hB⟩ := hrel
      have HO1 := Lib.hid hO1
      have HO2 := Lib.hid hO2
      have HAp := Lib.hid hAp
      clear hO1 hO2 hAp
      by_cases hlt : k < 64
      · have q1 : (k : Int) < 64 := by omega
        have q0 : (0 : Int) ≤ (k : Int) := by omega
        have Hl := Lib.hid (show (ki.take k).length = k by rw [List.length_take, Hki64.out]; omega)
        have Hl2 := Lib.hid (show (ki.take k).length < 17592186044415 by rw [Hl.out]; omega)
        have Hm := Lib.hid (show (ko.take k).length = k by rw [List.length_take, Hko64.out]; omega)
        have Hm2 := Lib.hid (show (ko.take k).length < 17592186044415 by rw [Hm.out]; omega)
        have Hs := Lib.hid (show ki.take (k + 1) = ki.take k ++ [Mac.xor8 (b.getD k 0) 54] by rw [← Hki.out]; exact Mac.take_snoc b 54 k (by rw [Hb64.out]; exact hlt))
        have Ht := Lib.hid (show ko.take (k + 1) = ko.take k ++ [Mac.xor8 (b.getD k 0) 92] by rw [← Hko.out]; exact Mac.take_snoc b 92 k (by rw [Hb64.out]; exact hlt))
        clear SN L1 z0
        by_cases hkl : k < n
        · have q2 : (k : Int) < (n : Int) := by omega
          rw [Hpad.out, Mac.pad64_in _ _ (by rw [Hn.out]; exact hkl)] at Hs Ht
          rcases HN.out.below (hB1.trans (hB.mono hB1.size)) with h0 | ⟨bb, off, rfl, hbb, hcc⟩
          · exact absurd hkl (by have := Hn.out; rw [h0] at this; simp only [List.length_nil] at this; omega)
          · have cell := hcc k (by rw [Hn.out]; exact hkl)
            generalize zs.getD k 0 = x at cell Hs Ht
            have hX : bits .xor .u8 x 54 = Mac.xor8 x 54 := rfl
            have hY : bits .xor .u8 x 92 = Mac.xor8 x 92 := rfl
            generalize Mac.xor8 x 54 = y at hX Hs
            generalize Mac.xor8 x 92 = z at hY Ht
            clear hcc
            go_wp2_with (first
              | (at_builtin; refine wpList_append_num2 rfl (.tmp 33) (.tmp 36) 22 rfl i0 1 Tryd.underlying22 HI.out.1 HI.out.2.1 HI.out.2.2.1 HI.out.2.2.2 (by decide) k Hl.out rfl (HO1.out.alloc _) ⟨wr.heap.size, 0, none⟩ _ y rfl (by simp) Hl2.out w1.heap.size w1 (Nat.le_refl _) (hB.alloc hB.size _) ?_; intro A3 c3 w3 hO3 hB3 hG3 hP3; have HO3 := Lib.hid hO3; have HO4 := Lib.hid ((HO2.out.alloc _).kept hG3 HAp.out.ne); have HA3 := Lib.hid (HAp.out.next hP3 (fun b hb => Nat.lt_of_lt_of_le (HO2.out.blk hb).2 (by simp))); clear hO3 hG3 hP3)
              | (at_builtin; refine wpList_append_num2 rfl (.tmp 38) (.tmp 41) 22 rfl i0 1 Tryd.underlying22 HI.out.1 HI.out.2.1 HI.out.2.2.1 HI.out.2.2.2 (by decide) k Hm.out rfl (HO4.out.alloc _) ⟨w3.heap.size, 0, none⟩ _ z rfl (by simp) Hm2.out w1.heap.size w1 (Nat.le_refl _) (hB3.alloc hB3.size _) ?_; intro A5 c5 w5 hO5 hB5 hG5 hP5; have HO5 := Lib.hid hO5; have HO6 := Lib.hid ((HO3.out.alloc _).kept hG5 HA3.out.symm.ne); have HA5 := Lib.hid (HA3.out.symm.next hP5 (fun b hb => Nat.lt_of_lt_of_le (HO3.out.blk hb).2 (by simp))).symm; clear hO5 hG5 hP5)
              )
            go_roundw
            case rel => exact ⟨k + 1, A3, c3, A5, c5, by omega, by go_num, rfl, rfl, by rw [Hs.out]; exact HO6.out, by rw [Ht.out]; exact HO5.out, HA5.out, hB5⟩
            case measure => simp [intOf]; omega
        · have q2 : ¬ ((k : Int) < (n : Int)) := by omega
          rw [Hpad.out, Mac.pad64_out _ _ (by rw [Hn.out]; omega) hlt] at Hs Ht
          have hX : bits .xor .u8 0 54 = Mac.xor8 0 54 := rfl
          have hY : bits .xor .u8 0 92 = Mac.xor8 0 92 := rfl
          generalize Mac.xor8 0 54 = y at hX Hs
          generalize Mac.xor8 0 92 = z at hY Ht
          go_wp2_with (first
            | (at_builtin; refine wpList_append_num2 rfl (.tmp 33) (.tmp 36) 22 rfl i0 1 Tryd.underlying22 HI.out.1 HI.out.2.1 HI.out.2.2.1 HI.out.2.2.2 (by decide) k Hl.out rfl (HO1.out.alloc _) ⟨wr.heap.size, 0, none⟩ _ y rfl (by simp) Hl2.out w1.heap.size w1 (Nat.le_refl _) (hB.alloc hB.size _) ?_; intro A3 c3 w3 hO3 hB3 hG3 hP3; have HO3 := Lib.hid hO3; have HO4 := Lib.hid ((HO2.out.alloc _).kept hG3 HAp.out.ne); have HA3 := Lib.hid (HAp.out.next hP3 (fun b hb => Nat.lt_of_lt_of_le (HO2.out.blk hb).2 (by simp))); clear hO3 hG3 hP3)
            | (at_builtin; refine wpList_append_num2 rfl (.tmp 38) (.tmp 41) 22 rfl i0 1 Tryd.underlying22 HI.out.1 HI.out.2.1 HI.out.2.2.1 HI.out.2.2.2 (by decide) k Hm.out rfl (HO4.out.alloc _) ⟨w3.heap.size, 0, none⟩ _ z rfl (by simp) Hm2.out w1.heap.size w1 (Nat.le_refl _) (hB3.alloc hB3.size _) ?_; intro A5 c5 w5 hO5 hB5 hG5 hP5; have HO5 := Lib.hid hO5; have HO6 := Lib.hid ((HO3.out.alloc _).kept hG5 HA3.out.symm.ne); have HA5 := Lib.hid (HA3.out.symm.next hP5 (fun b hb => Nat.lt_of_lt_of_le (HO3.out.blk hb).2 (by simp))).symm; clear hO5 hG5 hP5)
            )
          go_roundw
          case rel => exact ⟨k + 1, A3, c3, A5, c5, by omega, by go_num, rfl, rfl, by rw [Hs.out]; exact HO6.out, by rw [Ht.out]; exact HO5.out, HA5.out, hB5⟩
          case measure => simp [intOf]; omega
      · obtain rfl : k = 64 := by omega
        have hO1 := HO1.out
        have hO2 := HO2.out
        rw [List.take_of_length_le (by rw [Hki64.out]; exact Nat.le_refl _)] at hO1
        rw [List.take_of_length_le (by rw [Hko64.out]; exact Nat.le_refl _)] at hO2
        have b1 : (64 : Nat) ≤ c1 ∧ c1 ≤ maxLen := by have := hO1.len; rw [Hki64.out] at this; exact this
        have b2 : (64 : Nat) ≤ c2 ∧ c2 ≤ maxLen := by have := hO2.len; rw [Hko64.out] at this; exact this
        have HBB := Lib.hid (And.intro b1 b2)
        have B0 := hB1.trans (hB.mono hB1.size)
        rw [show ((64 : Nat) : Int) = 64 from rfl]
        have P2 := parts_two (t := 22) (W := wr) (g := wr.heap.size) (ca := c1) (cb := cap') rfl hO1.nums Hki64.out b1.1 b1.2 (HN'.out.below B0) Hn'.out HC.out.2.1 HC.out.2.2
        have B2 := B0.alloc B0.size (.cells #[.slice A1 64 c1, .slice B n' cap'] 22)
        have A0 := (Below.refl wr.heap.size wr).alloc (Nat.le_refl _) (.cells #[.slice A1 64 c1, .slice B n' cap'] 22)
        have K2 := HT.out.keep B2 HT.out.2
        have N2 := hO2.nums
        clear HO1 HO2 hO1 hO2 b1 b2 HAp hlt
        go_wp2_with fail
        refine (sum_to _ _ 2 2 _ (ki ++ ys) s1 (by simp [flat]) Hs1.out rfl P2 (by rw [List.length_append, Hki64.out, Hn'.out]; omega) (by decide) (Mac.app_wf Hkiw.out HW'.out) K2).mono ?_
        rintro e w2 ⟨rfl, hB2⟩
        have A3 := A0.trans (hB2.mono A0.size)
        have N3 := N2.below A3
        have B3 := B0.trans (A3.mono B0.size)
        clear hB2 K2 P2 B2 A0 A3 N2
        go_upto_region 15 with (fail)
        have AN := (Below.refl w2.heap.size w2).alloc (Nat.le_refl _) (.cells (nrow .u8 s1).toArray b32T)
        have RS := row_new (W := w2) (cs := (nrow .u8 s1).toArray) (t := b32T) (m := (0, 0))
        have N6 := N3.below AN
        have B6 := B3.trans (AN.mono B3.size)
        generalize w2.alloc (.cells (nrow .u8 s1).toArray b32T) = V at RS N6 B6 ⊢
        obtain ⟨g7, hg7⟩ : ∃ g, g = w2.heap.size := ⟨_, rfl⟩
        rw [← hg7] at RS ⊢
        have E1 := HE1.out
        have KD := Lib.hid (show Below V.heap.size V V.drew from below_drewN (Below.refl _ _) 1)
        have KA := Lib.hid (show ∀ (W : World) (o : Obj), Below V.heap.size V W → Below V.heap.size V (W.alloc o) from fun W o h => h.alloc h.size o)
        have KC := Lib.hid (show ∀ (W W' : World), Below V.heap.size V W → Below W.heap.size W W' → Below V.heap.size V W' from fun W W' h hb => h.trans (hb.mono h.size))
        have KT := Lib.hid (show ∀ W : World, Below V.heap.size V W → Kt W from fun W h => (HT.out.keep B6 HT.out.2).keep h (Nat.lt_of_lt_of_le HT.out.2 B6.size))
        have KN := Lib.hid (show ∀ W : World, Below V.heap.size V W → Nums .u8 W A zs from fun W h => (HN.out.below B6).below h)
        have Y0 : Below V.heap.size V (V.alloc (.cells #[.slice B n' cap'] 22)) := KA.out _ _ (Below.refl _ _)
        have Y1 : Below V.heap.size V (V.alloc (.cells #[.slice B n' cap'] 22)).drew := below_drewN Y0 1
        have KX := Lib.hid (And.intro KD.out (And.intro Y0 Y1))
        have KP := Lib.hid (show Parts (V.alloc (.cells #[.slice B n' cap'] 22)).drew (some ⟨V.heap.size, 0, none⟩) [⟨B, cap', ys⟩] from (parts_one (W := V) (t := 22) rfl (HN'.out.below B6) Hn'.out HC.out.2.1 HC.out.2.2).below (below_drewN (Below.refl _ _) 1))
        have KQ := Lib.hid (show ∀ W : World, Below V.heap.size V W → Parts (W.alloc (.cells #[.slice A2 64 c2, .slice (some ⟨g7, 0, none⟩) 32 32] 22)) (some ⟨W.heap.size, 0, none⟩) [⟨A2, c2, ko⟩, ⟨some ⟨g7, 0, none⟩, 32, s1⟩] from fun W h => parts_two rfl (N6.below h) Hko64.out HBB.out.2.1 HBB.out.2.2 (nums_row (row_kept RS h (row_lt RS))) Hs32.out (Nat.le_refl _) (show (32 : Nat) ≤ maxLen by decide))
        have Z0 : Below V.heap.size V ((V.alloc (.cells #[.slice B n' cap'] 22)).alloc (.cells #[.slice A2 64 c2, .slice (some ⟨g7, 0, none⟩) 32 32] 22)) := KA.out _ _ Y0
        have Z1 : Below V.heap.size V ((V.alloc (.cells #[.slice B n' cap'] 22)).alloc (.cells #[.slice A2 64 c2, .slice (some ⟨g7, 0, none⟩) 32 32] 22)).drew := below_drewN Z0 1
        have KZ := Lib.hid (And.intro Z0 Z1)
        have KPz := Lib.hid (show Parts ((V.alloc (.cells #[.slice B n' cap'] 22)).alloc (.cells #[.slice A2 64 c2, .slice (some ⟨g7, 0, none⟩) 32 32] 22)).drew (some ⟨V.heap.size, 0, none⟩) [⟨B, cap', ys⟩] from (parts_one (W := V) (t := 22) rfl (HN'.out.below B6) Hn'.out HC.out.2.1 HC.out.2.2).below (below_drewN ((Below.refl _ _).alloc (Nat.le_refl _) _) 1))
        have KQz := Lib.hid (show ∀ g : Nat, g = V.heap.size + 1 → ∀ W : World, Below ((V.alloc (.cells #[.slice B n' cap'] 22)).alloc (.cells #[.slice A2 64 c2, .slice (some ⟨g7, 0, none⟩) 32 32] 22)).drew.heap.size ((V.alloc (.cells #[.slice B n' cap'] 22)).alloc (.cells #[.slice A2 64 c2, .slice (some ⟨g7, 0, none⟩) 32 32] 22)).drew W → Parts W (some ⟨g, 0, none⟩) [⟨A2, c2, ko⟩, ⟨some ⟨g7, 0, none⟩, 32, s1⟩] from fun g hg W h => by
          refine Parts.below ?_ h
          refine Parts.below ?_ (below_drewN (Below.refl _ _) 1)
          exact parts_two (W := V.alloc (.cells #[.slice B n' cap'] 22)) (t := 22) (by rw [hg]; simp) (N6.below Y0) Hko64.out HBB.out.2.1 HBB.out.2.2 (nums_row (row_kept RS Y0 (row_lt RS))) Hs32.out (Nat.le_refl _) (show (32 : Nat) ≤ maxLen by decide))
        have T0 : Below V.heap.size V (V.alloc (.cells #[.slice A2 64 c2, .slice (some ⟨g7, 0, none⟩) 32 32] 22)) := KA.out _ _ (Below.refl _ _)
        have T1 : Below V.heap.size V (V.alloc (.cells #[.slice A2 64 c2, .slice (some ⟨g7, 0, none⟩) 32 32] 22)).drew := below_drewN T0 1
        have T2 : Below V.heap.size V ((V.alloc (.cells #[.slice A2 64 c2, .slice (some ⟨g7, 0, none⟩) 32 32] 22)).alloc (.cells #[.slice B n' cap'] 22)).drew := below_drewN (KA.out _ _ T0) 1
        have KV := Lib.hid (And.intro T0 (And.intro T1 T2))
        have KU := Lib.hid (KA.out _ (.cells #[.slice B n' cap'] 22) T0)
        have KPt := Lib.hid (show ∀ g : Nat, g = V.heap.size + 1 → Parts ((V.alloc (.cells #[.slice A2 64 c2, .slice (some ⟨g7, 0, none⟩) 32 32] 22)).alloc (.cells #[.slice B n' cap'] 22)).drew (some ⟨g, 0, none⟩) [⟨B, cap', ys⟩] from fun g hg => (parts_one (W := (V.alloc (.cells #[.slice A2 64 c2, .slice (some ⟨g7, 0, none⟩) 32 32] 22))) (t := 22) (by rw [hg]; simp) ((HN'.out.below B6).below T0) Hn'.out HC.out.2.1 HC.out.2.2).below (below_drewN (Below.refl _ _) 1))
        have KQt := Lib.hid (show ∀ W : World, Below ((V.alloc (.cells #[.slice A2 64 c2, .slice (some ⟨g7, 0, none⟩) 32 32] 22)).alloc (.cells #[.slice B n' cap'] 22)).drew.heap.size ((V.alloc (.cells #[.slice A2 64 c2, .slice (some ⟨g7, 0, none⟩) 32 32] 22)).alloc (.cells #[.slice B n' cap'] 22)).drew W → Parts W (some ⟨V.heap.size, 0, none⟩) [⟨A2, c2, ko⟩, ⟨some ⟨g7, 0, none⟩, 32, s1⟩] from fun W h => by
          refine Parts.below ?_ h
          refine Parts.below ?_ (below_drewN ((Below.refl _ _).alloc (Nat.le_refl _) _) 1)
          exact parts_two (W := V) (t := 22) rfl N6 Hko64.out HBB.out.2.1 HBB.out.2.2 (nums_row RS) Hs32.out (Nat.le_refl _) (show (32 : Nat) ≤ maxLen by decide))
        have HF := Lib.hid (show ∀ W : World, Below V.heap.size V W → Below w.heap.size w W from fun W h => B6.trans (h.mono B6.size))
        have HL1 := Lib.hid (show ys.length ≤ 900000 by rw [Hn'.out]; omega)
        have HL2 := Lib.hid (show (ko ++ s1).length ≤ 1000000 by rw [List.length_append, Hko64.out, Hs32.out]; decide)
        have HL3 := Lib.hid (show n ≤ 1000000 by omega)
        have HL4 := Lib.hid (Mac.app_wf Hkow.out Hs1w.out)
        have HL5 := Lib.hid (show (1 : Nat) ≤ maxLen by decide)
        have OQ := fun (W : World) (g : Nat) (hW : Below V.heap.size V W) (hP : Parts W (some ⟨g, 0, none⟩) [⟨B, cap', ys⟩]) => show Calls Tryd.prog 9 #[.slice A n cap, .slice (some ⟨g, 0, none⟩) 1 1] W fun e w' => e = .returned (.agg (nrow .u8 r).toArray) ∧ Below W.heap.size W w' from
          of_any W A n cap zs Hn.out (KN.out _ hW) HC.out.1.1 HC.out.1.2 HL3.out HW.out _ 1 1 _ ys r (by simp [flat]) Hr.out rfl (Nat.le_refl _) HL5.out hP HL1.out (by decide) HW'.out (KT.out _ hW)
        have SQ := fun (W : World) (g : Nat) (hW : Below V.heap.size V W) (hP : Parts W (some ⟨g, 0, none⟩) [⟨A2, c2, ko⟩, ⟨some ⟨g7, 0, none⟩, 32, s1⟩]) => show Calls Tryd.prog 13 #[.slice (some ⟨g, 0, none⟩) 2 2] W fun e w' => e = .returned (.agg (nrow .u8 r).toArray) ∧ Below W.heap.size W w' from
          sum_to W _ 2 2 _ (ko ++ s1) r (by simp [flat]) Hr2.out rfl hP HL2.out (by decide) HL4.out (KT.out _ hW)
        have KO1 := Lib.hid (OQ _ _ KX.out.2.2 KP.out)
        have KO2 := Lib.hid (OQ _ _ KZ.out.2 KPz.out)
        have KO3 := Lib.hid (fun g hg => OQ _ g KV.out.2.2 (KPt.out g hg))
        have KS1 := Lib.hid (fun W hW => SQ _ _ (KA.out _ _ hW) (KQ.out W hW))
        have KS2 := Lib.hid (fun g hg W h7 hW => SQ W g hW (KQz.out g hg W h7))
        have KS3 := Lib.hid (fun W h7 hW => SQ W _ hW (KQt.out W h7))
        clear OQ SQ
        clear N3 N6 AN B3 B6 RS SN hg7 z0 B0 Y0 Y1 Z0 Z1 T0 T1 T2
        go_region_held3 (fun W => Below V.heap.size V W)
          (first | (with_reducible exact KX.out.1) | (with_reducible exact KX.out.2.1) | (with_reducible exact KX.out.2.2) | (with_reducible exact KZ.out.1) | (with_reducible exact KZ.out.2) | (with_reducible exact KV.out.1) | (with_reducible exact KU.out) | (with_reducible exact KV.out.2.1) | (with_reducible exact KV.out.2.2) | (with_reducible exact hWn.out) | (with_reducible exact KA.out _ _ hW7.out) | (with_reducible exact hW7.out))
          (first
            | (go_at_call 9; with_reducible refine KO1.out.mono ?_; rintro e W7 ⟨rfl, hb⟩; have hW7 := Lib.hid (KC.out _ _ KX.out.2.2 hb))
            | (go_at_call 9; with_reducible refine KO2.out.mono ?_; rintro e W7 ⟨rfl, hb⟩; have hb7 := Lib.hid hb; have hW7 := Lib.hid (KC.out _ _ KZ.out.2 hb))
            | (go_at_call 9; with_reducible refine (KO3.out _ (by first | rfl | simp)).mono ?_; rintro e W7 ⟨rfl, hb⟩; have hb7 := Lib.hid hb; have hW7 := Lib.hid (KC.out _ _ KV.out.2.2 hb))
            | (go_at_call 13; with_reducible refine (KS3.out _ hb7.out hW7.out).mono ?_; rintro e W9 ⟨rfl, hb⟩; have hWn := Lib.hid (KC.out _ _ hW7.out hb); have hW9 := Lib.hid (HF.out _ hWn.out))
            | (go_at_call 13; with_reducible refine (KS2.out _ (by first | rfl | simp) _ hb7.out hW7.out).mono ?_; rintro e W9 ⟨rfl, hb⟩; have hWn := Lib.hid (KC.out _ _ hW7.out hb); have hW9 := Lib.hid (HF.out _ hWn.out))
            | (go_at_call 13; with_reducible refine (KS1.out _ hW7.out).mono ?_; rintro e W9 ⟨rfl, hb⟩; have hWn := Lib.hid (KC.out _ _ (KA.out _ _ hW7.out) hb); have hW9 := Lib.hid (HF.out _ hWn.out)))
        all_goals (go_wp2; go_ret; exact ⟨rfl, hW9.out⟩)
theorem own : ownKnob Tryd.prog.godebug = none := by kernel_rfl
theorem laid : laidOutB Tryd.prog = true := by kernel_rfl

noncomputable def laidWorld (os : Os) : World := World.doorLaid Tryd.prog 400 os
theorem laid_met (os : Os) : laidMet Tryd.prog Rows.macNestedRow.laid ((laidWorld os).forCall (fun _ _ => 0) ⟨#[], #[.slice none 0 0, .slice none 0 0], []⟩).memory :=
  laidMet_of_run' 8 (by kernel_rfl) (by kernel_rfl)
theorem reads (os : Os) {H : Type} (enc : TypeId × Value → H) : ∃ places, DataW.whole enc Tryd.prog ((laidWorld os).forCall (fun _ _ => 0) ⟨#[], #[.slice none 0 0, .slice none 0 0], []⟩).memory Tryd.f6.params.toList Rows.macNestedSpec.vars false #[Value.slice none 0 0, .slice none 0 0].toList 8 = some ([.nil, .nil], [], places) :=
  ⟨[], by kernel_rfl⟩

set_option maxRecDepth 100000 in
theorem lifted (os : Os) (started : os.Started) (H : Type) (enc : TypeId × Value → H) (F : Stop.Interp) :
    ReturnsInHanded {} Tryd.checked os 6 .any ((OpenSpec.ofChange Rows.macNestedSpec).preRow enc Tryd.prog Tryd.f6 Rows.macNestedRow.domain false Rows.macNestedRow.laid) (((OpenSpec.ofChange Rows.macNestedSpec).at F).post enc Tryd.prog Tryd.f6 false true false false) := by
  obtain ⟨places, hx⟩ := reads os enc
  refine law_lifted_laid (C := Tryd.checked) (s := Rows.macNestedSpec) (B := 4) own started (by kernel_rfl) Tryd.func6
    (witness_row_at (enc := enc) (C := Tryd.checked) false (laidWorld os) #[.slice none 0 0, .slice none 0 0] rfl (by kernel_rfl) (by kernel_rfl) (by kernel_rfl)
      (OpenSpec.preRow_of_cond 8 hx (by kernel_rfl) (fun k hk => by cases hk) (by kernel_rfl) (laid_met os)))
    rfl rfl Tryd.underlying4 laid (of_decide_eq_true (by kernel_rfl)) ?_ ?_
  · intro ds hl
    rw [Tryd.params6] at hl
    match ds, hl with
    | [d0, d1], _ => rfl
  · intro W base args ds ps hval hA hlt hz hL
    rw [Tryd.params6] at hA hval
    obtain ⟨v0, vs0, d0, ds0, p0, q0, hargs, rfl, rfl, h0, r0⟩ := trodAll_cons hA
    obtain ⟨v1, vs1, d1, ds1, p1, q1, rfl, rfl, rfl, h1, r1⟩ := trodAll_cons r0
    obtain ⟨rfl, rfl, rfl⟩ := trodAll_nil r1
    obtain rfl : args = #[v0, v1] := by cases args; simp_all
    obtain ⟨A0, n0, cap0, zs0, rfl, hl0, hm0, hn0, hN0, hw0⟩ := open_nums Tryd.underlying22 Tryd.underlying5 (by kernel_rfl) (hval 0 22 v0 rfl rfl) h0
    obtain ⟨A1, n1, cap1, zs1, rfl, hl1, hm1, hn1, hN1, hw1⟩ := open_nums Tryd.underlying22 Tryd.underlying5 (by kernel_rfl) (hval 1 22 v1 rfl rfl) h1
    exact walk W hL A0 n0 cap0 zs0 hl0 hm0 hn0 hN0 hw0 A1 n1 cap1 zs1 hl1 hm1 hn1 hN1 hw1

theorem said : Rows.MacNestedSaid :=
  OpenClaim.holds_of_cond 6 Tryd.f6 rfl rfl rfl rfl rfl rfl rfl ⟨rfl, rfl, rfl, rfl, rfl⟩ rfl rfl rfl rfl rfl (by kernel_rfl) Tryd.func6 (by kernel_rfl)
    (of_decide_eq_true (by kernel_rfl)) (by unfold Func.isWrapper; first | (rw [if_pos (by decide +kernel)]; kernel_rfl) | (rw [if_neg (by decide +kernel)]; exact ⟨rfl, rfl⟩))
    (fun os started H enc _ F => by rw [OpenClaim.pre_eq_preRow]; exact lifted os started H enc F)
theorem plain (f : FuncId) (fn : Func) (hf : Tryd.pinned.checked.prog.funcNamed "nightjar/nightjarlaw03.MacNested" = some f) (hfn : Tryd.pinned.checked.prog.funcs[f]? = some fn) :
    false = Tryd.pinned.checked.prog.looks [] ∧ ∀ (j : Nat) t, fn.params[j]? = some t → Tryd.pinned.checked.prog.wantsStandIn t = false := by
  obtain rfl : f = 6 := Option.some.inj ((show Tryd.prog.funcNamed "nightjar/nightjarlaw03.MacNested" = some 6 by kernel_rfl).symm.trans hf) |>.symm
  obtain rfl : fn = Tryd.f6 := (Option.some.inj (Tryd.func6.symm.trans hfn)).symm
  refine ⟨by kernel_rfl, fun j t ht => ?_⟩
  have hm : t ∈ Tryd.f6.params.toList := by simpa using Array.mem_of_getElem? ht
  have hall : (Tryd.f6.params.toList.all fun u => !Tryd.prog.wantsStandIn u) = true := by kernel_rfl
  exact (show Tryd.prog.wantsStandIn t = false by simpa using List.all_eq_true.1 hall t hm)

theorem proved : Rows.MacNestedCardSaid :=
  Claim7.holds_tied_plain_at .later [] _ _ _ _ said (fun _ h => by cases h) (by kernel_rfl) (fun _ h => by cases h) macNested_row_tie rfl ⟨rfl, rfl⟩ (by kernel_rfl) rfl plain (by kernel_rfl)
#print axioms proved
end Go.Proofs.YtmdlhcelibciiaaDoor.macNested
