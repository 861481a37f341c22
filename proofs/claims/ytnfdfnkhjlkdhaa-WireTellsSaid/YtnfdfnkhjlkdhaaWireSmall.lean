/- The small case of layer 5. -/
import Derived.Test.YtnfdfnkhjlkdhaaWire9
namespace Go.Proofs.Ytnfdfnkhjlkdhaa
open Go.ChangeShapes Go.WideShapes Go.ChangeAt Go.RowKit
def sp1 : Pk := ⟨[1, 0, 0, 0, 0, 0, 0, 0, 0, 0, 258, 0], List.replicate 16 0, [0, 0, 0, 0, 0, 0, 0, 0]⟩
theorem sp1_wf : sp1.Wf := ⟨rfl, rfl, rfl⟩
def sp2 : Pk := ⟨[7, 1, 2, 4, 3, 0, 0, 0, 0, 0, 0, 0], List.replicate 16 0, [9, 8, 7, 0, 0, 0, 0, 0]⟩
theorem sp2_wf : sp2.Wf := ⟨rfl, rfl, rfl⟩
def sp3 : Pk := ⟨[1, 0, 1, 0, 0, 0, 0, 0, 0, 0, 1, 0], List.replicate 16 0, [0, 0, 0, 0, 0, 0, 0, 0]⟩
theorem sp3_wf : sp3.Wf := ⟨rfl, rfl, rfl⟩
def sp4 : Pk := ⟨[12, 0, 0, 0, 7, 0, 0, 0, 0, 0, 5, 0], List.replicate 16 0, [0, 0, 0, 0, 0, 0, 0, 0]⟩
theorem sp4_wf : sp4.Wf := ⟨rfl, rfl, rfl⟩
def sp8 : Pk := ⟨[8, 1, 1, 0, 0, 0, 1, 0, 0, 0, 0, 0], List.replicate 16 0, [0, 0, 0, 0, 0, 0, 0, 0]⟩
theorem sp8_wf : sp8.Wf := ⟨rfl, rfl, rfl⟩
theorem rng_of {p : Pk} (hp : p.Wf) (h : p.h.all (fun z => decide (-9223372036854775808 ≤ z) && decide (z ≤ 9223372036854775807)) = true) : p.Rng := fun i => by
  rcases Nat.lt_or_ge i p.h.length with hi | hi
  · have := List.all_eq_true.1 h _ (List.getElem_mem hi)
    simp only [Bool.and_eq_true, decide_eq_true_eq] at this
    simpa [List.getD, hi] using this
  · simp [List.getD, List.getElem?_eq_none hi]
theorem sp1_right : sp1.right = true := by kernel_rfl
theorem sp2_right : sp2.right = true := by kernel_rfl
theorem sp3_right : sp3.right = false := by kernel_rfl
theorem sp8_right : sp8.right = false := by kernel_rfl
theorem sp1_text : strOfNums sp1.enc = ⟨#[1, 0, 0, 1, 2]⟩ := by kernel_rfl
theorem sp2_text : strOfNums sp2.enc = ⟨#[7, 0, 0, 0, 1, 0, 0, 0, 2, 3, 4, 9, 8, 7, 0, 0, 0, 0, 0]⟩ := by kernel_rfl
theorem sp1_len : sp1.enc.length = 5 := by kernel_rfl
theorem sp2_len : sp2.enc.length = 19 := by kernel_rfl
theorem sp1_set : ((pcs pk0).set 0 (.int .i64 1)).set 10 (.int .i64 258) = pcs sp1 := by rfl
theorem sp2_set : (((((((((((((pcs pk0).set 0 (.int .i64 7)).set 1 (.int .i64 1)).set 2 (.int .i64 2)).set 4 (.int .i64 3)).set 3 (.int .i64 4)).set 28 (.int .u8 9)).set 29 (.int .u8 8)).set 30 (.int .u8 7)).set 31 (.int .u8 0)).set 32 (.int .u8 0)).set 33 (.int .u8 0)).set 34 (.int .u8 0)).set 35 (.int .u8 0) = pcs sp2 := by rfl
theorem up_8 {W W' : World} {o : Obj} (h : Below (W.alloc o).heap.size (W.alloc o) W') : Below W.heap.size W W' := ((Below.refl _ _).alloc (Nat.le_refl _) o).trans (h.mono (by simp))
theorem sp3_set : (((pcs pk0).set 0 (.int .i64 1)).set 10 (.int .i64 1)).set 2 (.int .i64 1) = pcs sp3 := by rfl
theorem sp4_set : (((pcs pk0).set 0 (.int .i64 12)).set 10 (.int .i64 5)).set 4 (.int .i64 7) = pcs sp4 := by rfl
theorem sp8_set : ((((pcs pk0).set 0 (.int .i64 8)).set 1 (.int .i64 1)).set 2 (.int .i64 1)).set 6 (.int .i64 1) = pcs sp8 := by rfl
theorem sd4 : decPk [12, 0, 0, 0, 5, 7] = sp4 := by kernel_rfl
theorem sd4' : decOk [12, 0, 0, 0, 5, 7] = true := by kernel_rfl
theorem sd5 : decOk [12, 0, 0, 0, 5, 16] = false := by kernel_rfl
theorem sd6 : decOk [12, 0, 0, 0, 5, 7, 0] = false := by kernel_rfl
theorem sd7 : decOk [] = false := by kernel_rfl
theorem decPk_bad {bs : List Int} (h : decOk bs = false) : decPk bs = pk0 := by simp [decPk, h]
theorem tagged_any (k : Int) (w : World) : Calls Try.prog 17 #[.int .i64 k] w fun e w' => e = .returned (.bool (decide (5 ≤ k) && decide (k ≤ 11))) ∧ w = w' := by
  have hc : k = 5 ∨ k = 6 ∨ k = 7 ∨ k = 8 ∨ k = 9 ∨ k = 10 ∨ k = 11 ∨ (k ≠ 5 ∧ k ≠ 6 ∧ k ≠ 7 ∧ k ≠ 8 ∧ k ≠ 9 ∧ k ≠ 10 ∧ k ≠ 11) := by omega
  rcases hc with rfl | rfl | rfl | rfl | rfl | rfl | rfl | ⟨h1, h2, h3, h4, h5, h6, h7⟩
  case inr.inr.inr.inr.inr.inr.inr =>
    have hd : (decide (5 ≤ k) && decide (k ≤ 11)) = false := by
      rw [← Bool.decide_and]; exact decide_eq_false (by omega)
    rw [hd]
    have b1 : (k == 5) = false := beq_eq_false_iff_ne.2 h1
    have b2 : (k == 6) = false := beq_eq_false_iff_ne.2 h2
    have b3 : (k == 7) = false := beq_eq_false_iff_ne.2 h3
    have b4 : (k == 8) = false := beq_eq_false_iff_ne.2 h4
    have b5 : (k == 9) = false := beq_eq_false_iff_ne.2 h5
    have b6 : (k == 10) = false := beq_eq_false_iff_ne.2 h6
    have b7 : (k == 11) = false := beq_eq_false_iff_ne.2 h7
    clear hd h1 h2 h3 h4 h5 h6 h7
    go_enter Try.func17, Try.ntmps17
    go_wp2
    go_ret
    exact ⟨rfl, rfl⟩
  all_goals
    go_enter Try.func17, Try.ntmps17
    go_wp2
    go_ret
    exact ⟨rfl, rfl⟩
set_option maxRecDepth 100000 in
set_option maxHeartbeats 2000000 in
theorem small_any (w : World) : Calls Try.prog 10 #[] w fun e w' => e = .returned (.bool true) ∧ Below w.heap.size w w' := by
  have zpk := zero_pk
  have e1 := sp1_set
  have e2 := sp2_set
  have e3 := sp3_set
  have e4 := sp4_set
  have e8 := sp8_set
  have pkn4 := fun W => pk_new sp4_wf W
  have pkn0 := fun W => pk_new pk0_wf W
  have L4 : (pcs sp4).length = 36 := pcs_len sp4_wf
  have L0 : (pcs pk0).length = 36 := pcs_len pk0_wf
  have EQ := fun W => eql_pk W sp4_wf sp4_wf
  rw [decide_eq_true rfl] at EQ
  go_enter Try.func10, Try.ntmps10
  go_wp2_with fail
  refine (enc_ok sp1 sp1_wf (rng_of sp1_wf (by kernel_rfl)) sp1_right _).mono ?_
  rintro e w1 ⟨A1, c1, rfl, hO1, B1⟩
  rw [sp1_len]
  have HO1 := Lib.hid hO1.nums
  clear hO1
  go_wp2_with fail
  refine (enc_ok sp2 sp2_wf (rng_of sp2_wf (by kernel_rfl)) sp2_right _).mono ?_
  rintro e w2 ⟨A2, c2, rfl, hO2, hB2⟩
  rw [sp2_len]
  have HO1 := Lib.hid (HO1.out.below hB2)
  have HO2 := Lib.hid hO2.nums
  have B2 := B1.trans (hB2.mono B1.size)
  clear hO2 hB2 B1
  go_wp2_with fail
  refine (enc_bad sp3 sp3_wf sp3_right _).mono ?_
  rintro e w3 ⟨rfl, hB3⟩
  have HO1 := Lib.hid (HO1.out.below hB3)
  have HO2 := Lib.hid (HO2.out.below hB3)
  have B3 := B2.trans (hB3.mono B2.size)
  clear hB3 B2
  go_wp2_with fail
  refine (dec_any [12, 0, 0, 0, 5, 7] (by decide) (by decide) _ _ 6 _ rfl (Nums.new _ _ _ _ _ rfl rfl) sp4 sd4 0 (by rw [sd4']; rfl)).mono ?_
  rintro e w4 ⟨rfl, hB4⟩
  have u4 := up_8 hB4
  have HO1 := Lib.hid (HO1.out.below u4)
  have HO2 := Lib.hid (HO2.out.below u4)
  have B4 := B3.trans (u4.mono B3.size)
  clear hB4 B3 u4
  go_upto_region 5 with (fail)
  have AN := (Below.refl w4.heap.size w4).alloc (Nat.le_refl _) (.cells (pcs sp4).toArray pkT)
  have R4 := row_new (W := w4) (cs := (pcs sp4).toArray) (t := pkT) (m := (0, 0))
  have HO1 := Lib.hid (HO1.out.below AN)
  have HO2 := Lib.hid (HO2.out.below AN)
  have B5 := B4.trans (AN.mono B4.size)
  generalize w4.alloc (.cells (pcs sp4).toArray pkT) = V at R4 HO1 HO2 B5 ⊢
  clear AN B4
  go_wp2_with fail
  refine (dec_any [12, 0, 0, 0, 5, 16] (by decide) (by decide) _ _ 6 _ rfl (Nums.new _ _ _ _ _ rfl rfl) pk0 (decPk_bad sd5) 2 (by rw [sd5]; rfl)).mono ?_
  rintro e w5 ⟨rfl, hB6⟩
  have u6 := up_8 hB6
  have HO1 := Lib.hid (HO1.out.below u6)
  have HO2 := Lib.hid (HO2.out.below u6)
  have R4 := row_kept R4 u6 (row_lt R4)
  have B6 := B5.trans (u6.mono B5.size)
  clear hB6 B5 u6
  go_upto_region 6 with (fail)
  have AN := (Below.refl w5.heap.size w5).alloc (Nat.le_refl _) (.cells (pcs pk0).toArray pkT)
  have R4 := row_kept R4 AN (row_lt R4)
  have HO1 := Lib.hid (HO1.out.below AN)
  have HO2 := Lib.hid (HO2.out.below AN)
  have B7 := B6.trans (AN.mono B6.size)
  generalize w5.alloc (.cells (pcs pk0).toArray pkT) = V2 at R4 HO1 HO2 B7 ⊢
  clear AN B6
  go_wp2_with fail
  refine (dec_any [12, 0, 0, 0, 5, 7, 0] (by decide) (by decide) _ _ 7 _ rfl (Nums.new _ _ _ _ _ rfl rfl) pk0 (decPk_bad sd6) 2 (by rw [sd6]; rfl)).mono ?_
  rintro e w6 ⟨rfl, hB8⟩
  have u8 := up_8 hB8
  have HO1 := Lib.hid (HO1.out.below u8)
  have HO2 := Lib.hid (HO2.out.below u8)
  have R4 := row_kept R4 u8 (row_lt R4)
  have B8 := B7.trans (u8.mono B7.size)
  clear hB8 B7 u8
  go_upto_region 7 with (fail)
  have AN := (Below.refl w6.heap.size w6).alloc (Nat.le_refl _) (.cells (pcs pk0).toArray pkT)
  have R4 := row_kept R4 AN (row_lt R4)
  have HO1 := Lib.hid (HO1.out.below AN)
  have HO2 := Lib.hid (HO2.out.below AN)
  have B9 := B8.trans (AN.mono B8.size)
  generalize w6.alloc (.cells (pcs pk0).toArray pkT) = V3 at R4 HO1 HO2 B9 ⊢
  clear AN B8
  go_wp2_with fail
  refine (dec_any [] (by decide) (by decide) _ _ 0 _ rfl Nums.nil pk0 (decPk_bad sd7) 2 (by rw [sd7]; rfl)).mono ?_
  rintro e w7 ⟨rfl, hB10⟩
  have HO1 := Lib.hid (HO1.out.below hB10)
  have HO2 := Lib.hid (HO2.out.below hB10)
  have R4 := row_kept R4 hB10 (row_lt R4)
  have B10 := B9.trans (hB10.mono B9.size)
  clear hB10 B9
  go_upto_region 8 with (fail)
  have AN := (Below.refl w7.heap.size w7).alloc (Nat.le_refl _) (.cells (pcs pk0).toArray pkT)
  have R4 := row_kept R4 AN (row_lt R4)
  have HO1 := Lib.hid (HO1.out.below AN)
  have HO2 := Lib.hid (HO2.out.below AN)
  have B11 := B10.trans (AN.mono B10.size)
  generalize w7.alloc (.cells (pcs pk0).toArray pkT) = V4 at R4 HO1 HO2 B11 ⊢
  clear AN B10
  have T1 : (convert 26 9 (.slice A1 5 c1)).run Try.prog V4 = .ok (.string ⟨#[1, 0, 0, 1, 2]⟩) V4 := by
    rw [← sp1_text]
    exact text_of_nums Try.underlying26 Try.underlying5 Try.underlying9 HO1.out sp1_len
  have T2 : (convert 26 9 (.slice A2 19 c2)).run Try.prog V4 = .ok (.string ⟨#[7, 0, 0, 0, 1, 0, 0, 0, 2, 3, 4, 9, 8, 7, 0, 0, 0, 0, 0]⟩) V4 := by
    rw [← sp2_text]
    exact text_of_nums Try.underlying26 Try.underlying5 Try.underlying9 HO2.out sp2_len
  clear HO1 HO2 pkn4 pkn0
  go_wp2_with (first
    | ((refine wpl_pk ?_ (.tmp 7) ?_ w4.heap.size sp4 sp4_wf ?_ R4 ?_); (rfl); (rfl); (rfl))
    | (go_at_call 17; refine (tagged_any _ _).mono ?_; rintro e w' ⟨rfl, rfl⟩)
    | (go_at_call 15; refine (wright_any sp8 sp8_wf _).mono ?_; rintro e w9 ⟨rfl, hB12⟩; rw [sp8_right]))
  go_ret
  exact ⟨rfl, B11.trans (hB12.mono B11.size)⟩
end Go.Proofs.Ytnfdfnkhjlkdhaa
