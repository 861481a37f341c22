/- The small case of layer 2. -/
import Derived.Test.YtlimcaajpoeoaaaDoorDigTo
namespace Go.Proofs.YtlimcaajpoeoaaaDoor
open Go.ChangeShapes Go.WideShapes Go.ChangeAt Go.RowKit
theorem text1 : strOfNums ((Sha.sha [97, 98, 99]).take 8) = ⟨#[186, 120, 22, 191, 143, 1, 207, 234]⟩ := by kernel_rfl
theorem text2 : strOfNums ((Sha.sha [97, 98, 99]).drop 28) = ⟨#[242, 0, 21, 173]⟩ := by kernel_rfl
theorem text3 : strOfNums ((Sha.sha []).take 4) = ⟨#[227, 176, 196, 66]⟩ := by kernel_rfl
set_option maxRecDepth 100000 in
set_option maxHeartbeats 1000000 in
theorem small_any (w : World) (ht : Kt w) :
    Calls Tryd.prog 6 #[] w fun e w' => e = .returned (.bool true) ∧ Below w.heap.size w w' := by
  have HT := Lib.hid ht
  have z0 := zero_b32'
  obtain ⟨r1, hr1⟩ : ∃ r, Sha.sha [97, 98, 99] = r := ⟨_, rfl⟩
  obtain ⟨r2, hr2⟩ : ∃ r, Sha.sha [] = r := ⟨_, rfl⟩
  have SN1 := sha_new r1 (by rw [← hr1]; exact sha_len _)
  have SN2 := sha_new r2 (by rw [← hr2]; exact sha_len _)
  have L1 : (nrow .u8 r1).length = 32 := by rw [nrow_len, ← hr1]; exact sha_len _
  have L2 : (nrow .u8 r2).length = 32 := by rw [nrow_len, ← hr2]; exact sha_len _
  have H1 := Lib.hid hr1
  have H2 := Lib.hid hr2
  clear hr1 hr2
  clear ht
  have m3 : ∀ W : World, (convert 22 22 (.slice (some ⟨W.heap.size, 0, none⟩) 3 3)).run Tryd.prog (W.alloc (.cells #[.int .u8 97, .int .u8 98, .int .u8 99] 5)) = .ok (.slice (some ⟨W.heap.size, 0, none⟩) 3 3) (W.alloc (.cells #[.int .u8 97, .int .u8 98, .int .u8 99] 5 (3, 4))) := fun W => mark_new Tryd.underlying22 Tryd.underlying5 W _ 3 rfl
  have m2 : ∀ W : World, (convert 22 22 (.slice (some ⟨W.heap.size, 0, none⟩) 2 2)).run Tryd.prog (W.alloc (.cells #[.int .u8 97, .int .u8 98] 5)) = .ok (.slice (some ⟨W.heap.size, 0, none⟩) 2 2) (W.alloc (.cells #[.int .u8 97, .int .u8 98] 5 (2, 3))) := fun W => mark_new Tryd.underlying22 Tryd.underlying5 W _ 2 rfl
  have m1 : ∀ W : World, (convert 22 22 (.slice (some ⟨W.heap.size, 0, none⟩) 1 1)).run Tryd.prog (W.alloc (.cells #[.int .u8 99] 5)) = .ok (.slice (some ⟨W.heap.size, 0, none⟩) 1 1) (W.alloc (.cells #[.int .u8 99] 5 (1, 2))) := fun W => mark_new Tryd.underlying22 Tryd.underlying5 W _ 1 rfl
  go_enter Tryd.func6, Tryd.ntmps6
  go_wp2_with fail
  have P1 := parts_one (t := 22) (cap := 3) (show w.heap.size + 1 = _ by simp) (nums_new_marked w [97, 98, 99] 5 #[.int .u8 97, .int .u8 98, .int .u8 99] _ (3, 4) rfl rfl) rfl (by decide) (by decide)
  have B1 : Below w.heap.size w _ := ((Below.refl w.heap.size w).alloc (Nat.le_refl _) (.cells #[.int .u8 97, .int .u8 98, .int .u8 99] 5 (3, 4))).alloc (by simp) (.cells #[.slice (some ⟨w.heap.size, 0, none⟩) 3 3] 22)
  have K1 := HT.out.keep B1 HT.out.2
  refine (sum_to _ _ 1 1 _ [97, 98, 99] r1 rfl H1.out rfl P1 (by decide) (by decide) (by decide) K1).mono ?_
  rintro e w1 ⟨rfl, hB1⟩
  have B2 := B1.trans (hB1.mono B1.size)
  clear hB1 P1 K1 B1
  have KA := HT.out.keep (B2.alloc B2.size (.cells (nrow .u8 r1).toArray b32T)) HT.out.2
  go_wp2_with fail
  refine (sum_to _ _ 0 0 [] [] r2 rfl H2.out rfl (parts_nil _ _) (by decide) (by decide) (by simp) KA).mono ?_
  rintro e w2 ⟨rfl, hB2⟩
  have RA := Lib.hid (row_kept (row_new (W := w1) (cs := (nrow .u8 r1).toArray) (t := b32T) (m := (0, 0))) hB2 (by simp))
  have B3 := (B2.alloc B2.size (.cells (nrow .u8 r1).toArray b32T)).trans (hB2.mono (by have := B2.size; simp; omega))
  clear hB2 KA
  go_upto_region 3 with (fail)
  have B4 := B3.alloc B3.size (.cells (nrow .u8 r2).toArray b32T)
  have RA' := row_kept RA.out ((Below.refl w2.heap.size w2).alloc (Nat.le_refl _) (.cells (nrow .u8 r2).toArray b32T)) (row_lt RA.out)
  have RB' := row_new (W := w2) (cs := (nrow .u8 r2).toArray) (t := b32T) (m := (0, 0))
  have hsz : (w2.alloc (.cells (nrow .u8 r2).toArray b32T)).heap.size = w2.heap.size + 1 := by simp
  have Hsz := Lib.hid hsz
  clear hsz
  generalize w2.alloc (.cells (nrow .u8 r2).toArray b32T) = V at RA' RB' B4 Hsz ⊢
  have hVA := row_lt RA'
  have hVB := row_lt RB'
  have B5 : Below V.heap.size V _ := (((Below.refl V.heap.size V).alloc (Nat.le_refl _) (.cells #[.int .u8 97, .int .u8 98] 5 (2, 3))).alloc (by simp) (.cells #[.int .u8 99] 5 (1, 2))).alloc (by simp; omega) (.cells #[.slice (some ⟨V.heap.size, 0, none⟩) 2 2, .slice none 0 0, .slice (some ⟨V.heap.size + 1, 0, none⟩) 1 1] 22)
  have P3 := parts_three (t := 22) (show V.heap.size + 1 + 1 = _ by simp) ((nums_new_marked V [97, 98] 5 #[.int .u8 97, .int .u8 98] _ (2, 3) rfl rfl).alloc (.cells #[.int .u8 99] 5 (1, 2))) rfl (Nat.le_refl 2) (by decide) (Nums.nil (A := none)) rfl (Nat.le_refl 0) (by decide) (nums_new_marked (V.alloc (.cells #[.int .u8 97, .int .u8 98] 5 (2, 3))) [99] 5 #[.int .u8 99] (V.heap.size + 1) (1, 2) (by simp) rfl) rfl (Nat.le_refl 1) (by decide)
  have K5 := HT.out.keep (B4.trans (B5.mono B4.size)) HT.out.2
  have m1' := m1 (V.alloc (.cells #[.int .u8 97, .int .u8 98] 5 (2, 3)))
  rw [show (V.alloc (.cells #[.int .u8 97, .int .u8 98] 5 (2, 3))).heap.size = V.heap.size + 1 by simp] at m1'
  clear B3 RA m1
  go_wp2_with fail
  refine (sum_to _ _ 3 3 _ [97, 98, 99] r1 rfl H1.out rfl P3 (by decide) (by decide) (by decide) K5).mono ?_
  rintro e w3 ⟨rfl, hB3⟩
  have B6 := (B4.trans (B5.mono B4.size)).trans (hB3.mono (by have := B4.size; simp; omega))
  have RA2 := row_kept (row_kept RA' B5 hVA) hB3 (by simp; omega)
  have RB2 := row_kept (row_kept RB' B5 hVB) hB3 (by simp; omega)
  clear hB3 B5 P3 K5 B4 RA' RB' m1' m2 m3
  go_upto_region 4 with (fail)
  have RA3 := row_kept RA2 ((Below.refl w3.heap.size w3).alloc (Nat.le_refl _) (.cells (nrow .u8 r1).toArray b32T)) (row_lt RA2)
  have RB3 := row_kept RB2 ((Below.refl w3.heap.size w3).alloc (Nat.le_refl _) (.cells (nrow .u8 r1).toArray b32T)) (row_lt RB2)
  have RC3 := row_new (W := w3) (cs := (nrow .u8 r1).toArray) (t := b32T) (m := (0, 0))
  have B7 := B6.alloc B6.size (.cells (nrow .u8 r1).toArray b32T)
  generalize w3.alloc (.cells (nrow .u8 r1).toArray b32T) = U at RA3 RB3 RC3 B7 ⊢
  clear RA2 RB2 B6 SN1 SN2
  have hr32 : r1.length = 32 := by rw [← H1.out]; exact sha_len _
  have hs32 : r2.length = 32 := by rw [← H2.out]; exact sha_len _
  have T1 : (convert 22 9 (.slice (some ⟨w1.heap.size, 0, none⟩) 8 32)).run Tryd.prog U = .ok (.string ⟨#[186, 120, 22, 191, 143, 1, 207, 234]⟩) U := by
    rw [← text1, H1.out]
    exact text_of_nums Tryd.underlying22 Tryd.underlying5 Tryd.underlying9 ((nums_row RA3).take 8) (by rw [List.length_take, hr32]; rfl)
  have T2 : (convert 22 9 (.slice (some ⟨w1.heap.size, 28, none⟩) 4 4)).run Tryd.prog U = .ok (.string ⟨#[242, 0, 21, 173]⟩) U := by
    rw [← text2, H1.out]
    exact text_of_nums Tryd.underlying22 Tryd.underlying5 Tryd.underlying9 ((nums_row RA3).drop 28 32 (by omega) (by omega)) (by rw [List.length_drop, hr32])
  have T3 : (convert 22 9 (.slice (some ⟨w2.heap.size, 0, none⟩) 4 32)).run Tryd.prog U = .ok (.string ⟨#[227, 176, 196, 66]⟩) U := by
    rw [← text3, H2.out]
    exact text_of_nums Tryd.underlying22 Tryd.underlying5 Tryd.underlying9 ((nums_row RB3).take 4) (by rw [List.length_take, hs32]; rfl)
  have E1 : (Op.equalIn 10000 b32T (.agg (nrow .u8 r1).toArray) (.agg (nrow .u8 r1).toArray)).run Tryd.prog U = .ok true U := by rw [eql_b32 U r1 r1 hr32 hr32, decide_eq_true rfl]
  clear hr32 hs32
  go_wp2_with (first
    | ((with_reducible refine wpl_arrw Tryd.underlying24 info_b32 ?_ (.tmp 1) ?_ w1.heap.size (nrow .u8 r1) L1 ?_ RA3 ?_); (rfl); (rfl); (rfl))
    | ((with_reducible refine wpl_arrw Tryd.underlying24 info_b32 ?_ (.tmp 3) ?_ w3.heap.size (nrow .u8 r1) L1 ?_ RC3 ?_); (rfl); (rfl); (rfl))
    )
  go_ret
  exact ⟨rfl, B7⟩
end Go.Proofs.YtlimcaajpoeoaaaDoor
