/- The small case of layer 3. -/
import Derived.Test.YtmdlhcelibciiaaDoorMac3
import Derived.Test.YtmdlhcelibciiaaDoorMacEq
namespace Go.Proofs.YtmdlhcelibciiaaDoor
open Go.ChangeShapes Go.WideShapes Go.ChangeAt Go.RowKit
theorem mtext1 : strOfNums ((Mac.hmac [74, 101, 102, 101] [119, 104, 97, 116, 32, 100, 111, 32, 121, 97, 32, 119, 97, 110, 116, 32, 102, 111, 114, 32, 110, 111, 116, 104, 105, 110, 103, 63]).take 8) = ⟨#[91, 220, 193, 70, 191, 96, 117, 78]⟩ := by kernel_rfl
theorem mtext2 : strOfNums ((Mac.hmac [] []).take 4) = ⟨#[182, 19, 103, 154]⟩ := by kernel_rfl
set_option maxRecDepth 100000 in
set_option maxHeartbeats 2000000 in
theorem small_any (w : World) (ht : Kt w) :
    Calls Tryd.prog 8 #[] w fun e w' => e = .returned (.bool true) ∧ Below w.heap.size w w' := by
  have HT := Lib.hid ht
  have z0 := zero_b32'
  obtain ⟨r1, hr1⟩ : ∃ r, Mac.hmac [74, 101, 102, 101] [119, 104, 97, 116, 32, 100, 111, 32, 121, 97, 32, 119, 97, 110, 116, 32, 102, 111, 114, 32, 110, 111, 116, 104, 105, 110, 103, 63] = r := ⟨_, rfl⟩
  have hl1 : r1.length = 32 := by rw [← hr1]; exact Mac.hmac_len _ _
  have SN1 := sha_new r1 hl1
  have L1 : (nrow .u8 r1).length = 32 := by rw [nrow_len]; exact hl1
  have H1 := Lib.hid hr1
  have Hl1 := Lib.hid hl1
  clear hr1 hl1
  obtain ⟨r2, hr2⟩ : ∃ r, Mac.hmac [] [] = r := ⟨_, rfl⟩
  have hl2 : r2.length = 32 := by rw [← hr2]; exact Mac.hmac_len _ _
  have SN2 := sha_new r2 hl2
  have L2 : (nrow .u8 r2).length = 32 := by rw [nrow_len]; exact hl2
  have H2 := Lib.hid hr2
  have Hl2 := Lib.hid hl2
  clear hr2 hl2
  have m1 : (convert 22 22 (.slice (some ⟨w.heap.size, 0, none⟩) 4 4)).run Tryd.prog (w.alloc (.cells #[.int .u8 74, .int .u8 101, .int .u8 102, .int .u8 101] 5)) = .ok (.slice (some ⟨w.heap.size, 0, none⟩) 4 4) (w.alloc (.cells #[.int .u8 74, .int .u8 101, .int .u8 102, .int .u8 101] 5 (4, 5))) := by
    have h := mark_new (P := Tryd.prog) Tryd.underlying22 Tryd.underlying5 w #[.int .u8 74, .int .u8 101, .int .u8 102, .int .u8 101] 4 rfl
    rwa [show w.heap.size = w.heap.size by simp] at h
  have m2 : (convert 22 22 (.slice (some ⟨w.heap.size + 1, 0, none⟩) 16 16)).run Tryd.prog ((w.alloc (.cells #[.int .u8 74, .int .u8 101, .int .u8 102, .int .u8 101] 5 (4, 5))).alloc (.cells #[.int .u8 119, .int .u8 104, .int .u8 97, .int .u8 116, .int .u8 32, .int .u8 100, .int .u8 111, .int .u8 32, .int .u8 121, .int .u8 97, .int .u8 32, .int .u8 119, .int .u8 97, .int .u8 110, .int .u8 116, .int .u8 32] 5)) = .ok (.slice (some ⟨w.heap.size + 1, 0, none⟩) 16 16) ((w.alloc (.cells #[.int .u8 74, .int .u8 101, .int .u8 102, .int .u8 101] 5 (4, 5))).alloc (.cells #[.int .u8 119, .int .u8 104, .int .u8 97, .int .u8 116, .int .u8 32, .int .u8 100, .int .u8 111, .int .u8 32, .int .u8 121, .int .u8 97, .int .u8 32, .int .u8 119, .int .u8 97, .int .u8 110, .int .u8 116, .int .u8 32] 5 (16, 17))) := by
    have h := mark_new (P := Tryd.prog) Tryd.underlying22 Tryd.underlying5 (w.alloc (.cells #[.int .u8 74, .int .u8 101, .int .u8 102, .int .u8 101] 5 (4, 5))) #[.int .u8 119, .int .u8 104, .int .u8 97, .int .u8 116, .int .u8 32, .int .u8 100, .int .u8 111, .int .u8 32, .int .u8 121, .int .u8 97, .int .u8 32, .int .u8 119, .int .u8 97, .int .u8 110, .int .u8 116, .int .u8 32] 16 rfl
    rwa [show (w.alloc (.cells #[.int .u8 74, .int .u8 101, .int .u8 102, .int .u8 101] 5 (4, 5))).heap.size = w.heap.size + 1 by simp] at h
  have m3 : (convert 22 22 (.slice (some ⟨w.heap.size + 1 + 1, 0, none⟩) 12 12)).run Tryd.prog (((w.alloc (.cells #[.int .u8 74, .int .u8 101, .int .u8 102, .int .u8 101] 5 (4, 5))).alloc (.cells #[.int .u8 119, .int .u8 104, .int .u8 97, .int .u8 116, .int .u8 32, .int .u8 100, .int .u8 111, .int .u8 32, .int .u8 121, .int .u8 97, .int .u8 32, .int .u8 119, .int .u8 97, .int .u8 110, .int .u8 116, .int .u8 32] 5 (16, 17))).alloc (.cells #[.int .u8 102, .int .u8 111, .int .u8 114, .int .u8 32, .int .u8 110, .int .u8 111, .int .u8 116, .int .u8 104, .int .u8 105, .int .u8 110, .int .u8 103, .int .u8 63] 5)) = .ok (.slice (some ⟨w.heap.size + 1 + 1, 0, none⟩) 12 12) (((w.alloc (.cells #[.int .u8 74, .int .u8 101, .int .u8 102, .int .u8 101] 5 (4, 5))).alloc (.cells #[.int .u8 119, .int .u8 104, .int .u8 97, .int .u8 116, .int .u8 32, .int .u8 100, .int .u8 111, .int .u8 32, .int .u8 121, .int .u8 97, .int .u8 32, .int .u8 119, .int .u8 97, .int .u8 110, .int .u8 116, .int .u8 32] 5 (16, 17))).alloc (.cells #[.int .u8 102, .int .u8 111, .int .u8 114, .int .u8 32, .int .u8 110, .int .u8 111, .int .u8 116, .int .u8 104, .int .u8 105, .int .u8 110, .int .u8 103, .int .u8 63] 5 (12, 13))) := by
    have h := mark_new (P := Tryd.prog) Tryd.underlying22 Tryd.underlying5 ((w.alloc (.cells #[.int .u8 74, .int .u8 101, .int .u8 102, .int .u8 101] 5 (4, 5))).alloc (.cells #[.int .u8 119, .int .u8 104, .int .u8 97, .int .u8 116, .int .u8 32, .int .u8 100, .int .u8 111, .int .u8 32, .int .u8 121, .int .u8 97, .int .u8 32, .int .u8 119, .int .u8 97, .int .u8 110, .int .u8 116, .int .u8 32] 5 (16, 17))) #[.int .u8 102, .int .u8 111, .int .u8 114, .int .u8 32, .int .u8 110, .int .u8 111, .int .u8 116, .int .u8 104, .int .u8 105, .int .u8 110, .int .u8 103, .int .u8 63] 12 rfl
    rwa [show ((w.alloc (.cells #[.int .u8 74, .int .u8 101, .int .u8 102, .int .u8 101] 5 (4, 5))).alloc (.cells #[.int .u8 119, .int .u8 104, .int .u8 97, .int .u8 116, .int .u8 32, .int .u8 100, .int .u8 111, .int .u8 32, .int .u8 121, .int .u8 97, .int .u8 32, .int .u8 119, .int .u8 97, .int .u8 110, .int .u8 116, .int .u8 32] 5 (16, 17))).heap.size = w.heap.size + 1 + 1 by simp] at h
  have NJ := ((((nums_new_marked w [74, 101, 102, 101] 5 #[.int .u8 74, .int .u8 101, .int .u8 102, .int .u8 101] (w.heap.size) (4, 5) (by simp) rfl).alloc (.cells #[.int .u8 119, .int .u8 104, .int .u8 97, .int .u8 116, .int .u8 32, .int .u8 100, .int .u8 111, .int .u8 32, .int .u8 121, .int .u8 97, .int .u8 32, .int .u8 119, .int .u8 97, .int .u8 110, .int .u8 116, .int .u8 32] 5 (16, 17))).alloc (.cells #[.int .u8 102, .int .u8 111, .int .u8 114, .int .u8 32, .int .u8 110, .int .u8 111, .int .u8 116, .int .u8 104, .int .u8 105, .int .u8 110, .int .u8 103, .int .u8 63] 5 (12, 13))).alloc (.cells #[.slice (some ⟨w.heap.size + 1, 0, none⟩) 16 16, .slice (some ⟨w.heap.size + 1 + 1, 0, none⟩) 12 12] 22))
  have N1 := ((nums_new_marked (w.alloc (.cells #[.int .u8 74, .int .u8 101, .int .u8 102, .int .u8 101] 5 (4, 5))) [119, 104, 97, 116, 32, 100, 111, 32, 121, 97, 32, 119, 97, 110, 116, 32] 5 #[.int .u8 119, .int .u8 104, .int .u8 97, .int .u8 116, .int .u8 32, .int .u8 100, .int .u8 111, .int .u8 32, .int .u8 121, .int .u8 97, .int .u8 32, .int .u8 119, .int .u8 97, .int .u8 110, .int .u8 116, .int .u8 32] (w.heap.size + 1) (16, 17) (by simp) rfl).alloc (.cells #[.int .u8 102, .int .u8 111, .int .u8 114, .int .u8 32, .int .u8 110, .int .u8 111, .int .u8 116, .int .u8 104, .int .u8 105, .int .u8 110, .int .u8 103, .int .u8 63] 5 (12, 13)))
  have N2 := (nums_new_marked ((w.alloc (.cells #[.int .u8 74, .int .u8 101, .int .u8 102, .int .u8 101] 5 (4, 5))).alloc (.cells #[.int .u8 119, .int .u8 104, .int .u8 97, .int .u8 116, .int .u8 32, .int .u8 100, .int .u8 111, .int .u8 32, .int .u8 121, .int .u8 97, .int .u8 32, .int .u8 119, .int .u8 97, .int .u8 110, .int .u8 116, .int .u8 32] 5 (16, 17))) [102, 111, 114, 32, 110, 111, 116, 104, 105, 110, 103, 63] 5 #[.int .u8 102, .int .u8 111, .int .u8 114, .int .u8 32, .int .u8 110, .int .u8 111, .int .u8 116, .int .u8 104, .int .u8 105, .int .u8 110, .int .u8 103, .int .u8 63] (w.heap.size + 1 + 1) (12, 13) (by simp) rfl)
  have P1 := parts_two (t := 22) (g := w.heap.size + 1 + 1 + 1) (ca := 16) (cb := 12) (by simp) N1 rfl (Nat.le_refl 16) (by decide) N2 rfl (Nat.le_refl 12) (by decide)
  have B1 : Below w.heap.size w ((((w.alloc (.cells #[.int .u8 74, .int .u8 101, .int .u8 102, .int .u8 101] 5 (4, 5))).alloc (.cells #[.int .u8 119, .int .u8 104, .int .u8 97, .int .u8 116, .int .u8 32, .int .u8 100, .int .u8 111, .int .u8 32, .int .u8 121, .int .u8 97, .int .u8 32, .int .u8 119, .int .u8 97, .int .u8 110, .int .u8 116, .int .u8 32] 5 (16, 17))).alloc (.cells #[.int .u8 102, .int .u8 111, .int .u8 114, .int .u8 32, .int .u8 110, .int .u8 111, .int .u8 116, .int .u8 104, .int .u8 105, .int .u8 110, .int .u8 103, .int .u8 63] 5 (12, 13))).alloc (.cells #[.slice (some ⟨w.heap.size + 1, 0, none⟩) 16 16, .slice (some ⟨w.heap.size + 1 + 1, 0, none⟩) 12 12] 22)) := ((((Below.refl w.heap.size w).alloc (Nat.le_refl _) _).alloc (by simp) _).alloc (by simp; omega) _).alloc (by simp; omega) _
  have K1 := HT.out.keep B1 HT.out.2
  have F := Lib.hid (And.intro NJ (And.intro P1 (And.intro B1 K1)))
  clear NJ N1 N2 P1 B1 K1
  go_enter Tryd.func8, Tryd.ntmps8
  go_wp2_with fail
  refine (of_any _ _ 4 4 [74, 101, 102, 101] rfl F.out.1 (Nat.le_refl 4) (by decide) (by decide) (by decide) _ 2 2 _ [119, 104, 97, 116, 32, 100, 111, 32, 121, 97, 32, 119, 97, 110, 116, 32, 102, 111, 114, 32, 110, 111, 116, 104, 105, 110, 103, 63] r1 rfl H1.out rfl (Nat.le_refl 2) (by decide) F.out.2.1 (by decide) (by decide) (by decide) F.out.2.2.2).mono ?_
  rintro e v1 ⟨rfl, hB1⟩
  have B2 := F.out.2.2.1.trans (hB1.mono F.out.2.2.1.size)
  clear hB1 F m1 m2 m3
  go_upto_region 2 with (fail)
  have RA := row_new (W := v1) (cs := (nrow .u8 r1).toArray) (t := b32T) (m := (0, 0))
  have B3 := B2.alloc B2.size (.cells (nrow .u8 r1).toArray b32T)
  have hVA : v1.heap.size < (v1.alloc (.cells (nrow .u8 r1).toArray b32T)).heap.size := by simp
  generalize v1.alloc (.cells (nrow .u8 r1).toArray b32T) = V at RA B3 hVA ⊢
  have RA := Lib.hid RA
  clear B2 SN1
  go_wp2_with fail
  refine (of_any V _ 0 0 [] rfl Nums.nil (Nat.le_refl 0) (by decide) (by decide) (by simp) _ 0 0 [] [] r2 rfl H2.out rfl (Nat.le_refl 0) (by decide) (parts_nil _ _) (by decide) (by decide) (by simp) (HT.out.keep B3 HT.out.2)).mono ?_
  rintro e v2 ⟨rfl, hB2⟩
  have RA := row_kept RA.out hB2 hVA
  have B4 := B3.trans (hB2.mono B3.size)
  clear hB2 B3
  go_upto_region 3 with (fail)
  have AN := (Below.refl v2.heap.size v2).alloc (Nat.le_refl _) (.cells (nrow .u8 r2).toArray b32T)
  have RA := row_kept RA AN (row_lt RA)
  have RB := row_new (W := v2) (cs := (nrow .u8 r2).toArray) (t := b32T) (m := (0, 0))
  have B5 := B4.trans (AN.mono B4.size)
  generalize v2.alloc (.cells (nrow .u8 r2).toArray b32T) = W at RA RB B5 ⊢
  clear AN B4 SN2
  have T1 : (convert 22 9 (.slice (some ⟨v1.heap.size, 0, none⟩) 8 32)).run Tryd.prog W = .ok (.string ⟨#[91, 220, 193, 70, 191, 96, 117, 78]⟩) W := by
    rw [← mtext1, H1.out]
    exact text_of_nums Tryd.underlying22 Tryd.underlying5 Tryd.underlying9 ((nums_row RA).take 8) (by rw [List.length_take, Hl1.out]; rfl)
  have T2 : (convert 22 9 (.slice (some ⟨v2.heap.size, 0, none⟩) 4 32)).run Tryd.prog W = .ok (.string ⟨#[182, 19, 103, 154]⟩) W := by
    rw [← mtext2, H2.out]
    exact text_of_nums Tryd.underlying22 Tryd.underlying5 Tryd.underlying9 ((nums_row RB).take 4) (by rw [List.length_take, Hl2.out]; rfl)
  clear RA RB
  have c0 : (convert 22 22 (.slice (some ⟨W.heap.size, 0, none⟩) 2 2)).run Tryd.prog (W.alloc (.cells #[.int .u8 97, .int .u8 98] 5)) = .ok (.slice (some ⟨W.heap.size, 0, none⟩) 2 2) (W.alloc (.cells #[.int .u8 97, .int .u8 98] 5 (2, 3))) := by
    have h := mark_new (P := Tryd.prog) Tryd.underlying22 Tryd.underlying5 W #[.int .u8 97, .int .u8 98] 2 rfl
    rwa [show W.heap.size = W.heap.size by simp] at h
  have c1 : (convert 22 22 (.slice (some ⟨W.heap.size + 1, 0, none⟩) 2 2)).run Tryd.prog ((W.alloc (.cells #[.int .u8 97, .int .u8 98] 5 (2, 3))).alloc (.cells #[.int .u8 97, .int .u8 98] 5)) = .ok (.slice (some ⟨W.heap.size + 1, 0, none⟩) 2 2) ((W.alloc (.cells #[.int .u8 97, .int .u8 98] 5 (2, 3))).alloc (.cells #[.int .u8 97, .int .u8 98] 5 (2, 3))) := by
    have h := mark_new (P := Tryd.prog) Tryd.underlying22 Tryd.underlying5 (W.alloc (.cells #[.int .u8 97, .int .u8 98] 5 (2, 3))) #[.int .u8 97, .int .u8 98] 2 rfl
    rwa [show (W.alloc (.cells #[.int .u8 97, .int .u8 98] 5 (2, 3))).heap.size = W.heap.size + 1 by simp] at h
  have c2 : (convert 22 22 (.slice (some ⟨W.heap.size + 1 + 1, 0, none⟩) 2 2)).run Tryd.prog (((W.alloc (.cells #[.int .u8 97, .int .u8 98] 5 (2, 3))).alloc (.cells #[.int .u8 97, .int .u8 98] 5 (2, 3))).alloc (.cells #[.int .u8 97, .int .u8 98] 5)) = .ok (.slice (some ⟨W.heap.size + 1 + 1, 0, none⟩) 2 2) (((W.alloc (.cells #[.int .u8 97, .int .u8 98] 5 (2, 3))).alloc (.cells #[.int .u8 97, .int .u8 98] 5 (2, 3))).alloc (.cells #[.int .u8 97, .int .u8 98] 5 (2, 3))) := by
    have h := mark_new (P := Tryd.prog) Tryd.underlying22 Tryd.underlying5 ((W.alloc (.cells #[.int .u8 97, .int .u8 98] 5 (2, 3))).alloc (.cells #[.int .u8 97, .int .u8 98] 5 (2, 3))) #[.int .u8 97, .int .u8 98] 2 rfl
    rwa [show ((W.alloc (.cells #[.int .u8 97, .int .u8 98] 5 (2, 3))).alloc (.cells #[.int .u8 97, .int .u8 98] 5 (2, 3))).heap.size = W.heap.size + 1 + 1 by simp] at h
  have c3 : (convert 22 22 (.slice (some ⟨W.heap.size + 1 + 1 + 1, 0, none⟩) 2 2)).run Tryd.prog ((((W.alloc (.cells #[.int .u8 97, .int .u8 98] 5 (2, 3))).alloc (.cells #[.int .u8 97, .int .u8 98] 5 (2, 3))).alloc (.cells #[.int .u8 97, .int .u8 98] 5 (2, 3))).alloc (.cells #[.int .u8 97, .int .u8 99] 5)) = .ok (.slice (some ⟨W.heap.size + 1 + 1 + 1, 0, none⟩) 2 2) ((((W.alloc (.cells #[.int .u8 97, .int .u8 98] 5 (2, 3))).alloc (.cells #[.int .u8 97, .int .u8 98] 5 (2, 3))).alloc (.cells #[.int .u8 97, .int .u8 98] 5 (2, 3))).alloc (.cells #[.int .u8 97, .int .u8 99] 5 (2, 3))) := by
    have h := mark_new (P := Tryd.prog) Tryd.underlying22 Tryd.underlying5 (((W.alloc (.cells #[.int .u8 97, .int .u8 98] 5 (2, 3))).alloc (.cells #[.int .u8 97, .int .u8 98] 5 (2, 3))).alloc (.cells #[.int .u8 97, .int .u8 98] 5 (2, 3))) #[.int .u8 97, .int .u8 99] 2 rfl
    rwa [show (((W.alloc (.cells #[.int .u8 97, .int .u8 98] 5 (2, 3))).alloc (.cells #[.int .u8 97, .int .u8 98] 5 (2, 3))).alloc (.cells #[.int .u8 97, .int .u8 98] 5 (2, 3))).heap.size = W.heap.size + 1 + 1 + 1 by simp] at h
  have c4 : (convert 22 22 (.slice (some ⟨W.heap.size + 1 + 1 + 1 + 1, 0, none⟩) 2 2)).run Tryd.prog (((((W.alloc (.cells #[.int .u8 97, .int .u8 98] 5 (2, 3))).alloc (.cells #[.int .u8 97, .int .u8 98] 5 (2, 3))).alloc (.cells #[.int .u8 97, .int .u8 98] 5 (2, 3))).alloc (.cells #[.int .u8 97, .int .u8 99] 5 (2, 3))).alloc (.cells #[.int .u8 97, .int .u8 98] 5)) = .ok (.slice (some ⟨W.heap.size + 1 + 1 + 1 + 1, 0, none⟩) 2 2) (((((W.alloc (.cells #[.int .u8 97, .int .u8 98] 5 (2, 3))).alloc (.cells #[.int .u8 97, .int .u8 98] 5 (2, 3))).alloc (.cells #[.int .u8 97, .int .u8 98] 5 (2, 3))).alloc (.cells #[.int .u8 97, .int .u8 99] 5 (2, 3))).alloc (.cells #[.int .u8 97, .int .u8 98] 5 (2, 3))) := by
    have h := mark_new (P := Tryd.prog) Tryd.underlying22 Tryd.underlying5 ((((W.alloc (.cells #[.int .u8 97, .int .u8 98] 5 (2, 3))).alloc (.cells #[.int .u8 97, .int .u8 98] 5 (2, 3))).alloc (.cells #[.int .u8 97, .int .u8 98] 5 (2, 3))).alloc (.cells #[.int .u8 97, .int .u8 99] 5 (2, 3))) #[.int .u8 97, .int .u8 98] 2 rfl
    rwa [show ((((W.alloc (.cells #[.int .u8 97, .int .u8 98] 5 (2, 3))).alloc (.cells #[.int .u8 97, .int .u8 98] 5 (2, 3))).alloc (.cells #[.int .u8 97, .int .u8 98] 5 (2, 3))).alloc (.cells #[.int .u8 97, .int .u8 99] 5 (2, 3))).heap.size = W.heap.size + 1 + 1 + 1 + 1 by simp] at h
  have c5 : (convert 22 22 (.slice (some ⟨W.heap.size + 1 + 1 + 1 + 1 + 1, 0, none⟩) 1 1)).run Tryd.prog ((((((W.alloc (.cells #[.int .u8 97, .int .u8 98] 5 (2, 3))).alloc (.cells #[.int .u8 97, .int .u8 98] 5 (2, 3))).alloc (.cells #[.int .u8 97, .int .u8 98] 5 (2, 3))).alloc (.cells #[.int .u8 97, .int .u8 99] 5 (2, 3))).alloc (.cells #[.int .u8 97, .int .u8 98] 5 (2, 3))).alloc (.cells #[.int .u8 97] 5)) = .ok (.slice (some ⟨W.heap.size + 1 + 1 + 1 + 1 + 1, 0, none⟩) 1 1) ((((((W.alloc (.cells #[.int .u8 97, .int .u8 98] 5 (2, 3))).alloc (.cells #[.int .u8 97, .int .u8 98] 5 (2, 3))).alloc (.cells #[.int .u8 97, .int .u8 98] 5 (2, 3))).alloc (.cells #[.int .u8 97, .int .u8 99] 5 (2, 3))).alloc (.cells #[.int .u8 97, .int .u8 98] 5 (2, 3))).alloc (.cells #[.int .u8 97] 5 (1, 2))) := by
    have h := mark_new (P := Tryd.prog) Tryd.underlying22 Tryd.underlying5 (((((W.alloc (.cells #[.int .u8 97, .int .u8 98] 5 (2, 3))).alloc (.cells #[.int .u8 97, .int .u8 98] 5 (2, 3))).alloc (.cells #[.int .u8 97, .int .u8 98] 5 (2, 3))).alloc (.cells #[.int .u8 97, .int .u8 99] 5 (2, 3))).alloc (.cells #[.int .u8 97, .int .u8 98] 5 (2, 3))) #[.int .u8 97] 1 rfl
    rwa [show (((((W.alloc (.cells #[.int .u8 97, .int .u8 98] 5 (2, 3))).alloc (.cells #[.int .u8 97, .int .u8 98] 5 (2, 3))).alloc (.cells #[.int .u8 97, .int .u8 98] 5 (2, 3))).alloc (.cells #[.int .u8 97, .int .u8 99] 5 (2, 3))).alloc (.cells #[.int .u8 97, .int .u8 98] 5 (2, 3))).heap.size = W.heap.size + 1 + 1 + 1 + 1 + 1 by simp] at h
  have NA0 := ((nums_new_marked W [97, 98] 5 #[.int .u8 97, .int .u8 98] (W.heap.size) (2, 3) (by simp) rfl).alloc (.cells #[.int .u8 97, .int .u8 98] 5 (2, 3)))
  have NB0 := (nums_new_marked (W.alloc (.cells #[.int .u8 97, .int .u8 98] 5 (2, 3))) [97, 98] 5 #[.int .u8 97, .int .u8 98] (W.heap.size + 1) (2, 3) (by simp) rfl)
  have NA1 := ((nums_new_marked ((W.alloc (.cells #[.int .u8 97, .int .u8 98] 5 (2, 3))).alloc (.cells #[.int .u8 97, .int .u8 98] 5 (2, 3))) [97, 98] 5 #[.int .u8 97, .int .u8 98] (W.heap.size + 1 + 1) (2, 3) (by simp) rfl).alloc (.cells #[.int .u8 97, .int .u8 99] 5 (2, 3)))
  have NB1 := (nums_new_marked (((W.alloc (.cells #[.int .u8 97, .int .u8 98] 5 (2, 3))).alloc (.cells #[.int .u8 97, .int .u8 98] 5 (2, 3))).alloc (.cells #[.int .u8 97, .int .u8 98] 5 (2, 3))) [97, 99] 5 #[.int .u8 97, .int .u8 99] (W.heap.size + 1 + 1 + 1) (2, 3) (by simp) rfl)
  have NA2 := ((nums_new_marked ((((W.alloc (.cells #[.int .u8 97, .int .u8 98] 5 (2, 3))).alloc (.cells #[.int .u8 97, .int .u8 98] 5 (2, 3))).alloc (.cells #[.int .u8 97, .int .u8 98] 5 (2, 3))).alloc (.cells #[.int .u8 97, .int .u8 99] 5 (2, 3))) [97, 98] 5 #[.int .u8 97, .int .u8 98] (W.heap.size + 1 + 1 + 1 + 1) (2, 3) (by simp) rfl).alloc (.cells #[.int .u8 97] 5 (1, 2)))
  have NB2 := (nums_new_marked (((((W.alloc (.cells #[.int .u8 97, .int .u8 98] 5 (2, 3))).alloc (.cells #[.int .u8 97, .int .u8 98] 5 (2, 3))).alloc (.cells #[.int .u8 97, .int .u8 98] 5 (2, 3))).alloc (.cells #[.int .u8 97, .int .u8 99] 5 (2, 3))).alloc (.cells #[.int .u8 97, .int .u8 98] 5 (2, 3))) [97] 5 #[.int .u8 97] (W.heap.size + 1 + 1 + 1 + 1 + 1) (1, 2) (by simp) rfl)
  have FF := Lib.hid (And.intro NA0 (And.intro NB0 (And.intro NA1 (And.intro NB1 (And.intro NA2 NB2)))))
  clear NA0 NB0 NA1 NB1 NA2 NB2
  go_wp2_with fail
  refine (equal_any _ _ _ 2 2 _ _ [97, 98] [97, 98] rfl rfl FF.out.1 FF.out.2.1 (by decide) (by decide) true rfl).mono ?_
  rintro e w' ⟨rfl, rfl⟩
  go_wp2_with fail
  refine (equal_any _ _ _ 2 2 _ _ [97, 98] [97, 99] rfl rfl FF.out.2.2.1 FF.out.2.2.2.1 (by decide) (by decide) false rfl).mono ?_
  rintro e w' ⟨rfl, rfl⟩
  go_wp2_with fail
  refine (equal_any _ _ _ 2 1 _ _ [97, 98] [97] rfl rfl FF.out.2.2.2.2.1 FF.out.2.2.2.2.2 (by decide) (by decide) false rfl).mono ?_
  rintro e w' ⟨rfl, rfl⟩
  go_wp2_with fail
  refine (equal_any _ _ _ 0 0 _ _ [] [] rfl rfl Nums.nil Nums.nil (by simp) (by simp) true rfl).mono ?_
  rintro e w' ⟨rfl, rfl⟩
  go_wp2
  go_ret
  refine ⟨rfl, B5.trans ?_⟩
  exact ((((((((Below.refl W.heap.size W).alloc (Nat.le_refl _) _).alloc (by simp) _).alloc (by simp; omega) _).alloc (by simp; omega) _).alloc (by simp; omega) _).alloc (by simp; omega) _).alloc (by simp; omega) _).mono B5.size
end Go.Proofs.YtmdlhcelibciiaaDoor
