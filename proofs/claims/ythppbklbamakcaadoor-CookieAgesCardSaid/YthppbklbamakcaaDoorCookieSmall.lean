/- Cookies: the small case. -/
import Derived.Test.YthppbklbamakcaaDoorCookieRef3
namespace Go.Proofs.YthppbklbamakcaaDoor
open Go.ChangeShapes Go.WideShapes Go.ChangeAt Go.RowKit
abbrev sec : List Int := [115, 101, 99, 114, 101, 116]
abbrev secO : Obj := .cells #[.int .u8 115, .int .u8 101, .int .u8 99, .int .u8 114, .int .u8 101, .int .u8 116] 5 (6, 7)
theorem ck_small : decide (z16 = ck sec 1 2 5) = false := by kernel_rfl
set_option maxRecDepth 100000 in
set_option maxHeartbeats 2000000 in
theorem small_any (w : World) (ht : Kt w) :
    Calls Tryd.prog 8 #[] w fun e w' => e = .returned (.bool true) ∧ Below w.heap.size w w' := by
  have HT := Lib.hid ht
  have m1 : (convert 22 22 (.slice (some ⟨w.heap.size, 0, none⟩) 6 6)).run Tryd.prog (w.alloc (.cells #[.int .u8 115, .int .u8 101, .int .u8 99, .int .u8 114, .int .u8 101, .int .u8 116] 5)) = .ok (.slice (some ⟨w.heap.size, 0, none⟩) 6 6) (w.alloc secO) :=
    mark_new (P := Tryd.prog) Tryd.underlying22 Tryd.underlying5 w #[.int .u8 115, .int .u8 101, .int .u8 99, .int .u8 114, .int .u8 101, .int .u8 116] 6 rfl
  have NJ := Lib.hid (nums_new_marked w sec 5 #[.int .u8 115, .int .u8 101, .int .u8 99, .int .u8 114, .int .u8 101, .int .u8 116] w.heap.size (6, 7) rfl rfl)
  have B1 : Below w.heap.size w (w.alloc secO) := (Below.refl _ _).alloc (Nat.le_refl _) _
  have K1 := HT.out.keep B1 HT.out.2
  obtain ⟨c, hc⟩ : ∃ c, ck sec 1 2 5 = c := ⟨_, rfl⟩
  have hc16 : c.length = 16 := by rw [← hc]; exact ck_len _ _ _ _
  have CN := c16_new c hc16
  have z1 := zero_b16
  have L0 : (nrow .u8 c).length = 16 := by rw [nrow_len]; exact hc16
  have hz : decide (z16 = c) = false := by rw [← hc]; exact ck_small
  have Hc := Lib.hid hc
  have Hc16 := Lib.hid hc16
  have Hz := Lib.hid hz
  have EQ := fun W => eql_b16 W c c hc16 hc16
  rw [decide_eq_true rfl] at EQ
  clear hc hc16 hz
  go_enter Tryd.func8, Tryd.ntmps8
  go_wp2_with fail
  refine (mint_any _ _ 6 6 sec rfl NJ.out (Nat.le_refl 6) (by decide) (by decide) (by decide) 1 2 5 (by decide) (by decide) (by decide) c Hc.out K1).mono ?_
  rintro x v1 ⟨rfl, hB1⟩
  have N1 := NJ.out.below hB1
  have B2 := B1.trans (hB1.mono B1.size)
  clear hB1 K1 B1 NJ m1
  go_upto_region 3 with (fail)
  have AN := (Below.refl v1.heap.size v1).alloc (Nat.le_refl _) (.cells (nrow .u8 c).toArray b16T)
  have RA := row_new (W := v1) (cs := (nrow .u8 c).toArray) (t := b16T) (m := (0, 0))
  have N2 := N1.below AN
  have B3 := B2.trans (AN.mono B2.size)
  generalize v1.alloc (.cells (nrow .u8 c).toArray b16T) = V at RA N2 B3 ⊢
  have HU := Lib.hid (show ∀ u : Over V.heap.size V, u.val.heap[v1.heap.size]? = some (.cells (nrow .u8 c).toArray b16T) from fun u => row_kept RA u.below (row_lt RA))
  have HB := Lib.hid (show ∀ u : Over V.heap.size V, Below w.heap.size w u.val from fun u => B3.trans (u.below.mono B3.size))
  have CK := fun (u : Over V.heap.size V) (e now : Int) (we : -9223372036854775808 ≤ e ∧ e ≤ 9223372036854775807) (wn : -9223372036854775808 ≤ now ∧ now ≤ 9223372036854775807) (x : List Int) (hx : x.length = 16) (er : Int) (her : ckErr e now (decide (x = ck sec 1 2 e)) = er) =>
    check_any u.val (some ⟨w.heap.size, 0, none⟩) 6 6 sec rfl (N2.below u.below) (Nat.le_refl 6) (by decide) (by decide) (by decide) 1 2 e now (by decide) (by decide) we wn x hx _ rfl er her (HT.out.keep (HB.out u) HT.out.2)
  have C1 := Lib.hid (fun u => CK u 5 5 (by decide) (by decide) c Hc16.out 0 (by rw [Hc.out, decide_eq_true rfl]; rfl))
  have C2 := Lib.hid (fun u => CK u 5 6 (by decide) (by decide) c Hc16.out 0 (by rw [Hc.out, decide_eq_true rfl]; rfl))
  have C3 := Lib.hid (fun u => CK u 5 7 (by decide) (by decide) c Hc16.out 4 (by rw [Hc.out, decide_eq_true rfl]; rfl))
  have C4 := Lib.hid (fun u => CK u 5 4 (by decide) (by decide) c Hc16.out 4 (by rw [Hc.out, decide_eq_true rfl]; rfl))
  have C5 := Lib.hid (fun u => CK u 5 5 (by decide) (by decide) z16 rfl 3 (by rw [Hc.out, Hz.out]; rfl))
  have C6 := Lib.hid (fun u => CK u (-1) 0 (by decide) (by decide) c Hc16.out 4 rfl)
  have CR := Lib.hid (fun u : Over V.heap.size V => rmint_any u.val (some ⟨w.heap.size, 0, none⟩) 6 6 sec rfl (N2.below u.below) (by decide) (by decide) 1 2 5 (by decide) (by decide) (by decide) c Hc.out)
  refine region_class (fun u : Over V.heap.size V => u.val) ⟨V.drew, below_drewN (Below.refl _ _) 1⟩ rfl (by kernel_rfl) (by kernel_rfl) ?_
  clear RA B3 CK N2 AN CN B2 N1
  repeat (first
    | ((with_reducible refine wpQuiet_arr Tryd.underlying23 info_b16 ?_ (.tmp 2) ?_ v1.heap.size (nrow .u8 c) L0 ?_ (fun u => HU.out u) ?_); (rfl); (rfl); (rfl); (conv => arg 6; simp only [Act.put, List.setIfInBounds_toArray, List.set_cons_succ, List.set_cons_zero]))
    | go_big_quiet_step ((first
      | (go_at_call 11; first
          | (with_reducible exact over_left (Nat.le_refl _) (C1.out _))
          | (with_reducible exact over_left (Nat.le_refl _) (C2.out _))
          | (with_reducible exact over_left (Nat.le_refl _) (C3.out _))
          | (with_reducible exact over_left (Nat.le_refl _) (C4.out _))
          | (with_reducible exact over_left (Nat.le_refl _) (C5.out _))
          | (with_reducible exact over_left (Nat.le_refl _) (C6.out _)))
      | (go_at_call 10; with_reducible exact over_left (Nat.le_refl _) (CR.out _))
      )))
  with_reducible refine wpQuiet_nil ?_
  rintro _ ⟨u, rfl⟩
  have B2 := HB.out u
  generalize u.val = W at B2 ⊢
  go_wp2
  go_ret
  exact ⟨rfl, B2⟩
end Go.Proofs.YthppbklbamakcaaDoor
