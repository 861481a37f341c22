/- What the parts of a packet come to: how one is laid. -/
import Derived.Test.YtnfdfnkhjlkdhaaWire2
namespace Go.Proofs.Ytnfdfnkhjlkdhaa
open Go.ChangeShapes Go.WideShapes Go.ChangeAt Go.RowKit
set_option maxHeartbeats 1000000 in
theorem put_session (sz lo hi : Int) (k : Nat) (hk : min (max sz 1) 7 = (k : Int)) (w : World) (g : Nat) (v : Int) (wv : -9223372036854775808 ≤ v ∧ v ≤ 9223372036854775807) (C : ∀ o : Obj, (w.alloc o).cell? ⟨g, 1, none⟩ = some (.int .i64 v)) (A : Option Addr) (n c : Nat) (bs : List Int) (hn : bs.length = n) (hN : Nums .u8 w A bs) (hlen : n ≤ 1000000) :
    Calls Try.prog 21 #[.agg #[.func (.func 60) #[] #[], .nilFunc, .int .i64 sz, .int .i64 lo, .int .i64 hi], .slice A n c, .pointer (some ⟨g, 0, none⟩)] w fun e w' => ∃ A' c', e = .returned (.slice A' (n + k) c') ∧ OwnN .u8 5 w.heap.size w' A' c' (bs ++ lay v k) ∧ Below w.heap.size w w' := by
  have Z := nil_row
  have HK := Lib.hid hk
  have Wv := Lib.hid wv
  have Hn := Lib.hid hn
  have HN := Lib.hid hN
  clear hk wv hn hN
  go_enter Try.func21, Try.ntmps21
  go_wp2_with fail
  have R := row_new (W := w) (cs := #[.func (.func 60) #[] #[], .nilFunc, .int .i64 sz, .int .i64 lo, .int .i64 hi]) (t := ptT) (m := (0, 0))
  have B : Below w.heap.size w (w.alloc (.cells #[.func (.func 60) #[] #[], .nilFunc, .int .i64 sz, .int .i64 lo, .int .i64 hi] ptT)) := (Below.refl _ _).alloc (Nat.le_refl _) _
  have C := C (.cells #[.func (.func 60) #[] #[], .nilFunc, .int .i64 sz, .int .i64 lo, .int .i64 hi] ptT)
  generalize w.alloc (.cells #[.func (.func 60) #[] #[], .nilFunc, .int .i64 sz, .int .i64 lo, .int .i64 hi] ptT) = V at R B C ⊢
  have K := row_cells R
  refine region_tail 9 (by kernel_rfl) (by kernel_rfl) ?_
  simp only [List.take_succ_cons, List.take_zero, List.drop_succ_cons, List.drop_zero]
  repeat (quiet_step ((go_at_call 60; exact Calls.quiet_of_same ((at_session _ g).mono fun _ _ h => ⟨h.1, h.2.symm⟩))))
  refine wpQuiet_nil ?_
  intro q
  go_wp2_with (first
    | (go_at_call 19; refine (put_any _ A n c bs Hn.out ((HN.out.below B).drewN q) hlen v sz Wv.out k HK.out).mono ?_; rintro e w1 ⟨A1, c1, rfl, hO, hb⟩; have HO := Lib.hid hO; have HB := Lib.hid hb; clear hO hb))
  go_ret
  have BD := below_drewN B q
  exact ⟨A1, c1, rfl, OwnN.lower HO.out BD.size, BD.trans (HB.out.mono BD.size)⟩
set_option maxHeartbeats 1000000 in
theorem put_seq (sz lo hi : Int) (k : Nat) (hk : min (max sz 1) 7 = (k : Int)) (w : World) (g : Nat) (v : Int) (wv : -9223372036854775808 ≤ v ∧ v ≤ 9223372036854775807) (C : ∀ o : Obj, (w.alloc o).cell? ⟨g, 2, none⟩ = some (.int .i64 v)) (A : Option Addr) (n c : Nat) (bs : List Int) (hn : bs.length = n) (hN : Nums .u8 w A bs) (hlen : n ≤ 1000000) :
    Calls Try.prog 21 #[.agg #[.func (.func 61) #[] #[], .nilFunc, .int .i64 sz, .int .i64 lo, .int .i64 hi], .slice A n c, .pointer (some ⟨g, 0, none⟩)] w fun e w' => ∃ A' c', e = .returned (.slice A' (n + k) c') ∧ OwnN .u8 5 w.heap.size w' A' c' (bs ++ lay v k) ∧ Below w.heap.size w w' := by
  have Z := nil_row
  have HK := Lib.hid hk
  have Wv := Lib.hid wv
  have Hn := Lib.hid hn
  have HN := Lib.hid hN
  clear hk wv hn hN
  go_enter Try.func21, Try.ntmps21
  go_wp2_with fail
  have R := row_new (W := w) (cs := #[.func (.func 61) #[] #[], .nilFunc, .int .i64 sz, .int .i64 lo, .int .i64 hi]) (t := ptT) (m := (0, 0))
  have B : Below w.heap.size w (w.alloc (.cells #[.func (.func 61) #[] #[], .nilFunc, .int .i64 sz, .int .i64 lo, .int .i64 hi] ptT)) := (Below.refl _ _).alloc (Nat.le_refl _) _
  have C := C (.cells #[.func (.func 61) #[] #[], .nilFunc, .int .i64 sz, .int .i64 lo, .int .i64 hi] ptT)
  generalize w.alloc (.cells #[.func (.func 61) #[] #[], .nilFunc, .int .i64 sz, .int .i64 lo, .int .i64 hi] ptT) = V at R B C ⊢
  have K := row_cells R
  refine region_tail 9 (by kernel_rfl) (by kernel_rfl) ?_
  simp only [List.take_succ_cons, List.take_zero, List.drop_succ_cons, List.drop_zero]
  repeat (quiet_step ((go_at_call 61; exact Calls.quiet_of_same ((at_seq _ g).mono fun _ _ h => ⟨h.1, h.2.symm⟩))))
  refine wpQuiet_nil ?_
  intro q
  go_wp2_with (first
    | (go_at_call 19; refine (put_any _ A n c bs Hn.out ((HN.out.below B).drewN q) hlen v sz Wv.out k HK.out).mono ?_; rintro e w1 ⟨A1, c1, rfl, hO, hb⟩; have HO := Lib.hid hO; have HB := Lib.hid hb; clear hO hb))
  go_ret
  have BD := below_drewN B q
  exact ⟨A1, c1, rfl, OwnN.lower HO.out BD.size, BD.trans (HB.out.mono BD.size)⟩
set_option maxHeartbeats 1000000 in
theorem put_user (sz lo hi : Int) (k : Nat) (hk : min (max sz 1) 7 = (k : Int)) (w : World) (g : Nat) (v : Int) (wv : -9223372036854775808 ≤ v ∧ v ≤ 9223372036854775807) (C : ∀ o : Obj, (w.alloc o).cell? ⟨g, 3, none⟩ = some (.int .i64 v)) (A : Option Addr) (n c : Nat) (bs : List Int) (hn : bs.length = n) (hN : Nums .u8 w A bs) (hlen : n ≤ 1000000) :
    Calls Try.prog 21 #[.agg #[.func (.func 59) #[] #[], .nilFunc, .int .i64 sz, .int .i64 lo, .int .i64 hi], .slice A n c, .pointer (some ⟨g, 0, none⟩)] w fun e w' => ∃ A' c', e = .returned (.slice A' (n + k) c') ∧ OwnN .u8 5 w.heap.size w' A' c' (bs ++ lay v k) ∧ Below w.heap.size w w' := by
  have Z := nil_row
  have HK := Lib.hid hk
  have Wv := Lib.hid wv
  have Hn := Lib.hid hn
  have HN := Lib.hid hN
  clear hk wv hn hN
  go_enter Try.func21, Try.ntmps21
  go_wp2_with fail
  have R := row_new (W := w) (cs := #[.func (.func 59) #[] #[], .nilFunc, .int .i64 sz, .int .i64 lo, .int .i64 hi]) (t := ptT) (m := (0, 0))
  have B : Below w.heap.size w (w.alloc (.cells #[.func (.func 59) #[] #[], .nilFunc, .int .i64 sz, .int .i64 lo, .int .i64 hi] ptT)) := (Below.refl _ _).alloc (Nat.le_refl _) _
  have C := C (.cells #[.func (.func 59) #[] #[], .nilFunc, .int .i64 sz, .int .i64 lo, .int .i64 hi] ptT)
  generalize w.alloc (.cells #[.func (.func 59) #[] #[], .nilFunc, .int .i64 sz, .int .i64 lo, .int .i64 hi] ptT) = V at R B C ⊢
  have K := row_cells R
  refine region_tail 9 (by kernel_rfl) (by kernel_rfl) ?_
  simp only [List.take_succ_cons, List.take_zero, List.drop_succ_cons, List.drop_zero]
  repeat (quiet_step ((go_at_call 59; exact Calls.quiet_of_same ((at_user _ g).mono fun _ _ h => ⟨h.1, h.2.symm⟩))))
  refine wpQuiet_nil ?_
  intro q
  go_wp2_with (first
    | (go_at_call 19; refine (put_any _ A n c bs Hn.out ((HN.out.below B).drewN q) hlen v sz Wv.out k HK.out).mono ?_; rintro e w1 ⟨A1, c1, rfl, hO, hb⟩; have HO := Lib.hid hO; have HB := Lib.hid hb; clear hO hb))
  go_ret
  have BD := below_drewN B q
  exact ⟨A1, c1, rfl, OwnN.lower HO.out BD.size, BD.trans (HB.out.mono BD.size)⟩
set_option maxHeartbeats 1000000 in
theorem put_op (sz lo hi : Int) (k : Nat) (hk : min (max sz 1) 7 = (k : Int)) (w : World) (g : Nat) (v : Int) (wv : -9223372036854775808 ≤ v ∧ v ≤ 9223372036854775807) (C : ∀ o : Obj, (w.alloc o).cell? ⟨g, 4, none⟩ = some (.int .i64 v)) (A : Option Addr) (n c : Nat) (bs : List Int) (hn : bs.length = n) (hN : Nums .u8 w A bs) (hlen : n ≤ 1000000) :
    Calls Try.prog 21 #[.agg #[.func (.func 64) #[] #[], .nilFunc, .int .i64 sz, .int .i64 lo, .int .i64 hi], .slice A n c, .pointer (some ⟨g, 0, none⟩)] w fun e w' => ∃ A' c', e = .returned (.slice A' (n + k) c') ∧ OwnN .u8 5 w.heap.size w' A' c' (bs ++ lay v k) ∧ Below w.heap.size w w' := by
  have Z := nil_row
  have HK := Lib.hid hk
  have Wv := Lib.hid wv
  have Hn := Lib.hid hn
  have HN := Lib.hid hN
  clear hk wv hn hN
  go_enter Try.func21, Try.ntmps21
  go_wp2_with fail
  have R := row_new (W := w) (cs := #[.func (.func 64) #[] #[], .nilFunc, .int .i64 sz, .int .i64 lo, .int .i64 hi]) (t := ptT) (m := (0, 0))
  have B : Below w.heap.size w (w.alloc (.cells #[.func (.func 64) #[] #[], .nilFunc, .int .i64 sz, .int .i64 lo, .int .i64 hi] ptT)) := (Below.refl _ _).alloc (Nat.le_refl _) _
  have C := C (.cells #[.func (.func 64) #[] #[], .nilFunc, .int .i64 sz, .int .i64 lo, .int .i64 hi] ptT)
  generalize w.alloc (.cells #[.func (.func 64) #[] #[], .nilFunc, .int .i64 sz, .int .i64 lo, .int .i64 hi] ptT) = V at R B C ⊢
  have K := row_cells R
  refine region_tail 9 (by kernel_rfl) (by kernel_rfl) ?_
  simp only [List.take_succ_cons, List.take_zero, List.drop_succ_cons, List.drop_zero]
  repeat (quiet_step ((go_at_call 64; exact Calls.quiet_of_same ((at_op _ g).mono fun _ _ h => ⟨h.1, h.2.symm⟩))))
  refine wpQuiet_nil ?_
  intro q
  go_wp2_with (first
    | (go_at_call 19; refine (put_any _ A n c bs Hn.out ((HN.out.below B).drewN q) hlen v sz Wv.out k HK.out).mono ?_; rintro e w1 ⟨A1, c1, rfl, hO, hb⟩; have HO := Lib.hid hO; have HB := Lib.hid hb; clear hO hb))
  go_ret
  have BD := below_drewN B q
  exact ⟨A1, c1, rfl, OwnN.lower HO.out BD.size, BD.trans (HB.out.mono BD.size)⟩
set_option maxHeartbeats 1000000 in
theorem put_status (sz lo hi : Int) (k : Nat) (hk : min (max sz 1) 7 = (k : Int)) (w : World) (g : Nat) (v : Int) (wv : -9223372036854775808 ≤ v ∧ v ≤ 9223372036854775807) (C : ∀ o : Obj, (w.alloc o).cell? ⟨g, 5, none⟩ = some (.int .i64 v)) (A : Option Addr) (n c : Nat) (bs : List Int) (hn : bs.length = n) (hN : Nums .u8 w A bs) (hlen : n ≤ 1000000) :
    Calls Try.prog 21 #[.agg #[.func (.func 63) #[] #[], .nilFunc, .int .i64 sz, .int .i64 lo, .int .i64 hi], .slice A n c, .pointer (some ⟨g, 0, none⟩)] w fun e w' => ∃ A' c', e = .returned (.slice A' (n + k) c') ∧ OwnN .u8 5 w.heap.size w' A' c' (bs ++ lay v k) ∧ Below w.heap.size w w' := by
  have Z := nil_row
  have HK := Lib.hid hk
  have Wv := Lib.hid wv
  have Hn := Lib.hid hn
  have HN := Lib.hid hN
  clear hk wv hn hN
  go_enter Try.func21, Try.ntmps21
  go_wp2_with fail
  have R := row_new (W := w) (cs := #[.func (.func 63) #[] #[], .nilFunc, .int .i64 sz, .int .i64 lo, .int .i64 hi]) (t := ptT) (m := (0, 0))
  have B : Below w.heap.size w (w.alloc (.cells #[.func (.func 63) #[] #[], .nilFunc, .int .i64 sz, .int .i64 lo, .int .i64 hi] ptT)) := (Below.refl _ _).alloc (Nat.le_refl _) _
  have C := C (.cells #[.func (.func 63) #[] #[], .nilFunc, .int .i64 sz, .int .i64 lo, .int .i64 hi] ptT)
  generalize w.alloc (.cells #[.func (.func 63) #[] #[], .nilFunc, .int .i64 sz, .int .i64 lo, .int .i64 hi] ptT) = V at R B C ⊢
  have K := row_cells R
  refine region_tail 9 (by kernel_rfl) (by kernel_rfl) ?_
  simp only [List.take_succ_cons, List.take_zero, List.drop_succ_cons, List.drop_zero]
  repeat (quiet_step ((go_at_call 63; exact Calls.quiet_of_same ((at_status _ g).mono fun _ _ h => ⟨h.1, h.2.symm⟩))))
  refine wpQuiet_nil ?_
  intro q
  go_wp2_with (first
    | (go_at_call 19; refine (put_any _ A n c bs Hn.out ((HN.out.below B).drewN q) hlen v sz Wv.out k HK.out).mono ?_; rintro e w1 ⟨A1, c1, rfl, hO, hb⟩; have HO := Lib.hid hO; have HB := Lib.hid hb; clear hO hb))
  go_ret
  have BD := below_drewN B q
  exact ⟨A1, c1, rfl, OwnN.lower HO.out BD.size, BD.trans (HB.out.mono BD.size)⟩
set_option maxHeartbeats 1000000 in
theorem put_count (sz lo hi : Int) (k : Nat) (hk : min (max sz 1) 7 = (k : Int)) (w : World) (g : Nat) (v : Int) (wv : -9223372036854775808 ≤ v ∧ v ≤ 9223372036854775807) (C : ∀ o : Obj, (w.alloc o).cell? ⟨g, 6, none⟩ = some (.int .i64 v)) (A : Option Addr) (n c : Nat) (bs : List Int) (hn : bs.length = n) (hN : Nums .u8 w A bs) (hlen : n ≤ 1000000) :
    Calls Try.prog 21 #[.agg #[.func (.func 66) #[] #[], .nilFunc, .int .i64 sz, .int .i64 lo, .int .i64 hi], .slice A n c, .pointer (some ⟨g, 0, none⟩)] w fun e w' => ∃ A' c', e = .returned (.slice A' (n + k) c') ∧ OwnN .u8 5 w.heap.size w' A' c' (bs ++ lay v k) ∧ Below w.heap.size w w' := by
  have Z := nil_row
  have HK := Lib.hid hk
  have Wv := Lib.hid wv
  have Hn := Lib.hid hn
  have HN := Lib.hid hN
  clear hk wv hn hN
  go_enter Try.func21, Try.ntmps21
  go_wp2_with fail
  have R := row_new (W := w) (cs := #[.func (.func 66) #[] #[], .nilFunc, .int .i64 sz, .int .i64 lo, .int .i64 hi]) (t := ptT) (m := (0, 0))
  have B : Below w.heap.size w (w.alloc (.cells #[.func (.func 66) #[] #[], .nilFunc, .int .i64 sz, .int .i64 lo, .int .i64 hi] ptT)) := (Below.refl _ _).alloc (Nat.le_refl _) _
  have C := C (.cells #[.func (.func 66) #[] #[], .nilFunc, .int .i64 sz, .int .i64 lo, .int .i64 hi] ptT)
  generalize w.alloc (.cells #[.func (.func 66) #[] #[], .nilFunc, .int .i64 sz, .int .i64 lo, .int .i64 hi] ptT) = V at R B C ⊢
  have K := row_cells R
  refine region_tail 9 (by kernel_rfl) (by kernel_rfl) ?_
  simp only [List.take_succ_cons, List.take_zero, List.drop_succ_cons, List.drop_zero]
  repeat (quiet_step ((go_at_call 66; exact Calls.quiet_of_same ((at_count _ g).mono fun _ _ h => ⟨h.1, h.2.symm⟩))))
  refine wpQuiet_nil ?_
  intro q
  go_wp2_with (first
    | (go_at_call 19; refine (put_any _ A n c bs Hn.out ((HN.out.below B).drewN q) hlen v sz Wv.out k HK.out).mono ?_; rintro e w1 ⟨A1, c1, rfl, hO, hb⟩; have HO := Lib.hid hO; have HB := Lib.hid hb; clear hO hb))
  go_ret
  have BD := below_drewN B q
  exact ⟨A1, c1, rfl, OwnN.lower HO.out BD.size, BD.trans (HB.out.mono BD.size)⟩
set_option maxHeartbeats 1000000 in
theorem put_version (sz lo hi : Int) (k : Nat) (hk : min (max sz 1) 7 = (k : Int)) (w : World) (g : Nat) (v : Int) (wv : -9223372036854775808 ≤ v ∧ v ≤ 9223372036854775807) (C : ∀ o : Obj, (w.alloc o).cell? ⟨g, 7, none⟩ = some (.int .i64 v)) (A : Option Addr) (n c : Nat) (bs : List Int) (hn : bs.length = n) (hN : Nums .u8 w A bs) (hlen : n ≤ 1000000) :
    Calls Try.prog 21 #[.agg #[.func (.func 65) #[] #[], .nilFunc, .int .i64 sz, .int .i64 lo, .int .i64 hi], .slice A n c, .pointer (some ⟨g, 0, none⟩)] w fun e w' => ∃ A' c', e = .returned (.slice A' (n + k) c') ∧ OwnN .u8 5 w.heap.size w' A' c' (bs ++ lay v k) ∧ Below w.heap.size w w' := by
  have Z := nil_row
  have HK := Lib.hid hk
  have Wv := Lib.hid wv
  have Hn := Lib.hid hn
  have HN := Lib.hid hN
  clear hk wv hn hN
  go_enter Try.func21, Try.ntmps21
  go_wp2_with fail
  have R := row_new (W := w) (cs := #[.func (.func 65) #[] #[], .nilFunc, .int .i64 sz, .int .i64 lo, .int .i64 hi]) (t := ptT) (m := (0, 0))
  have B : Below w.heap.size w (w.alloc (.cells #[.func (.func 65) #[] #[], .nilFunc, .int .i64 sz, .int .i64 lo, .int .i64 hi] ptT)) := (Below.refl _ _).alloc (Nat.le_refl _) _
  have C := C (.cells #[.func (.func 65) #[] #[], .nilFunc, .int .i64 sz, .int .i64 lo, .int .i64 hi] ptT)
  generalize w.alloc (.cells #[.func (.func 65) #[] #[], .nilFunc, .int .i64 sz, .int .i64 lo, .int .i64 hi] ptT) = V at R B C ⊢
  have K := row_cells R
  refine region_tail 9 (by kernel_rfl) (by kernel_rfl) ?_
  simp only [List.take_succ_cons, List.take_zero, List.drop_succ_cons, List.drop_zero]
  repeat (quiet_step ((go_at_call 65; exact Calls.quiet_of_same ((at_version _ g).mono fun _ _ h => ⟨h.1, h.2.symm⟩))))
  refine wpQuiet_nil ?_
  intro q
  go_wp2_with (first
    | (go_at_call 19; refine (put_any _ A n c bs Hn.out ((HN.out.below B).drewN q) hlen v sz Wv.out k HK.out).mono ?_; rintro e w1 ⟨A1, c1, rfl, hO, hb⟩; have HO := Lib.hid hO; have HB := Lib.hid hb; clear hO hb))
  go_ret
  have BD := below_drewN B q
  exact ⟨A1, c1, rfl, OwnN.lower HO.out BD.size, BD.trans (HB.out.mono BD.size)⟩
set_option maxHeartbeats 1000000 in
theorem put_ack (sz lo hi : Int) (k : Nat) (hk : min (max sz 1) 7 = (k : Int)) (w : World) (g : Nat) (v : Int) (wv : -9223372036854775808 ≤ v ∧ v ≤ 9223372036854775807) (C : ∀ o : Obj, (w.alloc o).cell? ⟨g, 8, none⟩ = some (.int .i64 v)) (A : Option Addr) (n c : Nat) (bs : List Int) (hn : bs.length = n) (hN : Nums .u8 w A bs) (hlen : n ≤ 1000000) :
    Calls Try.prog 21 #[.agg #[.func (.func 67) #[] #[], .nilFunc, .int .i64 sz, .int .i64 lo, .int .i64 hi], .slice A n c, .pointer (some ⟨g, 0, none⟩)] w fun e w' => ∃ A' c', e = .returned (.slice A' (n + k) c') ∧ OwnN .u8 5 w.heap.size w' A' c' (bs ++ lay v k) ∧ Below w.heap.size w w' := by
  have Z := nil_row
  have HK := Lib.hid hk
  have Wv := Lib.hid wv
  have Hn := Lib.hid hn
  have HN := Lib.hid hN
  clear hk wv hn hN
  go_enter Try.func21, Try.ntmps21
  go_wp2_with fail
  have R := row_new (W := w) (cs := #[.func (.func 67) #[] #[], .nilFunc, .int .i64 sz, .int .i64 lo, .int .i64 hi]) (t := ptT) (m := (0, 0))
  have B : Below w.heap.size w (w.alloc (.cells #[.func (.func 67) #[] #[], .nilFunc, .int .i64 sz, .int .i64 lo, .int .i64 hi] ptT)) := (Below.refl _ _).alloc (Nat.le_refl _) _
  have C := C (.cells #[.func (.func 67) #[] #[], .nilFunc, .int .i64 sz, .int .i64 lo, .int .i64 hi] ptT)
  generalize w.alloc (.cells #[.func (.func 67) #[] #[], .nilFunc, .int .i64 sz, .int .i64 lo, .int .i64 hi] ptT) = V at R B C ⊢
  have K := row_cells R
  refine region_tail 9 (by kernel_rfl) (by kernel_rfl) ?_
  simp only [List.take_succ_cons, List.take_zero, List.drop_succ_cons, List.drop_zero]
  repeat (quiet_step ((go_at_call 67; exact Calls.quiet_of_same ((at_ack _ g).mono fun _ _ h => ⟨h.1, h.2.symm⟩))))
  refine wpQuiet_nil ?_
  intro q
  go_wp2_with (first
    | (go_at_call 19; refine (put_any _ A n c bs Hn.out ((HN.out.below B).drewN q) hlen v sz Wv.out k HK.out).mono ?_; rintro e w1 ⟨A1, c1, rfl, hO, hb⟩; have HO := Lib.hid hO; have HB := Lib.hid hb; clear hO hb))
  go_ret
  have BD := below_drewN B q
  exact ⟨A1, c1, rfl, OwnN.lower HO.out BD.size, BD.trans (HB.out.mono BD.size)⟩
set_option maxHeartbeats 1000000 in
theorem put_sack (sz lo hi : Int) (k : Nat) (hk : min (max sz 1) 7 = (k : Int)) (w : World) (g : Nat) (v : Int) (wv : -9223372036854775808 ≤ v ∧ v ≤ 9223372036854775807) (C : ∀ o : Obj, (w.alloc o).cell? ⟨g, 9, none⟩ = some (.int .i64 v)) (A : Option Addr) (n c : Nat) (bs : List Int) (hn : bs.length = n) (hN : Nums .u8 w A bs) (hlen : n ≤ 1000000) :
    Calls Try.prog 21 #[.agg #[.func (.func 68) #[] #[], .nilFunc, .int .i64 sz, .int .i64 lo, .int .i64 hi], .slice A n c, .pointer (some ⟨g, 0, none⟩)] w fun e w' => ∃ A' c', e = .returned (.slice A' (n + k) c') ∧ OwnN .u8 5 w.heap.size w' A' c' (bs ++ lay v k) ∧ Below w.heap.size w w' := by
  have Z := nil_row
  have HK := Lib.hid hk
  have Wv := Lib.hid wv
  have Hn := Lib.hid hn
  have HN := Lib.hid hN
  clear hk wv hn hN
  go_enter Try.func21, Try.ntmps21
  go_wp2_with fail
  have R := row_new (W := w) (cs := #[.func (.func 68) #[] #[], .nilFunc, .int .i64 sz, .int .i64 lo, .int .i64 hi]) (t := ptT) (m := (0, 0))
  have B : Below w.heap.size w (w.alloc (.cells #[.func (.func 68) #[] #[], .nilFunc, .int .i64 sz, .int .i64 lo, .int .i64 hi] ptT)) := (Below.refl _ _).alloc (Nat.le_refl _) _
  have C := C (.cells #[.func (.func 68) #[] #[], .nilFunc, .int .i64 sz, .int .i64 lo, .int .i64 hi] ptT)
  generalize w.alloc (.cells #[.func (.func 68) #[] #[], .nilFunc, .int .i64 sz, .int .i64 lo, .int .i64 hi] ptT) = V at R B C ⊢
  have K := row_cells R
  refine region_tail 9 (by kernel_rfl) (by kernel_rfl) ?_
  simp only [List.take_succ_cons, List.take_zero, List.drop_succ_cons, List.drop_zero]
  repeat (quiet_step ((go_at_call 68; exact Calls.quiet_of_same ((at_sack _ g).mono fun _ _ h => ⟨h.1, h.2.symm⟩))))
  refine wpQuiet_nil ?_
  intro q
  go_wp2_with (first
    | (go_at_call 19; refine (put_any _ A n c bs Hn.out ((HN.out.below B).drewN q) hlen v sz Wv.out k HK.out).mono ?_; rintro e w1 ⟨A1, c1, rfl, hO, hb⟩; have HO := Lib.hid hO; have HB := Lib.hid hb; clear hO hb))
  go_ret
  have BD := below_drewN B q
  exact ⟨A1, c1, rfl, OwnN.lower HO.out BD.size, BD.trans (HB.out.mono BD.size)⟩
set_option maxHeartbeats 1000000 in
theorem put_nonce (sz lo hi : Int) (k : Nat) (hk : min (max sz 1) 7 = (k : Int)) (w : World) (g : Nat) (v : Int) (wv : -9223372036854775808 ≤ v ∧ v ≤ 9223372036854775807) (C : ∀ o : Obj, (w.alloc o).cell? ⟨g, 10, none⟩ = some (.int .i64 v)) (A : Option Addr) (n c : Nat) (bs : List Int) (hn : bs.length = n) (hN : Nums .u8 w A bs) (hlen : n ≤ 1000000) :
    Calls Try.prog 21 #[.agg #[.func (.func 56) #[] #[], .nilFunc, .int .i64 sz, .int .i64 lo, .int .i64 hi], .slice A n c, .pointer (some ⟨g, 0, none⟩)] w fun e w' => ∃ A' c', e = .returned (.slice A' (n + k) c') ∧ OwnN .u8 5 w.heap.size w' A' c' (bs ++ lay v k) ∧ Below w.heap.size w w' := by
  have Z := nil_row
  have HK := Lib.hid hk
  have Wv := Lib.hid wv
  have Hn := Lib.hid hn
  have HN := Lib.hid hN
  clear hk wv hn hN
  go_enter Try.func21, Try.ntmps21
  go_wp2_with fail
  have R := row_new (W := w) (cs := #[.func (.func 56) #[] #[], .nilFunc, .int .i64 sz, .int .i64 lo, .int .i64 hi]) (t := ptT) (m := (0, 0))
  have B : Below w.heap.size w (w.alloc (.cells #[.func (.func 56) #[] #[], .nilFunc, .int .i64 sz, .int .i64 lo, .int .i64 hi] ptT)) := (Below.refl _ _).alloc (Nat.le_refl _) _
  have C := C (.cells #[.func (.func 56) #[] #[], .nilFunc, .int .i64 sz, .int .i64 lo, .int .i64 hi] ptT)
  generalize w.alloc (.cells #[.func (.func 56) #[] #[], .nilFunc, .int .i64 sz, .int .i64 lo, .int .i64 hi] ptT) = V at R B C ⊢
  have K := row_cells R
  refine region_tail 9 (by kernel_rfl) (by kernel_rfl) ?_
  simp only [List.take_succ_cons, List.take_zero, List.drop_succ_cons, List.drop_zero]
  repeat (quiet_step ((go_at_call 56; exact Calls.quiet_of_same ((at_nonce _ g).mono fun _ _ h => ⟨h.1, h.2.symm⟩))))
  refine wpQuiet_nil ?_
  intro q
  go_wp2_with (first
    | (go_at_call 19; refine (put_any _ A n c bs Hn.out ((HN.out.below B).drewN q) hlen v sz Wv.out k HK.out).mono ?_; rintro e w1 ⟨A1, c1, rfl, hO, hb⟩; have HO := Lib.hid hO; have HB := Lib.hid hb; clear hO hb))
  go_ret
  have BD := below_drewN B q
  exact ⟨A1, c1, rfl, OwnN.lower HO.out BD.size, BD.trans (HB.out.mono BD.size)⟩
set_option maxHeartbeats 1000000 in
theorem put_epoch (sz lo hi : Int) (k : Nat) (hk : min (max sz 1) 7 = (k : Int)) (w : World) (g : Nat) (v : Int) (wv : -9223372036854775808 ≤ v ∧ v ≤ 9223372036854775807) (C : ∀ o : Obj, (w.alloc o).cell? ⟨g, 11, none⟩ = some (.int .i64 v)) (A : Option Addr) (n c : Nat) (bs : List Int) (hn : bs.length = n) (hN : Nums .u8 w A bs) (hlen : n ≤ 1000000) :
    Calls Try.prog 21 #[.agg #[.func (.func 57) #[] #[], .nilFunc, .int .i64 sz, .int .i64 lo, .int .i64 hi], .slice A n c, .pointer (some ⟨g, 0, none⟩)] w fun e w' => ∃ A' c', e = .returned (.slice A' (n + k) c') ∧ OwnN .u8 5 w.heap.size w' A' c' (bs ++ lay v k) ∧ Below w.heap.size w w' := by
  have Z := nil_row
  have HK := Lib.hid hk
  have Wv := Lib.hid wv
  have Hn := Lib.hid hn
  have HN := Lib.hid hN
  clear hk wv hn hN
  go_enter Try.func21, Try.ntmps21
  go_wp2_with fail
  have R := row_new (W := w) (cs := #[.func (.func 57) #[] #[], .nilFunc, .int .i64 sz, .int .i64 lo, .int .i64 hi]) (t := ptT) (m := (0, 0))
  have B : Below w.heap.size w (w.alloc (.cells #[.func (.func 57) #[] #[], .nilFunc, .int .i64 sz, .int .i64 lo, .int .i64 hi] ptT)) := (Below.refl _ _).alloc (Nat.le_refl _) _
  have C := C (.cells #[.func (.func 57) #[] #[], .nilFunc, .int .i64 sz, .int .i64 lo, .int .i64 hi] ptT)
  generalize w.alloc (.cells #[.func (.func 57) #[] #[], .nilFunc, .int .i64 sz, .int .i64 lo, .int .i64 hi] ptT) = V at R B C ⊢
  have K := row_cells R
  refine region_tail 9 (by kernel_rfl) (by kernel_rfl) ?_
  simp only [List.take_succ_cons, List.take_zero, List.drop_succ_cons, List.drop_zero]
  repeat (quiet_step ((go_at_call 57; exact Calls.quiet_of_same ((at_epoch _ g).mono fun _ _ h => ⟨h.1, h.2.symm⟩))))
  refine wpQuiet_nil ?_
  intro q
  go_wp2_with (first
    | (go_at_call 19; refine (put_any _ A n c bs Hn.out ((HN.out.below B).drewN q) hlen v sz Wv.out k HK.out).mono ?_; rintro e w1 ⟨A1, c1, rfl, hO, hb⟩; have HO := Lib.hid hO; have HB := Lib.hid hb; clear hO hb))
  go_ret
  have BD := below_drewN B q
  exact ⟨A1, c1, rfl, OwnN.lower HO.out BD.size, BD.trans (HB.out.mono BD.size)⟩
set_option maxHeartbeats 1000000 in
theorem put_secret (sz lo hi : Int) (w : World) (g : Nat) (rs : List Int) (hrs : rs.length = 16) (C : ∀ o : Obj, Nums .u8 (w.alloc o) (some ⟨g, 12, none⟩) rs) (A : Option Addr) (n c : Nat) (bs : List Int) (base : Nat) (hn : bs.length = n) (hO : OwnN .u8 5 base w A c bs) (hlen : n ≤ 1000000) :
    Calls Try.prog 21 #[.agg #[.nilFunc, .func (.func 58) #[] #[], .int .i64 sz, .int .i64 lo, .int .i64 hi], .slice A n c, .pointer (some ⟨g, 0, none⟩)] w fun e w' => ∃ A' c', e = .returned (.slice A' (n + 16) c') ∧ OwnN .u8 5 base w' A' c' (bs ++ rs) ∧ Below base w w' := by
  obtain ⟨i0, hi, hz0, hz1, hz2⟩ := info_parts info8
  have HI := Lib.hid (And.intro hi (And.intro hz0 (And.intro hz1 hz2)))
  clear hi hz0 hz1 hz2
  have Z := fun_row
  have Hr := Lib.hid hrs
  have Hn := Lib.hid hn
  have HO := Lib.hid hO
  have HC := Lib.hid C
  clear hrs hn hO C
  go_enter Try.func21, Try.ntmps21
  go_wp2_with (first
    | (go_at_call 58; refine (at_secret _ g).mono ?_; rintro e w' ⟨rfl, rfl⟩)
    | (at_builtin; refine wpList_append_row rfl (.tmp 10) (.tmp 14) 26 rfl i0 1 Try.underlying26 HI.out.1 HI.out.2.1 HI.out.2.2.1 HI.out.2.2.2 (by decide) n Hn.out rfl (HO.out.alloc _) _ 16 _ rs rfl Hr.out (HC.out _) (by rw [Hn.out]; omega) base w (Nat.le_refl _) ((Below.refl base w).alloc HO.out.2 _) ?_; intro A4 c4 w4 hO4 hb; have HO4 := Lib.hid hO4; have HB := Lib.hid hb; clear hO4 hb))
  go_ret
  exact ⟨A4, c4, rfl, HO4.out, HB.out⟩
set_option maxHeartbeats 1000000 in
theorem put_tag (sz lo hi : Int) (w : World) (g : Nat) (rs : List Int) (hrs : rs.length = 8) (C : ∀ o : Obj, Nums .u8 (w.alloc o) (some ⟨g, 28, none⟩) rs) (A : Option Addr) (n c : Nat) (bs : List Int) (base : Nat) (hn : bs.length = n) (hO : OwnN .u8 5 base w A c bs) (hlen : n ≤ 1000000) :
    Calls Try.prog 21 #[.agg #[.nilFunc, .func (.func 62) #[] #[], .int .i64 sz, .int .i64 lo, .int .i64 hi], .slice A n c, .pointer (some ⟨g, 0, none⟩)] w fun e w' => ∃ A' c', e = .returned (.slice A' (n + 8) c') ∧ OwnN .u8 5 base w' A' c' (bs ++ rs) ∧ Below base w w' := by
  obtain ⟨i0, hi, hz0, hz1, hz2⟩ := info_parts info8
  have HI := Lib.hid (And.intro hi (And.intro hz0 (And.intro hz1 hz2)))
  clear hi hz0 hz1 hz2
  have Z := fun_row
  have Hr := Lib.hid hrs
  have Hn := Lib.hid hn
  have HO := Lib.hid hO
  have HC := Lib.hid C
  clear hrs hn hO C
  go_enter Try.func21, Try.ntmps21
  go_wp2_with (first
    | (go_at_call 62; refine (at_tag _ g).mono ?_; rintro e w' ⟨rfl, rfl⟩)
    | (at_builtin; refine wpList_append_row rfl (.tmp 10) (.tmp 14) 26 rfl i0 1 Try.underlying26 HI.out.1 HI.out.2.1 HI.out.2.2.1 HI.out.2.2.2 (by decide) n Hn.out rfl (HO.out.alloc _) _ 8 _ rs rfl Hr.out (HC.out _) (by rw [Hn.out]; omega) base w (Nat.le_refl _) ((Below.refl base w).alloc HO.out.2 _) ?_; intro A4 c4 w4 hO4 hb; have HO4 := Lib.hid hO4; have HB := Lib.hid hb; clear hO4 hb))
  go_ret
  exact ⟨A4, c4, rfl, HO4.out, HB.out⟩
theorem nums_part {W : World} {g o m : Nat} {L : List Value} {t : TypeId} {rs : List Int} (h : W.heap[g]? = some (.cells L.toArray t)) (hL : (L.drop o).take m = nrow .u8 rs) (hm : rs.length = m) : Nums .u8 W (some ⟨g, o, none⟩) rs :=
  Or.inr ⟨g, o, rfl, row_lt h, fun i hi => by
    rw [cell_of_row _ _ _ _ _ _ h, List.getElem?_toArray]
    have h2 : (nrow .u8 rs)[i]? = some (.int .u8 (rs.getD i 0)) := by
      have := ncs_at .u8 rs i hi
      unfold ncs at this
      rwa [List.getElem?_toArray] at this
    rw [← hL, List.getElem?_take, if_pos (by omega), List.getElem?_drop] at h2
    exact h2⟩
theorem nums_secret {W : World} {g : Nat} {p : Pk} (h : W.heap[g]? = some (.cells (pcs p).toArray pkT)) (hp : p.Wf) : Nums .u8 W (some ⟨g, 12, none⟩) p.s := nums_part h (pcs_secret hp) hp.s
theorem nums_tag {W : World} {g : Nat} {p : Pk} (h : W.heap[g]? = some (.cells (pcs p).toArray pkT)) (hp : p.Wf) : Nums .u8 W (some ⟨g, 28, none⟩) p.t := nums_part h (pcs_tag hp) hp.t
theorem put_part (x : Pt5) (hx : x.Ok) (p : Pk) (hp : p.Wf) (hr : ∀ i, -9223372036854775808 ≤ p.h.getD i 0 ∧ p.h.getD i 0 ≤ 9223372036854775807) (w : World) (g : Nat) (R : w.heap[g]? = some (.cells (pcs p).toArray pkT)) (A : Option Addr) (n c : Nat) (bs : List Int) (base : Nat) (hn : bs.length = n) (hO : OwnN .u8 5 base w A c bs) (hlen : n ≤ 1000000) :
    Calls Try.prog 21 #[.agg x.cs.toArray, .slice A n c, .pointer (some ⟨g, 0, none⟩)] w fun e w' => ∃ A' c', e = .returned (.slice A' (n + (x.put p).length) c') ∧ OwnN .u8 5 base w' A' c' (bs ++ x.put p) ∧ Below base w w' := by
  have RR := fun o : Obj => row_kept R ((Below.refl _ _).alloc (Nat.le_refl _) o) (row_lt R)
  have C := fun (i : Nat) (hi : i < 12) (o : Obj) => pk_cell (RR o) hp i hi
  have HN := hO.nums
  have hsz := hx.sz
  obtain ⟨j, sz, lo, hi⟩ := x
  rcases j_cases hx with h | h | h | h | h | h | h | h | h | h | h | h | h
  all_goals
    simp only at h
    subst h
  · have hk : min (max sz 1) 7 = ((sz.toNat : Nat) : Int) := by
      rcases hsz (show 1 ≤ 11 by decide) with h | h <;> (simp only at h; subst h; decide)
    refine (put_session sz lo hi sz.toNat hk w g _ (hr 1) (C 1 (by decide)) A n c bs hn HN hlen).mono ?_
    rintro e w' ⟨A', c', rfl, hO', hb⟩
    refine ⟨A', c', ?_, OwnN.lower hO' hO.2, hb.mono hO.2⟩
    rw [show (Pt5.put ⟨1, sz, lo, hi⟩ p).length = sz.toNat from lay_len _ _]
  · have hk : min (max sz 1) 7 = ((sz.toNat : Nat) : Int) := by
      rcases hsz (show 2 ≤ 11 by decide) with h | h <;> (simp only at h; subst h; decide)
    refine (put_seq sz lo hi sz.toNat hk w g _ (hr 2) (C 2 (by decide)) A n c bs hn HN hlen).mono ?_
    rintro e w' ⟨A', c', rfl, hO', hb⟩
    refine ⟨A', c', ?_, OwnN.lower hO' hO.2, hb.mono hO.2⟩
    rw [show (Pt5.put ⟨2, sz, lo, hi⟩ p).length = sz.toNat from lay_len _ _]
  · have hk : min (max sz 1) 7 = ((sz.toNat : Nat) : Int) := by
      rcases hsz (show 3 ≤ 11 by decide) with h | h <;> (simp only at h; subst h; decide)
    refine (put_user sz lo hi sz.toNat hk w g _ (hr 3) (C 3 (by decide)) A n c bs hn HN hlen).mono ?_
    rintro e w' ⟨A', c', rfl, hO', hb⟩
    refine ⟨A', c', ?_, OwnN.lower hO' hO.2, hb.mono hO.2⟩
    rw [show (Pt5.put ⟨3, sz, lo, hi⟩ p).length = sz.toNat from lay_len _ _]
  · have hk : min (max sz 1) 7 = ((sz.toNat : Nat) : Int) := by
      rcases hsz (show 4 ≤ 11 by decide) with h | h <;> (simp only at h; subst h; decide)
    refine (put_op sz lo hi sz.toNat hk w g _ (hr 4) (C 4 (by decide)) A n c bs hn HN hlen).mono ?_
    rintro e w' ⟨A', c', rfl, hO', hb⟩
    refine ⟨A', c', ?_, OwnN.lower hO' hO.2, hb.mono hO.2⟩
    rw [show (Pt5.put ⟨4, sz, lo, hi⟩ p).length = sz.toNat from lay_len _ _]
  · have hk : min (max sz 1) 7 = ((sz.toNat : Nat) : Int) := by
      rcases hsz (show 5 ≤ 11 by decide) with h | h <;> (simp only at h; subst h; decide)
    refine (put_status sz lo hi sz.toNat hk w g _ (hr 5) (C 5 (by decide)) A n c bs hn HN hlen).mono ?_
    rintro e w' ⟨A', c', rfl, hO', hb⟩
    refine ⟨A', c', ?_, OwnN.lower hO' hO.2, hb.mono hO.2⟩
    rw [show (Pt5.put ⟨5, sz, lo, hi⟩ p).length = sz.toNat from lay_len _ _]
  · have hk : min (max sz 1) 7 = ((sz.toNat : Nat) : Int) := by
      rcases hsz (show 6 ≤ 11 by decide) with h | h <;> (simp only at h; subst h; decide)
    refine (put_count sz lo hi sz.toNat hk w g _ (hr 6) (C 6 (by decide)) A n c bs hn HN hlen).mono ?_
    rintro e w' ⟨A', c', rfl, hO', hb⟩
    refine ⟨A', c', ?_, OwnN.lower hO' hO.2, hb.mono hO.2⟩
    rw [show (Pt5.put ⟨6, sz, lo, hi⟩ p).length = sz.toNat from lay_len _ _]
  · have hk : min (max sz 1) 7 = ((sz.toNat : Nat) : Int) := by
      rcases hsz (show 7 ≤ 11 by decide) with h | h <;> (simp only at h; subst h; decide)
    refine (put_version sz lo hi sz.toNat hk w g _ (hr 7) (C 7 (by decide)) A n c bs hn HN hlen).mono ?_
    rintro e w' ⟨A', c', rfl, hO', hb⟩
    refine ⟨A', c', ?_, OwnN.lower hO' hO.2, hb.mono hO.2⟩
    rw [show (Pt5.put ⟨7, sz, lo, hi⟩ p).length = sz.toNat from lay_len _ _]
  · have hk : min (max sz 1) 7 = ((sz.toNat : Nat) : Int) := by
      rcases hsz (show 8 ≤ 11 by decide) with h | h <;> (simp only at h; subst h; decide)
    refine (put_ack sz lo hi sz.toNat hk w g _ (hr 8) (C 8 (by decide)) A n c bs hn HN hlen).mono ?_
    rintro e w' ⟨A', c', rfl, hO', hb⟩
    refine ⟨A', c', ?_, OwnN.lower hO' hO.2, hb.mono hO.2⟩
    rw [show (Pt5.put ⟨8, sz, lo, hi⟩ p).length = sz.toNat from lay_len _ _]
  · have hk : min (max sz 1) 7 = ((sz.toNat : Nat) : Int) := by
      rcases hsz (show 9 ≤ 11 by decide) with h | h <;> (simp only at h; subst h; decide)
    refine (put_sack sz lo hi sz.toNat hk w g _ (hr 9) (C 9 (by decide)) A n c bs hn HN hlen).mono ?_
    rintro e w' ⟨A', c', rfl, hO', hb⟩
    refine ⟨A', c', ?_, OwnN.lower hO' hO.2, hb.mono hO.2⟩
    rw [show (Pt5.put ⟨9, sz, lo, hi⟩ p).length = sz.toNat from lay_len _ _]
  · have hk : min (max sz 1) 7 = ((sz.toNat : Nat) : Int) := by
      rcases hsz (show 10 ≤ 11 by decide) with h | h <;> (simp only at h; subst h; decide)
    refine (put_nonce sz lo hi sz.toNat hk w g _ (hr 10) (C 10 (by decide)) A n c bs hn HN hlen).mono ?_
    rintro e w' ⟨A', c', rfl, hO', hb⟩
    refine ⟨A', c', ?_, OwnN.lower hO' hO.2, hb.mono hO.2⟩
    rw [show (Pt5.put ⟨10, sz, lo, hi⟩ p).length = sz.toNat from lay_len _ _]
  · have hk : min (max sz 1) 7 = ((sz.toNat : Nat) : Int) := by
      rcases hsz (show 11 ≤ 11 by decide) with h | h <;> (simp only at h; subst h; decide)
    refine (put_epoch sz lo hi sz.toNat hk w g _ (hr 11) (C 11 (by decide)) A n c bs hn HN hlen).mono ?_
    rintro e w' ⟨A', c', rfl, hO', hb⟩
    refine ⟨A', c', ?_, OwnN.lower hO' hO.2, hb.mono hO.2⟩
    rw [show (Pt5.put ⟨11, sz, lo, hi⟩ p).length = sz.toNat from lay_len _ _]
  · refine (put_secret sz lo hi w g p.s hp.s (fun o => nums_secret (RR o) hp) A n c bs base hn hO hlen).mono ?_
    rintro e w' ⟨A', c', rfl, hO', hb⟩
    refine ⟨A', c', ?_, hO', hb⟩
    rw [show (Pt5.put ⟨12, sz, lo, hi⟩ p).length = 16 from hp.s]
  · refine (put_tag sz lo hi w g p.t hp.t (fun o => nums_tag (RR o) hp) A n c bs base hn hO hlen).mono ?_
    rintro e w' ⟨A', c', rfl, hO', hb⟩
    refine ⟨A', c', ?_, hO', hb⟩
    rw [show (Pt5.put ⟨13, sz, lo, hi⟩ p).length = 8 from hp.t]
end Go.Proofs.Ytnfdfnkhjlkdhaa
