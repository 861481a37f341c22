/- What the parts of a packet come to: how one is copied. -/
import Derived.Test.YtnfdfnkhjlkdhaaWire3
namespace Go.Proofs.Ytnfdfnkhjlkdhaa
open Go.ChangeShapes Go.WideShapes Go.ChangeAt Go.RowKit
set_option maxHeartbeats 1000000 in
theorem copy_session (sz lo hi : Int) (w : World) (gp gq : Nat) (hlt : gp < gq) (cp cq : Array Value) (v y : Int) (Rp : w.heap[gp]? = some (.cells cp pkT)) (Rq : w.heap[gq]? = some (.cells cq pkT)) (Cp : cp[1]? = some (.int .i64 v)) (Cq : cq[1]? = some (.int .i64 y)) :
    Calls Try.prog 35 #[.agg #[.func (.func 60) #[] #[], .nilFunc, .int .i64 sz, .int .i64 lo, .int .i64 hi], .pointer (some ⟨gp, 0, none⟩), .pointer (some ⟨gq, 0, none⟩)] w fun e w' => e = .returned (.tuple #[]) ∧ w'.heap[gq]? = some (.cells (cq.setIfInBounds 1 (.int .i64 v)) pkT) ∧ Below gq w w' := by
  have Z := nil_row
  go_enter Try.func35, Try.ntmps35
  go_wp2_with fail
  have R := row_new (W := w) (cs := #[.func (.func 60) #[] #[], .nilFunc, .int .i64 sz, .int .i64 lo, .int .i64 hi]) (t := ptT) (m := (0, 0))
  have B : Below w.heap.size w (w.alloc (.cells #[.func (.func 60) #[] #[], .nilFunc, .int .i64 sz, .int .i64 lo, .int .i64 hi] ptT)) := (Below.refl _ _).alloc (Nat.le_refl _) _
  have Rp := row_kept Rp B (row_lt Rp)
  have hl := row_lt Rq
  have Rq := row_kept Rq B (row_lt Rq)
  have Cv := (cell_of_row _ gp 1 _ _ _ Rp).trans Cp
  generalize w.alloc (.cells #[.func (.func 60) #[] #[], .nilFunc, .int .i64 sz, .int .i64 lo, .int .i64 hi] ptT) = V at R B Rp Rq Cv ⊢
  have K := row_cells R
  refine region_tail 11 (by kernel_rfl) (by kernel_rfl) ?_
  simp only [List.take_succ_cons, List.take_zero, List.drop_succ_cons, List.drop_zero]
  repeat (quiet_step ((first | (go_at_call_of 60 gp; exact Calls.quiet_of_same ((at_session _ gp).mono fun _ _ h => ⟨h.1, h.2.symm⟩)) | (go_at_call_of 60 gq; exact Calls.quiet_of_same ((at_session _ gq).mono fun _ _ h => ⟨h.1, h.2.symm⟩)))))
  refine wpQuiet_nil ?_
  intro m
  have Rd : (V.drewN m).heap[gq]? = some (.cells cq pkT) := Rq
  obtain ⟨s0, s1, c0, c1, f0, f1, z1⟩ := rows1 Rd
  go_wp2
  go_end0
  exact ⟨rfl, row_written Rd, setRow_below ((below_drewN B m).mono (Nat.le_of_lt hl)) (Nat.le_refl _)⟩
set_option maxHeartbeats 1000000 in
theorem copy_seq (sz lo hi : Int) (w : World) (gp gq : Nat) (hlt : gp < gq) (cp cq : Array Value) (v y : Int) (Rp : w.heap[gp]? = some (.cells cp pkT)) (Rq : w.heap[gq]? = some (.cells cq pkT)) (Cp : cp[2]? = some (.int .i64 v)) (Cq : cq[2]? = some (.int .i64 y)) :
    Calls Try.prog 35 #[.agg #[.func (.func 61) #[] #[], .nilFunc, .int .i64 sz, .int .i64 lo, .int .i64 hi], .pointer (some ⟨gp, 0, none⟩), .pointer (some ⟨gq, 0, none⟩)] w fun e w' => e = .returned (.tuple #[]) ∧ w'.heap[gq]? = some (.cells (cq.setIfInBounds 2 (.int .i64 v)) pkT) ∧ Below gq w w' := by
  have Z := nil_row
  go_enter Try.func35, Try.ntmps35
  go_wp2_with fail
  have R := row_new (W := w) (cs := #[.func (.func 61) #[] #[], .nilFunc, .int .i64 sz, .int .i64 lo, .int .i64 hi]) (t := ptT) (m := (0, 0))
  have B : Below w.heap.size w (w.alloc (.cells #[.func (.func 61) #[] #[], .nilFunc, .int .i64 sz, .int .i64 lo, .int .i64 hi] ptT)) := (Below.refl _ _).alloc (Nat.le_refl _) _
  have Rp := row_kept Rp B (row_lt Rp)
  have hl := row_lt Rq
  have Rq := row_kept Rq B (row_lt Rq)
  have Cv := (cell_of_row _ gp 2 _ _ _ Rp).trans Cp
  generalize w.alloc (.cells #[.func (.func 61) #[] #[], .nilFunc, .int .i64 sz, .int .i64 lo, .int .i64 hi] ptT) = V at R B Rp Rq Cv ⊢
  have K := row_cells R
  refine region_tail 11 (by kernel_rfl) (by kernel_rfl) ?_
  simp only [List.take_succ_cons, List.take_zero, List.drop_succ_cons, List.drop_zero]
  repeat (quiet_step ((first | (go_at_call_of 61 gp; exact Calls.quiet_of_same ((at_seq _ gp).mono fun _ _ h => ⟨h.1, h.2.symm⟩)) | (go_at_call_of 61 gq; exact Calls.quiet_of_same ((at_seq _ gq).mono fun _ _ h => ⟨h.1, h.2.symm⟩)))))
  refine wpQuiet_nil ?_
  intro m
  have Rd : (V.drewN m).heap[gq]? = some (.cells cq pkT) := Rq
  obtain ⟨s0, s1, c0, c1, f0, f1, z1⟩ := rows1 Rd
  go_wp2
  go_end0
  exact ⟨rfl, row_written Rd, setRow_below ((below_drewN B m).mono (Nat.le_of_lt hl)) (Nat.le_refl _)⟩
set_option maxHeartbeats 1000000 in
theorem copy_user (sz lo hi : Int) (w : World) (gp gq : Nat) (hlt : gp < gq) (cp cq : Array Value) (v y : Int) (Rp : w.heap[gp]? = some (.cells cp pkT)) (Rq : w.heap[gq]? = some (.cells cq pkT)) (Cp : cp[3]? = some (.int .i64 v)) (Cq : cq[3]? = some (.int .i64 y)) :
    Calls Try.prog 35 #[.agg #[.func (.func 59) #[] #[], .nilFunc, .int .i64 sz, .int .i64 lo, .int .i64 hi], .pointer (some ⟨gp, 0, none⟩), .pointer (some ⟨gq, 0, none⟩)] w fun e w' => e = .returned (.tuple #[]) ∧ w'.heap[gq]? = some (.cells (cq.setIfInBounds 3 (.int .i64 v)) pkT) ∧ Below gq w w' := by
  have Z := nil_row
  go_enter Try.func35, Try.ntmps35
  go_wp2_with fail
  have R := row_new (W := w) (cs := #[.func (.func 59) #[] #[], .nilFunc, .int .i64 sz, .int .i64 lo, .int .i64 hi]) (t := ptT) (m := (0, 0))
  have B : Below w.heap.size w (w.alloc (.cells #[.func (.func 59) #[] #[], .nilFunc, .int .i64 sz, .int .i64 lo, .int .i64 hi] ptT)) := (Below.refl _ _).alloc (Nat.le_refl _) _
  have Rp := row_kept Rp B (row_lt Rp)
  have hl := row_lt Rq
  have Rq := row_kept Rq B (row_lt Rq)
  have Cv := (cell_of_row _ gp 3 _ _ _ Rp).trans Cp
  generalize w.alloc (.cells #[.func (.func 59) #[] #[], .nilFunc, .int .i64 sz, .int .i64 lo, .int .i64 hi] ptT) = V at R B Rp Rq Cv ⊢
  have K := row_cells R
  refine region_tail 11 (by kernel_rfl) (by kernel_rfl) ?_
  simp only [List.take_succ_cons, List.take_zero, List.drop_succ_cons, List.drop_zero]
  repeat (quiet_step ((first | (go_at_call_of 59 gp; exact Calls.quiet_of_same ((at_user _ gp).mono fun _ _ h => ⟨h.1, h.2.symm⟩)) | (go_at_call_of 59 gq; exact Calls.quiet_of_same ((at_user _ gq).mono fun _ _ h => ⟨h.1, h.2.symm⟩)))))
  refine wpQuiet_nil ?_
  intro m
  have Rd : (V.drewN m).heap[gq]? = some (.cells cq pkT) := Rq
  obtain ⟨s0, s1, c0, c1, f0, f1, z1⟩ := rows1 Rd
  go_wp2
  go_end0
  exact ⟨rfl, row_written Rd, setRow_below ((below_drewN B m).mono (Nat.le_of_lt hl)) (Nat.le_refl _)⟩
set_option maxHeartbeats 1000000 in
theorem copy_op (sz lo hi : Int) (w : World) (gp gq : Nat) (hlt : gp < gq) (cp cq : Array Value) (v y : Int) (Rp : w.heap[gp]? = some (.cells cp pkT)) (Rq : w.heap[gq]? = some (.cells cq pkT)) (Cp : cp[4]? = some (.int .i64 v)) (Cq : cq[4]? = some (.int .i64 y)) :
    Calls Try.prog 35 #[.agg #[.func (.func 64) #[] #[], .nilFunc, .int .i64 sz, .int .i64 lo, .int .i64 hi], .pointer (some ⟨gp, 0, none⟩), .pointer (some ⟨gq, 0, none⟩)] w fun e w' => e = .returned (.tuple #[]) ∧ w'.heap[gq]? = some (.cells (cq.setIfInBounds 4 (.int .i64 v)) pkT) ∧ Below gq w w' := by
  have Z := nil_row
  go_enter Try.func35, Try.ntmps35
  go_wp2_with fail
  have R := row_new (W := w) (cs := #[.func (.func 64) #[] #[], .nilFunc, .int .i64 sz, .int .i64 lo, .int .i64 hi]) (t := ptT) (m := (0, 0))
  have B : Below w.heap.size w (w.alloc (.cells #[.func (.func 64) #[] #[], .nilFunc, .int .i64 sz, .int .i64 lo, .int .i64 hi] ptT)) := (Below.refl _ _).alloc (Nat.le_refl _) _
  have Rp := row_kept Rp B (row_lt Rp)
  have hl := row_lt Rq
  have Rq := row_kept Rq B (row_lt Rq)
  have Cv := (cell_of_row _ gp 4 _ _ _ Rp).trans Cp
  generalize w.alloc (.cells #[.func (.func 64) #[] #[], .nilFunc, .int .i64 sz, .int .i64 lo, .int .i64 hi] ptT) = V at R B Rp Rq Cv ⊢
  have K := row_cells R
  refine region_tail 11 (by kernel_rfl) (by kernel_rfl) ?_
  simp only [List.take_succ_cons, List.take_zero, List.drop_succ_cons, List.drop_zero]
  repeat (quiet_step ((first | (go_at_call_of 64 gp; exact Calls.quiet_of_same ((at_op _ gp).mono fun _ _ h => ⟨h.1, h.2.symm⟩)) | (go_at_call_of 64 gq; exact Calls.quiet_of_same ((at_op _ gq).mono fun _ _ h => ⟨h.1, h.2.symm⟩)))))
  refine wpQuiet_nil ?_
  intro m
  have Rd : (V.drewN m).heap[gq]? = some (.cells cq pkT) := Rq
  obtain ⟨s0, s1, c0, c1, f0, f1, z1⟩ := rows1 Rd
  go_wp2
  go_end0
  exact ⟨rfl, row_written Rd, setRow_below ((below_drewN B m).mono (Nat.le_of_lt hl)) (Nat.le_refl _)⟩
set_option maxHeartbeats 1000000 in
theorem copy_status (sz lo hi : Int) (w : World) (gp gq : Nat) (hlt : gp < gq) (cp cq : Array Value) (v y : Int) (Rp : w.heap[gp]? = some (.cells cp pkT)) (Rq : w.heap[gq]? = some (.cells cq pkT)) (Cp : cp[5]? = some (.int .i64 v)) (Cq : cq[5]? = some (.int .i64 y)) :
    Calls Try.prog 35 #[.agg #[.func (.func 63) #[] #[], .nilFunc, .int .i64 sz, .int .i64 lo, .int .i64 hi], .pointer (some ⟨gp, 0, none⟩), .pointer (some ⟨gq, 0, none⟩)] w fun e w' => e = .returned (.tuple #[]) ∧ w'.heap[gq]? = some (.cells (cq.setIfInBounds 5 (.int .i64 v)) pkT) ∧ Below gq w w' := by
  have Z := nil_row
  go_enter Try.func35, Try.ntmps35
  go_wp2_with fail
  have R := row_new (W := w) (cs := #[.func (.func 63) #[] #[], .nilFunc, .int .i64 sz, .int .i64 lo, .int .i64 hi]) (t := ptT) (m := (0, 0))
  have B : Below w.heap.size w (w.alloc (.cells #[.func (.func 63) #[] #[], .nilFunc, .int .i64 sz, .int .i64 lo, .int .i64 hi] ptT)) := (Below.refl _ _).alloc (Nat.le_refl _) _
  have Rp := row_kept Rp B (row_lt Rp)
  have hl := row_lt Rq
  have Rq := row_kept Rq B (row_lt Rq)
  have Cv := (cell_of_row _ gp 5 _ _ _ Rp).trans Cp
  generalize w.alloc (.cells #[.func (.func 63) #[] #[], .nilFunc, .int .i64 sz, .int .i64 lo, .int .i64 hi] ptT) = V at R B Rp Rq Cv ⊢
  have K := row_cells R
  refine region_tail 11 (by kernel_rfl) (by kernel_rfl) ?_
  simp only [List.take_succ_cons, List.take_zero, List.drop_succ_cons, List.drop_zero]
  repeat (quiet_step ((first | (go_at_call_of 63 gp; exact Calls.quiet_of_same ((at_status _ gp).mono fun _ _ h => ⟨h.1, h.2.symm⟩)) | (go_at_call_of 63 gq; exact Calls.quiet_of_same ((at_status _ gq).mono fun _ _ h => ⟨h.1, h.2.symm⟩)))))
  refine wpQuiet_nil ?_
  intro m
  have Rd : (V.drewN m).heap[gq]? = some (.cells cq pkT) := Rq
  obtain ⟨s0, s1, c0, c1, f0, f1, z1⟩ := rows1 Rd
  go_wp2
  go_end0
  exact ⟨rfl, row_written Rd, setRow_below ((below_drewN B m).mono (Nat.le_of_lt hl)) (Nat.le_refl _)⟩
set_option maxHeartbeats 1000000 in
theorem copy_count (sz lo hi : Int) (w : World) (gp gq : Nat) (hlt : gp < gq) (cp cq : Array Value) (v y : Int) (Rp : w.heap[gp]? = some (.cells cp pkT)) (Rq : w.heap[gq]? = some (.cells cq pkT)) (Cp : cp[6]? = some (.int .i64 v)) (Cq : cq[6]? = some (.int .i64 y)) :
    Calls Try.prog 35 #[.agg #[.func (.func 66) #[] #[], .nilFunc, .int .i64 sz, .int .i64 lo, .int .i64 hi], .pointer (some ⟨gp, 0, none⟩), .pointer (some ⟨gq, 0, none⟩)] w fun e w' => e = .returned (.tuple #[]) ∧ w'.heap[gq]? = some (.cells (cq.setIfInBounds 6 (.int .i64 v)) pkT) ∧ Below gq w w' := by
  have Z := nil_row
  go_enter Try.func35, Try.ntmps35
  go_wp2_with fail
  have R := row_new (W := w) (cs := #[.func (.func 66) #[] #[], .nilFunc, .int .i64 sz, .int .i64 lo, .int .i64 hi]) (t := ptT) (m := (0, 0))
  have B : Below w.heap.size w (w.alloc (.cells #[.func (.func 66) #[] #[], .nilFunc, .int .i64 sz, .int .i64 lo, .int .i64 hi] ptT)) := (Below.refl _ _).alloc (Nat.le_refl _) _
  have Rp := row_kept Rp B (row_lt Rp)
  have hl := row_lt Rq
  have Rq := row_kept Rq B (row_lt Rq)
  have Cv := (cell_of_row _ gp 6 _ _ _ Rp).trans Cp
  generalize w.alloc (.cells #[.func (.func 66) #[] #[], .nilFunc, .int .i64 sz, .int .i64 lo, .int .i64 hi] ptT) = V at R B Rp Rq Cv ⊢
  have K := row_cells R
  refine region_tail 11 (by kernel_rfl) (by kernel_rfl) ?_
  simp only [List.take_succ_cons, List.take_zero, List.drop_succ_cons, List.drop_zero]
  repeat (quiet_step ((first | (go_at_call_of 66 gp; exact Calls.quiet_of_same ((at_count _ gp).mono fun _ _ h => ⟨h.1, h.2.symm⟩)) | (go_at_call_of 66 gq; exact Calls.quiet_of_same ((at_count _ gq).mono fun _ _ h => ⟨h.1, h.2.symm⟩)))))
  refine wpQuiet_nil ?_
  intro m
  have Rd : (V.drewN m).heap[gq]? = some (.cells cq pkT) := Rq
  obtain ⟨s0, s1, c0, c1, f0, f1, z1⟩ := rows1 Rd
  go_wp2
  go_end0
  exact ⟨rfl, row_written Rd, setRow_below ((below_drewN B m).mono (Nat.le_of_lt hl)) (Nat.le_refl _)⟩
set_option maxHeartbeats 1000000 in
theorem copy_version (sz lo hi : Int) (w : World) (gp gq : Nat) (hlt : gp < gq) (cp cq : Array Value) (v y : Int) (Rp : w.heap[gp]? = some (.cells cp pkT)) (Rq : w.heap[gq]? = some (.cells cq pkT)) (Cp : cp[7]? = some (.int .i64 v)) (Cq : cq[7]? = some (.int .i64 y)) :
    Calls Try.prog 35 #[.agg #[.func (.func 65) #[] #[], .nilFunc, .int .i64 sz, .int .i64 lo, .int .i64 hi], .pointer (some ⟨gp, 0, none⟩), .pointer (some ⟨gq, 0, none⟩)] w fun e w' => e = .returned (.tuple #[]) ∧ w'.heap[gq]? = some (.cells (cq.setIfInBounds 7 (.int .i64 v)) pkT) ∧ Below gq w w' := by
  have Z := nil_row
  go_enter Try.func35, Try.ntmps35
  go_wp2_with fail
  have R := row_new (W := w) (cs := #[.func (.func 65) #[] #[], .nilFunc, .int .i64 sz, .int .i64 lo, .int .i64 hi]) (t := ptT) (m := (0, 0))
  have B : Below w.heap.size w (w.alloc (.cells #[.func (.func 65) #[] #[], .nilFunc, .int .i64 sz, .int .i64 lo, .int .i64 hi] ptT)) := (Below.refl _ _).alloc (Nat.le_refl _) _
  have Rp := row_kept Rp B (row_lt Rp)
  have hl := row_lt Rq
  have Rq := row_kept Rq B (row_lt Rq)
  have Cv := (cell_of_row _ gp 7 _ _ _ Rp).trans Cp
  generalize w.alloc (.cells #[.func (.func 65) #[] #[], .nilFunc, .int .i64 sz, .int .i64 lo, .int .i64 hi] ptT) = V at R B Rp Rq Cv ⊢
  have K := row_cells R
  refine region_tail 11 (by kernel_rfl) (by kernel_rfl) ?_
  simp only [List.take_succ_cons, List.take_zero, List.drop_succ_cons, List.drop_zero]
  repeat (quiet_step ((first | (go_at_call_of 65 gp; exact Calls.quiet_of_same ((at_version _ gp).mono fun _ _ h => ⟨h.1, h.2.symm⟩)) | (go_at_call_of 65 gq; exact Calls.quiet_of_same ((at_version _ gq).mono fun _ _ h => ⟨h.1, h.2.symm⟩)))))
  refine wpQuiet_nil ?_
  intro m
  have Rd : (V.drewN m).heap[gq]? = some (.cells cq pkT) := Rq
  obtain ⟨s0, s1, c0, c1, f0, f1, z1⟩ := rows1 Rd
  go_wp2
  go_end0
  exact ⟨rfl, row_written Rd, setRow_below ((below_drewN B m).mono (Nat.le_of_lt hl)) (Nat.le_refl _)⟩
set_option maxHeartbeats 1000000 in
theorem copy_ack (sz lo hi : Int) (w : World) (gp gq : Nat) (hlt : gp < gq) (cp cq : Array Value) (v y : Int) (Rp : w.heap[gp]? = some (.cells cp pkT)) (Rq : w.heap[gq]? = some (.cells cq pkT)) (Cp : cp[8]? = some (.int .i64 v)) (Cq : cq[8]? = some (.int .i64 y)) :
    Calls Try.prog 35 #[.agg #[.func (.func 67) #[] #[], .nilFunc, .int .i64 sz, .int .i64 lo, .int .i64 hi], .pointer (some ⟨gp, 0, none⟩), .pointer (some ⟨gq, 0, none⟩)] w fun e w' => e = .returned (.tuple #[]) ∧ w'.heap[gq]? = some (.cells (cq.setIfInBounds 8 (.int .i64 v)) pkT) ∧ Below gq w w' := by
  have Z := nil_row
  go_enter Try.func35, Try.ntmps35
  go_wp2_with fail
  have R := row_new (W := w) (cs := #[.func (.func 67) #[] #[], .nilFunc, .int .i64 sz, .int .i64 lo, .int .i64 hi]) (t := ptT) (m := (0, 0))
  have B : Below w.heap.size w (w.alloc (.cells #[.func (.func 67) #[] #[], .nilFunc, .int .i64 sz, .int .i64 lo, .int .i64 hi] ptT)) := (Below.refl _ _).alloc (Nat.le_refl _) _
  have Rp := row_kept Rp B (row_lt Rp)
  have hl := row_lt Rq
  have Rq := row_kept Rq B (row_lt Rq)
  have Cv := (cell_of_row _ gp 8 _ _ _ Rp).trans Cp
  generalize w.alloc (.cells #[.func (.func 67) #[] #[], .nilFunc, .int .i64 sz, .int .i64 lo, .int .i64 hi] ptT) = V at R B Rp Rq Cv ⊢
  have K := row_cells R
  refine region_tail 11 (by kernel_rfl) (by kernel_rfl) ?_
  simp only [List.take_succ_cons, List.take_zero, List.drop_succ_cons, List.drop_zero]
  repeat (quiet_step ((first | (go_at_call_of 67 gp; exact Calls.quiet_of_same ((at_ack _ gp).mono fun _ _ h => ⟨h.1, h.2.symm⟩)) | (go_at_call_of 67 gq; exact Calls.quiet_of_same ((at_ack _ gq).mono fun _ _ h => ⟨h.1, h.2.symm⟩)))))
  refine wpQuiet_nil ?_
  intro m
  have Rd : (V.drewN m).heap[gq]? = some (.cells cq pkT) := Rq
  obtain ⟨s0, s1, c0, c1, f0, f1, z1⟩ := rows1 Rd
  go_wp2
  go_end0
  exact ⟨rfl, row_written Rd, setRow_below ((below_drewN B m).mono (Nat.le_of_lt hl)) (Nat.le_refl _)⟩
set_option maxHeartbeats 1000000 in
theorem copy_sack (sz lo hi : Int) (w : World) (gp gq : Nat) (hlt : gp < gq) (cp cq : Array Value) (v y : Int) (Rp : w.heap[gp]? = some (.cells cp pkT)) (Rq : w.heap[gq]? = some (.cells cq pkT)) (Cp : cp[9]? = some (.int .i64 v)) (Cq : cq[9]? = some (.int .i64 y)) :
    Calls Try.prog 35 #[.agg #[.func (.func 68) #[] #[], .nilFunc, .int .i64 sz, .int .i64 lo, .int .i64 hi], .pointer (some ⟨gp, 0, none⟩), .pointer (some ⟨gq, 0, none⟩)] w fun e w' => e = .returned (.tuple #[]) ∧ w'.heap[gq]? = some (.cells (cq.setIfInBounds 9 (.int .i64 v)) pkT) ∧ Below gq w w' := by
  have Z := nil_row
  go_enter Try.func35, Try.ntmps35
  go_wp2_with fail
  have R := row_new (W := w) (cs := #[.func (.func 68) #[] #[], .nilFunc, .int .i64 sz, .int .i64 lo, .int .i64 hi]) (t := ptT) (m := (0, 0))
  have B : Below w.heap.size w (w.alloc (.cells #[.func (.func 68) #[] #[], .nilFunc, .int .i64 sz, .int .i64 lo, .int .i64 hi] ptT)) := (Below.refl _ _).alloc (Nat.le_refl _) _
  have Rp := row_kept Rp B (row_lt Rp)
  have hl := row_lt Rq
  have Rq := row_kept Rq B (row_lt Rq)
  have Cv := (cell_of_row _ gp 9 _ _ _ Rp).trans Cp
  generalize w.alloc (.cells #[.func (.func 68) #[] #[], .nilFunc, .int .i64 sz, .int .i64 lo, .int .i64 hi] ptT) = V at R B Rp Rq Cv ⊢
  have K := row_cells R
  refine region_tail 11 (by kernel_rfl) (by kernel_rfl) ?_
  simp only [List.take_succ_cons, List.take_zero, List.drop_succ_cons, List.drop_zero]
  repeat (quiet_step ((first | (go_at_call_of 68 gp; exact Calls.quiet_of_same ((at_sack _ gp).mono fun _ _ h => ⟨h.1, h.2.symm⟩)) | (go_at_call_of 68 gq; exact Calls.quiet_of_same ((at_sack _ gq).mono fun _ _ h => ⟨h.1, h.2.symm⟩)))))
  refine wpQuiet_nil ?_
  intro m
  have Rd : (V.drewN m).heap[gq]? = some (.cells cq pkT) := Rq
  obtain ⟨s0, s1, c0, c1, f0, f1, z1⟩ := rows1 Rd
  go_wp2
  go_end0
  exact ⟨rfl, row_written Rd, setRow_below ((below_drewN B m).mono (Nat.le_of_lt hl)) (Nat.le_refl _)⟩
set_option maxHeartbeats 1000000 in
theorem copy_nonce (sz lo hi : Int) (w : World) (gp gq : Nat) (hlt : gp < gq) (cp cq : Array Value) (v y : Int) (Rp : w.heap[gp]? = some (.cells cp pkT)) (Rq : w.heap[gq]? = some (.cells cq pkT)) (Cp : cp[10]? = some (.int .i64 v)) (Cq : cq[10]? = some (.int .i64 y)) :
    Calls Try.prog 35 #[.agg #[.func (.func 56) #[] #[], .nilFunc, .int .i64 sz, .int .i64 lo, .int .i64 hi], .pointer (some ⟨gp, 0, none⟩), .pointer (some ⟨gq, 0, none⟩)] w fun e w' => e = .returned (.tuple #[]) ∧ w'.heap[gq]? = some (.cells (cq.setIfInBounds 10 (.int .i64 v)) pkT) ∧ Below gq w w' := by
  have Z := nil_row
  go_enter Try.func35, Try.ntmps35
  go_wp2_with fail
  have R := row_new (W := w) (cs := #[.func (.func 56) #[] #[], .nilFunc, .int .i64 sz, .int .i64 lo, .int .i64 hi]) (t := ptT) (m := (0, 0))
  have B : Below w.heap.size w (w.alloc (.cells #[.func (.func 56) #[] #[], .nilFunc, .int .i64 sz, .int .i64 lo, .int .i64 hi] ptT)) := (Below.refl _ _).alloc (Nat.le_refl _) _
  have Rp := row_kept Rp B (row_lt Rp)
  have hl := row_lt Rq
  have Rq := row_kept Rq B (row_lt Rq)
  have Cv := (cell_of_row _ gp 10 _ _ _ Rp).trans Cp
  generalize w.alloc (.cells #[.func (.func 56) #[] #[], .nilFunc, .int .i64 sz, .int .i64 lo, .int .i64 hi] ptT) = V at R B Rp Rq Cv ⊢
  have K := row_cells R
  refine region_tail 11 (by kernel_rfl) (by kernel_rfl) ?_
  simp only [List.take_succ_cons, List.take_zero, List.drop_succ_cons, List.drop_zero]
  repeat (quiet_step ((first | (go_at_call_of 56 gp; exact Calls.quiet_of_same ((at_nonce _ gp).mono fun _ _ h => ⟨h.1, h.2.symm⟩)) | (go_at_call_of 56 gq; exact Calls.quiet_of_same ((at_nonce _ gq).mono fun _ _ h => ⟨h.1, h.2.symm⟩)))))
  refine wpQuiet_nil ?_
  intro m
  have Rd : (V.drewN m).heap[gq]? = some (.cells cq pkT) := Rq
  obtain ⟨s0, s1, c0, c1, f0, f1, z1⟩ := rows1 Rd
  go_wp2
  go_end0
  exact ⟨rfl, row_written Rd, setRow_below ((below_drewN B m).mono (Nat.le_of_lt hl)) (Nat.le_refl _)⟩
set_option maxHeartbeats 1000000 in
theorem copy_epoch (sz lo hi : Int) (w : World) (gp gq : Nat) (hlt : gp < gq) (cp cq : Array Value) (v y : Int) (Rp : w.heap[gp]? = some (.cells cp pkT)) (Rq : w.heap[gq]? = some (.cells cq pkT)) (Cp : cp[11]? = some (.int .i64 v)) (Cq : cq[11]? = some (.int .i64 y)) :
    Calls Try.prog 35 #[.agg #[.func (.func 57) #[] #[], .nilFunc, .int .i64 sz, .int .i64 lo, .int .i64 hi], .pointer (some ⟨gp, 0, none⟩), .pointer (some ⟨gq, 0, none⟩)] w fun e w' => e = .returned (.tuple #[]) ∧ w'.heap[gq]? = some (.cells (cq.setIfInBounds 11 (.int .i64 v)) pkT) ∧ Below gq w w' := by
  have Z := nil_row
  go_enter Try.func35, Try.ntmps35
  go_wp2_with fail
  have R := row_new (W := w) (cs := #[.func (.func 57) #[] #[], .nilFunc, .int .i64 sz, .int .i64 lo, .int .i64 hi]) (t := ptT) (m := (0, 0))
  have B : Below w.heap.size w (w.alloc (.cells #[.func (.func 57) #[] #[], .nilFunc, .int .i64 sz, .int .i64 lo, .int .i64 hi] ptT)) := (Below.refl _ _).alloc (Nat.le_refl _) _
  have Rp := row_kept Rp B (row_lt Rp)
  have hl := row_lt Rq
  have Rq := row_kept Rq B (row_lt Rq)
  have Cv := (cell_of_row _ gp 11 _ _ _ Rp).trans Cp
  generalize w.alloc (.cells #[.func (.func 57) #[] #[], .nilFunc, .int .i64 sz, .int .i64 lo, .int .i64 hi] ptT) = V at R B Rp Rq Cv ⊢
  have K := row_cells R
  refine region_tail 11 (by kernel_rfl) (by kernel_rfl) ?_
  simp only [List.take_succ_cons, List.take_zero, List.drop_succ_cons, List.drop_zero]
  repeat (quiet_step ((first | (go_at_call_of 57 gp; exact Calls.quiet_of_same ((at_epoch _ gp).mono fun _ _ h => ⟨h.1, h.2.symm⟩)) | (go_at_call_of 57 gq; exact Calls.quiet_of_same ((at_epoch _ gq).mono fun _ _ h => ⟨h.1, h.2.symm⟩)))))
  refine wpQuiet_nil ?_
  intro m
  have Rd : (V.drewN m).heap[gq]? = some (.cells cq pkT) := Rq
  obtain ⟨s0, s1, c0, c1, f0, f1, z1⟩ := rows1 Rd
  go_wp2
  go_end0
  exact ⟨rfl, row_written Rd, setRow_below ((below_drewN B m).mono (Nat.le_of_lt hl)) (Nat.le_refl _)⟩
set_option maxHeartbeats 1000000 in
theorem copy_secret (sz lo hi : Int) (w : World) (gp gq : Nat) (hlt : gp < gq) (cp cq : List Value) (rs : List Int) (hrs : rs.length = 16) (hcq : cq.length = 36) (Rp : w.heap[gp]? = some (.cells cp.toArray pkT)) (Rq : w.heap[gq]? = some (.cells cq.toArray pkT)) (Cp : (cp.drop 12).take 16 = nrow .u8 rs) :
    Calls Try.prog 35 #[.agg #[.nilFunc, .func (.func 58) #[] #[], .int .i64 sz, .int .i64 lo, .int .i64 hi], .pointer (some ⟨gp, 0, none⟩), .pointer (some ⟨gq, 0, none⟩)] w fun e w' => e = .returned (.tuple #[]) ∧ w'.heap[gq]? = some (.cells (splice cq 12 (nrow .u8 rs)).toArray pkT) ∧ Below gq w w' := by
  have Z := fun_row
  have Hr := Lib.hid hrs
  have Hq := Lib.hid hcq
  have Hp := Lib.hid Cp
  clear hrs hcq Cp
  go_enter Try.func35, Try.ntmps35
  go_wp2_with fail
  have R := row_new (W := w) (cs := #[.nilFunc, .func (.func 58) #[] #[], .int .i64 sz, .int .i64 lo, .int .i64 hi]) (t := ptT) (m := (0, 0))
  have B : Below w.heap.size w (w.alloc (.cells #[.nilFunc, .func (.func 58) #[] #[], .int .i64 sz, .int .i64 lo, .int .i64 hi] ptT)) := (Below.refl _ _).alloc (Nat.le_refl _) _
  have Rp := row_kept Rp B (row_lt Rp)
  have hl := row_lt Rq
  have Rq := row_kept Rq B (row_lt Rq)
  generalize w.alloc (.cells #[.nilFunc, .func (.func 58) #[] #[], .int .i64 sz, .int .i64 lo, .int .i64 hi] ptT) = V at R B Rp Rq ⊢
  have K := row_cells R
  refine region_tail 8 (by kernel_rfl) (by kernel_rfl) ?_
  simp only [List.take_succ_cons, List.take_zero, List.drop_succ_cons, List.drop_zero]
  repeat (quiet_step ((first | (go_at_call_of 58 gp; exact Calls.quiet_of_same ((at_secret _ gp).mono fun _ _ h => ⟨h.1, h.2.symm⟩)) | (go_at_call_of 58 gq; exact Calls.quiet_of_same ((at_secret _ gq).mono fun _ _ h => ⟨h.1, h.2.symm⟩)))))
  refine wpQuiet_nil ?_
  intro m
  have Rd : (V.drewN m).heap[gq]? = some (.cells cq.toArray pkT) := Rq
  have Rs : (V.drewN m).heap[gp]? = some (.cells cp.toArray pkT) := Rp
  have Bd := (below_drewN B m).mono (Nat.le_of_lt hl)
  go_wp2_with (first
    | (refine wpList_copy_splice rfl (.tmp 12) (.tmp 16) _ _ rfl 5 (by kernel_rfl) (by kernel_rfl) _ _ _ _ _ _ rfl rfl gq 12 cq pkT Rd (nrow .u8 rs) (by rw [nrow_len, Hr.out]; rfl) (fun _ => ⟨rfl, _, rfl, fun i v hv => ?_⟩) (by rw [nrow_len, Hr.out, Hq.out]; decide) (nrow_one _ _) gq w Bd (Nat.le_refl _) ?_; rotate_left; intro w4 hR4 hB4))
  refine bodyPost_ret (results_none rfl _ _ _) rfl ?_
  exact ⟨rfl, hR4.out, hB4⟩
  rw [add_plain, cell_of_row _ _ _ _ _ _ Rs, List.getElem?_toArray]
  rw [← Hp.out, List.getElem?_take] at hv
  split at hv
  · rwa [List.getElem?_drop] at hv
  · cases hv
set_option maxHeartbeats 1000000 in
theorem copy_tag (sz lo hi : Int) (w : World) (gp gq : Nat) (hlt : gp < gq) (cp cq : List Value) (rs : List Int) (hrs : rs.length = 8) (hcq : cq.length = 36) (Rp : w.heap[gp]? = some (.cells cp.toArray pkT)) (Rq : w.heap[gq]? = some (.cells cq.toArray pkT)) (Cp : (cp.drop 28).take 8 = nrow .u8 rs) :
    Calls Try.prog 35 #[.agg #[.nilFunc, .func (.func 62) #[] #[], .int .i64 sz, .int .i64 lo, .int .i64 hi], .pointer (some ⟨gp, 0, none⟩), .pointer (some ⟨gq, 0, none⟩)] w fun e w' => e = .returned (.tuple #[]) ∧ w'.heap[gq]? = some (.cells (splice cq 28 (nrow .u8 rs)).toArray pkT) ∧ Below gq w w' := by
  have Z := fun_row
  have Hr := Lib.hid hrs
  have Hq := Lib.hid hcq
  have Hp := Lib.hid Cp
  clear hrs hcq Cp
  go_enter Try.func35, Try.ntmps35
  go_wp2_with fail
  have R := row_new (W := w) (cs := #[.nilFunc, .func (.func 62) #[] #[], .int .i64 sz, .int .i64 lo, .int .i64 hi]) (t := ptT) (m := (0, 0))
  have B : Below w.heap.size w (w.alloc (.cells #[.nilFunc, .func (.func 62) #[] #[], .int .i64 sz, .int .i64 lo, .int .i64 hi] ptT)) := (Below.refl _ _).alloc (Nat.le_refl _) _
  have Rp := row_kept Rp B (row_lt Rp)
  have hl := row_lt Rq
  have Rq := row_kept Rq B (row_lt Rq)
  generalize w.alloc (.cells #[.nilFunc, .func (.func 62) #[] #[], .int .i64 sz, .int .i64 lo, .int .i64 hi] ptT) = V at R B Rp Rq ⊢
  have K := row_cells R
  refine region_tail 8 (by kernel_rfl) (by kernel_rfl) ?_
  simp only [List.take_succ_cons, List.take_zero, List.drop_succ_cons, List.drop_zero]
  repeat (quiet_step ((first | (go_at_call_of 62 gp; exact Calls.quiet_of_same ((at_tag _ gp).mono fun _ _ h => ⟨h.1, h.2.symm⟩)) | (go_at_call_of 62 gq; exact Calls.quiet_of_same ((at_tag _ gq).mono fun _ _ h => ⟨h.1, h.2.symm⟩)))))
  refine wpQuiet_nil ?_
  intro m
  have Rd : (V.drewN m).heap[gq]? = some (.cells cq.toArray pkT) := Rq
  have Rs : (V.drewN m).heap[gp]? = some (.cells cp.toArray pkT) := Rp
  have Bd := (below_drewN B m).mono (Nat.le_of_lt hl)
  go_wp2_with (first
    | (refine wpList_copy_splice rfl (.tmp 12) (.tmp 16) _ _ rfl 5 (by kernel_rfl) (by kernel_rfl) _ _ _ _ _ _ rfl rfl gq 28 cq pkT Rd (nrow .u8 rs) (by rw [nrow_len, Hr.out]; rfl) (fun _ => ⟨rfl, _, rfl, fun i v hv => ?_⟩) (by rw [nrow_len, Hr.out, Hq.out]; decide) (nrow_one _ _) gq w Bd (Nat.le_refl _) ?_; rotate_left; intro w4 hR4 hB4))
  refine bodyPost_ret (results_none rfl _ _ _) rfl ?_
  exact ⟨rfl, hR4.out, hB4⟩
  rw [add_plain, cell_of_row _ _ _ _ _ _ Rs, List.getElem?_toArray]
  rw [← Hp.out, List.getElem?_take] at hv
  split at hv
  · rwa [List.getElem?_drop] at hv
  · cases hv
theorem copy_part (x : Pt5) (hx : x.Ok) (p q : Pk) (hp : p.Wf) (hq : q.Wf) (w : World) (gp gq : Nat) (hlt : gp < gq) (Rp : w.heap[gp]? = some (.cells (pcs p).toArray pkT)) (Rq : w.heap[gq]? = some (.cells (pcs q).toArray pkT)) :
    Calls Try.prog 35 #[.agg x.cs.toArray, .pointer (some ⟨gp, 0, none⟩), .pointer (some ⟨gq, 0, none⟩)] w fun e w' => e = .returned (.tuple #[]) ∧ w'.heap[gq]? = some (.cells (pcs (x.copy p q)).toArray pkT) ∧ Below gq w w' := by
  have Cp := fun (i : Nat) (hi : i < 12) => show (pcs p).toArray[i]? = _ from (List.getElem?_toArray ..).trans (pcs_at hp i hi)
  have Cq := fun (i : Nat) (hi : i < 12) => show (pcs q).toArray[i]? = _ from (List.getElem?_toArray ..).trans (pcs_at hq i hi)
  obtain ⟨j, sz, lo, hi⟩ := x
  rcases j_cases hx with h | h | h | h | h | h | h | h | h | h | h | h | h
  all_goals
    simp only at h
    subst h
  · refine (copy_session sz lo hi w gp gq hlt _ _ _ _ Rp Rq (Cp 1 (by decide)) (Cq 1 (by decide))).mono ?_
    rintro e w' ⟨rfl, h1, h2⟩
    refine ⟨rfl, ?_, h2⟩
    rw [h1, List.setIfInBounds_toArray, pcs_set hq 1 (by decide)]
    rfl
  · refine (copy_seq sz lo hi w gp gq hlt _ _ _ _ Rp Rq (Cp 2 (by decide)) (Cq 2 (by decide))).mono ?_
    rintro e w' ⟨rfl, h1, h2⟩
    refine ⟨rfl, ?_, h2⟩
    rw [h1, List.setIfInBounds_toArray, pcs_set hq 2 (by decide)]
    rfl
  · refine (copy_user sz lo hi w gp gq hlt _ _ _ _ Rp Rq (Cp 3 (by decide)) (Cq 3 (by decide))).mono ?_
    rintro e w' ⟨rfl, h1, h2⟩
    refine ⟨rfl, ?_, h2⟩
    rw [h1, List.setIfInBounds_toArray, pcs_set hq 3 (by decide)]
    rfl
  · refine (copy_op sz lo hi w gp gq hlt _ _ _ _ Rp Rq (Cp 4 (by decide)) (Cq 4 (by decide))).mono ?_
    rintro e w' ⟨rfl, h1, h2⟩
    refine ⟨rfl, ?_, h2⟩
    rw [h1, List.setIfInBounds_toArray, pcs_set hq 4 (by decide)]
    rfl
  · refine (copy_status sz lo hi w gp gq hlt _ _ _ _ Rp Rq (Cp 5 (by decide)) (Cq 5 (by decide))).mono ?_
    rintro e w' ⟨rfl, h1, h2⟩
    refine ⟨rfl, ?_, h2⟩
    rw [h1, List.setIfInBounds_toArray, pcs_set hq 5 (by decide)]
    rfl
  · refine (copy_count sz lo hi w gp gq hlt _ _ _ _ Rp Rq (Cp 6 (by decide)) (Cq 6 (by decide))).mono ?_
    rintro e w' ⟨rfl, h1, h2⟩
    refine ⟨rfl, ?_, h2⟩
    rw [h1, List.setIfInBounds_toArray, pcs_set hq 6 (by decide)]
    rfl
  · refine (copy_version sz lo hi w gp gq hlt _ _ _ _ Rp Rq (Cp 7 (by decide)) (Cq 7 (by decide))).mono ?_
    rintro e w' ⟨rfl, h1, h2⟩
    refine ⟨rfl, ?_, h2⟩
    rw [h1, List.setIfInBounds_toArray, pcs_set hq 7 (by decide)]
    rfl
  · refine (copy_ack sz lo hi w gp gq hlt _ _ _ _ Rp Rq (Cp 8 (by decide)) (Cq 8 (by decide))).mono ?_
    rintro e w' ⟨rfl, h1, h2⟩
    refine ⟨rfl, ?_, h2⟩
    rw [h1, List.setIfInBounds_toArray, pcs_set hq 8 (by decide)]
    rfl
  · refine (copy_sack sz lo hi w gp gq hlt _ _ _ _ Rp Rq (Cp 9 (by decide)) (Cq 9 (by decide))).mono ?_
    rintro e w' ⟨rfl, h1, h2⟩
    refine ⟨rfl, ?_, h2⟩
    rw [h1, List.setIfInBounds_toArray, pcs_set hq 9 (by decide)]
    rfl
  · refine (copy_nonce sz lo hi w gp gq hlt _ _ _ _ Rp Rq (Cp 10 (by decide)) (Cq 10 (by decide))).mono ?_
    rintro e w' ⟨rfl, h1, h2⟩
    refine ⟨rfl, ?_, h2⟩
    rw [h1, List.setIfInBounds_toArray, pcs_set hq 10 (by decide)]
    rfl
  · refine (copy_epoch sz lo hi w gp gq hlt _ _ _ _ Rp Rq (Cp 11 (by decide)) (Cq 11 (by decide))).mono ?_
    rintro e w' ⟨rfl, h1, h2⟩
    refine ⟨rfl, ?_, h2⟩
    rw [h1, List.setIfInBounds_toArray, pcs_set hq 11 (by decide)]
    rfl
  · refine (copy_secret sz lo hi w gp gq hlt _ _ p.s hp.s (pcs_len hq) Rp Rq (pcs_secret hp)).mono ?_
    rintro e w' ⟨rfl, h1, h2⟩
    refine ⟨rfl, ?_, h2⟩
    rw [h1, splice_secret hq hp.s]
    rfl
  · refine (copy_tag sz lo hi w gp gq hlt _ _ p.t hp.t (pcs_len hq) Rp Rq (pcs_tag hp)).mono ?_
    rintro e w' ⟨rfl, h1, h2⟩
    refine ⟨rfl, ?_, h2⟩
    rw [h1, splice_tag hq hp.t]
    rfl
end Go.Proofs.Ytnfdfnkhjlkdhaa
