/- What the parts of a packet come to: whether one fits. -/
import Derived.Test.YtnfdfnkhjlkdhaaWire
import Derived.Test.YtnfdfnkhjlkdhaaMem6
import Derived.Test.YtnfdfnkhjlkdhaaMem8b
namespace Go.Proofs.Ytnfdfnkhjlkdhaa
open Go.ChangeShapes Go.WideShapes Go.ChangeAt Go.RowKit
theorem nil_row (W : World) : (binOp .neq 44 .nilFunc .nilFunc).run Try.prog W = .ok (.bool false) W := by kernel_rfl
theorem fun_row (W : World) (f : FuncId) : (binOp .neq 44 (.func (.func f) #[] #[]) .nilFunc).run Try.prog W = .ok (.bool true) W := by kernel_rfl
theorem j_cases {x : Pt5} (h : x.Ok) : x.j = 1 ∨ x.j = 2 ∨ x.j = 3 ∨ x.j = 4 ∨ x.j = 5 ∨ x.j = 6 ∨ x.j = 7 ∨ x.j = 8 ∨ x.j = 9 ∨ x.j = 10 ∨ x.j = 11 ∨ x.j = 12 ∨ x.j = 13 := by
  have := h.j1; have := h.j2; omega
theorem pk_cell {W : World} {g : Nat} {p : Pk} (h : W.heap[g]? = some (.cells (pcs p).toArray pkT)) (hp : p.Wf) (i : Nat) (hi : i < 12) : W.cell? ⟨g, i, none⟩ = some (.int .i64 (p.h.getD i 0)) := by
  rw [cell_of_row _ _ _ _ _ _ h, List.getElem?_toArray, pcs_at hp i hi]
theorem fits_session (sz lo hi : Int) (w : World) (g : Nat) (v : Int) (C : ∀ o : Obj, (w.alloc o).cell? ⟨g, 1, none⟩ = some (.int .i64 v)) :
    Calls Try.prog 34 #[.agg #[.func (.func 60) #[] #[], .nilFunc, .int .i64 sz, .int .i64 lo, .int .i64 hi], .pointer (some ⟨g, 0, none⟩)] w fun e w' => e = .returned (.bool (decide (lo ≤ v) && decide (v ≤ hi))) ∧ Below w.heap.size w w' := by
  have B : ∀ o : Obj, Below w.heap.size w (w.alloc o) := fun o => (Below.refl _ _).alloc (Nat.le_refl _) _
  have Z := nil_row
  by_cases h1 : lo ≤ v
  · by_cases h2 : v ≤ hi
    · have d1 : decide (lo ≤ v) = true := decide_eq_true h1
      have d2 : decide (v ≤ hi) = true := decide_eq_true h2
      go_enter Try.func34, Try.ntmps34
      go_wp2_with (first
        | (go_at_call 60; refine (at_session _ g).mono ?_; rintro e w' ⟨rfl, rfl⟩))
      go_ret
      exact ⟨ret_bool (by rw [d1, d2]; rfl), B _⟩
    · have d1 : decide (lo ≤ v) = true := decide_eq_true h1
      have d2 : decide (v ≤ hi) = false := decide_eq_false h2
      go_enter Try.func34, Try.ntmps34
      go_wp2_with (first
        | (go_at_call 60; refine (at_session _ g).mono ?_; rintro e w' ⟨rfl, rfl⟩))
      go_ret
      exact ⟨ret_bool (by rw [d1, d2]; rfl), B _⟩
  · have d1 : decide (lo ≤ v) = false := decide_eq_false h1
    go_enter Try.func34, Try.ntmps34
    go_wp2_with (first
      | (go_at_call 60; refine (at_session _ g).mono ?_; rintro e w' ⟨rfl, rfl⟩))
    go_ret
    exact ⟨ret_bool (by rw [d1]; rfl), B _⟩
theorem fits_seq (sz lo hi : Int) (w : World) (g : Nat) (v : Int) (C : ∀ o : Obj, (w.alloc o).cell? ⟨g, 2, none⟩ = some (.int .i64 v)) :
    Calls Try.prog 34 #[.agg #[.func (.func 61) #[] #[], .nilFunc, .int .i64 sz, .int .i64 lo, .int .i64 hi], .pointer (some ⟨g, 0, none⟩)] w fun e w' => e = .returned (.bool (decide (lo ≤ v) && decide (v ≤ hi))) ∧ Below w.heap.size w w' := by
  have B : ∀ o : Obj, Below w.heap.size w (w.alloc o) := fun o => (Below.refl _ _).alloc (Nat.le_refl _) _
  have Z := nil_row
  by_cases h1 : lo ≤ v
  · by_cases h2 : v ≤ hi
    · have d1 : decide (lo ≤ v) = true := decide_eq_true h1
      have d2 : decide (v ≤ hi) = true := decide_eq_true h2
      go_enter Try.func34, Try.ntmps34
      go_wp2_with (first
        | (go_at_call 61; refine (at_seq _ g).mono ?_; rintro e w' ⟨rfl, rfl⟩))
      go_ret
      exact ⟨ret_bool (by rw [d1, d2]; rfl), B _⟩
    · have d1 : decide (lo ≤ v) = true := decide_eq_true h1
      have d2 : decide (v ≤ hi) = false := decide_eq_false h2
      go_enter Try.func34, Try.ntmps34
      go_wp2_with (first
        | (go_at_call 61; refine (at_seq _ g).mono ?_; rintro e w' ⟨rfl, rfl⟩))
      go_ret
      exact ⟨ret_bool (by rw [d1, d2]; rfl), B _⟩
  · have d1 : decide (lo ≤ v) = false := decide_eq_false h1
    go_enter Try.func34, Try.ntmps34
    go_wp2_with (first
      | (go_at_call 61; refine (at_seq _ g).mono ?_; rintro e w' ⟨rfl, rfl⟩))
    go_ret
    exact ⟨ret_bool (by rw [d1]; rfl), B _⟩
theorem fits_user (sz lo hi : Int) (w : World) (g : Nat) (v : Int) (C : ∀ o : Obj, (w.alloc o).cell? ⟨g, 3, none⟩ = some (.int .i64 v)) :
    Calls Try.prog 34 #[.agg #[.func (.func 59) #[] #[], .nilFunc, .int .i64 sz, .int .i64 lo, .int .i64 hi], .pointer (some ⟨g, 0, none⟩)] w fun e w' => e = .returned (.bool (decide (lo ≤ v) && decide (v ≤ hi))) ∧ Below w.heap.size w w' := by
  have B : ∀ o : Obj, Below w.heap.size w (w.alloc o) := fun o => (Below.refl _ _).alloc (Nat.le_refl _) _
  have Z := nil_row
  by_cases h1 : lo ≤ v
  · by_cases h2 : v ≤ hi
    · have d1 : decide (lo ≤ v) = true := decide_eq_true h1
      have d2 : decide (v ≤ hi) = true := decide_eq_true h2
      go_enter Try.func34, Try.ntmps34
      go_wp2_with (first
        | (go_at_call 59; refine (at_user _ g).mono ?_; rintro e w' ⟨rfl, rfl⟩))
      go_ret
      exact ⟨ret_bool (by rw [d1, d2]; rfl), B _⟩
    · have d1 : decide (lo ≤ v) = true := decide_eq_true h1
      have d2 : decide (v ≤ hi) = false := decide_eq_false h2
      go_enter Try.func34, Try.ntmps34
      go_wp2_with (first
        | (go_at_call 59; refine (at_user _ g).mono ?_; rintro e w' ⟨rfl, rfl⟩))
      go_ret
      exact ⟨ret_bool (by rw [d1, d2]; rfl), B _⟩
  · have d1 : decide (lo ≤ v) = false := decide_eq_false h1
    go_enter Try.func34, Try.ntmps34
    go_wp2_with (first
      | (go_at_call 59; refine (at_user _ g).mono ?_; rintro e w' ⟨rfl, rfl⟩))
    go_ret
    exact ⟨ret_bool (by rw [d1]; rfl), B _⟩
theorem fits_op (sz lo hi : Int) (w : World) (g : Nat) (v : Int) (C : ∀ o : Obj, (w.alloc o).cell? ⟨g, 4, none⟩ = some (.int .i64 v)) :
    Calls Try.prog 34 #[.agg #[.func (.func 64) #[] #[], .nilFunc, .int .i64 sz, .int .i64 lo, .int .i64 hi], .pointer (some ⟨g, 0, none⟩)] w fun e w' => e = .returned (.bool (decide (lo ≤ v) && decide (v ≤ hi))) ∧ Below w.heap.size w w' := by
  have B : ∀ o : Obj, Below w.heap.size w (w.alloc o) := fun o => (Below.refl _ _).alloc (Nat.le_refl _) _
  have Z := nil_row
  by_cases h1 : lo ≤ v
  · by_cases h2 : v ≤ hi
    · have d1 : decide (lo ≤ v) = true := decide_eq_true h1
      have d2 : decide (v ≤ hi) = true := decide_eq_true h2
      go_enter Try.func34, Try.ntmps34
      go_wp2_with (first
        | (go_at_call 64; refine (at_op _ g).mono ?_; rintro e w' ⟨rfl, rfl⟩))
      go_ret
      exact ⟨ret_bool (by rw [d1, d2]; rfl), B _⟩
    · have d1 : decide (lo ≤ v) = true := decide_eq_true h1
      have d2 : decide (v ≤ hi) = false := decide_eq_false h2
      go_enter Try.func34, Try.ntmps34
      go_wp2_with (first
        | (go_at_call 64; refine (at_op _ g).mono ?_; rintro e w' ⟨rfl, rfl⟩))
      go_ret
      exact ⟨ret_bool (by rw [d1, d2]; rfl), B _⟩
  · have d1 : decide (lo ≤ v) = false := decide_eq_false h1
    go_enter Try.func34, Try.ntmps34
    go_wp2_with (first
      | (go_at_call 64; refine (at_op _ g).mono ?_; rintro e w' ⟨rfl, rfl⟩))
    go_ret
    exact ⟨ret_bool (by rw [d1]; rfl), B _⟩
theorem fits_status (sz lo hi : Int) (w : World) (g : Nat) (v : Int) (C : ∀ o : Obj, (w.alloc o).cell? ⟨g, 5, none⟩ = some (.int .i64 v)) :
    Calls Try.prog 34 #[.agg #[.func (.func 63) #[] #[], .nilFunc, .int .i64 sz, .int .i64 lo, .int .i64 hi], .pointer (some ⟨g, 0, none⟩)] w fun e w' => e = .returned (.bool (decide (lo ≤ v) && decide (v ≤ hi))) ∧ Below w.heap.size w w' := by
  have B : ∀ o : Obj, Below w.heap.size w (w.alloc o) := fun o => (Below.refl _ _).alloc (Nat.le_refl _) _
  have Z := nil_row
  by_cases h1 : lo ≤ v
  · by_cases h2 : v ≤ hi
    · have d1 : decide (lo ≤ v) = true := decide_eq_true h1
      have d2 : decide (v ≤ hi) = true := decide_eq_true h2
      go_enter Try.func34, Try.ntmps34
      go_wp2_with (first
        | (go_at_call 63; refine (at_status _ g).mono ?_; rintro e w' ⟨rfl, rfl⟩))
      go_ret
      exact ⟨ret_bool (by rw [d1, d2]; rfl), B _⟩
    · have d1 : decide (lo ≤ v) = true := decide_eq_true h1
      have d2 : decide (v ≤ hi) = false := decide_eq_false h2
      go_enter Try.func34, Try.ntmps34
      go_wp2_with (first
        | (go_at_call 63; refine (at_status _ g).mono ?_; rintro e w' ⟨rfl, rfl⟩))
      go_ret
      exact ⟨ret_bool (by rw [d1, d2]; rfl), B _⟩
  · have d1 : decide (lo ≤ v) = false := decide_eq_false h1
    go_enter Try.func34, Try.ntmps34
    go_wp2_with (first
      | (go_at_call 63; refine (at_status _ g).mono ?_; rintro e w' ⟨rfl, rfl⟩))
    go_ret
    exact ⟨ret_bool (by rw [d1]; rfl), B _⟩
theorem fits_count (sz lo hi : Int) (w : World) (g : Nat) (v : Int) (C : ∀ o : Obj, (w.alloc o).cell? ⟨g, 6, none⟩ = some (.int .i64 v)) :
    Calls Try.prog 34 #[.agg #[.func (.func 66) #[] #[], .nilFunc, .int .i64 sz, .int .i64 lo, .int .i64 hi], .pointer (some ⟨g, 0, none⟩)] w fun e w' => e = .returned (.bool (decide (lo ≤ v) && decide (v ≤ hi))) ∧ Below w.heap.size w w' := by
  have B : ∀ o : Obj, Below w.heap.size w (w.alloc o) := fun o => (Below.refl _ _).alloc (Nat.le_refl _) _
  have Z := nil_row
  by_cases h1 : lo ≤ v
  · by_cases h2 : v ≤ hi
    · have d1 : decide (lo ≤ v) = true := decide_eq_true h1
      have d2 : decide (v ≤ hi) = true := decide_eq_true h2
      go_enter Try.func34, Try.ntmps34
      go_wp2_with (first
        | (go_at_call 66; refine (at_count _ g).mono ?_; rintro e w' ⟨rfl, rfl⟩))
      go_ret
      exact ⟨ret_bool (by rw [d1, d2]; rfl), B _⟩
    · have d1 : decide (lo ≤ v) = true := decide_eq_true h1
      have d2 : decide (v ≤ hi) = false := decide_eq_false h2
      go_enter Try.func34, Try.ntmps34
      go_wp2_with (first
        | (go_at_call 66; refine (at_count _ g).mono ?_; rintro e w' ⟨rfl, rfl⟩))
      go_ret
      exact ⟨ret_bool (by rw [d1, d2]; rfl), B _⟩
  · have d1 : decide (lo ≤ v) = false := decide_eq_false h1
    go_enter Try.func34, Try.ntmps34
    go_wp2_with (first
      | (go_at_call 66; refine (at_count _ g).mono ?_; rintro e w' ⟨rfl, rfl⟩))
    go_ret
    exact ⟨ret_bool (by rw [d1]; rfl), B _⟩
theorem fits_version (sz lo hi : Int) (w : World) (g : Nat) (v : Int) (C : ∀ o : Obj, (w.alloc o).cell? ⟨g, 7, none⟩ = some (.int .i64 v)) :
    Calls Try.prog 34 #[.agg #[.func (.func 65) #[] #[], .nilFunc, .int .i64 sz, .int .i64 lo, .int .i64 hi], .pointer (some ⟨g, 0, none⟩)] w fun e w' => e = .returned (.bool (decide (lo ≤ v) && decide (v ≤ hi))) ∧ Below w.heap.size w w' := by
  have B : ∀ o : Obj, Below w.heap.size w (w.alloc o) := fun o => (Below.refl _ _).alloc (Nat.le_refl _) _
  have Z := nil_row
  by_cases h1 : lo ≤ v
  · by_cases h2 : v ≤ hi
    · have d1 : decide (lo ≤ v) = true := decide_eq_true h1
      have d2 : decide (v ≤ hi) = true := decide_eq_true h2
      go_enter Try.func34, Try.ntmps34
      go_wp2_with (first
        | (go_at_call 65; refine (at_version _ g).mono ?_; rintro e w' ⟨rfl, rfl⟩))
      go_ret
      exact ⟨ret_bool (by rw [d1, d2]; rfl), B _⟩
    · have d1 : decide (lo ≤ v) = true := decide_eq_true h1
      have d2 : decide (v ≤ hi) = false := decide_eq_false h2
      go_enter Try.func34, Try.ntmps34
      go_wp2_with (first
        | (go_at_call 65; refine (at_version _ g).mono ?_; rintro e w' ⟨rfl, rfl⟩))
      go_ret
      exact ⟨ret_bool (by rw [d1, d2]; rfl), B _⟩
  · have d1 : decide (lo ≤ v) = false := decide_eq_false h1
    go_enter Try.func34, Try.ntmps34
    go_wp2_with (first
      | (go_at_call 65; refine (at_version _ g).mono ?_; rintro e w' ⟨rfl, rfl⟩))
    go_ret
    exact ⟨ret_bool (by rw [d1]; rfl), B _⟩
theorem fits_ack (sz lo hi : Int) (w : World) (g : Nat) (v : Int) (C : ∀ o : Obj, (w.alloc o).cell? ⟨g, 8, none⟩ = some (.int .i64 v)) :
    Calls Try.prog 34 #[.agg #[.func (.func 67) #[] #[], .nilFunc, .int .i64 sz, .int .i64 lo, .int .i64 hi], .pointer (some ⟨g, 0, none⟩)] w fun e w' => e = .returned (.bool (decide (lo ≤ v) && decide (v ≤ hi))) ∧ Below w.heap.size w w' := by
  have B : ∀ o : Obj, Below w.heap.size w (w.alloc o) := fun o => (Below.refl _ _).alloc (Nat.le_refl _) _
  have Z := nil_row
  by_cases h1 : lo ≤ v
  · by_cases h2 : v ≤ hi
    · have d1 : decide (lo ≤ v) = true := decide_eq_true h1
      have d2 : decide (v ≤ hi) = true := decide_eq_true h2
      go_enter Try.func34, Try.ntmps34
      go_wp2_with (first
        | (go_at_call 67; refine (at_ack _ g).mono ?_; rintro e w' ⟨rfl, rfl⟩))
      go_ret
      exact ⟨ret_bool (by rw [d1, d2]; rfl), B _⟩
    · have d1 : decide (lo ≤ v) = true := decide_eq_true h1
      have d2 : decide (v ≤ hi) = false := decide_eq_false h2
      go_enter Try.func34, Try.ntmps34
      go_wp2_with (first
        | (go_at_call 67; refine (at_ack _ g).mono ?_; rintro e w' ⟨rfl, rfl⟩))
      go_ret
      exact ⟨ret_bool (by rw [d1, d2]; rfl), B _⟩
  · have d1 : decide (lo ≤ v) = false := decide_eq_false h1
    go_enter Try.func34, Try.ntmps34
    go_wp2_with (first
      | (go_at_call 67; refine (at_ack _ g).mono ?_; rintro e w' ⟨rfl, rfl⟩))
    go_ret
    exact ⟨ret_bool (by rw [d1]; rfl), B _⟩
theorem fits_sack (sz lo hi : Int) (w : World) (g : Nat) (v : Int) (C : ∀ o : Obj, (w.alloc o).cell? ⟨g, 9, none⟩ = some (.int .i64 v)) :
    Calls Try.prog 34 #[.agg #[.func (.func 68) #[] #[], .nilFunc, .int .i64 sz, .int .i64 lo, .int .i64 hi], .pointer (some ⟨g, 0, none⟩)] w fun e w' => e = .returned (.bool (decide (lo ≤ v) && decide (v ≤ hi))) ∧ Below w.heap.size w w' := by
  have B : ∀ o : Obj, Below w.heap.size w (w.alloc o) := fun o => (Below.refl _ _).alloc (Nat.le_refl _) _
  have Z := nil_row
  by_cases h1 : lo ≤ v
  · by_cases h2 : v ≤ hi
    · have d1 : decide (lo ≤ v) = true := decide_eq_true h1
      have d2 : decide (v ≤ hi) = true := decide_eq_true h2
      go_enter Try.func34, Try.ntmps34
      go_wp2_with (first
        | (go_at_call 68; refine (at_sack _ g).mono ?_; rintro e w' ⟨rfl, rfl⟩))
      go_ret
      exact ⟨ret_bool (by rw [d1, d2]; rfl), B _⟩
    · have d1 : decide (lo ≤ v) = true := decide_eq_true h1
      have d2 : decide (v ≤ hi) = false := decide_eq_false h2
      go_enter Try.func34, Try.ntmps34
      go_wp2_with (first
        | (go_at_call 68; refine (at_sack _ g).mono ?_; rintro e w' ⟨rfl, rfl⟩))
      go_ret
      exact ⟨ret_bool (by rw [d1, d2]; rfl), B _⟩
  · have d1 : decide (lo ≤ v) = false := decide_eq_false h1
    go_enter Try.func34, Try.ntmps34
    go_wp2_with (first
      | (go_at_call 68; refine (at_sack _ g).mono ?_; rintro e w' ⟨rfl, rfl⟩))
    go_ret
    exact ⟨ret_bool (by rw [d1]; rfl), B _⟩
theorem fits_nonce (sz lo hi : Int) (w : World) (g : Nat) (v : Int) (C : ∀ o : Obj, (w.alloc o).cell? ⟨g, 10, none⟩ = some (.int .i64 v)) :
    Calls Try.prog 34 #[.agg #[.func (.func 56) #[] #[], .nilFunc, .int .i64 sz, .int .i64 lo, .int .i64 hi], .pointer (some ⟨g, 0, none⟩)] w fun e w' => e = .returned (.bool (decide (lo ≤ v) && decide (v ≤ hi))) ∧ Below w.heap.size w w' := by
  have B : ∀ o : Obj, Below w.heap.size w (w.alloc o) := fun o => (Below.refl _ _).alloc (Nat.le_refl _) _
  have Z := nil_row
  by_cases h1 : lo ≤ v
  · by_cases h2 : v ≤ hi
    · have d1 : decide (lo ≤ v) = true := decide_eq_true h1
      have d2 : decide (v ≤ hi) = true := decide_eq_true h2
      go_enter Try.func34, Try.ntmps34
      go_wp2_with (first
        | (go_at_call 56; refine (at_nonce _ g).mono ?_; rintro e w' ⟨rfl, rfl⟩))
      go_ret
      exact ⟨ret_bool (by rw [d1, d2]; rfl), B _⟩
    · have d1 : decide (lo ≤ v) = true := decide_eq_true h1
      have d2 : decide (v ≤ hi) = false := decide_eq_false h2
      go_enter Try.func34, Try.ntmps34
      go_wp2_with (first
        | (go_at_call 56; refine (at_nonce _ g).mono ?_; rintro e w' ⟨rfl, rfl⟩))
      go_ret
      exact ⟨ret_bool (by rw [d1, d2]; rfl), B _⟩
  · have d1 : decide (lo ≤ v) = false := decide_eq_false h1
    go_enter Try.func34, Try.ntmps34
    go_wp2_with (first
      | (go_at_call 56; refine (at_nonce _ g).mono ?_; rintro e w' ⟨rfl, rfl⟩))
    go_ret
    exact ⟨ret_bool (by rw [d1]; rfl), B _⟩
theorem fits_epoch (sz lo hi : Int) (w : World) (g : Nat) (v : Int) (C : ∀ o : Obj, (w.alloc o).cell? ⟨g, 11, none⟩ = some (.int .i64 v)) :
    Calls Try.prog 34 #[.agg #[.func (.func 57) #[] #[], .nilFunc, .int .i64 sz, .int .i64 lo, .int .i64 hi], .pointer (some ⟨g, 0, none⟩)] w fun e w' => e = .returned (.bool (decide (lo ≤ v) && decide (v ≤ hi))) ∧ Below w.heap.size w w' := by
  have B : ∀ o : Obj, Below w.heap.size w (w.alloc o) := fun o => (Below.refl _ _).alloc (Nat.le_refl _) _
  have Z := nil_row
  by_cases h1 : lo ≤ v
  · by_cases h2 : v ≤ hi
    · have d1 : decide (lo ≤ v) = true := decide_eq_true h1
      have d2 : decide (v ≤ hi) = true := decide_eq_true h2
      go_enter Try.func34, Try.ntmps34
      go_wp2_with (first
        | (go_at_call 57; refine (at_epoch _ g).mono ?_; rintro e w' ⟨rfl, rfl⟩))
      go_ret
      exact ⟨ret_bool (by rw [d1, d2]; rfl), B _⟩
    · have d1 : decide (lo ≤ v) = true := decide_eq_true h1
      have d2 : decide (v ≤ hi) = false := decide_eq_false h2
      go_enter Try.func34, Try.ntmps34
      go_wp2_with (first
        | (go_at_call 57; refine (at_epoch _ g).mono ?_; rintro e w' ⟨rfl, rfl⟩))
      go_ret
      exact ⟨ret_bool (by rw [d1, d2]; rfl), B _⟩
  · have d1 : decide (lo ≤ v) = false := decide_eq_false h1
    go_enter Try.func34, Try.ntmps34
    go_wp2_with (first
      | (go_at_call 57; refine (at_epoch _ g).mono ?_; rintro e w' ⟨rfl, rfl⟩))
    go_ret
    exact ⟨ret_bool (by rw [d1]; rfl), B _⟩
theorem fits_secret (sz lo hi : Int) (w : World) (g : Nat) :
    Calls Try.prog 34 #[.agg #[.nilFunc, .func (.func 58) #[] #[], .int .i64 sz, .int .i64 lo, .int .i64 hi], .pointer (some ⟨g, 0, none⟩)] w fun e w' => e = .returned (.bool (true)) ∧ Below w.heap.size w w' := by
  have B : ∀ o : Obj, Below w.heap.size w (w.alloc o) := fun o => (Below.refl _ _).alloc (Nat.le_refl _) _
  have Z := fun_row
  go_enter Try.func34, Try.ntmps34
  go_wp2
  go_ret
  exact ⟨rfl, B _⟩
theorem fits_tag (sz lo hi : Int) (w : World) (g : Nat) :
    Calls Try.prog 34 #[.agg #[.nilFunc, .func (.func 62) #[] #[], .int .i64 sz, .int .i64 lo, .int .i64 hi], .pointer (some ⟨g, 0, none⟩)] w fun e w' => e = .returned (.bool (true)) ∧ Below w.heap.size w w' := by
  have B : ∀ o : Obj, Below w.heap.size w (w.alloc o) := fun o => (Below.refl _ _).alloc (Nat.le_refl _) _
  have Z := fun_row
  go_enter Try.func34, Try.ntmps34
  go_wp2
  go_ret
  exact ⟨rfl, B _⟩
theorem fits_any (x : Pt5) (hx : x.Ok) (p : Pk) (hp : p.Wf) (w : World) (g : Nat) (R : w.heap[g]? = some (.cells (pcs p).toArray pkT)) :
    Calls Try.prog 34 #[.agg x.cs.toArray, .pointer (some ⟨g, 0, none⟩)] w fun e w' => e = .returned (.bool (x.fits p)) ∧ Below w.heap.size w w' := by
  have C := fun (i : Nat) (hi : i < 12) (o : Obj) => pk_cell (row_kept R ((Below.refl _ _).alloc (Nat.le_refl _) o) (row_lt R)) hp i hi
  obtain ⟨j, sz, lo, hi⟩ := x
  rcases j_cases hx with h | h | h | h | h | h | h | h | h | h | h | h | h
  all_goals
    simp only at h
    subst h
  · exact fits_session sz lo hi w g _ (C 1 (by decide))
  · exact fits_seq sz lo hi w g _ (C 2 (by decide))
  · exact fits_user sz lo hi w g _ (C 3 (by decide))
  · exact fits_op sz lo hi w g _ (C 4 (by decide))
  · exact fits_status sz lo hi w g _ (C 5 (by decide))
  · exact fits_count sz lo hi w g _ (C 6 (by decide))
  · exact fits_version sz lo hi w g _ (C 7 (by decide))
  · exact fits_ack sz lo hi w g _ (C 8 (by decide))
  · exact fits_sack sz lo hi w g _ (C 9 (by decide))
  · exact fits_nonce sz lo hi w g _ (C 10 (by decide))
  · exact fits_epoch sz lo hi w g _ (C 11 (by decide))
  · exact fits_secret sz lo hi w g
  · exact fits_tag sz lo hi w g
end Go.Proofs.Ytnfdfnkhjlkdhaa
