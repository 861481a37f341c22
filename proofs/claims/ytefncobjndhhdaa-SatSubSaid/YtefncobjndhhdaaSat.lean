/- What the functions of package sat come to, one contract each. -/
import Derived.Test.YtefncobjndhhdaaRows
import Derived.Test.YtefncobjndhhdaaSatMath
import Derived.Test.YtefncobjndhhdaaLaw
import Derived.WalkKit
import Derived.ProofKit
import Derived.OpenShut
import Derived.Outline
import Derived.Lib.Hide
namespace Go.Proofs.Ytefncobjndhhdaa
open Go.ChangeShapes Go.WideShapes Go.ChangeAt Go.RowKit

theorem ret_int {k : IntKind} {a b : Int} (h : a = b) : Ending.returned (.int k a) = .returned (.int k b) := by rw [h]
theorem ret_bool {a b : Bool} (h : a = b) : Ending.returned (.bool a) = .returned (.bool b) := by rw [h]

theorem clamp_any (n : Int) (w : World) :
    Calls Try.prog 12 #[.int .i64 n] w fun e w' => e = .returned (.int .i64 (Sat.clamp n)) ∧ w = w' := by
  go_enter Try.func12, Try.ntmps12
  go_wp2
  all_goals (go_ret; exact ⟨ret_int (by unfold Sat.clamp; (repeat' split) <;> omega), rfl⟩)

theorem rclamp_any (n : Int) (w : World) :
    Calls Try.prog 13 #[.int .i64 n] w fun e w' => e = .returned (.int .i64 (Sat.clamp n)) ∧ w = w' := by
  go_enter Try.func13, Try.ntmps13
  go_wp2
  all_goals (go_ret; exact ⟨ret_int (by unfold Sat.clamp; (repeat' split) <;> omega), rfl⟩)

theorem add_any (a b : Int) (w : World) :
    Calls Try.prog 14 #[.int .i64 a, .int .i64 b] w fun e w' => e = .returned (.int .i64 (Sat.add a b)) ∧ w = w' := by
  have h1 := Sat.clamp_lo a
  have h2 := Sat.clamp_hi a
  have h3 := Sat.clamp_lo b
  have h4 := Sat.clamp_hi b
  go_enter Try.func14, Try.ntmps14
  go_wp2_with (go_at_call 12; refine (clamp_any _ _).mono ?_; rintro e w' ⟨rfl, rfl⟩)
  go_ret
  exact ⟨rfl, rfl⟩

theorem sub_any (a b : Int) (w : World) :
    Calls Try.prog 16 #[.int .i64 a, .int .i64 b] w fun e w' => e = .returned (.int .i64 (Sat.sub a b)) ∧ w = w' := by
  have h1 := Sat.clamp_lo a
  have h2 := Sat.clamp_hi a
  have h3 := Sat.clamp_lo b
  have h4 := Sat.clamp_hi b
  go_enter Try.func16, Try.ntmps16
  go_wp2_with (go_at_call 12; refine (clamp_any _ _).mono ?_; rintro e w' ⟨rfl, rfl⟩)
  go_ret
  exact ⟨rfl, rfl⟩

theorem mul_any (a b : Int) (w : World) :
    Calls Try.prog 18 #[.int .i64 a, .int .i64 b] w fun e w' => e = .returned (.int .i64 (Sat.mul a b)) ∧ w = w' := by
  have h1 := Sat.clamp_lo a
  have h2 := Sat.clamp_hi a
  have h3 := Sat.clamp_lo b
  have h4 := Sat.clamp_hi b
  by_cases hb : 0 < Sat.clamp b
  · by_cases hc : 1099511627776 / Sat.clamp b < Sat.clamp a
    · have hm : Sat.mul a b = 1099511627776 := Sat.mul_big a b hb hc
      have Hm := Lib.hid hm
      clear hm
      go_enter Try.func18, Try.ntmps18
      go_wp2_with (go_at_call 12; refine (clamp_any _ _).mono ?_; rintro e w' ⟨rfl, rfl⟩)
      go_ret
      exact ⟨ret_int Hm.out.symm, rfl⟩
    · have hm : Sat.mul a b = Sat.clamp a * Sat.clamp b := Sat.mul_small a b hb hc
      have Hm := Lib.hid hm
      have h5 := Sat.mul_lo a b
      have h6 := Sat.mul_hi a b
      rw [hm] at h5 h6
      clear hm
      go_enter Try.func18, Try.ntmps18
      go_wp2_with (go_at_call 12; refine (clamp_any _ _).mono ?_; rintro e w' ⟨rfl, rfl⟩)
      go_ret
      exact ⟨ret_int Hm.out.symm, rfl⟩
  · have hm : Sat.mul a b = Sat.clamp a * Sat.clamp b := Sat.mul_zero a b hb
    have Hm := Lib.hid hm
    have h5 := Sat.mul_lo a b
    have h6 := Sat.mul_hi a b
    rw [hm] at h5 h6
    clear hm
    go_enter Try.func18, Try.ntmps18
    go_wp2_with (go_at_call 12; refine (clamp_any _ _).mono ?_; rintro e w' ⟨rfl, rfl⟩)
    go_ret
    exact ⟨ret_int Hm.out.symm, rfl⟩
end Go.Proofs.Ytefncobjndhhdaa
