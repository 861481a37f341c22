/- What the functions of package sat come to, one contract each. -/
import Derived.Test.YtefncobjndhhdaaRows
import Derived.Test.YtefncobjndhhdaaSatMath
import Derived.Test.YtefncobjndhhdaaMem
import Derived.WalkKit
import Derived.ProofKit
import Derived.OpenShut
import Derived.Outline
import Derived.Lib.Hide
namespace Go.Proofs.Ytefncobjndhhdaa
open Go.ChangeShapes Go.WideShapes Go.ChangeAt Go.RowKit


theorem clamp_any (n : Int) (w : World) :
    Calls Try.prog 12 #[.int .i64 n] w fun e w' => e = .returned (.int .i64 (Sat.clamp n)) ∧ w = w' := by
  go_enter Try.func12, Try.ntmps12
  go_wp2
  all_goals (go_ret; exact ⟨ret_int (by unfold Sat.clamp; (repeat' split) <;> omega), rfl⟩)

theorem rclamp_any (n : Int) (w : World) :
    Calls Try.prog 13 #[.int .i64 n] w fun e w' => e = .returned (.int .i64 (Sat.clamp n)) ∧ w = w' := by
  go_enter Try.func13, Try.ntmps13
  go_wp2
  all_goals (go_ret; exact ⟨ret_int (by unfold Sat.clamp; (repeat' split) <;> omega), rfl⟩)

theorem add_any (a b : Int) (w : World) :
    Calls Try.prog 14 #[.int .i64 a, .int .i64 b] w fun e w' => e = .returned (.int .i64 (Sat.add a b)) ∧ w = w' := by
  have h1 := Sat.clamp_lo a
  have h2 := Sat.clamp_hi a
  have h3 := Sat.clamp_lo b
  have h4 := Sat.clamp_hi b
  go_enter Try.func14, Try.ntmps14
  go_wp2_with (go_at_call 12; refine (clamp_any _ _).mono ?_; rintro e w' ⟨rfl, rfl⟩)
  go_ret
  exact ⟨rfl, rfl⟩

theorem sub_any (a b : Int) (w : World) :
    Calls Try.prog 16 #[.int .i64 a, .int .i64 b] w fun e w' => e = .returned (.int .i64 (Sat.sub a b)) ∧ w = w' := by
  have h1 := Sat.clamp_lo a
  have h2 := Sat.clamp_hi a
  have h3 := Sat.clamp_lo b
  have h4 := Sat.clamp_hi b
  go_enter Try.func16, Try.ntmps16
  go_wp2_with (go_at_call 12; refine (clamp_any _ _).mono ?_; rintro e w' ⟨rfl, rfl⟩)
  go_ret
  exact ⟨rfl, rfl⟩

theorem mul_any (a b : Int) (w : World) :
    Calls Try.prog 18 #[.int .i64 a, .int .i64 b] w fun e w' => e = .returned (.int .i64 (Sat.mul a b)) ∧ w = w' := by
  have h1 := Sat.clamp_lo a
  have h2 := Sat.clamp_hi a
  have h3 := Sat.clamp_lo b
  have h4 := Sat.clamp_hi b
  by_cases hb : 0 < Sat.clamp b
  · by_cases hc : 1099511627776 / Sat.clamp b < Sat.clamp a
    · have hm : Sat.mul a b = 1099511627776 := Sat.mul_big a b hb hc
      have Hm := Lib.hid hm
      clear hm
      go_enter Try.func18, Try.ntmps18
      go_wp2_with (go_at_call 12; refine (clamp_any _ _).mono ?_; rintro e w' ⟨rfl, rfl⟩)
      go_ret
      exact ⟨ret_int Hm.out.symm, rfl⟩
    · have hm : Sat.mul a b = Sat.clamp a * Sat.clamp b := Sat.mul_small a b hb hc
      have Hm := Lib.hid hm
      have h5 := Sat.mul_lo a b
      have h6 := Sat.mul_hi a b
      rw [hm] at h5 h6
      clear hm
      go_enter Try.func18, Try.ntmps18
      go_wp2_with (go_at_call 12; refine (clamp_any _ _).mono ?_; rintro e w' ⟨rfl, rfl⟩)
      go_ret
      exact ⟨ret_int Hm.out.symm, rfl⟩
  · have hm : Sat.mul a b = Sat.clamp a * Sat.clamp b := Sat.mul_zero a b hb
    have Hm := Lib.hid hm
    have h5 := Sat.mul_lo a b
    have h6 := Sat.mul_hi a b
    rw [hm] at h5 h6
    clear hm
    go_enter Try.func18, Try.ntmps18
    go_wp2_with (go_at_call 12; refine (clamp_any _ _).mono ?_; rintro e w' ⟨rfl, rfl⟩)
    go_ret
    exact ⟨ret_int Hm.out.symm, rfl⟩

theorem sum_nil (A : Option Addr) (cap : Nat) (w : World) :
    Calls Try.prog 20 #[.slice A 0 cap] w fun e w' => e = .returned (.int .i64 0) ∧ w = w' := by
  go_enter Try.func20, Try.ntmps20
  go_wp2
  go_loop [3, 8] (fun t i => t = .int .i64 0 ∧ i = .int .i64 0) (fun _ _ => 0)
  case atStart => exact ⟨rfl, rfl⟩
  case round =>
    obtain ⟨rfl, rfl⟩ := hrel
    go_wp2
    go_ret
    exact ⟨rfl, rfl⟩

theorem sum_some (b off n cap : Nat) (zs : List Int) (w : World) (hn : zs.length = n) (hbig : n ≤ 9223372036854775807) (hc : ∀ k, k < zs.length → w.cell? ⟨b, off + k, none⟩ = some (.int .i64 (zs.getD k 0))) :
    Calls Try.prog 20 #[.slice (some ⟨b, off, none⟩) n cap] w fun e w' => e = .returned (.int .i64 (Sat.sum zs)) ∧ w = w' := by
  have Hn := Lib.hid hn
  have Hc := Lib.hid hc
  clear hn hc
  go_enter Try.func20, Try.ntmps20
  go_wp2
  go_loop [3, 8] (fun t i => ∃ k : Nat, k ≤ n ∧ i = .int .i64 k ∧ t = .int .i64 (Sat.sum (zs.take k))) (fun _ i => n - (intOf i).toNat)
  case atStart => exact ⟨0, Nat.zero_le _, rfl, rfl⟩
  case round =>
    obtain ⟨k, hk, rfl, rfl⟩ := hrel
    by_cases hlt : k < n
    · have hcell : w.cell? ⟨b, off + k, none⟩ = some (.int .i64 (zs.getD k 0)) := Hc.out k (by rw [Hn.out]; exact hlt)
      have Hs := Lib.hid (Sat.sum_snoc zs k (by rw [Hn.out]; exact hlt))
      go_wp2_with (go_at_call 14; refine (add_any _ _ _).mono ?_; rintro e w' ⟨rfl, rfl⟩)
      go_round
      case rel => exact ⟨k + 1, by omega, by go_num, by rw [Hs.out]; rfl⟩
      case measure => simp [intOf]; omega
    · obtain rfl : k = n := by omega
      go_wp2
      go_ret
      exact ⟨ret_int (by rw [List.take_of_length_le (by rw [Hn.out]; exact Nat.le_refl _)]), rfl⟩

theorem sum_any (A : Option Addr) (n cap : Nat) (zs : List Int) (w : World) (hn : zs.length = n) (hbig : n ≤ 9223372036854775807) (hA : Nums .i64 w A zs) :
    Calls Try.prog 20 #[.slice A n cap] w fun e w' => e = .returned (.int .i64 (Sat.sum zs)) ∧ w = w' := by
  rcases hA with rfl | ⟨b, off, rfl, _, hc⟩
  · subst hn
    exact sum_nil A cap w
  · exact sum_some b off n cap zs w hn hbig hc

theorem mean_any (A : Option Addr) (n cap : Nat) (zs : List Int) (w : World) (hn : zs.length = n) (hbig : n ≤ 9223372036854775807) (hA : Nums .i64 w A zs) :
    Calls Try.prog 22 #[.slice A n cap] w fun e w' => e = .returned (.int .i64 (Sat.mean zs)) ∧ w = w' := by
  by_cases h0 : n = 0
  · subst h0
    have hm : Sat.mean zs = 0 := by unfold Sat.mean; rw [if_pos hn]
    have Hm := Lib.hid hm
    clear hm hn hA
    go_enter Try.func22, Try.ntmps22
    go_wp2
    go_ret
    exact ⟨ret_int Hm.out.symm, rfl⟩
  · have hm : Sat.mean zs = Sat.sum zs / (n : Int) := by unfold Sat.mean; rw [if_neg (by omega), hn]
    have Hm := Lib.hid hm
    have Hn := Lib.hid hn
    have HA := Lib.hid hA
    obtain ⟨h1, h2⟩ := Sat.sum_bd zs
    have h3 : 1 ≤ (n : Int) := by omega
    clear hm hn hA
    go_enter Try.func22, Try.ntmps22
    go_wp2_with (go_at_call 20; refine (sum_any _ _ _ _ _ Hn.out hbig HA.out).mono ?_; rintro e w' ⟨rfl, rfl⟩)
    go_ret
    exact ⟨ret_int Hm.out.symm, rfl⟩
theorem mean_nil (A : Option Addr) (cap : Nat) (w : World) :
    Calls Try.prog 22 #[.slice A 0 cap] w fun e w' => e = .returned (.int .i64 0) ∧ w = w' := by
  go_enter Try.func22, Try.ntmps22
  go_wp2
  go_ret
  exact ⟨rfl, rfl⟩
theorem small_any (w : World) :
    Calls Try.prog 11 #[] w fun e w' => e = .returned (.bool true) ∧ Below w.heap.size w w' := by
  have e1 : Sat.clamp (-1) = 0 := by decide
  have e2 : Sat.clamp 9223372036854775807 = 1099511627776 := by decide
  have e3 : Sat.add 3 (-5) = 3 := by decide
  have e4 : Sat.add 1099511627776 1 = 1099511627776 := by decide
  have e5 : Sat.sub 3 5 = 0 := by decide
  have e6 : Sat.sub 9 5 = 4 := by decide
  have e7 : Sat.mul 6 7 = 42 := by decide
  have e8 : Sat.mul 1099511627776 2 = 1099511627776 := by decide
  have e9 : Sat.mul 0 9223372036854775807 = 0 := by decide
  have e10 : Sat.sum [1, -2, 3] = 4 := by decide
  have e11 : Sat.mean [3, 4] = 3 := by decide
  go_enter Try.func11, Try.ntmps11
  go_wp2_with (first
    | (go_at_call 12; refine (clamp_any _ _).mono ?_; rintro e w' ⟨rfl, rfl⟩)
    | (go_at_call 14; refine (add_any _ _ _).mono ?_; rintro e w' ⟨rfl, rfl⟩)
    | (go_at_call 16; refine (sub_any _ _ _).mono ?_; rintro e w' ⟨rfl, rfl⟩)
    | (go_at_call 18; refine (mul_any _ _ _).mono ?_; rintro e w' ⟨rfl, rfl⟩)
    | (go_at_call 20; with_reducible refine (sum_nil _ _ _).mono ?_; rintro e w' ⟨rfl, rfl⟩)
    | (go_at_call 22; with_reducible refine (mean_nil _ _ _).mono ?_; rintro e w' ⟨rfl, rfl⟩)
    | (go_at_call 20; refine (sum_any _ _ _ [1, -2, 3] _ rfl (by decide) (by exact Nums.new _ _ _ _ _ (by simp) rfl)).mono ?_; rintro e w' ⟨rfl, rfl⟩)
    | (go_at_call 22; refine (mean_any _ _ _ [3, 4] _ rfl (by decide) (by exact Nums.new _ _ _ _ _ (by simp) rfl)).mono ?_; rintro e w' ⟨rfl, rfl⟩)
    )
  go_ret
  exact ⟨rfl, ((Below.refl _ _).alloc (Nat.le_refl _) _).alloc (by simp) _⟩
end Go.Proofs.Ytefncobjndhhdaa
