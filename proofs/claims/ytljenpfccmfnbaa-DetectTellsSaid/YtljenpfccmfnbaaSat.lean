/- What the functions of package sat come to, one contract each. -/
import Derived.Test.YtljenpfccmfnbaaRows
import Derived.Test.YtljenpfccmfnbaaSatMath
import Derived.Test.YtljenpfccmfnbaaMem
import Derived.WalkKit
import Derived.ProofKit
import Derived.OpenShut
import Derived.Outline
import Derived.Lib.Hide
namespace Go.Proofs.Ytljenpfccmfnbaa
open Go.ChangeShapes Go.WideShapes Go.ChangeAt Go.RowKit


theorem clamp_any (n : Int) (w : World) :
    Calls Try.prog 19 #[.int .i64 n] w fun e w' => e = .returned (.int .i64 (Sat.clamp n)) ∧ w = w' := by
  go_enter Try.func19, Try.ntmps19
  go_wp2
  all_goals (go_ret; exact ⟨ret_int (by unfold Sat.clamp; (repeat' split) <;> omega), rfl⟩)

theorem rclamp_any (n : Int) (w : World) :
    Calls Try.prog 20 #[.int .i64 n] w fun e w' => e = .returned (.int .i64 (Sat.clamp n)) ∧ w = w' := by
  go_enter Try.func20, Try.ntmps20
  go_wp2
  all_goals (go_ret; exact ⟨ret_int (by unfold Sat.clamp; (repeat' split) <;> omega), rfl⟩)

theorem add_any (a b : Int) (w : World) :
    Calls Try.prog 25 #[.int .i64 a, .int .i64 b] w fun e w' => e = .returned (.int .i64 (Sat.add a b)) ∧ w = w' := by
  have h1 := Sat.clamp_lo a
  have h2 := Sat.clamp_hi a
  have h3 := Sat.clamp_lo b
  have h4 := Sat.clamp_hi b
  go_enter Try.func25, Try.ntmps25
  go_wp2_with (go_at_call 19; refine (clamp_any _ _).mono ?_; rintro e w' ⟨rfl, rfl⟩)
  go_ret
  exact ⟨rfl, rfl⟩

theorem sub_any (a b : Int) (w : World) :
    Calls Try.prog 24 #[.int .i64 a, .int .i64 b] w fun e w' => e = .returned (.int .i64 (Sat.sub a b)) ∧ w = w' := by
  have h1 := Sat.clamp_lo a
  have h2 := Sat.clamp_hi a
  have h3 := Sat.clamp_lo b
  have h4 := Sat.clamp_hi b
  go_enter Try.func24, Try.ntmps24
  go_wp2_with (go_at_call 19; refine (clamp_any _ _).mono ?_; rintro e w' ⟨rfl, rfl⟩)
  go_ret
  exact ⟨rfl, rfl⟩

theorem mul_any (a b : Int) (w : World) :
    Calls Try.prog 26 #[.int .i64 a, .int .i64 b] w fun e w' => e = .returned (.int .i64 (Sat.mul a b)) ∧ w = w' := by
  have h1 := Sat.clamp_lo a
  have h2 := Sat.clamp_hi a
  have h3 := Sat.clamp_lo b
  have h4 := Sat.clamp_hi b
  by_cases hb : 0 < Sat.clamp b
  · by_cases hc : 1099511627776 / Sat.clamp b < Sat.clamp a
    · have hm : Sat.mul a b = 1099511627776 := Sat.mul_big a b hb hc
      have Hm := Lib.hid hm
      clear hm
      go_enter Try.func26, Try.ntmps26
      go_wp2_with (go_at_call 19; refine (clamp_any _ _).mono ?_; rintro e w' ⟨rfl, rfl⟩)
      go_ret
      exact ⟨ret_int Hm.out.symm, rfl⟩
    · have hm : Sat.mul a b = Sat.clamp a * Sat.clamp b := Sat.mul_small a b hb hc
      have Hm := Lib.hid hm
      have h5 := Sat.mul_lo a b
      have h6 := Sat.mul_hi a b
      rw [hm] at h5 h6
      clear hm
      go_enter Try.func26, Try.ntmps26
      go_wp2_with (go_at_call 19; refine (clamp_any _ _).mono ?_; rintro e w' ⟨rfl, rfl⟩)
      go_ret
      exact ⟨ret_int Hm.out.symm, rfl⟩
  · have hm : Sat.mul a b = Sat.clamp a * Sat.clamp b := Sat.mul_zero a b hb
    have Hm := Lib.hid hm
    have h5 := Sat.mul_lo a b
    have h6 := Sat.mul_hi a b
    rw [hm] at h5 h6
    clear hm
    go_enter Try.func26, Try.ntmps26
    go_wp2_with (go_at_call 19; refine (clamp_any _ _).mono ?_; rintro e w' ⟨rfl, rfl⟩)
    go_ret
    exact ⟨ret_int Hm.out.symm, rfl⟩

theorem sum_nil (A : Option Addr) (cap : Nat) (w : World) :
    Calls Try.prog 27 #[.slice A 0 cap] w fun e w' => e = .returned (.int .i64 0) ∧ w = w' := by
  go_enter Try.func27, Try.ntmps27
  go_wp2
  go_loop [3, 8] (fun t i => t = .int .i64 0 ∧ i = .int .i64 0) (fun _ _ => 0)
  case atStart => exact ⟨rfl, rfl⟩
  case round =>
    obtain ⟨rfl, rfl⟩ := hrel
    go_wp2
    go_ret
    exact ⟨rfl, rfl⟩

theorem sum_some (b off n cap : Nat) (zs : List Int) (w : World) (hn : zs.length = n) (hbig : n ≤ 9223372036854775807) (hc : ∀ k, k < zs.length → w.cell? ⟨b, off + k, none⟩ = some (.int .i64 (zs.getD k 0))) :
    Calls Try.prog 27 #[.slice (some ⟨b, off, none⟩) n cap] w fun e w' => e = .returned (.int .i64 (Sat.sum zs)) ∧ w = w' := by
  have Hn := Lib.hid hn
  have Hc := Lib.hid hc
  clear hn hc
  go_enter Try.func27, Try.ntmps27
  go_wp2
  go_loop [3, 8] (fun t i => ∃ k : Nat, k ≤ n ∧ i = .int .i64 k ∧ t = .int .i64 (Sat.sum (zs.take k))) (fun _ i => n - (intOf i).toNat)
  case atStart => exact ⟨0, Nat.zero_le _, rfl, rfl⟩
  case round =>
    obtain ⟨k, hk, rfl, rfl⟩ := hrel
    by_cases hlt : k < n
    · have hcell : w.cell? ⟨b, off + k, none⟩ = some (.int .i64 (zs.getD k 0)) := Hc.out k (by rw [Hn.out]; exact hlt)
      have Hs := Lib.hid (Sat.sum_snoc zs k (by rw [Hn.out]; exact hlt))
      go_wp2_with (go_at_call 25; refine (add_any _ _ _).mono ?_; rintro e w' ⟨rfl, rfl⟩)
      go_round
      case rel => exact ⟨k + 1, by omega, by go_num, by rw [Hs.out]; rfl⟩
      case measure => simp [intOf]; omega
    · obtain rfl : k = n := by omega
      go_wp2
      go_ret
      exact ⟨ret_int (by rw [List.take_of_length_le (by rw [Hn.out]; exact Nat.le_refl _)]), rfl⟩

theorem sum_any (A : Option Addr) (n cap : Nat) (zs : List Int) (w : World) (hn : zs.length = n) (hbig : n ≤ 9223372036854775807) (hA : Nums .i64 w A zs) :
    Calls Try.prog 27 #[.slice A n cap] w fun e w' => e = .returned (.int .i64 (Sat.sum zs)) ∧ w = w' := by
  rcases hA with rfl | ⟨b, off, rfl, _, hc⟩
  · subst hn
    exact sum_nil A cap w
  · exact sum_some b off n cap zs w hn hbig hc

theorem mean_any (A : Option Addr) (n cap : Nat) (zs : List Int) (w : World) (hn : zs.length = n) (hbig : n ≤ 9223372036854775807) (hA : Nums .i64 w A zs) :
    Calls Try.prog 28 #[.slice A n cap] w fun e w' => e = .returned (.int .i64 (Sat.mean zs)) ∧ w = w' := by
  by_cases h0 : n = 0
  · subst h0
    have hm : Sat.mean zs = 0 := by unfold Sat.mean; rw [if_pos hn]
    have Hm := Lib.hid hm
    clear hm hn hA
    go_enter Try.func28, Try.ntmps28
    go_wp2
    go_ret
    exact ⟨ret_int Hm.out.symm, rfl⟩
  · have hm : Sat.mean zs = Sat.sum zs / (n : Int) := by unfold Sat.mean; rw [if_neg (by omega), hn]
    have Hm := Lib.hid hm
    have Hn := Lib.hid hn
    have HA := Lib.hid hA
    obtain ⟨h1, h2⟩ := Sat.sum_bd zs
    have h3 : 1 ≤ (n : Int) := by omega
    clear hm hn hA
    go_enter Try.func28, Try.ntmps28
    go_wp2_with (go_at_call 27; refine (sum_any _ _ _ _ _ Hn.out hbig HA.out).mono ?_; rintro e w' ⟨rfl, rfl⟩)
    go_ret
    exact ⟨ret_int Hm.out.symm, rfl⟩
theorem mean_nil (A : Option Addr) (cap : Nat) (w : World) :
    Calls Try.prog 28 #[.slice A 0 cap] w fun e w' => e = .returned (.int .i64 0) ∧ w = w' := by
  go_enter Try.func28, Try.ntmps28
  go_wp2
  go_ret
  exact ⟨rfl, rfl⟩
end Go.Proofs.Ytljenpfccmfnbaa
