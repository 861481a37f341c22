/- What the document's own answers of layer 1 come to. -/
import Derived.Test.YtljenpfccmfnbaaSat
namespace Go.Proofs.Ytljenpfccmfnbaa
open Go.ChangeShapes Go.WideShapes Go.ChangeAt Go.RowKit

theorem radd_any (a b : Int) (w : World) :
    Calls Try.prog 29 #[.int .i64 a, .int .i64 b] w fun e w' => e = .returned (.int .i64 (Sat.add a b)) ∧ w = w' := by
  have h1 := Sat.clamp_lo a
  have h2 := Sat.clamp_hi a
  have h3 := Sat.clamp_lo b
  have h4 := Sat.clamp_hi b
  go_enter Try.func29, Try.ntmps29
  go_wp2_with (go_at_call 20; refine (rclamp_any _ _).mono ?_; rintro e w' ⟨rfl, rfl⟩)
  go_ret
  exact ⟨rfl, rfl⟩

theorem rsum_nil (A : Option Addr) (cap : Nat) (w : World) :
    Calls Try.prog 31 #[.slice A 0 cap] w fun e w' => e = .returned (.int .i64 0) ∧ w = w' := by
  go_enter Try.func31, Try.ntmps31
  go_wp2
  go_loop [3, 4] (fun t i => t = .int .i64 0 ∧ i = .int .i64 0) (fun _ _ => 0)
  case atStart => exact ⟨rfl, rfl⟩
  case round =>
    obtain ⟨rfl, rfl⟩ := hrel
    go_wp2
    go_ret
    exact ⟨rfl, rfl⟩

theorem rsum_some (b off n cap : Nat) (zs : List Int) (w : World) (hn : zs.length = n) (hbig : n ≤ 9223372036854775807) (hc : ∀ k, k < zs.length → w.cell? ⟨b, off + k, none⟩ = some (.int .i64 (zs.getD k 0))) :
    Calls Try.prog 31 #[.slice (some ⟨b, off, none⟩) n cap] w fun e w' => e = .returned (.int .i64 (Sat.sum zs)) ∧ w = w' := by
  have Hn := Lib.hid hn
  have Hc := Lib.hid hc
  clear hn hc
  go_enter Try.func31, Try.ntmps31
  go_wp2
  go_loop [3, 4] (fun t i => ∃ k : Nat, k ≤ n ∧ i = .int .i64 k ∧ t = .int .i64 (Sat.sum (zs.take k))) (fun _ i => n - (intOf i).toNat)
  case atStart => exact ⟨0, Nat.zero_le _, rfl, rfl⟩
  case round =>
    obtain ⟨k, hk, rfl, rfl⟩ := hrel
    by_cases hlt : k < n
    · have hcell : w.cell? ⟨b, off + k, none⟩ = some (.int .i64 (zs.getD k 0)) := Hc.out k (by rw [Hn.out]; exact hlt)
      have Hs := Lib.hid (Sat.sum_snoc zs k (by rw [Hn.out]; exact hlt))
      go_wp2_with (go_at_call 29; refine (radd_any _ _ _).mono ?_; rintro e w' ⟨rfl, rfl⟩)
      go_round
      case rel => exact ⟨k + 1, by omega, by go_num, by rw [Hs.out]; rfl⟩
      case measure => simp [intOf]; omega
    · obtain rfl : k = n := by omega
      go_wp2
      go_ret
      exact ⟨ret_int (by rw [List.take_of_length_le (by rw [Hn.out]; exact Nat.le_refl _)]), rfl⟩

theorem rsum_any (A : Option Addr) (n cap : Nat) (zs : List Int) (w : World) (hn : zs.length = n) (hbig : n ≤ 9223372036854775807) (hA : Nums .i64 w A zs) :
    Calls Try.prog 31 #[.slice A n cap] w fun e w' => e = .returned (.int .i64 (Sat.sum zs)) ∧ w = w' := by
  rcases hA with rfl | ⟨b, off, rfl, _, hc⟩
  · subst hn
    exact rsum_nil A cap w
  · exact rsum_some b off n cap zs w hn hbig hc

theorem rmean_any (A : Option Addr) (n cap : Nat) (zs : List Int) (w : World) (hn : zs.length = n) (hbig : n ≤ 9223372036854775807) (hA : Nums .i64 w A zs) :
    Calls Try.prog 30 #[.slice A n cap] w fun e w' => e = .returned (.int .i64 (Sat.mean zs)) ∧ w = w' := by
  by_cases h0 : n = 0
  · subst h0
    have hm : Sat.mean zs = 0 := by unfold Sat.mean; rw [if_pos hn]
    have Hm := Lib.hid hm
    clear hm hn hA
    go_enter Try.func30, Try.ntmps30
    go_wp2
    go_ret
    exact ⟨ret_int Hm.out.symm, rfl⟩
  · have hm : Sat.mean zs = Sat.sum zs / (n : Int) := by unfold Sat.mean; rw [if_neg (by omega), hn]
    have Hm := Lib.hid hm
    have Hn := Lib.hid hn
    have HA := Lib.hid hA
    obtain ⟨h1, h2⟩ := Sat.sum_bd zs
    have h3 : 1 ≤ (n : Int) := by omega
    clear hm hn hA
    go_enter Try.func30, Try.ntmps30
    go_wp2_with (go_at_call 31; refine (rsum_any _ _ _ _ _ Hn.out hbig HA.out).mono ?_; rintro e w' ⟨rfl, rfl⟩)
    go_ret
    exact ⟨ret_int Hm.out.symm, rfl⟩
end Go.Proofs.Ytljenpfccmfnbaa
