/- Numbers that are laid are read as they were: plain reckoning. No program in it. -/
import Derived.Test.YtnfdfnkhjlkdhaaFieldMath
namespace Go.Proofs.Ytnfdfnkhjlkdhaa

theorem byt_succ (x : Int) (t : Nat) : byt x (t + 1) = byt (x / 256) t := by
  unfold byt
  rw [Int.pow_succ, Int.mul_comm]
  first | rw [Int.ediv_ediv (by decide)] | rw [Int.ediv_ediv_of_nonneg (by decide)] | rw [Int.ediv_mul (by decide)]
theorem lay_succ (x : Int) (k : Nat) : lay x (k + 1) = lay (x / 256) k ++ [byt x 0] := by
  unfold lay
  rw [List.range_succ, List.map_append]
  congr 1
  · apply List.map_congr_left
    intro i hi
    rw [List.mem_range] at hi
    rw [show k + 1 - 1 - i = (k - 1 - i) + 1 by omega, byt_succ]
  · simp
theorem be_lay : ∀ (k : Nat) (x : Int), be (lay x k) = x % 256 ^ k
  | 0, x => by simp [lay, be]
  | k + 1, x => by
    rw [lay_succ, be_snoc, be_lay k]
    have hp : (0 : Int) < 256 ^ k := Int.pow_pos (by decide)
    have e0 : byt x 0 = x % 256 := by simp [byt]
    have h1 := Int.emod_nonneg (x / 256) (show (256 : Int) ^ k ≠ 0 by omega)
    have h2 := Int.emod_lt_of_pos (x / 256) hp
    have h3 := Int.mul_ediv_add_emod (x / 256) (256 ^ k)
    have h4 := Int.mul_ediv_add_emod x 256
    rw [e0, Int.pow_succ]
    generalize (256 : Int) ^ k = P at *
    generalize hq : x / 256 / P = q at *
    generalize hr : x / 256 % P = r at *
    have h5 : 0 ≤ x % 256 := Int.emod_nonneg _ (by decide)
    have h6 : x % 256 < 256 := Int.emod_lt_of_pos _ (by decide)
    generalize x % 256 = s at *
    have hx : x = (256 * r + s) + (P * 256) * q := by
      have : (P * 256) * q = 256 * (P * q) := by rw [Int.mul_comm P 256, Int.mul_assoc]
      rw [this]; omega
    rw [hx, Int.add_mul_emod_self_left, Int.emod_eq_of_lt (by omega) (by omega)]
theorem lay_byte (x : Int) (k : Nat) : ∀ y ∈ lay x k, 0 ≤ y ∧ y ≤ 255 := by
  intro y hy
  unfold lay at hy
  obtain ⟨i, _, rfl⟩ := List.mem_map.1 hy
  unfold byt
  have h5 := Int.emod_nonneg (x / 256 ^ (k - 1 - i)) (show (256 : Int) ≠ 0 by decide)
  have h6 := Int.emod_lt_of_pos (x / 256 ^ (k - 1 - i)) (show (0 : Int) < 256 by decide)
  omega
/-- The rows of bytes, one behind the other. -/
def lays (D N : Nat → Int) : Nat → List Int
  | 0 => []
  | j + 1 => lays D N j ++ lay (N j) (D j).toNat
def tails (D N : Nat → Int) (n : Nat) : Nat → List Int
  | 0 => []
  | j + 1 => lay (N (n - (j + 1))) (D (n - (j + 1))).toNat ++ tails D N n j
theorem lays_tails (D N : Nat → Int) (n : Nat) : ∀ j, j ≤ n → lays D N (n - j) ++ tails D N n j = lays D N n
  | 0, _ => by simp [tails]
  | j + 1, h => by
    rw [← lays_tails D N n j (by omega)]
    have e : n - j = (n - (j + 1)) + 1 := by omega
    rw [e]
    simp only [lays, tails, List.append_assoc]
end Go.Proofs.Ytnfdfnkhjlkdhaa
