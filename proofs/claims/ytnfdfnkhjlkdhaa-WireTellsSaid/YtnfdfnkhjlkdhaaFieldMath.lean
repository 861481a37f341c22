/- Numbers as bytes, the highest one first: plain reckoning. No program in it. -/
import Derived.IntWalk
import Derived.Laws.Bits64
namespace Go.Proofs.Ytnfdfnkhjlkdhaa
open Go.RowKit

/-- The number of bytes. -/
def be (xs : List Int) : Int := xs.foldl (fun a x => 256 * a + x) 0
theorem be_snoc (xs : List Int) (z : Int) : be (xs ++ [z]) = 256 * be xs + z := by unfold be; rw [List.foldl_append]; rfl
theorem be_bd : ∀ (n : Nat) (xs : List Int), xs.length = n → (∀ x ∈ xs, 0 ≤ x ∧ x ≤ 255) → 0 ≤ be xs ∧ be xs < 256 ^ n
  | 0, xs, h, _ => by
    obtain rfl := List.eq_nil_of_length_eq_zero h
    exact ⟨Int.le_refl _, by decide⟩
  | n + 1, xs, h, hx => by
    have h0 : xs ≠ [] := fun h' => by rw [h'] at h; cases h
    obtain ⟨ys, z, rfl⟩ : ∃ ys z, xs = ys ++ [z] := ⟨_, _, (List.dropLast_concat_getLast h0).symm⟩
    have hl : ys.length = n := by simpa using h
    obtain ⟨h1, h2⟩ := be_bd n ys hl (fun x hm => hx x (by simp [hm]))
    obtain ⟨h3, h4⟩ := hx z (by simp)
    rw [be_snoc, Int.pow_succ]
    omega
theorem pow_le {j : Nat} (h : j ≤ 6) : (256 : Int) ^ j ≤ 281474976710656 := by
  have : j = 0 ∨ j = 1 ∨ j = 2 ∨ j = 3 ∨ j = 4 ∨ j = 5 ∨ j = 6 := by omega
  rcases this with rfl | rfl | rfl | rfl | rfl | rfl | rfl <;> decide
theorem i64_or_nat (a b : Nat) (ha : a < 4611686018427387904) (hb : b < 4611686018427387904) : bits .or .i64 (a : Int) (b : Int) = ((a ||| b : Nat) : Int) := by
  have hx : a ||| b < 2 ^ 62 := Nat.or_lt_two_pow (by omega) (by omega)
  have h1 : (BitVec.ofInt 64 (a : Int)).toNat = a := by
    rw [BitVec.ofInt_natCast, BitVec.toNat_ofNat]; exact Nat.mod_eq_of_lt (by omega)
  have h2 : (BitVec.ofInt 64 (b : Int)).toNat = b := by
    rw [BitVec.ofInt_natCast, BitVec.toNat_ofNat]; exact Nat.mod_eq_of_lt (by omega)
  show IntKind.i64.wrap ((BitVec.ofInt 64 (a : Int) ||| BitVec.ofInt 64 (b : Int)).toNat : Int) = _
  rw [BitVec.toNat_or, h1, h2, IntKind.wrap_i64]
  omega
theorem or_step (a z : Int) (ha : 0 ≤ a) (ha' : a < 281474976710656) (hz : 0 ≤ z) (hz' : z ≤ 255) : bits .or .i64 (a * 256) z = 256 * a + z := by
  obtain ⟨m, rfl⟩ := Int.eq_ofNat_of_zero_le ha
  obtain ⟨k, rfl⟩ := Int.eq_ofNat_of_zero_le hz
  have e := i64_or_nat (m * 256) k (by omega) (by omega)
  have e2 : 2 ^ 8 * m + k = 2 ^ 8 * m ||| k := Nat.two_pow_add_eq_or_of_lt (by omega) m
  rw [show m * 256 = 2 ^ 8 * m by omega, ← e2] at e
  rw [show ((m : Int) * 256) = ((2 ^ 8 * m : Nat) : Int) by omega, e]
  omega
/-- The byte of x that counts 256^t. -/
def byt (x : Int) (t : Nat) : Int := (x / 256 ^ t) % 256
/-- The last k bytes of x. -/
def lay (x : Int) (k : Nat) : List Int := (List.range k).map fun i => byt x (k - 1 - i)
theorem lay_len (x : Int) (k : Nat) : (lay x k).length = k := by simp [lay]
theorem lay_snoc (x : Int) (k j t : Nat) (h : j < k) (ht : (k : Int) - 1 - j = t) : (lay x k).take (j + 1) = (lay x k).take j ++ [byt x t] := by
  rw [List.take_succ_eq_append_getElem (by rw [lay_len]; exact h)]
  congr 2
  have e : k - 1 - j = t := by omega
  simp [lay, e]
end Go.Proofs.Ytnfdfnkhjlkdhaa
