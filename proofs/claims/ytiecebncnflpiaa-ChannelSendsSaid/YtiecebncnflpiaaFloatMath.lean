/- Small whole numbers as floats of 64 bits: exact, their sums too. No program in it. -/
import Derived.Laws.ComplexArith
namespace Go.Proofs.Ytiecebncnflpiaa
namespace Flt
open Ieee
abbrev D : Format := Ieee.double
theorem lp : D.leastPlace = -1074 := by decide
theorem bi : D.binade = 2 ^ 52 := rfl
theorem ir : D.infRung = 2047 * 2 ^ 52 := rfl
theorem sw : D.signWeight = 2 ^ 63 := rfl

theorem cut0 (way : Toward) (neg : Bool) (n : Nat) : way.cut neg n 0 = n := by
  unfold Toward.cut
  have h1 : (1 : Nat) <<< min 0 (n.log2 + 2) = 1 := by simp
  simp only [h1, Nat.div_one, Nat.mod_one]
  cases way <;> simp
theorem cut_exact (way : Toward) (neg : Bool) (a d : Nat) (h : d ≤ (a * 2 ^ d).log2 + 2) : way.cut neg (a * 2 ^ d) d = a := by
  unfold Toward.cut
  have h1 : (1 : Nat) <<< min d ((a * 2 ^ d).log2 + 2) = 2 ^ d := by rw [Nat.min_eq_left h, Nat.shiftLeft_eq, Nat.one_mul]
  have hp : 0 < 2 ^ d := Nat.two_pow_pos d
  simp only [h1, Nat.mul_mod_left, Nat.mul_div_cancel _ hp]
  cases way <;> simp

theorem log2_mul (N k : Nat) (h : N ≠ 0) : (N * 2 ^ k).log2 = N.log2 + k := by
  have hk : N * 2 ^ k ≠ 0 := Nat.mul_ne_zero h (Nat.pos_iff_ne_zero.1 (Nat.two_pow_pos k))
  rw [Nat.log2_eq_iff hk]
  have h1 : 2 ^ N.log2 ≤ N := Nat.log2_self_le h
  have h2 : N < 2 ^ (N.log2 + 1) := Nat.lt_log2_self
  constructor
  · rw [Nat.pow_add]; exact Nat.mul_le_mul_right _ h1
  · rw [show N.log2 + k + 1 = (N.log2 + 1) + k by omega, Nat.pow_add]; exact Nat.mul_lt_mul_of_pos_right h2 (Nat.two_pow_pos k)

/-- The rung of a whole number from 1 to 2^53 - 1. -/
def rung (N : Nat) : Nat := (N.log2 + 1022) * 2 ^ 52 + N * 2 ^ (52 - N.log2)

theorem nearest_shift (s : Bool) (N k : Nat) (h0 : N ≠ 0) (h53 : N < 2 ^ 53) : D.nearest s (N * 2 ^ k) (-(k : Int)) = D.word s (rung N) := by
  have hk : N * 2 ^ k ≠ 0 := Nat.mul_ne_zero h0 (Nat.pos_iff_ne_zero.1 (Nat.two_pow_pos k))
  have hg : N.log2 < 53 := (Nat.log2_lt h0).2 h53
  unfold Format.nearest
  rw [if_neg hk, log2_mul N k h0, lp, bi, ir]
  have hl : max (-(k : Int) + ((N.log2 + k : Nat) : Int) - ((D.fractionBits : Nat) : Int)) (-1074) = (N.log2 : Int) - 52 := by
    have : D.fractionBits = 52 := rfl
    rw [this]; omega
  rw [hl]
  have hkept : Toward.even.cut s ((N * 2 ^ k) <<< (-(k : Int) - ((N.log2 : Int) - 52)).toNat) ((N.log2 : Int) - 52 - -(k : Int)).toNat = N * 2 ^ (52 - N.log2) := by
    by_cases hc : k ≤ 52 - N.log2
    · rw [show (-(k : Int) - ((N.log2 : Int) - 52)).toNat = 52 - N.log2 - k by omega, show ((N.log2 : Int) - 52 - -(k : Int)).toNat = 0 by omega, cut0, Nat.shiftLeft_eq, Nat.mul_assoc, ← Nat.pow_add]
      congr 2; omega
    · rw [show (-(k : Int) - ((N.log2 : Int) - 52)).toNat = 0 by omega, show ((N.log2 : Int) - 52 - -(k : Int)).toNat = N.log2 + k - 52 by omega, Nat.shiftLeft_zero,
        show N * 2 ^ k = N * 2 ^ (52 - N.log2) * 2 ^ (N.log2 + k - 52) by rw [Nat.mul_assoc, ← Nat.pow_add]; congr 2; omega]
      refine cut_exact _ _ _ _ ?_
      rw [log2_mul _ _ (Nat.mul_ne_zero h0 (Nat.pos_iff_ne_zero.1 (Nat.two_pow_pos _))), log2_mul _ _ h0]
      omega
  dsimp only
  rw [hkept, show ((N.log2 : Int) - 52 - -1074).toNat = N.log2 + 1022 by omega]
  have h2 : N < 2 ^ (N.log2 + 1) := Nat.lt_log2_self
  have h3 : N * 2 ^ (52 - N.log2) < 2 ^ 53 := by
    have := Nat.mul_lt_mul_of_pos_right h2 (Nat.two_pow_pos (52 - N.log2))
    rwa [← Nat.pow_add, show N.log2 + 1 + (52 - N.log2) = 53 by omega] at this
  have h4 : (N.log2 + 1022) * 2 ^ 52 ≤ 1074 * 2 ^ 52 := Nat.mul_le_mul_right _ (by omega)
  have h5 : (N.log2 + 1022) * 2 ^ 52 + N * 2 ^ (52 - N.log2) ≤ 2047 * 2 ^ 52 := Nat.le_trans (Nat.add_le_add h4 (Nat.le_of_lt h3)) (by decide)
  rw [Nat.min_eq_left h5]
  rfl

theorem rung_split (N : Nat) (h0 : N ≠ 0) (h53 : N < 2 ^ 53) : ∃ f, f < 2 ^ 52 ∧ N * 2 ^ (52 - N.log2) = 2 ^ 52 + f ∧ rung N = (N.log2 + 1023) * 2 ^ 52 + f := by
  have hg : N.log2 < 53 := (Nat.log2_lt h0).2 h53
  have h1 : 2 ^ N.log2 ≤ N := Nat.log2_self_le h0
  have h2 : N < 2 ^ (N.log2 + 1) := Nat.lt_log2_self
  have h3 : N * 2 ^ (52 - N.log2) < 2 ^ 53 := by
    have := Nat.mul_lt_mul_of_pos_right h2 (Nat.two_pow_pos (52 - N.log2))
    rwa [← Nat.pow_add, show N.log2 + 1 + (52 - N.log2) = 53 by omega] at this
  have h4 : 2 ^ 52 ≤ N * 2 ^ (52 - N.log2) := by
    have := Nat.mul_le_mul_right (2 ^ (52 - N.log2)) h1
    rwa [← Nat.pow_add, show N.log2 + (52 - N.log2) = 52 by omega] at this
  refine ⟨N * 2 ^ (52 - N.log2) - 2 ^ 52, by omega, by omega, ?_⟩
  unfold rung
  rw [show (N.log2 + 1023) * 2 ^ 52 = (N.log2 + 1022) * 2 ^ 52 + 2 ^ 52 by omega]
  omega

theorem read_word (s : Bool) (N : Nat) (h0 : N ≠ 0) (h53 : N < 2 ^ 53) : D.read (D.word s (rung N)) = .number s (N * 2 ^ (52 - N.log2)) ((N.log2 : Int) - 52) := by
  obtain ⟨f, hf, hM, hr⟩ := rung_split N h0 h53
  have hg : N.log2 < 53 := (Nat.log2_lt h0).2 h53
  have hlt : rung N < 2 ^ 63 := by
    rw [hr]
    have : (N.log2 + 1023) * 2 ^ 52 ≤ 1075 * 2 ^ 52 := Nat.mul_le_mul_right _ (by omega)
    omega
  have hdiv : (D.word s (rung N) / 2 ^ 63 % 2 == 1) = s := by
    unfold Format.word
    rw [sw]
    cases s
    · rw [if_neg (by simp), Nat.div_eq_of_lt hlt]; rfl
    · rw [if_pos rfl, Nat.add_div_left _ (by omega), Nat.div_eq_of_lt hlt]; rfl
  have hmod : D.word s (rung N) % 2 ^ 63 = rung N := by
    unfold Format.word
    rw [sw]
    cases s
    · rw [if_neg (by simp), Nat.mod_eq_of_lt hlt]
    · rw [if_pos rfl, Nat.add_mod_left, Nat.mod_eq_of_lt hlt]
  unfold Format.read
  simp only [sw, bi, ir, hmod, hdiv]
  have hq : rung N / 2 ^ 52 = N.log2 + 1023 := by rw [hr, Nat.mul_comm, Nat.mul_add_div (by omega), Nat.div_eq_of_lt hf, Nat.add_zero]
  have hm : rung N % 2 ^ 52 = f := by rw [hr, Nat.mul_comm, Nat.mul_add_mod, Nat.mod_eq_of_lt hf]
  have hb1 : ¬ rung N < 2 ^ 52 := by
    rw [hr]
    have : 1 * 2 ^ 52 ≤ (N.log2 + 1023) * 2 ^ 52 := Nat.mul_le_mul_right _ (by omega)
    omega
  have hb2 : rung N < 2047 * 2 ^ 52 := by
    rw [hr]
    have : (N.log2 + 1023) * 2 ^ 52 ≤ 1075 * 2 ^ 52 := Nat.mul_le_mul_right _ (by omega)
    omega
  have e : (-1074 : Int) + ((N.log2 + 1023 - 1 : Nat) : Int) = (N.log2 : Int) - 52 := by omega
  rw [if_neg hb1, if_pos hb2, hq, hm, lp, ← hM, e]

/-- A whole number as a float of 64 bits. -/
def F (n : Int) : Nat := floatOfInt .f64 n
theorem F_eq (n : Int) (h0 : n ≠ 0) (h : n.natAbs < 2 ^ 53) : F n = D.word (n < 0) (rung n.natAbs) := by
  have := nearest_shift (n < 0) n.natAbs 0 (by omega) h
  rw [Nat.pow_zero, Nat.mul_one] at this
  exact this
theorem F_zero : F 0 = 0 := by decide
theorem read_F (n : Int) (h : n.natAbs < 2 ^ 53) : ∃ (m : Nat) (p : Nat), p ≤ 1074 ∧ D.read (F n) = .number (n < 0) m (-(p : Int)) ∧ m = n.natAbs * 2 ^ p ∧ (n ≠ 0 → p ≤ 52 ∧ p ≤ m.log2 + 2) := by
  by_cases h0 : n = 0
  · subst h0
    obtain ⟨p, hp⟩ : ∃ p : Nat, p = 1074 := ⟨_, rfl⟩
    exact ⟨0, p, by omega, by rw [F_zero, hp]; decide, (Nat.zero_mul _).symm, fun h => absurd rfl h⟩
  · have hg : n.natAbs.log2 < 53 := (Nat.log2_lt (by omega)).2 h
    refine ⟨n.natAbs * 2 ^ (52 - n.natAbs.log2), 52 - n.natAbs.log2, by omega, ?_, rfl, fun _ => ⟨by omega, ?_⟩⟩
    · rw [F_eq n h0 h, read_word _ _ (by omega) h]
      congr 1
      omega
    · rw [log2_mul _ _ (by omega)]; omega

theorem signed_pow (n : Int) (p q : Nat) (hq : p ≤ q) : signed (decide (n < 0)) (n.natAbs * 2 ^ p) (q - p) = n * 2 ^ q := by
  unfold signed
  rw [Nat.shiftLeft_eq, Nat.mul_assoc, ← Nat.pow_add, show p + (q - p) = q by omega]
  by_cases h : n < 0
  · rw [if_pos (by simpa using h), Int.natCast_mul, Int.natCast_pow]
    rw [show ((n.natAbs : Nat) : Int) = -n by omega, Int.neg_mul]
    simp
  · rw [if_neg (by simpa using h), Int.natCast_mul, Int.natCast_pow]
    rw [show ((n.natAbs : Nat) : Int) = n by omega]
    simp

theorem write_F (n : Int) (k : Nat) (h : n.natAbs < 2 ^ 53) : D.write (.number (n < 0) (n.natAbs * 2 ^ k) (-(k : Int))) = F n := by
  show D.nearest _ _ _ = _
  by_cases h0 : n = 0
  · subst h0
    rw [F_zero]
    unfold Format.nearest
    simp [Format.word]
  · rw [nearest_shift _ _ _ (by omega) h, F_eq n h0 h]

theorem add_F (a b : Int) (ha : a.natAbs < 2 ^ 50) (hb : b.natAbs < 2 ^ 50) : D.add (F a) (F b) = some (F (a + b)) := by
  obtain ⟨m, p, hp, hr, hm, _⟩ := read_F a (by omega)
  obtain ⟨m', p', hp', hr', hm', _⟩ := read_F b (by omega)
  unfold Format.add
  rw [hr, hr']
  simp only [Datum.sum, Option.map_some]
  have hbase : min (-(p : Int)) (-(p' : Int)) = -((max p p' : Nat) : Int) := by omega
  rw [hbase, show (-(p : Int) - -((max p p' : Nat) : Int)).toNat = max p p' - p by omega, show (-(p' : Int) - -((max p p' : Nat) : Int)).toNat = max p p' - p' by omega, hm, hm',
    signed_pow a p _ (by omega), signed_pow b p' _ (by omega), ← Int.add_mul]
  generalize max p p' = q
  congr 1
  rw [← write_F (a + b) q (by omega)]
  have hpos : (0 : Int) < 2 ^ q := Int.pow_pos (by omega)
  have hnat : ((a + b) * 2 ^ q).natAbs = (a + b).natAbs * 2 ^ q := by rw [Int.natAbs_mul, Int.natAbs_pow]; rfl
  rw [hnat]
  congr 2
  by_cases h0 : a + b = 0
  · rw [if_pos (by rw [h0, Int.zero_mul])]
    have : ¬ (a < 0 ∧ b < 0) := by omega
    have h2 : ¬ (a + b < 0) := by omega
    simp only [h2, decide_false, Bool.and_eq_false_iff, decide_eq_false_iff_not]
    omega
  · rw [if_neg (Int.mul_ne_zero h0 (by omega))]
    congr 1
    apply propext
    constructor
    · intro h
      rcases Int.lt_or_le (a + b) 0 with h1 | h1
      · exact h1
      · have := Int.mul_nonneg h1 (Int.le_of_lt hpos); omega
    · intro h
      exact Int.mul_neg_of_neg_of_pos h hpos

theorem toInt_F (n : Int) (h : n.natAbs < 2 ^ 50) : (D.read (F n)).toInt .zero = some n := by
  obtain ⟨m, p, hp, hr, hm, hpp⟩ := read_F n (by omega)
  rw [hr]
  simp only [Datum.toInt, Datum.integral]
  have e1 : (-(p : Int)).toNat = 0 := by omega
  have e2 : (- -(p : Int)).toNat = p := by omega
  rw [e1, e2, Nat.shiftLeft_zero]
  have hc : Toward.zero.cut (decide (n < 0)) m p = n.natAbs := by
    by_cases h0 : n = 0
    · subst h0
      simp only [Int.natAbs_zero, Nat.zero_mul] at hm
      subst hm
      simp [Toward.cut]
    · rw [hm] at hpp ⊢
      exact cut_exact _ _ _ _ (hpp h0).2
  rw [hc]
  unfold signed
  rw [Nat.shiftLeft_zero]
  congr 1
  split
  · rename_i h1; simp at h1; omega
  · rename_i h1; simp at h1; omega

theorem sum_bits (a b c d : Int) (ha : a.natAbs < 2 ^ 50) (hb : b.natAbs < 2 ^ 50) (hc : c.natAbs < 2 ^ 50) (hd : d.natAbs < 2 ^ 50) :
    cSumBits .add .f64 (floatOfInt .f64 a) (floatOfInt .f64 b) (floatOfInt .f64 c) (floatOfInt .f64 d) = some (floatOfInt .f64 (a + c), floatOfInt .f64 (b + d)) := by
  unfold cSumBits floatBits
  rw [show FloatKind.format .f64 = D from rfl]
  have h1 := add_F a c ha hc
  have h2 := add_F b d hb hd
  unfold F at h1 h2
  rw [h1]
  simp only [Option.bind_some]
  rw [h2]
  rfl
theorem int_of (n : Int) (h : n.natAbs < 2 ^ 50) : floatToIntVal .f64 (floatOfInt .f64 n) .i64 = some n := by
  unfold floatToIntVal FloatKind.decode
  rw [show FloatKind.format .f64 = D from rfl]
  have h1 := toInt_F n h
  unfold F at h1
  rw [h1]
  have h2 : IntKind.i64.min = -9223372036854775808 := rfl
  have h3 : IntKind.i64.max = 9223372036854775807 := rfl
  simp only [h2, h3]
  rw [if_pos (by omega)]
end Flt
end Go.Proofs.Ytiecebncnflpiaa
