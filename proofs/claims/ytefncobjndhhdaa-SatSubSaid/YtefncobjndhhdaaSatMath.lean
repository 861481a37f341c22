/- Plain reckoning of numbers from 0 to 2^40: no program in it. -/
namespace Go.Proofs.Ytefncobjndhhdaa
namespace Sat
def clamp (n : Int) : Int := if n < 0 then 0 else if 1099511627776 < n then 1099511627776 else n
theorem clamp_bd (n : Int) : 0 ≤ clamp n ∧ clamp n ≤ 1099511627776 := by unfold clamp; split <;> (try split) <;> omega
theorem clamp_lo (n : Int) : 0 ≤ clamp n := (clamp_bd n).1
theorem clamp_hi (n : Int) : clamp n ≤ 1099511627776 := (clamp_bd n).2
theorem clamp_of (n : Int) (h : 0 ≤ n) (h2 : n ≤ 1099511627776) : clamp n = n := by unfold clamp; split <;> (try split) <;> omega
theorem clamp_mm (n : Int) : min (max n 0) 1099511627776 = clamp n := by unfold clamp; split <;> (try split) <;> omega
theorem clamp_mm' (n : Int) : max 0 (min n 1099511627776) = clamp n := by unfold clamp; split <;> (try split) <;> omega
def add (a b : Int) : Int := clamp (clamp a + clamp b)
def sub (a b : Int) : Int := clamp (clamp a - clamp b)
def mul (a b : Int) : Int := if 1099511627776 < clamp a * clamp b then 1099511627776 else clamp a * clamp b
theorem mul_lo (a b : Int) : 0 ≤ mul a b := by
  unfold mul; split
  · omega
  · exact Int.mul_nonneg (clamp_lo a) (clamp_lo b)
theorem mul_hi (a b : Int) : mul a b ≤ 1099511627776 := by unfold mul; split <;> omega
theorem mul_big (a b : Int) (hb : 0 < clamp b) (hc : 1099511627776 / clamp b < clamp a) : mul a b = 1099511627776 := by
  unfold mul
  have := (Int.ediv_lt_iff_lt_mul hb).1 hc
  rw [if_pos this]
theorem mul_small (a b : Int) (hb : 0 < clamp b) (hc : ¬ 1099511627776 / clamp b < clamp a) : mul a b = clamp a * clamp b := by
  unfold mul
  have := (Int.le_ediv_iff_mul_le hb).1 (Int.not_lt.1 hc)
  rw [if_neg (by omega)]
theorem mul_zero (a b : Int) (hb : ¬ 0 < clamp b) : mul a b = clamp a * clamp b := by
  have := clamp_lo b
  have h0 : clamp b = 0 := by omega
  unfold mul
  rw [h0]; simp
theorem mul_comm (a b : Int) : mul a b = mul b a := by unfold mul; rw [Int.mul_comm]
def sum (l : List Int) : Int := l.foldl add 0
theorem sum_snoc (l : List Int) (k : Nat) (h : k < l.length) : sum (l.take (k + 1)) = add (sum (l.take k)) (l.getD k 0) := by
  unfold sum
  rw [List.take_succ_eq_append_getElem h, List.foldl_append]
  simp [List.getD, h]
theorem add_lo (a b : Int) : 0 ≤ add a b := clamp_lo _
theorem add_hi (a b : Int) : add a b ≤ 1099511627776 := clamp_hi _
theorem sum_bd (l : List Int) : 0 ≤ sum l ∧ sum l ≤ 1099511627776 := by
  unfold sum
  rcases List.eq_nil_or_concat l with rfl | ⟨l', b, rfl⟩
  · simp
  · simp only [List.concat_eq_append, List.foldl_append, List.foldl_cons, List.foldl_nil]
    exact ⟨add_lo _ _, add_hi _ _⟩
def mean (l : List Int) : Int := if l.length = 0 then 0 else sum l / l.length
theorem clamp_neg (n : Int) (h : n ≤ 0) : clamp n = 0 := by unfold clamp; (repeat' split) <;> omega
theorem cc (a : Int) : clamp (clamp a) = clamp a := clamp_of _ (clamp_lo a) (clamp_hi a)
theorem sub_le (a b : Int) (h : clamp a ≤ clamp b) : sub a b = 0 := by
  unfold sub
  exact clamp_neg _ (by omega)
theorem sub_gt (a b : Int) (h : ¬ clamp a ≤ clamp b) : sub a b = clamp a - clamp b := by
  have h1 := clamp_bd a
  have h2 := clamp_bd b
  exact clamp_of _ (by omega) (by omega)
theorem sub_self (a : Int) : sub a a = 0 := sub_le a a (Int.le_refl _)
theorem sub_zero (a : Int) : sub a 0 = clamp a := by
  have := clamp_bd a
  unfold sub
  rw [show clamp 0 = 0 from rfl, Int.sub_zero, cc]
theorem add_back (a b : Int) (h : ¬ clamp a ≤ clamp b) : add (sub a b) (clamp b) = clamp a := by
  have h1 := clamp_bd a
  unfold add
  rw [sub_gt a b h, cc, ← sub_gt a b h, show clamp (sub a b) = sub a b from cc _, sub_gt a b h, Int.sub_add_cancel, cc]
end Sat
end Go.Proofs.Ytefncobjndhhdaa
