/- Plain reckoning of numbers from 0 to 2^40: no program in it. -/
namespace Go.Proofs.Ytljenpfccmfnbaa
namespace Sat
def clamp (n : Int) : Int := if n < 0 then 0 else if 1099511627776 < n then 1099511627776 else n
theorem clamp_bd (n : Int) : 0 ≤ clamp n ∧ clamp n ≤ 1099511627776 := by unfold clamp; split <;> (try split) <;> omega
theorem clamp_lo (n : Int) : 0 ≤ clamp n := (clamp_bd n).1
theorem clamp_hi (n : Int) : clamp n ≤ 1099511627776 := (clamp_bd n).2
theorem clamp_of (n : Int) (h : 0 ≤ n) (h2 : n ≤ 1099511627776) : clamp n = n := by unfold clamp; split <;> (try split) <;> omega
theorem clamp_mm (n : Int) : min (max n 0) 1099511627776 = clamp n := by unfold clamp; split <;> (try split) <;> omega
theorem clamp_mm' (n : Int) : max 0 (min n 1099511627776) = clamp n := by unfold clamp; split <;> (try split) <;> omega
def add (a b : Int) : Int := clamp (clamp a + clamp b)
def sub (a b : Int) : Int := clamp (clamp a - clamp b)
def mul (a b : Int) : Int := if 1099511627776 < clamp a * clamp b then 1099511627776 else clamp a * clamp b
theorem mul_lo (a b : Int) : 0 ≤ mul a b := by
  unfold mul; split
  · omega
  · exact Int.mul_nonneg (clamp_lo a) (clamp_lo b)
theorem mul_hi (a b : Int) : mul a b ≤ 1099511627776 := by unfold mul; split <;> omega
theorem mul_big (a b : Int) (hb : 0 < clamp b) (hc : 1099511627776 / clamp b < clamp a) : mul a b = 1099511627776 := by
  unfold mul
  have := (Int.ediv_lt_iff_lt_mul hb).1 hc
  rw [if_pos this]
theorem mul_small (a b : Int) (hb : 0 < clamp b) (hc : ¬ 1099511627776 / clamp b < clamp a) : mul a b = clamp a * clamp b := by
  unfold mul
  have := (Int.le_ediv_iff_mul_le hb).1 (Int.not_lt.1 hc)
  rw [if_neg (by omega)]
theorem mul_zero (a b : Int) (hb : ¬ 0 < clamp b) : mul a b = clamp a * clamp b := by
  have := clamp_lo b
  have h0 : clamp b = 0 := by omega
  unfold mul
  rw [h0]; simp
theorem mul_comm (a b : Int) : mul a b = mul b a := by unfold mul; rw [Int.mul_comm]
def sum (l : List Int) : Int := l.foldl add 0
theorem sum_snoc (l : List Int) (k : Nat) (h : k < l.length) : sum (l.take (k + 1)) = add (sum (l.take k)) (l.getD k 0) := by
  unfold sum
  rw [List.take_succ_eq_append_getElem h, List.foldl_append]
  simp [List.getD, h]
theorem add_lo (a b : Int) : 0 ≤ add a b := clamp_lo _
theorem add_hi (a b : Int) : add a b ≤ 1099511627776 := clamp_hi _
theorem sum_bd (l : List Int) : 0 ≤ sum l ∧ sum l ≤ 1099511627776 := by
  unfold sum
  rcases List.eq_nil_or_concat l with rfl | ⟨l', b, rfl⟩
  · simp
  · simp only [List.concat_eq_append, List.foldl_append, List.foldl_cons, List.foldl_nil]
    exact ⟨add_lo _ _, add_hi _ _⟩
def mean (l : List Int) : Int := if l.length = 0 then 0 else sum l / l.length
theorem clamp_neg (n : Int) (h : n ≤ 0) : clamp n = 0 := by unfold clamp; (repeat' split) <;> omega
theorem cc (a : Int) : clamp (clamp a) = clamp a := clamp_of _ (clamp_lo a) (clamp_hi a)
theorem sub_le (a b : Int) (h : clamp a ≤ clamp b) : sub a b = 0 := by
  unfold sub
  exact clamp_neg _ (by omega)
theorem sub_gt (a b : Int) (h : ¬ clamp a ≤ clamp b) : sub a b = clamp a - clamp b := by
  have h1 := clamp_bd a
  have h2 := clamp_bd b
  exact clamp_of _ (by omega) (by omega)
theorem sub_self (a : Int) : sub a a = 0 := sub_le a a (Int.le_refl _)
theorem sub_zero (a : Int) : sub a 0 = clamp a := by
  have := clamp_bd a
  unfold sub
  rw [show clamp 0 = 0 from rfl, Int.sub_zero, cc]
theorem add_back (a b : Int) (h : ¬ clamp a ≤ clamp b) : add (sub a b) (clamp b) = clamp a := by
  have h1 := clamp_bd a
  unfold add
  rw [sub_gt a b h, cc, ← sub_gt a b h, show clamp (sub a b) = sub a b from cc _, sub_gt a b h, Int.sub_add_cancel, cc]
theorem clamp_min (n : Int) (h : 0 ≤ n) : clamp n = min n 1099511627776 := by unfold clamp; (repeat' split) <;> omega
theorem add_min (a b : Int) : add a b = min (clamp a + clamp b) 1099511627776 := clamp_min _ (by have := clamp_lo a; have := clamp_lo b; omega)
theorem mul_min (a b : Int) : mul a b = min (clamp a * clamp b) 1099511627776 := by unfold mul; split <;> omega
theorem clamp_add (a b : Int) : clamp (add a b) = add a b := cc _
theorem clamp_sub (a b : Int) : clamp (sub a b) = sub a b := cc _
theorem clamp_mul (a b : Int) : clamp (mul a b) = mul a b := clamp_of _ (mul_lo a b) (mul_hi a b)
theorem clamp_sum (l : List Int) : clamp (sum l) = sum l := clamp_of _ (sum_bd l).1 (sum_bd l).2
theorem mean_bd (l : List Int) : 0 ≤ mean l ∧ mean l ≤ 1099511627776 := by
  unfold mean
  have h := sum_bd l
  split
  · omega
  · rename_i h0
    have hl : (0 : Int) < l.length := by omega
    exact ⟨Int.ediv_nonneg h.1 (by omega), Int.le_trans (Int.ediv_le_self _ h.1) h.2⟩
theorem clamp_mean (l : List Int) : clamp (mean l) = mean l := clamp_of _ (mean_bd l).1 (mean_bd l).2
theorem add_comm (a b : Int) : add a b = add b a := by rw [add_min, add_min, Int.add_comm]
theorem add_cc (a b : Int) : add (clamp a) (clamp b) = add a b := by unfold add; rw [cc, cc]
theorem sub_cc (a b : Int) : sub (clamp a) (clamp b) = sub a b := by unfold sub; rw [cc, cc]
theorem mul_cc (a b : Int) : mul (clamp a) (clamp b) = mul a b := by unfold mul; rw [cc, cc]
theorem add_assoc (a b c : Int) : add (add a b) c = add a (add b c) := by
  have h1 := clamp_bd a
  have h2 := clamp_bd b
  have h3 := clamp_bd c
  rw [add_min (add a b) c, add_min a (add b c), clamp_add, clamp_add, add_min, add_min]
  omega
theorem sub_back (a b : Int) (h : add a b < 1099511627776) : sub (add a b) b = clamp a := by
  have h1 := clamp_bd a
  have h2 := clamp_bd b
  have h4 : add a b = clamp a + clamp b := by rw [add_min] at h ⊢; omega
  unfold sub
  rw [clamp_add, h4, Int.add_sub_cancel, cc]
theorem mul_one (a : Int) : mul a 1 = clamp a := by
  have := clamp_bd a
  rw [mul_min, show clamp 1 = 1 from rfl]; omega
theorem mul_nil (a : Int) : mul a 0 = 0 := by rw [mul_min, show clamp 0 = 0 from rfl, Int.mul_zero]; rfl
theorem mul_two (a : Int) : mul a 2 = add a a := by rw [mul_min, add_min, show clamp 2 = 2 from rfl]; omega
theorem spreads (a b c : Int) : mul a (add b c) = add (mul a b) (mul a c) := by
  have h1 := clamp_bd a
  have h2 := clamp_bd b
  have h3 := clamp_bd c
  rw [add_min (mul a b), clamp_mul, clamp_mul, mul_min, mul_min, mul_min, clamp_add, add_min]
  generalize clamp a = A at *
  generalize clamp b = B at *
  generalize clamp c = C at *
  by_cases h0 : A = 0
  · subst h0; simp only [Int.zero_mul]; rfl
  · have hb : B ≤ A * B := by
      have := Int.mul_le_mul_of_nonneg_right (show 1 ≤ A by omega) h2.1
      omega
    have hc : C ≤ A * C := by
      have := Int.mul_le_mul_of_nonneg_right (show 1 ≤ A by omega) h3.1
      omega
    by_cases h4 : B + C ≤ 1099511627776
    · have e : min (B + C) 1099511627776 = B + C := by omega
      rw [e, Int.mul_add]
      generalize A * B = X at *
      generalize A * C = Y at *
      omega
    · have e : min (B + C) 1099511627776 = 1099511627776 := by omega
      rw [e]
      generalize A * B = X at *
      generalize A * C = Y at *
      omega
theorem clamp_mono {a b : Int} (h : a ≤ b) : clamp a ≤ clamp b := by unfold clamp; (repeat' split) <;> omega
theorem add_mono {a b : Int} (c : Int) (h : a ≤ b) : add a c ≤ add b c := by
  have := clamp_mono h
  rw [add_min, add_min]; omega
theorem sub_mono {a b : Int} (c : Int) (h : a ≤ b) : sub a c ≤ sub b c := by
  have := clamp_mono h
  exact clamp_mono (by omega)
theorem sub_anti {a b : Int} (c : Int) (h : a ≤ b) : sub c b ≤ sub c a := by
  have := clamp_mono h
  exact clamp_mono (by omega)
theorem mul_mono {a b : Int} (c : Int) (h : a ≤ b) : mul a c ≤ mul b c := by
  have h1 := clamp_mono h
  have h2 := Int.mul_le_mul_of_nonneg_right h1 (clamp_lo c)
  rw [mul_min, mul_min]
  omega
def total : List Int → Int
  | [] => 0
  | x :: l => clamp x + total l
theorem total_lo : ∀ l, 0 ≤ total l
  | [] => Int.le_refl 0
  | x :: l => by
    have := clamp_lo x
    have := total_lo l
    simp only [total]; omega
theorem total_append : ∀ l m, total (l ++ m) = total l + total m
  | [], m => by simp [total]
  | x :: l, m => by
    simp only [List.cons_append, total, total_append l m]; omega
theorem total_reverse (l : List Int) : total l.reverse = total l := by
  induction l with
  | nil => rfl
  | cons x l ih => rw [List.reverse_cons, total_append, ih]; simp only [total]; omega
theorem fold_eq : ∀ (l : List Int) (acc : Int), 0 ≤ acc → acc ≤ 1099511627776 → l.foldl add acc = min (acc + total l) 1099511627776
  | [], acc, h1, h2 => by simp only [List.foldl_nil, total]; omega
  | x :: l, acc, h1, h2 => by
    have h3 := clamp_lo x
    have h4 := total_lo l
    rw [List.foldl_cons, fold_eq l (add acc x) (add_lo _ _) (add_hi _ _), add_min, clamp_of acc h1 h2]
    simp only [total]
    omega
theorem sum_eq (l : List Int) : sum l = min (total l) 1099511627776 := by
  unfold sum
  rw [fold_eq l 0 (by omega) (by omega), Int.zero_add]
theorem sum_append (l m : List Int) : sum (l ++ m) = add (sum l) (sum m) := by
  have h1 := total_lo l
  have h2 := total_lo m
  rw [add_min, clamp_sum, clamp_sum, sum_eq, sum_eq, sum_eq, total_append]
  omega
theorem sum_one (a : Int) : sum [a] = clamp a := by
  have := clamp_bd a
  rw [sum_eq]; simp only [total]; omega
theorem sum_reverse (l : List Int) : sum l.reverse = sum l := by rw [sum_eq, sum_eq, total_reverse]
theorem sum_back (l : List Int) (a : Int) : sum (l.reverse ++ [a]) = add (sum l) a := by
  rw [sum_append, sum_reverse, sum_one]
  unfold add
  rw [cc]
theorem mean_le (l : List Int) : mean l ≤ sum l := by
  unfold mean
  have h := sum_bd l
  split
  · exact h.1
  · exact Int.ediv_le_self _ h.1
theorem mean_mono {a b : Int} (c : Int) (h : a ≤ b) : mean [a, c] ≤ mean [b, c] := by
  unfold mean
  rw [if_neg (by simp), if_neg (by simp), sum_eq, sum_eq]
  have := clamp_mono h
  refine Int.ediv_le_ediv (by simp) ?_
  simp only [total]
  omega
theorem total_ge (l : List Int) (lo : Int) (h : ∀ x ∈ l, lo ≤ clamp x) : lo * l.length ≤ total l := by
  induction l with
  | nil => simp [total]
  | cons x l ih =>
    have h1 := h x (List.mem_cons_self ..)
    have h2 := ih fun y hy => h y (List.mem_cons_of_mem _ hy)
    simp only [total, List.length_cons, Int.natCast_add, Int.mul_add]
    omega
theorem total_le (l : List Int) (hi : Int) (h : ∀ x ∈ l, clamp x ≤ hi) : total l ≤ hi * l.length := by
  induction l with
  | nil => simp [total]
  | cons x l ih =>
    have h1 := h x (List.mem_cons_self ..)
    have h2 := ih fun y hy => h y (List.mem_cons_of_mem _ hy)
    simp only [total, List.length_cons, Int.natCast_add, Int.mul_add]
    omega
theorem mean_between (l : List Int) (lo hi : Int) (h0 : l.length ≠ 0) (h1 : l.length ≤ 100) (hm : hi ≤ 1073741824) (hlo : ∀ x ∈ l, lo ≤ clamp x) (hhi : ∀ x ∈ l, clamp x ≤ hi) : lo ≤ mean l ∧ mean l ≤ hi := by
  have ha := total_ge l lo hlo
  have hb := total_le l hi hhi
  have h2 : hi * (l.length : Int) ≤ 1073741824 * l.length := Int.mul_le_mul_of_nonneg_right hm (by omega)
  have hs : sum l = total l := by rw [sum_eq]; omega
  have hl : (0 : Int) < l.length := by omega
  unfold mean
  rw [if_neg h0, hs]
  exact ⟨(Int.le_ediv_iff_mul_le hl).2 ha, Int.le_of_lt_add_one ((Int.ediv_lt_iff_lt_mul hl).2 (by rw [Int.add_mul]; omega))⟩
theorem mean_like (n : Nat) (a : Int) (h0 : n ≠ 0) (h1 : n ≤ 100) (hm : clamp a ≤ 1073741824) : mean (List.replicate n a) = clamp a := by
  have := mean_between (List.replicate n a) (clamp a) (clamp a) (by simpa using h0) (by simpa using h1) hm (fun x hx => by rw [List.eq_of_mem_replicate hx]; exact Int.le_refl _) (fun x hx => by rw [List.eq_of_mem_replicate hx]; exact Int.le_refl _)
  omega
end Sat
end Go.Proofs.Ytljenpfccmfnbaa
