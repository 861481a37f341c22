/- Rows of elements of m whole numbers each, as one flat list of numbers: no program in it. -/
namespace Go.Proofs.Ytiecebncnflpiaa
def flt {α : Type} (enc : α → List Int) : List α → List Int
  | [] => []
  | x :: r => enc x ++ flt enc r
section
variable {α : Type} {enc : α → List Int} {m : Nat}
theorem flt_len (hk : ∀ x, (enc x).length = m) : ∀ L, (flt enc L).length = L.length * m
  | [] => by simp [flt]
  | x :: r => by rw [flt, List.length_append, hk, flt_len hk r, List.length_cons, Nat.succ_mul]; omega
theorem flt_app : ∀ L M, flt enc (L ++ M) = flt enc L ++ flt enc M
  | [], M => rfl
  | x :: r, M => by rw [List.cons_append, flt, flt, flt_app r M, List.append_assoc]
theorem flt_one (x : α) : flt enc [x] = enc x := by simp [flt]
theorem flt_drop (hk : ∀ x, (enc x).length = m) : ∀ (k : Nat) L, (flt enc L).drop (k * m) = flt enc (L.drop k)
  | 0, L => by simp
  | k + 1, [] => by simp [flt]
  | k + 1, x :: r => by
    have e : (enc x).drop m = [] := List.drop_eq_nil_of_le (by rw [hk]; exact Nat.le_refl _)
    rw [show (k + 1) * m = m + k * m by rw [Nat.succ_mul]; omega, ← List.drop_drop, flt, List.drop_append_of_le_length (by rw [hk]; exact Nat.le_refl _), e, List.nil_append]
    exact flt_drop hk k r
theorem flt_take (hk : ∀ x, (enc x).length = m) : ∀ (k : Nat) L, (flt enc L).take (k * m) = flt enc (L.take k)
  | 0, L => by simp [flt]
  | k + 1, [] => by simp [flt]
  | k + 1, x :: r => by
    have h1 := flt_take hk k r
    rw [List.take_succ_cons, flt, flt, ← h1, List.take_append, hk]
    rw [List.take_of_length_le (by rw [hk, Nat.succ_mul]; omega)]
    congr 2
    rw [Nat.succ_mul]; omega
theorem flt_get (hk : ∀ x, (enc x).length = m) (d : α) : ∀ (L : List α) (i j : Nat), i < L.length → j < m → (flt enc L).getD (i * m + j) 0 = (enc (L.getD i d)).getD j 0
  | [], i, j, h, _ => by cases h
  | x :: r, 0, j, _, hj => by
    rw [flt, Nat.zero_mul, Nat.zero_add]
    simp only [List.getD]
    rw [List.getElem?_append_left (by rw [hk]; exact hj)]
    rfl
  | x :: r, i + 1, j, h, hj => by
    have h1 := flt_get hk d r i j (by simpa using h) hj
    rw [flt]
    simp only [List.getD] at h1 ⊢
    rw [List.getElem?_append_right (by rw [hk, Nat.succ_mul]; omega), hk]
    rw [show (i + 1) * m + j - m = i * m + j by rw [Nat.succ_mul]; omega, h1]
    rfl
end
end Go.Proofs.Ytiecebncnflpiaa
