/- Rows of pairs as one flat row of numbers: no program in it. -/
namespace Go.Proofs.Ytljenpfccmfnbaa
def flat : List (Int × Int) → List Int
  | [] => []
  | p :: r => p.1 :: p.2 :: flat r
theorem flat_len : ∀ l, (flat l).length = l.length * 2
  | [] => rfl
  | p :: r => by simp only [flat, List.length_cons, flat_len r]; omega
theorem flat_app : ∀ l m, flat (l ++ m) = flat l ++ flat m
  | [], m => rfl
  | p :: r, m => by simp only [List.cons_append, flat, flat_app r m]
theorem flat_drop : ∀ (k : Nat) l, (flat l).drop (k * 2) = flat (l.drop k)
  | 0, l => by simp
  | k + 1, [] => by simp [flat]
  | k + 1, p :: r => by
    rw [show (k + 1) * 2 = k * 2 + 1 + 1 by omega]
    simp only [flat, List.drop_succ_cons]
    exact flat_drop k r
theorem flat_take : ∀ (k : Nat) l, (flat l).take (k * 2) = flat (l.take k)
  | 0, l => by simp [flat]
  | k + 1, [] => by simp [flat]
  | k + 1, p :: r => by
    rw [show (k + 1) * 2 = k * 2 + 1 + 1 by omega]
    simp only [flat, List.take_succ_cons]
    rw [flat_take k r]
theorem flat_0 : ∀ (l : List (Int × Int)) (i : Nat), (flat l).getD (i * 2) 0 = (l.getD i (0, 0)).1
  | [], i => by simp [flat, List.getD]
  | p :: r, 0 => rfl
  | p :: r, i + 1 => by
    rw [show (i + 1) * 2 = i * 2 + 1 + 1 by omega]
    have := flat_0 r i
    simpa [flat, List.getD] using this
theorem flat_1 : ∀ (l : List (Int × Int)) (i : Nat), (flat l).getD (i * 2 + 1) 0 = (l.getD i (0, 0)).2
  | [], i => by simp [flat, List.getD]
  | p :: r, 0 => rfl
  | p :: r, i + 1 => by
    rw [show (i + 1) * 2 + 1 = i * 2 + 1 + 1 + 1 by omega]
    have := flat_1 r i
    simpa [flat, List.getD] using this
end Go.Proofs.Ytljenpfccmfnbaa
