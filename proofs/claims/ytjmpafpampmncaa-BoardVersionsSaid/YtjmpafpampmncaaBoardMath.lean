/- Boards, in plain reckoning: seventeen entries of three numbers. -/
import GoSem.Core.Value
namespace Go.Proofs.Ytjmpafpampmncaa
open Go
abbrev Bd := Nat → Int × Int × Int
namespace Bd
def part (p : Int × Int × Int) : Nat → Int
  | 0 => p.1
  | 1 => p.2.1
  | _ => p.2.2
def row (E : Bd) : List Value := (List.range 51).map fun i => .int .i64 (part (E (i / 3)) (i % 3))
def cs (E : Bd) : Array Value := (row E).toArray
theorem row_len (E : Bd) : (row E).length = 51 := by simp [row]
theorem cs_size (E : Bd) : (cs E).size = 51 := by simp [cs, row]
theorem row_get (E : Bd) (i : Nat) (h : i < 51) : (row E)[i]? = some (.int .i64 (part (E (i / 3)) (i % 3))) := by simp [row, h]
theorem cs_get (E : Bd) (i : Nat) (h : i < 51) : (cs E)[i]? = some (.int .i64 (part (E (i / 3)) (i % 3))) := by
  unfold cs
  rw [List.getElem?_toArray, row_get E i h]
theorem cs_none (E : Bd) (i : Nat) (h : ¬ i < 51) : (cs E)[i]? = none := Array.getElem?_eq_none (by rw [cs_size]; omega)
theorem cs_0 (E : Bd) (u : Nat) (h : u < 17) : (cs E)[u * 3]? = some (.int .i64 (E u).1) := by
  rw [cs_get E _ (by omega), show u * 3 / 3 = u by omega, show u * 3 % 3 = 0 by omega]
  rfl
theorem cs_1 (E : Bd) (u : Nat) (h : u < 17) : (cs E)[u * 3 + 1]? = some (.int .i64 (E u).2.1) := by
  rw [cs_get E _ (by omega), show (u * 3 + 1) / 3 = u by omega, show (u * 3 + 1) % 3 = 1 by omega]
  rfl
theorem cs_2 (E : Bd) (u : Nat) (h : u < 17) : (cs E)[u * 3 + 2]? = some (.int .i64 (E u).2.2) := by
  rw [cs_get E _ (by omega), show (u * 3 + 2) / 3 = u by omega, show (u * 3 + 2) % 3 = 2 by omega]
  rfl
def upd (E : Bd) (u : Nat) (p : Int × Int × Int) : Bd := fun i => if i = u then p else E i
theorem cs_upd (E : Bd) (u : Nat) (h : u < 17) (a b c : Int) : (((cs E).setIfInBounds (u * 3) (.int .i64 a)).setIfInBounds (u * 3 + 1) (.int .i64 b)).setIfInBounds (u * 3 + 2) (.int .i64 c) = cs (upd E u (a, b, c)) := by
  apply Array.ext_getElem?
  intro i
  rw [Array.getElem?_setIfInBounds, Array.getElem?_setIfInBounds, Array.getElem?_setIfInBounds]
  simp only [Array.size_setIfInBounds, cs_size]
  by_cases hi : i < 51
  · rw [cs_get _ i hi, cs_get _ i hi]
    unfold upd
    by_cases h2 : u * 3 + 2 = i
    · subst h2
      rw [if_pos rfl, if_pos (by omega), if_pos (by omega), show (u * 3 + 2) % 3 = 2 by omega]
      rfl
    · rw [if_neg h2]
      by_cases h1 : u * 3 + 1 = i
      · subst h1
        rw [if_pos rfl, if_pos (by omega), if_pos (by omega), show (u * 3 + 1) % 3 = 1 by omega]
        rfl
      · rw [if_neg h1]
        by_cases h0 : u * 3 = i
        · subst h0
          rw [if_pos rfl, if_pos (by omega), if_pos (by omega), show (u * 3) % 3 = 0 by omega]
          rfl
        · rw [if_neg h0, if_neg (by omega)]
  · rw [if_neg (by omega), if_neg (by omega), if_neg (by omega), cs_none _ i hi, cs_none _ i hi]
theorem upd_at (E : Bd) (u : Nat) (p : Int × Int × Int) : upd E u p u = p := if_pos rfl
theorem upd_far (E : Bd) (u i : Nat) (p : Int × Int × Int) (h : i ≠ u) : upd E u p i = E i := if_neg h
theorem cs_congr {E F : Bd} (h : ∀ i, i < 17 → E i = F i) : cs E = cs F := by
  apply Array.ext_getElem?
  intro i
  by_cases hi : i < 51
  · rw [cs_get _ i hi, cs_get _ i hi, h (i / 3) (by omega)]
  · rw [cs_none _ i hi, cs_none _ i hi]
def step (p : Int × Int) (s : Int) : Int × Int := if 1 ≤ s ∧ s ≤ 3 then (max p.1 s, min (p.2 + 1) 4) else p
def fold (l : List Int) : Int × Int := l.foldl step (0, 0)
theorem fold_snoc (l : List Int) (k : Nat) (h : k < l.length) : fold (l.take (k + 1)) = step (fold (l.take k)) (l.getD k 0) := by
  unfold fold
  rw [List.take_succ_eq_append_getElem h, List.foldl_append]
  simp [List.getD, h]
theorem step_bd (p : Int × Int) (s : Int) (h : 0 ≤ p.1 ∧ p.1 ≤ 3 ∧ 0 ≤ p.2 ∧ p.2 ≤ 4) : 0 ≤ (step p s).1 ∧ (step p s).1 ≤ 3 ∧ 0 ≤ (step p s).2 ∧ (step p s).2 ≤ 4 := by
  unfold step
  split
  · simp only; omega
  · exact h
theorem fold_bd (l : List Int) : 0 ≤ (fold l).1 ∧ (fold l).1 ≤ 3 ∧ 0 ≤ (fold l).2 ∧ (fold l).2 ≤ 4 := by
  unfold fold
  have : ∀ (l : List Int) (p : Int × Int), (0 ≤ p.1 ∧ p.1 ≤ 3 ∧ 0 ≤ p.2 ∧ p.2 ≤ 4) → 0 ≤ (l.foldl step p).1 ∧ (l.foldl step p).1 ≤ 3 ∧ 0 ≤ (l.foldl step p).2 ∧ (l.foldl step p).2 ≤ 4 := by
    intro l
    induction l with
    | nil => intro p h; exact h
    | cons x r ih => intro p h; exact ih _ (step_bd p x h)
  exact this l _ ⟨by decide, by decide, by decide, by decide⟩
def same (E : Bd) (u : Nat) (l : List Int) : Prop := ((E u).2.1 = (fold l).1 ∧ (E u).2.2 = (fold l).2) ∨ 1073741824 ≤ (E u).1
instance (E : Bd) (u : Nat) (l : List Int) : Decidable (same E u l) := inferInstanceAs (Decidable (_ ∨ _))
/-- Is something put? -/
def ok (E : Bd) (u : Int) (l : List Int) : Bool := decide (1 ≤ u ∧ u ≤ 16 ∧ ¬ same E u.toNat l)
def put (E : Bd) (u : Int) (l : List Int) : Bd := if ok E u l then upd E u.toNat ((E u.toNat).1 + 1, (fold l).1, (fold l).2) else E
def note (E : Bd) (u : Int) : Int × Int × Int × Int := if 1 ≤ u ∧ u ≤ 16 then (u, (E u.toNat).1, (E u.toNat).2.1, (E u.toNat).2.2) else (0, 0, 0, 0)
end Bd
end Go.Proofs.Ytjmpafpampmncaa
