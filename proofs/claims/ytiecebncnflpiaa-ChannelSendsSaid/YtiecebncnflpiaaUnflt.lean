/- A flat row of numbers as that of a list of records. No program in it. -/
import Derived.Test.YtiecebncnflpiaaSeq
namespace Go.Proofs.Ytiecebncnflpiaa
section
variable {α : Type} {enc : α → List Int} {m : Nat}
/-- A flat row of numbers is that of a list of records. -/
theorem unflt (hd : ∀ ys : List Int, ys.length = m → ∃ x, enc x = ys) : ∀ (n : Nat) (zs : List Int), zs.length = n * m → ∃ l : List α, l.length = n ∧ flt enc l = zs
  | 0, zs, h => by
    have h0 : zs = [] := List.eq_nil_of_length_eq_zero (by simpa using h)
    subst h0
    exact ⟨[], rfl, rfl⟩
  | n + 1, zs, h => by
    have hs : (n + 1) * m = n * m + m := Nat.succ_mul n m
    obtain ⟨x, hx⟩ := hd (zs.take m) (by rw [List.length_take]; omega)
    obtain ⟨l, hl, he⟩ := unflt hd n (zs.drop m) (by rw [List.length_drop]; omega)
    exact ⟨x :: l, by simp [hl], by rw [flt, hx, he, List.take_append_drop]⟩
theorem flt_mem {l : List α} {x : α} (hx : x ∈ l) {z : Int} (hz : z ∈ enc x) : z ∈ flt enc l := by
  induction l with
  | nil => cases hx
  | cons y r ih =>
    rw [flt, List.mem_append]
    rcases List.mem_cons.1 hx with rfl | h
    · exact Or.inl hz
    · exact Or.inr (ih h)
end
end Go.Proofs.Ytiecebncnflpiaa
