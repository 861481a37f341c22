/- Arrays of numbers: when two are equal. No program in it. -/
import Derived.Test.YtnfdfnkhjlkdhaaArr
import Derived.ChangeKeysEq
namespace Go.Proofs.Ytnfdfnkhjlkdhaa
open Go.ChangeShapes Go.WideShapes Go.ChangeAt Go.RowKit
section
variable {P : Program} {T e : TypeId} {n : Nat} {k : IntKind}
theorem part_int (he : P.underlying e = some (.int k)) (W : World) (x : List Int) (i : Nat) (hi : i < x.length) : (part e (nrow k x).toArray (i * 1)).run P W = .ok (.int k (x.getD i 0)) W := by
  have hs : (isAgg e).run P W = .ok false W := by
    unfold isAgg
    simp only [Sem.run_bind, run_underlying he, Result.andThen_ok, Sem.run_pure]
  have hc := ncs_at k x i hi
  unfold ncs at hc
  unfold part
  rw [Nat.mul_one]
  simp only [Sem.run_bind, hs, Result.andThen_ok, Bool.false_eq_true, if_false, hc, Sem.run_pure]
theorem items_ints (he : P.underlying e = some (.int k)) (W : World) (d : Nat) (x y : List Int) : ∀ is : List Nat, (∀ i ∈ is, i < x.length ∧ i < y.length) → (Op.eqItems (d + 1) e 1 (nrow k x).toArray (nrow k y).toArray is).run P W = .ok (decide (∀ i ∈ is, x.getD i 0 = y.getD i 0)) W
  | [], _ => by simp [Op.eqItems]
  | i :: is, h => by
    have hx := part_int he W x i (h i (List.mem_cons_self ..)).1
    have hy := part_int he W y i (h i (List.mem_cons_self ..)).2
    have ih := items_ints he W d x y is (fun j hj => h j (List.mem_cons_of_mem _ hj))
    have hq : (Op.equalIn (d + 1) e (.int k (x.getD i 0)) (.int k (y.getD i 0))).run P W = .ok (x.getD i 0 == y.getD i 0) W := by
      simp [Op.equalIn, Sem.run_bind, run_underlying he]
    simp only [Op.eqItems, Sem.run_bind, hx, hy, hq, ih, Result.andThen_ok]
    by_cases hb : x.getD i 0 = y.getD i 0
    · rw [show (x.getD i 0 == y.getD i 0) = true from beq_iff_eq.2 hb]
      simp only [Bool.not_true, Bool.false_eq_true, if_false, ih]
      congr 1
      simp only [List.forall_mem_cons, hb, true_and]
    · rw [show (x.getD i 0 == y.getD i 0) = false from beq_eq_false_iff_ne.2 hb]
      simp only [Bool.not_false, if_true, Sem.run_pure]
      congr 1
      simp only [List.forall_mem_cons, hb, false_and, decide_false]
theorem same_getD {x y : List Int} (hx : x.length = n) (hy : y.length = n) : (∀ i ∈ List.range n, x.getD i 0 = y.getD i 0) ↔ x = y := by
  constructor
  · intro h
    apply List.ext_getElem (by omega)
    intro i h1 h2
    have := h i (List.mem_range.2 (by omega))
    simpa [List.getD, h1, h2] using this
  · rintro rfl _ _
    rfl
/-- Two arrays of numbers are equal just if they have the same numbers. -/
theorem eql_ints (hu : P.underlying T = some (.array n e)) (he : P.underlying e = some (.int k)) (hi : (P.info? e).isSome = true) (hc : P.cellsOf e = 1) (W : World) (x y : List Int) (hx : x.length = n) (hy : y.length = n) :
    (Op.equalIn 10000 T (.agg (nrow k x).toArray) (.agg (nrow k y).toArray)).run P W = .ok (decide (x = y)) W := by
  obtain ⟨i, hi⟩ := Option.isSome_iff_exists.1 hi
  rw [show (10000 : Nat) = 9999 + 1 from rfl, run_equalIn_array W 9999 _ _ hu hi, hc, show (9999 : Nat) = 9998 + 1 from rfl, items_ints he W 9998 x y _ (fun i h => ⟨by have := List.mem_range.1 h; omega, by have := List.mem_range.1 h; omega⟩)]
  congr 1
  exact decide_eq_decide.2 (same_getD hx hy)
end
end Go.Proofs.Ytnfdfnkhjlkdhaa
