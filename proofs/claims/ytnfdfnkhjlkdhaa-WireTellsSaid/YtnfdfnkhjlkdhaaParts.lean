/- Slices of bytes in a slice. No program in it. -/
import Derived.Test.YtnfdfnkhjlkdhaaMem2
namespace Go.Proofs.Ytnfdfnkhjlkdhaa
open Go.ChangeShapes Go.WideShapes Go.ChangeAt Go.RowKit
structure Pt where
  A : Option Addr
  cap : Nat
  bs : List Int
def flat : List Pt → List Int
  | [] => []
  | p :: r => p.bs ++ flat r
theorem flat_app (a b : List Pt) : flat (a ++ b) = flat a ++ flat b := by
  induction a with
  | nil => rfl
  | cons p r ih => rw [List.cons_append, flat, flat, ih, List.append_assoc]
theorem flat_snoc (ps : List Pt) (k : Nat) (p : Pt) (h : ps[k]? = some p) : flat (ps.take (k + 1)) = flat (ps.take k) ++ p.bs := by
  rw [List.take_add_one, flat_app, h]
  simp [flat]
theorem flat_le (ps : List Pt) (k : Nat) : (flat (ps.take k)).length ≤ (flat ps).length := by
  have h := flat_app (ps.take k) (ps.drop k)
  rw [List.take_append_drop] at h
  rw [h, List.length_append]; omega
theorem flat_part (ps : List Pt) (k : Nat) (p : Pt) (h : ps[k]? = some p) : (flat (ps.take k)).length + p.bs.length ≤ (flat ps).length := by
  have h1 := flat_le ps (k + 1)
  rw [flat_snoc ps k p h, List.length_append] at h1
  exact h1
/-- The cells of a slice of slices of bytes. -/
def Parts (w : World) (A : Option Addr) (ps : List Pt) : Prop :=
  ps = [] ∨ ∃ b off, A = some ⟨b, off, none⟩ ∧ b < w.heap.size ∧ ∀ r p, ps[r]? = some p → w.cell? ⟨b, off + r, none⟩ = some (.slice p.A p.bs.length p.cap) ∧ Nums .u8 w p.A p.bs ∧ p.bs.length ≤ p.cap ∧ p.cap ≤ maxLen
theorem Parts.below {w w' : World} {A : Option Addr} {ps : List Pt} (h : Parts w A ps) (hb : Below w.heap.size w w') : Parts w' A ps := by
  rcases h with rfl | ⟨b, off, rfl, hlt, hc⟩
  · exact Or.inl rfl
  · refine Or.inr ⟨b, off, rfl, Nat.lt_of_lt_of_le hlt hb.size, fun r p hp => ?_⟩
    obtain ⟨h1, h2, h3, h4⟩ := hc r p hp
    exact ⟨(hb.cell (p := ⟨b, off + r, none⟩) hlt).trans h1, h2.below hb, h3, h4⟩
theorem parts_of_row {W : World} {g : Nat} {t : TypeId} {ps : List Pt} (h : W.heap[g]? = some (.cells (ps.map fun p => Value.slice p.A p.bs.length p.cap).toArray t)) (hall : ∀ p ∈ ps, Nums .u8 W p.A p.bs ∧ p.bs.length ≤ p.cap ∧ p.cap ≤ maxLen) : Parts W (some ⟨g, 0, none⟩) ps :=
  Or.inr ⟨g, 0, rfl, row_lt h, fun r p hp => by
    obtain ⟨h1, h2, h3⟩ := hall p (List.mem_of_getElem? hp)
    refine ⟨?_, h1, h2, h3⟩
    rw [Nat.zero_add, cell_of_row _ _ _ _ _ _ h, List.getElem?_toArray, List.getElem?_map, hp]
    rfl⟩
theorem nums_source {w : World} {A : Option Addr} {bs : List Int} {k : IntKind} (h : Nums k w A bs) (h0 : 0 < bs.length) : ∃ ad, A = some ad ∧ ∀ j v, (bs.map (Value.int k))[j]? = some v → w.cell? (ad.add j) = some v := by
  rcases h with rfl | ⟨b, off, rfl, _, hc⟩
  · cases h0
  · refine ⟨_, rfl, fun j v hv => ?_⟩
    have hj : j < bs.length := by
      have := (List.getElem?_eq_some_iff.1 hv).1
      simpa using this
    rw [add_plain, hc j hj, ← hv]
    simp [List.getD, hj]
end Go.Proofs.Ytnfdfnkhjlkdhaa
