/- More of memory: kept apart so that what is built over Mem need not be built again. -/
import Derived.Test.YtnfdfnkhjlkdhaaMem
namespace Go.Proofs.Ytnfdfnkhjlkdhaa
open Go.ChangeShapes Go.WideShapes Go.ChangeAt Go.RowKit
theorem lt_kept {w w' : World} {B g : Nat} (h : g < w.heap.size) (hb : Below B w w') : g < w'.heap.size := Nat.lt_of_lt_of_le h hb.size
theorem cells_kept {w w' : World} {g : Nat} {f : Nat → Option Value} (K : ∀ i, w.cell? ⟨g, i, none⟩ = f i) (hb : Below w.heap.size w w') (hg : g < w.heap.size) : ∀ i, w'.cell? ⟨g, i, none⟩ = f i :=
  fun i => (hb.cell (p := ⟨g, i, none⟩) hg).trans (K i)
/-- What a walk needs of one block of the call's own that is written again and again: rules without a condition. -/
structure Rows1 (w : World) (g : Nat) (t : TypeId) (cs : Array Value) : Prop where
  set0 : ∀ i u, w.setCell ⟨g, i, none⟩ u = setRow w g t (cs.setIfInBounds i u)
  set1 : ∀ ds i u, (setRow w g t ds).setCell ⟨g, i, none⟩ u = setRow w g t (ds.setIfInBounds i u)
  cell0 : ∀ i, w.cell? ⟨g, i, none⟩ = cs[i]?
  cell1 : ∀ ds i, (setRow w g t ds).cell? ⟨g, i, none⟩ = ds[i]?
  frozen0 : ∀ i, w.frozen? ⟨g, i, none⟩ = false
  frozen1 : ∀ ds i, (setRow w g t ds).frozen? ⟨g, i, none⟩ = false
  size1 : ∀ ds, (setRow w g t ds).heap.size = w.heap.size
theorem rows1 {w : World} {g : Nat} {t : TypeId} {cs : Array Value} (h1 : w.heap[g]? = some (.cells cs t)) : Rows1 w g t cs := by
  have l1 := row_lt h1
  exact ⟨setCell_row h1, fun ds => setRow_set l1, fun i => cell_of_row _ _ _ _ _ _ h1, fun ds => setRow_cell l1, frozen_row h1, fun ds => frozen_row (setRow_row l1), fun ds => setRow_size⟩
theorem row_written {w : World} {g : Nat} {t : TypeId} {cs ds : Array Value} (h : w.heap[g]? = some (.cells cs t)) : (setRow w g t ds).heap[g]? = some (.cells ds t) := setRow_row (row_lt h)
end Go.Proofs.Ytnfdfnkhjlkdhaa
