/- Three blocks of the call's own, written one behind the other: rules without a condition. No program in it. -/
import Derived.Test.YtiecebncnflpiaaMem2
namespace Go.Proofs.Ytiecebncnflpiaa
open Go.ChangeShapes Go.WideShapes Go.ChangeAt Go.RowKit
structure Rows3 (w : World) (g : Nat) (t : TypeId) (cs : Array Value) (g2 : Nat) (t2 : TypeId) (cs2 : Array Value) (g3 : Nat) (t3 : TypeId) (cs3 : Array Value) : Prop where
  set0 : ∀ i u, w.setCell ⟨g, i, none⟩ u = setRow w g t (cs.setIfInBounds i u)
  set1 : ∀ ds i u, (setRow w g t ds).setCell ⟨g, i, none⟩ u = setRow w g t (ds.setIfInBounds i u)
  set2 : ∀ ds i u, (setRow w g t ds).setCell ⟨g2, i, none⟩ u = setRow (setRow w g t ds) g2 t2 (cs2.setIfInBounds i u)
  set3 : ∀ ds es i u, (setRow (setRow w g t ds) g2 t2 es).setCell ⟨g2, i, none⟩ u = setRow (setRow w g t ds) g2 t2 (es.setIfInBounds i u)
  set4 : ∀ ds es i u, (setRow (setRow w g t ds) g2 t2 es).setCell ⟨g3, i, none⟩ u = setRow (setRow (setRow w g t ds) g2 t2 es) g3 t3 (cs3.setIfInBounds i u)
  set5 : ∀ ds es fs i u, (setRow (setRow (setRow w g t ds) g2 t2 es) g3 t3 fs).setCell ⟨g3, i, none⟩ u = setRow (setRow (setRow w g t ds) g2 t2 es) g3 t3 (fs.setIfInBounds i u)
  cell0 : ∀ i, w.cell? ⟨g, i, none⟩ = cs[i]?
  cell1 : ∀ ds i, (setRow w g t ds).cell? ⟨g, i, none⟩ = ds[i]?
  cell2 : ∀ ds i, (setRow w g t ds).cell? ⟨g2, i, none⟩ = cs2[i]?
  cell3 : ∀ ds es i, (setRow (setRow w g t ds) g2 t2 es).cell? ⟨g2, i, none⟩ = es[i]?
  cell4 : ∀ ds es i, (setRow (setRow w g t ds) g2 t2 es).cell? ⟨g3, i, none⟩ = cs3[i]?
  cell5 : ∀ ds es fs i, (setRow (setRow (setRow w g t ds) g2 t2 es) g3 t3 fs).cell? ⟨g3, i, none⟩ = fs[i]?
  cell6 : ∀ ds es fs i, (setRow (setRow (setRow w g t ds) g2 t2 es) g3 t3 fs).cell? ⟨g2, i, none⟩ = es[i]?
  cell7 : ∀ ds es i, (setRow (setRow w g t ds) g2 t2 es).cell? ⟨g, i, none⟩ = ds[i]?
  froz0 : ∀ i, w.frozen? ⟨g, i, none⟩ = false
  froz1 : ∀ ds i, (setRow w g t ds).frozen? ⟨g, i, none⟩ = false
  froz2 : ∀ ds i, (setRow w g t ds).frozen? ⟨g2, i, none⟩ = false
  froz3 : ∀ ds es i, (setRow (setRow w g t ds) g2 t2 es).frozen? ⟨g2, i, none⟩ = false
  froz4 : ∀ ds es i, (setRow (setRow w g t ds) g2 t2 es).frozen? ⟨g3, i, none⟩ = false
  froz5 : ∀ ds es fs i, (setRow (setRow (setRow w g t ds) g2 t2 es) g3 t3 fs).frozen? ⟨g3, i, none⟩ = false
  size1 : ∀ ds, (setRow w g t ds).heap.size = w.heap.size
theorem rows3 {w : World} {g g2 g3 : Nat} {t t2 t3 : TypeId} {cs cs2 cs3 : Array Value} (h1 : w.heap[g]? = some (.cells cs t)) (h2 : w.heap[g2]? = some (.cells cs2 t2)) (h3 : w.heap[g3]? = some (.cells cs3 t3)) (h12 : g2 ≠ g) (h13 : g3 ≠ g) (h23 : g3 ≠ g2) : Rows3 w g t cs g2 t2 cs2 g3 t3 cs3 := by
  have l1 := row_lt h1
  have l2 := row_lt h2
  have l3 := row_lt h3
  have r1 : ∀ ds, (setRow w g t ds).heap[g]? = some (.cells ds t) := fun ds => setRow_row l1
  have r2 : ∀ ds, (setRow w g t ds).heap[g2]? = some (.cells cs2 t2) := fun ds => (setRow_far h12).trans h2
  have r3 : ∀ ds, (setRow w g t ds).heap[g3]? = some (.cells cs3 t3) := fun ds => (setRow_far h13).trans h3
  have q1 : ∀ ds es, (setRow (setRow w g t ds) g2 t2 es).heap[g]? = some (.cells ds t) := fun ds es => (setRow_far (by omega)).trans (r1 ds)
  have q2 : ∀ ds es, (setRow (setRow w g t ds) g2 t2 es).heap[g2]? = some (.cells es t2) := fun ds es => setRow_row (row_lt (r2 ds))
  have q3 : ∀ ds es, (setRow (setRow w g t ds) g2 t2 es).heap[g3]? = some (.cells cs3 t3) := fun ds es => (setRow_far h23).trans (r3 ds)
  have p2 : ∀ ds es fs, (setRow (setRow (setRow w g t ds) g2 t2 es) g3 t3 fs).heap[g2]? = some (.cells es t2) := fun ds es fs => (setRow_far (by omega)).trans (q2 ds es)
  have p3 : ∀ ds es fs, (setRow (setRow (setRow w g t ds) g2 t2 es) g3 t3 fs).heap[g3]? = some (.cells fs t3) := fun ds es fs => setRow_row (row_lt (q3 ds es))
  exact ⟨setCell_row h1, fun ds => setRow_set l1, fun ds => setCell_row (r2 ds), fun ds es => setRow_set (row_lt (r2 ds)), fun ds es => setCell_row (q3 ds es), fun ds es fs => setRow_set (row_lt (q3 ds es)),
    fun i => cell_of_row _ _ _ _ _ _ h1, fun ds i => cell_of_row _ _ _ _ _ _ (r1 ds), fun ds i => cell_of_row _ _ _ _ _ _ (r2 ds), fun ds es i => cell_of_row _ _ _ _ _ _ (q2 ds es), fun ds es i => cell_of_row _ _ _ _ _ _ (q3 ds es), fun ds es fs i => cell_of_row _ _ _ _ _ _ (p3 ds es fs), fun ds es fs i => cell_of_row _ _ _ _ _ _ (p2 ds es fs), fun ds es i => cell_of_row _ _ _ _ _ _ (q1 ds es),
    frozen_row h1, fun ds => frozen_row (r1 ds), fun ds => frozen_row (r2 ds), fun ds es => frozen_row (q2 ds es), fun ds es => frozen_row (q3 ds es), fun ds es fs => frozen_row (p3 ds es fs), fun ds => setRow_size⟩
end Go.Proofs.Ytiecebncnflpiaa
