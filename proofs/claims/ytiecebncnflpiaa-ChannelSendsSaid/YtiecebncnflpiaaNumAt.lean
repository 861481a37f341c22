/- One number of a row. No program in it. -/
import Derived.Test.YtiecebncnflpiaaMem
namespace Go.Proofs.Ytiecebncnflpiaa
open Go.ChangeShapes Go.WideShapes Go.ChangeAt Go.RowKit
theorem Nums.at {k : IntKind} {w : World} {A : Option Addr} {zs : List Int} (h : Nums k w A zs) {i : Nat} (hi : i < zs.length) : ∃ b off, A = some ⟨b, off, none⟩ ∧ b < w.heap.size ∧ w.cell? ⟨b, off + i, none⟩ = some (.int k (zs.getD i 0)) := by
  rcases h with rfl | ⟨b, off, h1, h2, h3⟩
  · cases hi
  · exact ⟨b, off, h1, h2, h3 i hi⟩
end Go.Proofs.Ytiecebncnflpiaa
