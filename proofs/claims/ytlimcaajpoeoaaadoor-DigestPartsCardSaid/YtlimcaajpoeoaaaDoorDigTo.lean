/- The digest's contract as the laws use it. -/
import Derived.Test.YtlimcaajpoeoaaaDoorDig5
import Derived.Test.YtlimcaajpoeoaaaDoorArrEq
import Derived.Test.YtlimcaajpoeoaaaDoorMem4
import Derived.Test.YtlimcaajpoeoaaaDoorMark
import Derived.Outline
import Derived.Deep.Cut
namespace Go.Proofs.YtlimcaajpoeoaaaDoor
open Go.ChangeShapes Go.WideShapes Go.ChangeAt Go.RowKit
theorem sum_to (w : World) (A : Option Addr) (np cap : Nat) (ps : List Pt) (l r : List Int) (hf : flat ps = l) (hr : Sha.sha l = r) (hnp : ps.length = np) (hP : Parts w A ps) (hlen : l.length ≤ 1000000) (hnp6 : np ≤ 1000000) (hwf : ∀ z ∈ l, 0 ≤ z ∧ z < 256) (ht : Kt w) :
    Calls Tryd.prog 7 #[.slice A np cap] w fun e w' => e = .returned (.agg (nrow .u8 r).toArray) ∧ Below w.heap.size w w' := by
  subst hf; subst hr
  exact sum_any w A np cap ps hnp hP hlen hnp6 hwf ht
theorem sha_len (l : List Int) : (Sha.sha l).length = 32 := Sha.len_lay _
/-- What a sum is stored as in a new variable. -/
theorem sha_new (r : List Int) (hr : r.length = 32) (W : World) : (storeCells ⟨W.heap.size, 0, none⟩ (nrow .u8 r) 0).run Tryd.prog (W.alloc (.cells (ncs .u8 z32) b32T)) = .ok () (W.alloc (.cells (nrow .u8 r).toArray b32T)) := by
  have := run_storeCells_new (P := Tryd.prog) W b32T (ncs .u8 z32) (nrow .u8 r).toArray (by rw [info_b32]; simp [nrow_len, hr]) (by rw [ncs_size]; simp [nrow_len, hr]; rfl) (all_one (nrow_one _ _))
  simpa using this
theorem eql_b32 (W : World) (x y : List Int) (hx : x.length = 32) (hy : y.length = 32) : (Op.equalIn 10000 b32T (.agg (nrow .u8 x).toArray) (.agg (nrow .u8 y).toArray)).run Tryd.prog W = .ok (decide (x = y)) W :=
  eql_ints Tryd.underlying24 Tryd.underlying5 (by kernel_rfl) (by kernel_rfl) W x y hx hy
theorem nums_row {W : World} {g : Nat} {t : TypeId} {l : List Int} (h : W.heap[g]? = some (.cells (nrow .u8 l).toArray t)) : Nums .u8 W (some ⟨g, 0, none⟩) l :=
  Or.inr ⟨g, 0, rfl, row_lt h, fun i hi => by rw [Nat.zero_add]; exact (row_cells h i).trans (ncs_at .u8 l i hi)⟩
end Go.Proofs.YtlimcaajpoeoaaaDoor
