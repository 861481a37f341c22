/- Arrays as opaque rows of cells: what a load and a store of the whole come to, a result that lies in a cell, an array's slice. No program in it. -/
import Derived.Test.YtnfdfnkhjlkdhaaMem2
import Derived.Deep.MidRow
import Derived.Deep.WholeRow
import Derived.Laws.ResultCell
import Derived.BigQuiet
namespace Go.Proofs.Ytnfdfnkhjlkdhaa
open Go.ChangeShapes Go.WideShapes Go.ChangeAt Go.RowKit
/-- A row of numbers of a kind. -/
def nrow (k : IntKind) (l : List Int) : List Value := l.map (Value.int k)
def ncs (k : IntKind) (l : List Int) : Array Value := (nrow k l).toArray
theorem nrow_len (k : IntKind) (l : List Int) : (nrow k l).length = l.length := by simp [nrow]
theorem ncs_size (k : IntKind) (l : List Int) : (ncs k l).size = l.length := by simp [ncs, nrow]
theorem ncs_at (k : IntKind) (l : List Int) (i : Nat) (h : i < l.length) : (ncs k l)[i]? = some (.int k (l.getD i 0)) := by
  unfold ncs nrow
  rw [List.getElem?_toArray, List.getElem?_map]
  simp [List.getD, h]
theorem ncs_set (k : IntKind) (l : List Int) (i : Nat) (x : Int) : (ncs k l).setIfInBounds i (.int k x) = ncs k (l.set i x) := by
  unfold ncs nrow
  rw [List.setIfInBounds_toArray, List.map_set]
theorem nrow_one (k : IntKind) (l : List Int) : ∀ v ∈ nrow k l, v.oneCell' = true := by
  intro v hv
  simp only [nrow, List.mem_map] at hv
  obtain ⟨_, _, rfl⟩ := hv
  rfl
theorem all_one {L : List Value} (h : ∀ v ∈ L, v.oneCell' = true) : L.toArray.all (·.oneCell') = true := all_oneCell_toArray h
theorem setRow_eq {W : World} {g : Nat} {t : TypeId} {cs ds : Array Value} (h : W.heap[g]? = some (.cells cs t)) : W.setRow g ds = setRow W g t ds := by
  refine world_eq (fun k => ?_) rfl rfl rfl rfl
  rw [setRow_heap]
  show (W.heap.modify g _)[k]? = _
  rw [Array.getElem?_modify]
  by_cases hk : g = k
  · subst hk
    rw [if_pos rfl, if_pos ⟨rfl, row_lt h⟩, h]
    rfl
  · rw [if_neg hk, if_neg (by omega)]
theorem results_cell_one {fn : Func} {p : Tmp} {ty : TypeId} (h : fn.results = #[.cell p ty]) (tmps : Array Value) (P : Program) (w : World) :
    (results fn tmps).run P w = ((asAddr (tmps.getD p undef)).run P w).andThen fun a w₁ => (loadVar ty a).run P w₁ := by
  simp only [results, h]
  simp [Sem.run_bind, Result.andThen]
section
variable {P : Program} {T e : TypeId} {n : Nat}
theorem range_row {W : World} {g : Nat} {L : List Value} {t : TypeId} (h : W.heap[g]? = some (.cells L.toArray t)) : W.rangeAt g 0 L := fun j v hv => by
  rw [Nat.zero_add, cell_of_row _ _ _ _ _ _ h, List.getElem?_toArray]; exact hv
theorem arr_store (hi : (P.info? T).map (·.size) = some n) (W : World) (g : Nat) (L M : List Value) (hL : L.length = n) (hM : M.length = n) (h1 : ∀ v ∈ L, v.oneCell' = true) (h : W.heap[g]? = some (.cells M.toArray T)) :
    (storeCells ⟨g, 0, none⟩ L 0).run P W = .ok () (setRow W g T L.toArray) := by
  have h2 := run_storeVar_row (P := P) W g T T M.toArray L.toArray h (by rw [hi]; simp [hL]) (by simp [hL, hM]) (all_one h1)
  cases hq : P.info? T with
  | none => simp [hq] at hi
  | some i =>
    have hs : i.size = n := by simpa [hq] using hi
    rw [setRow_eq h] at h2
    simpa [storeVar, sizeOf, typeInfo, hq, Value.cells, hs, hL] using h2
theorem arr_store_var (hi : (P.info? T).map (·.size) = some n) (W : World) (g : Nat) (L M : List Value) (hL : L.length = n) (hM : M.length = n) (h1 : ∀ v ∈ L, v.oneCell' = true) (h : W.heap[g]? = some (.cells M.toArray T)) :
    (Instr.storeAt T (.pointer (some ⟨g, 0, none⟩)) (.agg L.toArray)).run P W = .ok () (setRow W g T L.toArray) := by
  have h2 := run_storeVar_row (P := P) W g T T M.toArray L.toArray h (by rw [hi]; simp [hL]) (by simp [hL, hM]) (all_one h1)
  simp only [Instr.storeAt, Instr.sureAddr, Sem.run_bind, Sem.run_pure, Result.andThen_ok, h2, setRow_eq h]
variable (hu : P.underlying T = some (.array n e))
include hu
theorem arr_load (hi : (P.info? T).map (·.size) = some n) (W : World) (g : Nat) (L : List Value) (hL : L.length = n) (h : W.heap[g]? = some (.cells L.toArray T)) :
    (loadVar T ⟨g, 0, none⟩).run P W = .ok (.agg L.toArray) W :=
  run_loadVar_mid (P := P) W g 0 T L _ (range_row h) hu rfl (by rw [hi, hL])
theorem arr_results {fn : Func} {u : Tmp} (hi : (P.info? T).map (·.size) = some n) (hr : fn.results = #[.cell u T]) {tmps : Array Value} {W : World} {g : Nat} {L : List Value} (hL : L.length = n) (h6 : tmps.getD u undef = .pointer (some ⟨g, 0, none⟩)) (hW : W.heap[g]? = some (.cells L.toArray T)) :
    (results fn tmps).run P W = .ok (.agg L.toArray) W := by
  have hl := arr_load hu hi W g L hL hW
  rw [results_cell_one hr tmps P W, h6]
  simp only [asAddr, Sem.run_pure, Result.andThen_ok, hl]
theorem wpl_arr {ops : Array Oper} {rest : List Oper} {o : Oper} {a : Act} {w : World} {Q : Exit → Act → World → Prop} (hi : (P.info? T).map (·.size) = some n) (hgd : o.guard = none) (x : Operand) (ho : o.op = .load T x) (g : Nat) (L : List Value) (hL : L.length = n) (hx : a.eval x = .pointer (some ⟨g, 0, none⟩))
    (hw : w.heap[g]? = some (.cells L.toArray T)) (h : wpList P ops Q rest (a.put o.dst (.agg L.toArray)) w) : wpList P ops Q (o :: rest) a w :=
  wpList_load_mid hgd T x ho g 0 hx L _ (range_row hw) hu rfl (by rw [hi, hL]) h
theorem wpl_arrw {ops : Array Oper} {rest : List Oper} {o : Oper} {a : Act} {w : World} {Q : Exit → Act → World → Prop} (hi : (P.info? T).map (·.size) = some n) (hgd : Region.wanted o (yielded ops a.tmps) = true) (x : Operand) (ho : o.op = .load T x) (g : Nat) (L : List Value) (hL : L.length = n) (hx : a.eval x = .pointer (some ⟨g, 0, none⟩))
    (hw : w.heap[g]? = some (.cells L.toArray T)) (h : wpList P ops Q rest (a.put o.dst (.agg L.toArray)) w) : wpList P ops Q (o :: rest) a w :=
  BigFrame.wpList_want hgd fun _ hK => wp_load_mid T x ho g 0 hx L _ (range_row hw) hu rfl (by rw [hi, hL]) (hK _ _ h)
end
/-- The load as the walk's simp leaves it. -/
theorem arr_cells {P : Program} {T : TypeId} (W : World) (g : Nat) (L : List Value) (n : Nat) (hL : L.length = n) (h : W.heap[g]? = some (.cells L.toArray T)) : (loadCellsFrom ⟨g, 0, none⟩ 0 n #[]).run P W = .ok L.toArray W := by
  have := run_loadCells_list (P := P) W ⟨g, 0, none⟩ L (fun j v hv => by rw [add_plain, Nat.zero_add, cell_of_row _ _ _ _ _ _ h, List.getElem?_toArray]; exact hv)
  rw [hL] at this
  exact this
theorem wpl_arr_store {P : Program} {T : TypeId} {n : Nat} {ops : Array Oper} {rest : List Oper} {o : Oper} {a : Act} {w : World} {Q : Exit → Act → World → Prop} (hi : (P.info? T).map (·.size) = some n) (hgd : o.guard = none) (x y : Operand) (ho : o.op = .store T x y) (g : Nat) (L M : List Value) (hL : L.length = n) (hM : M.length = n) (h1 : ∀ v ∈ L, v.oneCell' = true)
    (hx : a.eval x = .pointer (some ⟨g, 0, none⟩)) (hy : a.eval y = .agg L.toArray)
    (hw : w.heap[g]? = some (.cells M.toArray T)) (h : wpList P ops Q rest (a.put o.dst undef) (setRow w g T L.toArray)) : wpList P ops Q (o :: rest) a w := by
  refine wpList_plain hgd fun K hK => ?_
  unfold Oper.wp execOp
  have := arr_store_var hi w g L M hL hM h1 hw
  simp only [ho, hx, hy, Sem.run_bind, this, Result.andThen_ok, Sem.run_pure]
  exact hK _ _ h
end Go.Proofs.Ytnfdfnkhjlkdhaa
