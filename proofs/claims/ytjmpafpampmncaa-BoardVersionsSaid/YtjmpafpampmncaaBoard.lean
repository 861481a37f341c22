/- What the functions of package board come to. -/
import Derived.Test.YtjmpafpampmncaaRows
import Derived.Test.YtjmpafpampmncaaMem2
import Derived.Test.YtjmpafpampmncaaBoardMath
import Derived.WalkKit
import Derived.ProofKit
import Derived.OpenShut
import Derived.Outline
import Derived.Lib.Hide
import Derived.Deep.MidRow
import Derived.Deep.WholeRow
namespace Go.Proofs.Ytjmpafpampmncaa
open Go.ChangeShapes Go.WideShapes Go.ChangeAt Go.RowKit

abbrev boT : TypeId := 25
abbrev enT : TypeId := 23
abbrev noT : TypeId := 28

theorem fold_any (w : World) (A : Option Addr) (n cap : Nat) (l : List Int) (hn : l.length = n) (hN : Nums .i64 w A l) (hlen : n ≤ 9223372036854775807) :
    Calls Try.prog 9 #[.slice A n cap] w fun e w' => e = .returned (.tuple #[.int .i64 (Bd.fold l).1, .int .i64 (Bd.fold l).2]) ∧ w = w' := by
  have Hn := Lib.hid hn
  have HN := Lib.hid hN
  clear hn hN
  go_enter Try.func9, Try.ntmps9
  go_wp2
  go_loop [4, 5, 10] (fun g c i => ∃ k : Nat, k ≤ n ∧ i = .int .i64 k ∧ g = .int .i64 (Bd.fold (l.take k)).1 ∧ c = .int .i64 (Bd.fold (l.take k)).2) (fun _ _ i => n - (intOf i).toNat)
  case atStart => exact ⟨0, Nat.zero_le _, rfl, rfl, rfl⟩
  case round =>
    obtain ⟨k, hk, rfl, rfl, rfl⟩ := hrel
    by_cases hlt : k < n
    · rcases HN.out with h0 | ⟨b, off, rfl, hb, hc⟩
      · have := Hn.out; rw [h0] at this; simp at this; omega
      have hcell : w.cell? ⟨b, off + k, none⟩ = some (.int .i64 (l.getD k 0)) := hc k (by rw [Hn.out]; exact hlt)
      have Hs := Lib.hid (Bd.fold_snoc l k (by rw [Hn.out]; exact hlt))
      have hbd := Bd.fold_bd (l.take k)
      generalize Bd.fold (l.take k) = p at Hs hbd ⊢
      generalize l.getD k 0 = s at hcell Hs
      clear hc
      have q1 : (k : Int) < (n : Int) := by omega
      have q0 : (0 : Int) ≤ (k : Int) := by omega
      have e1 : IntKind.i64.wrap (p.2 + 1) = p.2 + 1 := IntWalk.i64_in _ (by omega)
      have hcase : ((s < 1) ∨ (1 ≤ s ∧ 3 < s)) ∨ (1 ≤ s ∧ s ≤ 3) := by omega
      rcases hcase with hh | ⟨h0, h⟩
      · have Hs2 := Lib.hid (show Bd.step p s = p by unfold Bd.step; rw [if_neg (by omega)])
        rcases hh with h | ⟨h0, h⟩
        all_goals
          go_wp2
          go_round
          case rel => exact ⟨k + 1, by omega, by go_num, by rw [Hs.out, Hs2.out], by rw [Hs.out, Hs2.out]⟩
          case measure => simp [intOf]; omega
      · have Hs2 := Lib.hid (show Bd.step p s = (max p.1 s, min (p.2 + 1) 4) by unfold Bd.step; rw [if_pos ⟨h0, h⟩])
        go_wp2
        all_goals
          go_round
          case rel => exact ⟨k + 1, by omega, by go_num, by rw [Hs.out, Hs2.out]; simp only; go_num, by rw [Hs.out, Hs2.out]; simp only; go_num⟩
          case measure => simp [intOf]; omega
    · obtain rfl : k = n := by omega
      have e : l.take k = l := List.take_of_length_le (by rw [Hn.out]; exact Nat.le_refl _)
      rw [e]
      go_wp2
      go_ret2
      exact ⟨rfl, rfl⟩
theorem user_any (u : Int) (w : World) : Calls Try.prog 17 #[.int .i64 u] w fun e w' => e = .returned (.bool (decide (1 ≤ u ∧ u ≤ 16))) ∧ w = w' := by
  have hcase : (u < 1) ∨ (1 ≤ u ∧ 16 < u) ∨ (1 ≤ u ∧ u ≤ 16) := by omega
  rcases hcase with h | ⟨h0, h⟩ | ⟨h0, h⟩
  all_goals
    go_enter Try.func17, Try.ntmps17
    go_wp2
    go_ret
    exact ⟨ret_bool (by simp <;> omega), rfl⟩
theorem user_to {u : Int} {r : Bool} (h : decide (1 ≤ u ∧ u ≤ 16) = r) (w : World) : Calls Try.prog 17 #[.int .i64 u] w fun e w' => e = .returned (.bool r) ∧ w = w' := by
  subst h
  exact user_any u w
def zeros : Bd := fun _ => (0, 0, 0)
theorem zero_board (W : World) : (zeroValue boT).run Try.prog W = .ok (.agg (Bd.cs zeros)) W := by kernel_rfl
theorem info_board : (Try.prog.info? boT).map (·.size) = some 51 := by kernel_rfl
theorem load_board (W : World) (g : Nat) (E : Bd) (h : W.heap[g]? = some (.cells (Bd.cs E) boT)) : (Instr.loadAt boT (.pointer (some ⟨g, 0, none⟩))).run Try.prog W = .ok (.agg (Bd.cs E)) W := by
  have := run_loadAt_mid (P := Try.prog) W g 0 boT (Bd.row E) _ (fun j v hv => by rw [Nat.zero_add, cell_of_row _ _ _ _ _ _ h, Bd.cs, List.getElem?_toArray]; exact hv) Try.underlying25 rfl (by rw [info_board, Bd.row_len])
  exact this

theorem cs_one (E : Bd) : (Bd.cs E).all (·.oneCell') = true := by
  unfold Bd.cs
  refine all_oneCell_toArray fun v hv => ?_
  simp only [Bd.row, List.mem_map] at hv
  obtain ⟨_, _, rfl⟩ := hv
  rfl
theorem setRow_eq {W : World} {g : Nat} {t : TypeId} {cs ds : Array Value} (h : W.heap[g]? = some (.cells cs t)) : W.setRow g ds = setRow W g t ds := by
  refine world_eq (fun k => ?_) rfl rfl rfl rfl
  rw [setRow_heap]
  show (W.heap.modify g _)[k]? = _
  rw [Array.getElem?_modify]
  by_cases hk : g = k
  · subst hk
    rw [if_pos rfl, if_pos ⟨rfl, row_lt h⟩, h]
    rfl
  · rw [if_neg hk, if_neg (by omega)]
theorem store_board (W : World) (g : Nat) (E F : Bd) (h : W.heap[g]? = some (.cells (Bd.cs F) boT)) : (Instr.storeAt boT (.pointer (some ⟨g, 0, none⟩)) (.agg (Bd.cs E))).run Try.prog W = .ok () (setRow W g boT (Bd.cs E)) := by
  have h2 := run_storeVar_row (P := Try.prog) W g boT boT (Bd.cs F) (Bd.cs E) h (by rw [info_board, Bd.cs_size]) (by rw [Bd.cs_size, Bd.cs_size]) (cs_one E)
  simp only [Instr.storeAt, Instr.sureAddr, Sem.run_bind, Sem.run_pure, Result.andThen_ok, h2, setRow_eq h]

/-- The two as the walk's simp leaves them. -/
theorem load_board' (W : World) (g : Nat) (E : Bd) (h : W.heap[g]? = some (.cells (Bd.cs E) boT)) : (loadCellsFrom ⟨g, 0, none⟩ 0 51 #[]).run Try.prog W = .ok (Bd.cs E) W := by
  have := run_loadCells_list (P := Try.prog) W ⟨g, 0, none⟩ (Bd.row E) (fun j v hv => by rw [add_plain, Nat.zero_add, cell_of_row _ _ _ _ _ _ h, Bd.cs, List.getElem?_toArray]; exact hv)
  rw [Bd.row_len] at this
  exact this
theorem store_board' (W : World) (g : Nat) (E F : Bd) (h : W.heap[g]? = some (.cells (Bd.cs F) boT)) : (storeCells ⟨g, 0, none⟩ (Bd.cs E).toList 0).run Try.prog W = .ok () (setRow W g boT (Bd.cs E)) := by
  have h2 := run_storeVar_row (P := Try.prog) W g boT boT (Bd.cs F) (Bd.cs E) h (by rw [info_board, Bd.cs_size]) (by rw [Bd.cs_size, Bd.cs_size]) (cs_one E)
  have hi := info_board
  cases hq : Try.prog.info? boT with
  | none => simp [hq] at hi
  | some i =>
    have hs : i.size = 51 := by simpa [hq] using hi
    rw [setRow_eq h] at h2
    simpa [storeVar, sizeOf, typeInfo, hq, Value.cells, hs, Bd.cs_size] using h2

theorem wpl_load {ops : Array Oper} {rest : List Oper} {o : Oper} {a : Act} {w : World} {Q : Exit → Act → World → Prop} (hgd : o.guard = none) (x : Operand) (ho : o.op = .load boT x) (g : Nat) (E : Bd) (hx : a.eval x = .pointer (some ⟨g, 0, none⟩))
    (hw : w.heap[g]? = some (.cells (Bd.cs E) boT)) (h : wpList Try.prog ops Q rest (a.put o.dst (.agg (Bd.cs E))) w) : wpList Try.prog ops Q (o :: rest) a w :=
  wpList_load_mid hgd boT x ho g 0 hx (Bd.row E) _ (fun j v hv => by rw [Nat.zero_add, cell_of_row _ _ _ _ _ _ hw, Bd.cs, List.getElem?_toArray]; exact hv) Try.underlying25 rfl (by rw [info_board, Bd.row_len]) h
theorem wpl_store {ops : Array Oper} {rest : List Oper} {o : Oper} {a : Act} {w : World} {Q : Exit → Act → World → Prop} (hgd : o.guard = none) (x y : Operand) (ho : o.op = .store boT x y) (g : Nat) (E F : Bd) (hx : a.eval x = .pointer (some ⟨g, 0, none⟩)) (hy : a.eval y = .agg (Bd.cs E))
    (hw : w.heap[g]? = some (.cells (Bd.cs F) boT)) (h : wpList Try.prog ops Q rest (a.put o.dst undef) (setRow w g boT (Bd.cs E))) : wpList Try.prog ops Q (o :: rest) a w := by
  refine wpList_plain hgd fun K hK => ?_
  unfold Oper.wp execOp
  have := store_board w g E F hw
  simp only [ho, hx, hy, Sem.run_bind, this, Result.andThen_ok, Sem.run_pure]
  exact hK _ _ h
end Go.Proofs.Ytjmpafpampmncaa
