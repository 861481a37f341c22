/- 'append' of a row of numbers that may be nil. -/
import Derived.Test.YtnfdfnkhjlkdhaaMem4
import Derived.Laws.OwnMore
namespace Go.Proofs.Ytnfdfnkhjlkdhaa
open Go.ChangeShapes Go.WideShapes Go.ChangeAt Go.RowKit
theorem wpList_append_rowA {k : IntKind} {E : TypeId} {base : Nat} {w : World} {A : Option Addr} {c : Nat} {l : List Int} {P : Program} {Q : Exit → Act → World → Prop} {ops : Array Oper} {rest : List Oper} {o : Oper} {a : Act} (hgd : Region.wanted o (yielded ops a.tmps) = true) (s x : Operand) (t : TypeId)
    (ho : o.op = .call { callee := .builtin .append, args := #[s, x], argTypes := #[t, t] })
    (i : TypeInfo) (bytes : Nat) (ht : P.underlying t = some (.slice E)) (hi : P.info? E = some i) (hz : i.zero = some (.int k 0)) (hsize : i.size = 1) (hby : i.bytes = bytes) (hb8 : bytes ≤ 8)
    (n : Nat) (hn : l.length = n) (hs : a.eval s = .slice A n c) (hown : OwnN k E base w A c l)
    (ad : Option Addr) (m cc : Nat) (xs : List Int) (hx : a.eval x = .slice ad m cc) (hm : xs.length = m) (hcell : Nums k w ad xs) (hlen : l.length + m < 17592186044415)
    (B : Nat) (W0 : World) (hB : B ≤ base) (hbelow : Below B W0 w)
    (h : ∀ A' c' w', OwnN k E base w' A' c' (l ++ xs) → Below B W0 w' → wpList P ops Q rest (a.put o.dst (.slice A' (n + m) c')) w') : wpList P ops Q (o :: rest) a w := by
  cases ad with
  | some ad => exact wpList_append_row hgd s x t ho i bytes ht hi hz hsize hby hb8 n hn hs hown ad m cc xs hx hm hcell hlen B W0 hB hbelow h
  | none =>
    obtain rfl : xs = [] := by
      rcases hcell with h | ⟨b, off, h, _⟩
      · exact h
      · cases h
    obtain rfl : m = 0 := by simpa using hm.symm
    have h1 := h A c w (by simpa using hown) hbelow
    refine BigFrame.wpList_want hgd fun K hK => ?_
    have h2 := hK _ _ h1
    have hr : (Builtin.append_ #[t, t] o.type #[.slice A n c, .slice none 0 cc]).run P w = .ok (.slice A (n + 0) c) w := by
      subst hn
      rcases hown.1.2 with ⟨hv, h0⟩ | ⟨g, cap, cur, hv, _, _, hnc, _⟩
      · injection hv with e1 e2 e3
        subst e1; subst e3
        rw [e2]
        simp [Builtin.append_, run_underlying ht, sizeOf, typeInfo, hi, Builtin.lenOf, Builtin.firstCells]
      · injection hv with e1 e2 e3
        subst e1; subst e3
        simp [Builtin.append_, run_underlying ht, sizeOf, typeInfo, hi, Builtin.lenOf, Builtin.firstCells, hnc, storeCells]
    unfold Oper.wp execOp
    simp only [ho, resolve, invoke, builtin, Sem.run_bind, Sem.run_pure, Result.andThen_ok, List.map_toArray, List.map_cons, List.map_nil, hs, hx, hr]
    exact h2
end Go.Proofs.Ytnfdfnkhjlkdhaa
