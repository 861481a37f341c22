/- A region that draws its order, whose head reads and calls what hands back one value and may make memory, and whose tail does what it likes. An array that is loaded whole in such a head. No program in it. -/
import Derived.Test.YtnfdfnkhjlkdhaaTail
import Derived.Test.YtnfdfnkhjlkdhaaTail2
import Derived.Test.YtnfdfnkhjlkdhaaArr
namespace Go.Proofs.Ytnfdfnkhjlkdhaa
open Go Go.RowKit
theorem region_tail_class {P : Program} {α : Type} (f : α → World) {id : Nat} {Q : Exit → Act → World → Prop} {a : Act} {w : World} {l : List Oper} (a0 : α) (h0 : { w with drawn := w.drawn + 1 } = f a0) (n : Nat) (hm : P.follows .mixedOrders = true) (hB : Region.lexTailB .any l.toArray n = true)
    (h : wpQuiet P l.toArray (fun w' => ∃ x, w' = f x) (fun a' => ∀ w', (∃ x, w' = f x) → wpList P l.toArray Q (l.drop n) a' w') (l.take n) a) : (Code.region id l.toArray true).wp P Q a w := by
  simp only [Region.lexTailB, Bool.and_eq_true, decide_eq_true_eq] at hB
  obtain ⟨⟨⟨⟨hsel, hn⟩, hs⟩, hc⟩, hlex⟩ := hB
  have hn' : n < l.length := by simpa using hn
  have htl : (l.take n).length = n := by simp; omega
  have hdl : (l.drop n).length = l.toArray.size - n := by simp
  have inv0 : HeadInv .any l.toArray n (Array.replicate l.toArray.size false) :=
    ⟨by simp, fun j oj _ hl => (by rw [getD_replicate_false] at hl; cases hl), fun t _ ht => getD_in (by simpa using ht) (getD_replicate_false _ _)⟩
  have H := headQ_lex (md := .any) (g := l.toArray.size - n) hsel hs hc hn (l.take n) 0 _ a (fun j hj => by
    have hj' : j < n := by rw [htl] at hj; exact hj
    simp [hj']) (by simpa using htl) inv0 (by rw [htl]; exact hlex) h
  refine wp_region_any hm ?_
  have H2 := wpAny_of_headQ (Q' := Q) (g := l.toArray.size - n) (C := fun w' => ∃ x, w' = f x) (fun listed a' w' hw hL => by
    have := wpAny_of_seq (md := .any) (Q' := Q) (l.drop n) n listed a' w' (fun j => by simp [List.getElem?_drop]) (by rw [hdl]; exact hL.1) (hL.2 w' hw)
    rwa [hdl] at this) _ _ _ { w with drawn := w.drawn + 1 } ⟨a0, h0⟩ H
  have e : n + (l.toArray.size - n) = l.toArray.size := by omega
  rw [htl, e] at H2
  exact H2
theorem wpQuiet_arr {P : Program} {T e : TypeId} {n : Nat} {α : Type} {f : α → World} {ops : Array Oper} {rest : List Oper} {o : Oper} {a : Act} {Q : Act → Prop} (hu : P.underlying T = some (.array n e)) (hi : (P.info? T).map (·.size) = some n) (hgd : Region.wanted o (yielded ops a.tmps) = true) (x : Operand) (ho : o.op = .load T x) (g : Nat) (L : List Value) (hL : L.length = n) (hx : a.eval x = .pointer (some ⟨g, 0, none⟩))
    (hw : ∀ m, (f m).heap[g]? = some (.cells L.toArray T)) (h : wpQuiet P ops (fun w' => ∃ m, w' = f m) Q rest (a.put o.dst (.agg L.toArray))) : wpQuiet P ops (fun w' => ∃ m, w' = f m) Q (o :: rest) a :=
  BigFrame.wpQuiet_want hgd fun _ hK => ⟨.agg L.toArray, fun w' ⟨m, hm⟩ => by
    subst hm
    have hl := arr_load hu hi (f m) g L hL (hw m)
    unfold Oper.quietAt execOp
    simp only [ho, hx, Instr.loadAt, Instr.sureAddr, Sem.run_bind, Sem.run_pure, Result.andThen_ok, hl]
    exact ⟨rfl, rfl⟩, hK _ h⟩
end Go.Proofs.Ytnfdfnkhjlkdhaa
