/- A channel that comes in; an acknowledgement, in plain words. -/
import Derived.Test.YtiecebncnflpiaaSmall12
import Derived.Test.YtiecebncnflpiaaOpen
namespace Go.Proofs.Ytiecebncnflpiaa
open Go.ChangeShapes Go.WideShapes Go.ChangeAt Go.RowKit Go.Joins Go.Deep
section
variable {H : Type} {enc : TypeId × Value → H} {P : Program} {w : World} {base : Nat} {spare : Nat → Bool} {held : Bool}
theorem trod_struct5 {t : TypeId} {f0 f1 f2 f3 f4 : Field} {fuel : Nat} {cs : List Value} {x : DataW H × List MemPlace} (ht : P.underlying t = some (.struct #[f0, f1, f2, f3, f4])) (h : DataW.trod enc P w base spare held fuel t cs = some x) :
    ∃ y0 y1 y2 y3 y4 n, DataW.trod enc P w base spare held n f0.type ((cs.drop f0.offset).take (P.cellsOf f0.type)) = some y0 ∧ DataW.trod enc P w base spare held n f1.type ((cs.drop f1.offset).take (P.cellsOf f1.type)) = some y1 ∧ DataW.trod enc P w base spare held n f2.type ((cs.drop f2.offset).take (P.cellsOf f2.type)) = some y2 ∧
      DataW.trod enc P w base spare held n f3.type ((cs.drop f3.offset).take (P.cellsOf f3.type)) = some y3 ∧ DataW.trod enc P w base spare held n f4.type ((cs.drop f4.offset).take (P.cellsOf f4.type)) = some y4 := by
  obtain ⟨xs, n, _, rfl, hl, hlen, hf⟩ := DataW.trod_struct ht h
  match xs, hlen with
  | [y0, y1, y2, y3, y4], _ => exact ⟨y0, y1, y2, y3, y4, n, by simpa using hf 0 f0 rfl, by simpa using hf 1 f1 rfl, by simpa using hf 2 f2 rfl, by simpa using hf 3 f3 rfl, by simpa using hf 4 f4 rfl⟩
end
theorem open_chan {H : Type} {enc : TypeId × Value → H} {W : World} {base : Nat} {v : Value} {d : DataW H} {ps : List MemPlace}
    (hv : Value.okWide Try.prog W .any base chT v) (h : DataW.Trod enc Try.prog W 0 (fun _ => true) true chT v d ps) :
    ∃ (n : Int) (A : Option Addr) (k c : Nat) (l : List Fl) (ww cc s v' r f : Int) (h' : Bool), v = chV n A k c ww cc s v' r f h' ∧ k ≤ c ∧ c ≤ maxLen ∧ l.length = k ∧ Fls W A l := by
  obtain ⟨cs, rfl, hsz⟩ := okWide_struct Try.underlying28 hv
  obtain ⟨cl⟩ := cs
  have hC : Try.prog.cellsOf chT = 9 := by kernel_rfl
  obtain ⟨fuel, hf⟩ := h
  match cl, hsz.trans hC with
  | [c0, c1, c2, c3, c4, c5, c6, c7, c8], _ =>
    obtain ⟨y0, y1, m, -, -, o0, o1⟩ := trod_struct2 Try.underlying28 hf
    dsimp only at o0 o1
    rw [show Try.prog.cellsOf seT = 4 by kernel_rfl] at o0
    rw [show Try.prog.cellsOf rtT = 5 by kernel_rfl] at o1
    simp only [Value.cells, List.drop_zero, List.drop_succ_cons, List.take_succ_cons, List.take_zero] at o0 o1
    have ci : Try.prog.cellsOf 3 = 1 := by kernel_rfl
    have cf : Try.prog.cellsOf 22 = 1 := by kernel_rfl
    have cb : Try.prog.cellsOf 4 = 1 := by kernel_rfl
    obtain ⟨a0, a1, a2, a3, m2, -, -, g0, g1, g2, g3⟩ := trod_struct4 Try.underlying24 o0
    obtain ⟨b0, b1, b2, b3, b4, m3, r0, r1, r2, r3, r4⟩ := trod_struct5 Try.underlying26 o1
    dsimp only at g0 g1 g2 g3 r0 r1 r2 r3 r4
    rw [ci] at g0 g2 g3 r0 r1 r2 r3
    rw [cf] at g1
    rw [cb] at r4
    simp only [List.drop_zero, List.drop_succ_cons, List.take_succ_cons, List.take_zero] at g0 g1 g2 g3 r0 r1 r2 r3 r4
    obtain ⟨n, e0, -, -⟩ := DataW.trod_int Try.underlying3 g0
    obtain ⟨A, k, c, zz, e1, h1, h2, h3, h4, h5⟩ := open_recs (m := 7) (n := 5) Try.underlying22 (by kernel_rfl) (by kernel_rfl) (by decide) g1
    obtain ⟨ww, e2, -, -⟩ := DataW.trod_int Try.underlying3 g2
    obtain ⟨cc, e3, -, -⟩ := DataW.trod_int Try.underlying3 g3
    obtain ⟨s, f0, -, -⟩ := DataW.trod_int Try.underlying3 r0
    obtain ⟨v', f1, -, -⟩ := DataW.trod_int Try.underlying3 r1
    obtain ⟨r, f2, -, -⟩ := DataW.trod_int Try.underlying3 r2
    obtain ⟨f, f3, -, -⟩ := DataW.trod_int Try.underlying3 r3
    obtain ⟨h', f4, -⟩ := DataW.trod_bool Try.underlying4 r4
    simp only [List.cons.injEq, and_true] at e0 e2 e3 f0 f1 f2 f3 f4
    subst e0; subst e1; subst e2; subst e3; subst f0; subst f1; subst f2; subst f3; subst f4
    obtain ⟨l, hl, rfl⟩ := unflt fl_dec k zz h3
    exact ⟨n, A, k, c, l, ww, cc, s, v', r, f, h', rfl, h1, h2, hl, h4⟩
end Go.Proofs.Ytiecebncnflpiaa
