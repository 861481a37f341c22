/- A board that comes in. -/
import Derived.Test.YtjmpafpampmncaaBoard3
import Derived.Test.YtjmpafpampmncaaLaw
namespace Go.Proofs.Ytjmpafpampmncaa
open Go.ChangeShapes Go.WideShapes Go.ChangeAt Go.RowKit

def numOf : Value → Int
  | .int _ z => z
  | _ => 0
theorem wf64 {z : Int} (h : (Lit.int .i64 z).wf = true) : -9223372036854775808 ≤ z ∧ z ≤ 9223372036854775807 := by
  simpa [Lit.wf, IntKind.min, IntKind.max, IntKind.signed, IntKind.bits] using h
def bdOf (C : Array Value) : Bd := fun i => (numOf (C.getD (i * 3) undef), numOf (C.getD (i * 3 + 1) undef), numOf (C.getD (i * 3 + 2) undef))

theorem okWide_array {P : Program} {W : World} {r : Reach} {base : Nat} {t e : TypeId} {n : Nat} {v : Value} (ht : P.underlying t = some (.array n e)) (h : Value.okWide P W r base t v) : ∃ cs, v = .agg cs ∧ cs.size = P.cellsOf t := by
  simp only [Value.okWide, ht] at h
  obtain ⟨cs, h1, h2, _⟩ := h
  exact ⟨cs, h1, h2⟩

theorem open_board {H : Type} {enc : TypeId × Value → H} {W : World} {base : Nat} {v : Value} {d : DataW H} {ps : List MemPlace}
    (hval : Value.okWide Try.prog W .any base boT v) (h : DataW.Trod enc Try.prog W 0 (fun _ => true) true boT v d ps) :
    ∃ E : Bd, v = .agg (Bd.cs E) ∧ ∀ i, -9223372036854775808 ≤ (E i).1 := by
  obtain ⟨C, rfl, hsz⟩ := okWide_array Try.underlying25 hval
  have hc : Try.prog.cellsOf boT = 51 := by kernel_rfl
  have he : Try.prog.cellsOf enT = 3 := by kernel_rfl
  have hi1 : Try.prog.cellsOf 3 = 1 := by kernel_rfl
  rw [hc] at hsz
  obtain ⟨fuel, hf⟩ := h
  obtain ⟨xs, m, _, _, _, hlen, hall⟩ := DataW.trod_array Try.underlying25 hf
  have hent : ∀ i, i < 17 → ∃ a b c : Int, C[i * 3]? = some (.int .i64 a) ∧ C[i * 3 + 1]? = some (.int .i64 b) ∧ C[i * 3 + 2]? = some (.int .i64 c) ∧ -9223372036854775808 ≤ a := by
    intro i hi
    have h1 := hall i hi
    rw [he, List.getElem?_eq_getElem (by omega)] at h1
    obtain ⟨ys, n, _, _, _, hyl, hfs⟩ := DataW.trod_struct Try.underlying23 h1
    have f0 := hfs 0 _ rfl
    have f1 := hfs 1 _ rfl
    have f2 := hfs 2 _ rfl
    have hyl' : ys.length = 3 := hyl
    rw [List.getElem?_eq_getElem (by omega)] at f0 f1 f2
    obtain ⟨a, e0, -, w0⟩ := DataW.trod_int Try.underlying3 f0
    obtain ⟨b, e1, -, w1⟩ := DataW.trod_int Try.underlying3 f1
    obtain ⟨c, e2, -, w2⟩ := DataW.trod_int Try.underlying3 f2
    change List.take (Try.prog.cellsOf 3) (List.drop 0 (List.take 3 (List.drop (i * 3) C.toList))) = [.int .i64 a] at e0
    change List.take (Try.prog.cellsOf 3) (List.drop 1 (List.take 3 (List.drop (i * 3) C.toList))) = [.int .i64 b] at e1
    change List.take (Try.prog.cellsOf 3) (List.drop 2 (List.take 3 (List.drop (i * 3) C.toList))) = [.int .i64 c] at e2
    rw [hi1] at e0 e1 e2
    refine ⟨a, b, c, ?_, ?_, ?_, (wf64 w0).1⟩
    · have := congrArg (·[0]?) e0
      simpa [List.getElem?_take, List.getElem?_drop, Value.cells] using this
    · have := congrArg (·[0]?) e1
      simpa [List.getElem?_take, List.getElem?_drop, Value.cells] using this
    · have := congrArg (·[0]?) e2
      simpa [List.getElem?_take, List.getElem?_drop, Value.cells] using this
  refine ⟨bdOf C, ?_, fun i => ?_⟩
  · congr 1
    apply Array.ext_getElem?
    intro j
    by_cases hj : j < 51
    · obtain ⟨a, b, c, h0, h1, h2, _⟩ := hent (j / 3) (by omega)
      have hd : bdOf C (j / 3) = (a, b, c) := by simp [bdOf, Array.getD_eq_getD_getElem?, h0, h1, h2, numOf]
      rw [Bd.cs_get _ j hj, hd]
      have : j % 3 = 0 ∨ j % 3 = 1 ∨ j % 3 = 2 := by omega
      rcases this with hm | hm | hm
      · rw [hm]
        rw [show j / 3 * 3 = j by omega] at h0
        exact h0
      · rw [hm]
        rw [show j / 3 * 3 + 1 = j by omega] at h1
        exact h1
      · rw [hm]
        rw [show j / 3 * 3 + 2 = j by omega] at h2
        exact h2
    · rw [Bd.cs_none _ j hj, Array.getElem?_eq_none (by omega)]
  · by_cases hi : i < 17
    · obtain ⟨a, b, c, h0, h1, h2, hw⟩ := hent i hi
      simpa [bdOf, Array.getD_eq_getD_getElem?, h0, numOf] using hw
    · have : C[i * 3]? = none := Array.getElem?_eq_none (by omega)
      simp [bdOf, Array.getD_eq_getD_getElem?, this, numOf, undef]
end Go.Proofs.Ytjmpafpampmncaa
