/- An array of numbers that comes in. No program in it. -/
import Derived.Test.YtnfdfnkhjlkdhaaArr
import Derived.OpenShut
namespace Go.Proofs.Ytnfdfnkhjlkdhaa
open Go.ChangeShapes Go.WideShapes Go.ChangeAt Go.RowKit
theorem wf_i64 {z : Int} (h : (Lit.int .i64 z).wf = true) : -9223372036854775808 ≤ z ∧ z ≤ 9223372036854775807 := by
  simpa [Lit.wf, IntKind.min, IntKind.max, IntKind.signed, IntKind.bits] using h
theorem wide_array {P : Program} {W : World} {r : Reach} {base : Nat} {t e : TypeId} {n : Nat} {v : Value} (ht : P.underlying t = some (.array n e)) (h : Value.okWide P W r base t v) : ∃ cs, v = .agg cs ∧ cs.size = P.cellsOf t := by
  simp only [Value.okWide, ht] at h
  obtain ⟨cs, h1, h2, _⟩ := h
  exact ⟨cs, h1, h2⟩
theorem open_arr {P : Program} {T e : TypeId} {n : Nat} {k : IntKind} (hu : P.underlying T = some (.array n e)) (he : P.underlying e = some (.int k)) (hT : P.cellsOf T = n) (h1 : P.cellsOf e = 1)
    {H : Type} {enc : TypeId × Value → H} {W : World} {base : Nat} {v : Value} {d : DataW H} {ps : List MemPlace}
    (hval : Value.okWide P W .any base T v) (h : DataW.Trod enc P W 0 (fun _ => true) true T v d ps) :
    ∃ l : List Int, v = .agg (nrow k l).toArray ∧ l.length = n ∧ ∀ z ∈ l, (Lit.int k z).wf = true := by
  obtain ⟨C, rfl, hsz⟩ := wide_array hu hval
  rw [hT] at hsz
  obtain ⟨fuel, hf⟩ := h
  obtain ⟨xs, m, _, _, _, hlen, hall⟩ := DataW.trod_array hu hf
  have hent : ∀ i, i < n → ∃ a : Int, C[i]? = some (.int k a) ∧ (Lit.int k a).wf = true := by
    intro i hi
    have h2 := hall i hi
    rw [h1, List.getElem?_eq_getElem (by omega)] at h2
    obtain ⟨a, e0, -, w0⟩ := DataW.trod_int he h2
    refine ⟨a, ?_, w0⟩
    have := congrArg (·[0]?) e0
    simpa [List.getElem?_take, List.getElem?_drop, Value.cells] using this
  refine ⟨(List.range n).map (fun i => if h : i < n then (hent i h).choose else 0), ?_, by simp, ?_⟩
  · congr 1
    apply Array.ext_getElem?
    intro i
    by_cases hi : i < n
    · have h3 := (hent i hi).choose_spec.1
      rw [h3]
      simp [nrow, hi]
    · rw [Array.getElem?_eq_none (by omega), Array.getElem?_eq_none (by simp [nrow]; omega)]
  · intro z hz
    simp only [List.mem_map, List.mem_range] at hz
    obtain ⟨i, hi, rfl⟩ := hz
    rw [dif_pos hi]
    exact (hent i hi).choose_spec.2
end Go.Proofs.Ytnfdfnkhjlkdhaa
