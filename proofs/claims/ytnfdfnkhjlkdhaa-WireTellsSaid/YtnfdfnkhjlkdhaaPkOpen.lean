/- A packet that comes in. -/
import Derived.Test.YtnfdfnkhjlkdhaaWireSmall
import Derived.Test.YtnfdfnkhjlkdhaaArrOpen
import Derived.Test.YtnfdfnkhjlkdhaaLaw
namespace Go.Proofs.Ytnfdfnkhjlkdhaa
open Go.ChangeShapes Go.WideShapes Go.ChangeAt Go.RowKit
theorem wide_struct {P : Program} {W : World} {r : Reach} {base : Nat} {t : TypeId} {fs : Array Field} {v : Value} (ht : P.underlying t = some (.struct fs)) (h : Value.okWide P W r base t v) : ∃ cs, v = .agg cs ∧ cs.size = P.cellsOf t := by
  simp only [Value.okWide, ht] at h
  obtain ⟨cs, h1, h2, _⟩ := h
  exact ⟨cs, h1, h2⟩
theorem byte_in {z : Int} (h : (Lit.int .u8 z).wf = true) : 0 ≤ z ∧ z < 256 := by
  have h0 : IntKind.u8.min = 0 := rfl
  have h1 : IntKind.u8.max = 255 := rfl
  simp [Lit.wf] at h
  omega
theorem bytes_in {H : Type} {enc : TypeId × Value → H} {W : World} {T : TypeId} {n m : Nat} {cs : List Value} {x : DataW H × List MemPlace} (hu : Try.prog.underlying T = some (.array n 5)) (hl : cs.length = n) (h : DataW.trod enc Try.prog W 0 (fun _ => true) true m T cs = some x) :
    ∃ l : List Int, cs = nrow .u8 l ∧ l.length = n ∧ ∀ z ∈ l, 0 ≤ z ∧ z < 256 := by
  obtain ⟨xs, k, _, _, _, hlen, hall⟩ := DataW.trod_array hu h
  have h1 : Try.prog.cellsOf 5 = 1 := by kernel_rfl
  have hent : ∀ i, i < n → ∃ a : Int, cs[i]? = some (.int .u8 a) ∧ (Lit.int .u8 a).wf = true := by
    intro i hi
    have h2 := hall i hi
    rw [h1, List.getElem?_eq_getElem (by omega)] at h2
    obtain ⟨a, e0, -, w0⟩ := DataW.trod_int Try.underlying5 h2
    refine ⟨a, ?_, w0⟩
    have := congrArg (·[0]?) e0
    simpa [List.getElem?_take, List.getElem?_drop, Value.cells] using this
  refine ⟨(List.range n).map (fun i => if h : i < n then (hent i h).choose else 0), ?_, by simp, ?_⟩
  · apply List.ext_getElem?
    intro i
    by_cases hi : i < n
    · rw [(hent i hi).choose_spec.1]
      simp [nrow, hi]
    · rw [List.getElem?_eq_none (by omega), List.getElem?_eq_none (by simp [nrow]; omega)]
  · intro z hz
    simp only [List.mem_map, List.mem_range] at hz
    obtain ⟨i, hi, rfl⟩ := hz
    rw [dif_pos hi]
    exact byte_in (hent i hi).choose_spec.2
theorem open_packet {H : Type} {enc : TypeId × Value → H} {W : World} {base : Nat} {v : Value} {d : DataW H} {ps : List MemPlace}
    (hval : Value.okWide Try.prog W .any base pkT v) (h : DataW.Trod enc Try.prog W 0 (fun _ => true) true pkT v d ps) :
    ∃ p : Pk, v = .agg (pcs p).toArray ∧ p.Wf ∧ p.Rng ∧ (∀ z ∈ p.s, 0 ≤ z ∧ z < 256) ∧ (∀ z ∈ p.t, 0 ≤ z ∧ z < 256) := by
  obtain ⟨C, rfl, hsz⟩ := wide_struct Try.underlying25 hval
  have hc : Try.prog.cellsOf pkT = 36 := by kernel_rfl
  have hi1 : Try.prog.cellsOf 3 = 1 := by kernel_rfl
  have hi2 : Try.prog.cellsOf b16T = 16 := by kernel_rfl
  have hi3 : Try.prog.cellsOf b8T = 8 := by kernel_rfl
  rw [hc] at hsz
  have hsl : C.toList.length = 36 := by simpa using hsz
  obtain ⟨fuel, hf⟩ := h
  obtain ⟨ys, n, _, _, _, hyl, hfs⟩ := DataW.trod_struct Try.underlying25 hf
  have hyl' : ys.length = 14 := hyl
  have f0 := hfs 0 _ rfl
  have f1 := hfs 1 _ rfl
  have f2 := hfs 2 _ rfl
  have f3 := hfs 3 _ rfl
  have f4 := hfs 4 _ rfl
  have f5 := hfs 5 _ rfl
  have f6 := hfs 6 _ rfl
  have f7 := hfs 7 _ rfl
  have f8 := hfs 8 _ rfl
  have f9 := hfs 9 _ rfl
  have f10 := hfs 10 _ rfl
  have f11 := hfs 11 _ rfl
  have f12 := hfs 12 _ rfl
  have f13 := hfs 13 _ rfl
  rw [List.getElem?_eq_getElem (by omega)] at f0 f1 f2 f3 f4 f5 f6 f7 f8 f9 f10 f11 f12 f13
  obtain ⟨a0, e0, -, w0⟩ := DataW.trod_int Try.underlying3 f0
  change List.take (Try.prog.cellsOf 3) (List.drop 0 C.toList) = [.int .i64 a0] at e0
  rw [hi1] at e0
  have g0 : C.toList[0]? = some (.int .i64 a0) := by
    have := congrArg (·[0]?) e0
    simpa [List.getElem?_take, List.getElem?_drop] using this
  obtain ⟨a1, e1, -, w1⟩ := DataW.trod_int Try.underlying3 f1
  change List.take (Try.prog.cellsOf 3) (List.drop 1 C.toList) = [.int .i64 a1] at e1
  rw [hi1] at e1
  have g1 : C.toList[1]? = some (.int .i64 a1) := by
    have := congrArg (·[0]?) e1
    simpa [List.getElem?_take, List.getElem?_drop] using this
  obtain ⟨a2, e2, -, w2⟩ := DataW.trod_int Try.underlying3 f2
  change List.take (Try.prog.cellsOf 3) (List.drop 2 C.toList) = [.int .i64 a2] at e2
  rw [hi1] at e2
  have g2 : C.toList[2]? = some (.int .i64 a2) := by
    have := congrArg (·[0]?) e2
    simpa [List.getElem?_take, List.getElem?_drop] using this
  obtain ⟨a3, e3, -, w3⟩ := DataW.trod_int Try.underlying3 f3
  change List.take (Try.prog.cellsOf 3) (List.drop 3 C.toList) = [.int .i64 a3] at e3
  rw [hi1] at e3
  have g3 : C.toList[3]? = some (.int .i64 a3) := by
    have := congrArg (·[0]?) e3
    simpa [List.getElem?_take, List.getElem?_drop] using this
  obtain ⟨a4, e4, -, w4⟩ := DataW.trod_int Try.underlying3 f4
  change List.take (Try.prog.cellsOf 3) (List.drop 4 C.toList) = [.int .i64 a4] at e4
  rw [hi1] at e4
  have g4 : C.toList[4]? = some (.int .i64 a4) := by
    have := congrArg (·[0]?) e4
    simpa [List.getElem?_take, List.getElem?_drop] using this
  obtain ⟨a5, e5, -, w5⟩ := DataW.trod_int Try.underlying3 f5
  change List.take (Try.prog.cellsOf 3) (List.drop 5 C.toList) = [.int .i64 a5] at e5
  rw [hi1] at e5
  have g5 : C.toList[5]? = some (.int .i64 a5) := by
    have := congrArg (·[0]?) e5
    simpa [List.getElem?_take, List.getElem?_drop] using this
  obtain ⟨a6, e6, -, w6⟩ := DataW.trod_int Try.underlying3 f6
  change List.take (Try.prog.cellsOf 3) (List.drop 6 C.toList) = [.int .i64 a6] at e6
  rw [hi1] at e6
  have g6 : C.toList[6]? = some (.int .i64 a6) := by
    have := congrArg (·[0]?) e6
    simpa [List.getElem?_take, List.getElem?_drop] using this
  obtain ⟨a7, e7, -, w7⟩ := DataW.trod_int Try.underlying3 f7
  change List.take (Try.prog.cellsOf 3) (List.drop 7 C.toList) = [.int .i64 a7] at e7
  rw [hi1] at e7
  have g7 : C.toList[7]? = some (.int .i64 a7) := by
    have := congrArg (·[0]?) e7
    simpa [List.getElem?_take, List.getElem?_drop] using this
  obtain ⟨a8, e8, -, w8⟩ := DataW.trod_int Try.underlying3 f8
  change List.take (Try.prog.cellsOf 3) (List.drop 8 C.toList) = [.int .i64 a8] at e8
  rw [hi1] at e8
  have g8 : C.toList[8]? = some (.int .i64 a8) := by
    have := congrArg (·[0]?) e8
    simpa [List.getElem?_take, List.getElem?_drop] using this
  obtain ⟨a9, e9, -, w9⟩ := DataW.trod_int Try.underlying3 f9
  change List.take (Try.prog.cellsOf 3) (List.drop 9 C.toList) = [.int .i64 a9] at e9
  rw [hi1] at e9
  have g9 : C.toList[9]? = some (.int .i64 a9) := by
    have := congrArg (·[0]?) e9
    simpa [List.getElem?_take, List.getElem?_drop] using this
  obtain ⟨a10, e10, -, w10⟩ := DataW.trod_int Try.underlying3 f10
  change List.take (Try.prog.cellsOf 3) (List.drop 10 C.toList) = [.int .i64 a10] at e10
  rw [hi1] at e10
  have g10 : C.toList[10]? = some (.int .i64 a10) := by
    have := congrArg (·[0]?) e10
    simpa [List.getElem?_take, List.getElem?_drop] using this
  obtain ⟨a11, e11, -, w11⟩ := DataW.trod_int Try.underlying3 f11
  change List.take (Try.prog.cellsOf 3) (List.drop 11 C.toList) = [.int .i64 a11] at e11
  rw [hi1] at e11
  have g11 : C.toList[11]? = some (.int .i64 a11) := by
    have := congrArg (·[0]?) e11
    simpa [List.getElem?_take, List.getElem?_drop] using this
  change DataW.trod enc Try.prog W 0 (fun _ => true) true n b16T (List.take (Try.prog.cellsOf b16T) (List.drop 12 C.toList)) = _ at f12
  change DataW.trod enc Try.prog W 0 (fun _ => true) true n b8T (List.take (Try.prog.cellsOf b8T) (List.drop 28 C.toList)) = _ at f13
  rw [hi2] at f12
  rw [hi3] at f13
  obtain ⟨s, hs, hs16, hsw⟩ := bytes_in Try.underlying22 (by rw [List.length_take, List.length_drop, hsl]; rfl) f12
  obtain ⟨t, ht, ht8, htw⟩ := bytes_in Try.underlying23 (by rw [List.length_take, List.length_drop, hsl]; rfl) f13
  refine ⟨⟨[a0, a1, a2, a3, a4, a5, a6, a7, a8, a9, a10, a11], s, t⟩, ?_, ⟨rfl, hs16, ht8⟩, fun i => ?_, hsw, htw⟩
  · congr 1
    apply Array.ext'
    show C.toList = pcs _
    have e1 : C.toList = C.toList.take 12 ++ (C.toList.drop 12).take 16 ++ (C.toList.drop 28).take 8 := by
      rw [List.take_of_length_le (l := C.toList.drop 28) (by rw [List.length_drop, hsl]; decide)]
      rw [List.append_assoc, show C.toList.drop 28 = (C.toList.drop 12).drop 16 by rw [List.drop_drop], List.take_append_drop, List.take_append_drop]
    rw [e1, hs, ht]
    unfold pcs
    rw [List.append_assoc]
    congr 1
    apply List.ext_getElem?
    intro i
    by_cases hi : i < 12
    · rw [List.getElem?_take, if_pos hi]
      have : i = 0 ∨ i = 1 ∨ i = 2 ∨ i = 3 ∨ i = 4 ∨ i = 5 ∨ i = 6 ∨ i = 7 ∨ i = 8 ∨ i = 9 ∨ i = 10 ∨ i = 11 := by omega
      rcases this with rfl | rfl | rfl | rfl | rfl | rfl | rfl | rfl | rfl | rfl | rfl | rfl
      · exact g0
      · exact g1
      · exact g2
      · exact g3
      · exact g4
      · exact g5
      · exact g6
      · exact g7
      · exact g8
      · exact g9
      · exact g10
      · exact g11
    · rw [List.getElem?_eq_none (by rw [List.length_take]; omega), List.getElem?_eq_none (by simp [nrow]; omega)]
  · have hw : ∀ z ∈ [a0, a1, a2, a3, a4, a5, a6, a7, a8, a9, a10, a11], -9223372036854775808 ≤ z ∧ z ≤ 9223372036854775807 := by
      intro z hz
      simp only [List.mem_cons, List.not_mem_nil, or_false] at hz
      rcases hz with rfl | rfl | rfl | rfl | rfl | rfl | rfl | rfl | rfl | rfl | rfl | rfl
      · exact wf_i64 w0
      · exact wf_i64 w1
      · exact wf_i64 w2
      · exact wf_i64 w3
      · exact wf_i64 w4
      · exact wf_i64 w5
      · exact wf_i64 w6
      · exact wf_i64 w7
      · exact wf_i64 w8
      · exact wf_i64 w9
      · exact wf_i64 w10
      · exact wf_i64 w11
    rcases Nat.lt_or_ge i 12 with hi | hi
    · have := hw _ (List.getElem_mem (l := [a0, a1, a2, a3, a4, a5, a6, a7, a8, a9, a10, a11]) (n := i) hi)
      simpa [List.getD, List.getElem?_eq_getElem (show i < [a0, a1, a2, a3, a4, a5, a6, a7, a8, a9, a10, a11].length from hi)] using this
    · rw [show (List.getD _ i 0 : Int) = 0 from by simp [List.getD, List.getElem?_eq_none (show [a0, a1, a2, a3, a4, a5, a6, a7, a8, a9, a10, a11].length ≤ i from hi)]]
      decide
end Go.Proofs.Ytnfdfnkhjlkdhaa
