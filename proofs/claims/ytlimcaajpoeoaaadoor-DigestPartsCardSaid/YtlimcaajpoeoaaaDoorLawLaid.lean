/- The row of a law that lists package-level variables, by its walk: as law_lifted, the list met by the world in which the call begins. What a list gives: the cells of arrays, and of arrays in them. No program in it. -/
import Derived.Test.YtlimcaajpoeoaaaDoorLaw
import Derived.Deep.DeepHandedRow
import Derived.Lib.LaidTab
import Derived.MakeChecks
namespace Go.Proofs.YtlimcaajpoeoaaaDoor
open Go.ChangeShapes Go.WideShapes Go.ChangeAt Go.RowKit
section
variable {H : Type} {enc : TypeId × Value → H} {P : Program}
/-- The i-th part of an array reads as the i-th part of its datum. -/
theorem part_of_array {w : World} {base : Nat} {sp : Nat → Bool} {held : Bool} {fuel n c : Nat} {t e : TypeId} {cs : List Value} {ds : List (DataW H)} {p : List MemPlace} (ht : P.underlying t = some (.array n e)) (hc : P.cellsOf e = c)
    (h : DataW.trod enc P w base sp held fuel t cs = some (.agg ds, p)) {i : Nat} {d : DataW H} (hd : ds[i]? = some d) :
    ∃ m q, DataW.trod enc P w base sp held m e ((cs.drop (i * c)).take c) = some (d, q) := by
  obtain ⟨xs, m, _, hx, _, hn, hel⟩ := DataW.trod_array ht h
  have e1 : ds = xs.map (·.1) := by
    have := congrArg Prod.fst hx
    simpa using this
  rw [e1, List.getElem?_map] at hd
  obtain ⟨⟨d', q⟩, hy, rfl⟩ := Option.map_eq_some_iff.1 hd
  have hi : i < n := by
    rw [← hn]
    exact (List.getElem?_eq_some_iff.1 hy).1
  refine ⟨m, q, ?_⟩
  have := hel i hi
  rw [hc] at this
  rw [this, hy]

theorem at_part {cs part : List Value} {o c j : Nat} {v : Value} (h : (cs.drop o).take c = part) (hj : part[j]? = some v) : cs[o + j]? = some v := by
  subst h
  rw [List.getElem?_take] at hj
  split at hj
  · rw [List.getElem?_drop] at hj; exact hj
  · cases hj

/-- A number in an array of arrays of numbers. -/
theorem num_of_rows {w : World} {base : Nat} {sp : Nat → Bool} {held : Bool} {fuel n m : Nat} {k : IntKind} {t r e : TypeId} {cs : List Value} {ds : List (DataW H)} {p : List MemPlace} (ht : P.underlying t = some (.array n r)) (hr : P.underlying r = some (.array m e)) (he : P.underlying e = some (.int k))
    (hce : P.cellsOf e = 1) (hcr : P.cellsOf r = m) (h : DataW.trod enc P w base sp held fuel t cs = some (.agg ds, p)) {i j : Nat} {zs : List Int} {z : Int} (hd : ds[i]? = some (Lib.tabData k zs)) (hz : zs[j]? = some z) :
    cs[i * m + j]? = some (.int k z) := by
  obtain ⟨f, q, hq⟩ := part_of_array ht hcr h hd
  exact at_part (Lib.cells_of_tab hr he hce hcr hq) (by simp [hz])

/-- A text in an array of texts. -/
theorem text_of_row {w : World} {base : Nat} {sp : Nat → Bool} {held : Bool} {fuel n : Nat} {t e : TypeId} {cs : List Value} {ds : List (DataW H)} {p : List MemPlace} (ht : P.underlying t = some (.array n e)) (he : P.underlying e = some .string)
    (hce : P.cellsOf e = 1) (h : DataW.trod enc P w base sp held fuel t cs = some (.agg ds, p)) {i : Nat} {s : List UInt8} (hd : ds[i]? = some (.lit (.string s))) :
    cs[i]? = some (.string ⟨s.toArray⟩) := by
  obtain ⟨f, q, hq⟩ := part_of_array ht hce h hd
  obtain ⟨s', h1, h2, _⟩ := DataW.trod_string he hq
  simp only [Prod.mk.injEq, DataW.lit.injEq, Lit.string.injEq] at h2
  have e : s' = ⟨s.toArray⟩ := by rw [h2.1]
  subst e
  have := at_part (j := 0) h1 rfl
  simpa using this
end

/-- A law's row that lists variables, by its walk. -/
theorem law_lifted_laid {C : Checked} {os : Os} {f : FuncId} {fn : Func} {s : ChangeSpec} {H : Type} {enc : TypeId × Value → H} {B : TypeId} {F : Stop.Interp} {conds : List PathCond} {fresh handsOn again : Bool} {laid : List (String × DataW Unit)}
    (own : ownKnob C.prog.godebug = none) (started : os.Started) (noInit : C.prog.inits.idxOf? f = none) (hfn : C.prog.funcs[f]? = some fn)
    (witness : ∃ (w : World) (tape : Tape) (i : Input), w.os = os ∧ (w.forCall tape i).Shaped C.prog ∧ i.vars = [] ∧ Input.okWide C.prog (w.forCall tape i) .any w.heap.size f i ∧
      (OpenSpec.ofChange s).preRow enc C.prog fn conds false laid (w.forCall tape i).memory i.args ∧ ({} : Assume).holds C.prog (lone (Frame.enter C.prog f i.args .normal) [] (w.forCall tape i)))
    (hv : s.vars = []) (hres : fn.resultTypes = #[B]) (hB : C.prog.underlying B = some .bool)
    (hl : laidOutB C.prog = true) (hts : ∀ t ∈ fn.params.toList, C.prog.readableRec t = true ∧ t < C.prog.types.size)
    (hs : ∀ (ds : List (DataW H)), ds.length = fn.params.toList.length → s.fn H ds = { results := [.lit (.bool true)], args := ds })
    (walk : ∀ (W : World) (base : Nat) (args : Array Value) (ds : List (DataW H)) (ps : List MemPlace),
      (∀ (j : Nat) t v, fn.params[j]? = some t → args[j]? = some v → Value.okWide C.prog W .any base t v) →
      DataW.TrodAll enc C.prog W 0 (fun _ => true) true fn.params.toList args.toList ds ps → (∀ p ∈ ps, p.block < W.heap.size) →
      (DataW.weightsEach C.prog fn.params.toList ds).all (· ≤ reachBytes) = true → laidMetH C.prog laid W →
      Calls C.prog f args W fun e W' => e = .returned (.bool true) ∧ Below W.heap.size W W') :
    ReturnsInHanded {} C os f .any ((OpenSpec.ofChange s).preRow enc C.prog fn conds false laid) (((OpenSpec.ofChange s).at F).post enc C.prog fn false fresh handsOn again) := by
  refine returnsInHanded_of_row (C := C) (s := OpenSpec.ofChange s) own started noInit hfn witness ?_
  intro W base args ds gs before hval hW _ _ hz hL _ _
  have hW' : DataW.Whole enc C.prog fn.params.toList s.vars false W args.toList ds gs before := hW
  obtain ⟨p, q, hA, hV, rfl, hfz, hnd⟩ := hW
  have hV' : DataW.TrodVars enc C.prog W (fun _ => true) s.vars gs q := hV
  rw [hv] at hV'
  obtain ⟨rfl, rfl⟩ := trodVars_none hV'
  have hzz : (DataW.weightsEach C.prog fn.params.toList ds).all (· ≤ reachBytes) = true := by
    have e : (OpenSpec.ofChange s).bare.plain.varTypes C.prog = [] := by
      show s.plain.varTypes C.prog = []
      simp [ChangeSpec.plain, DataSpec.varTypes, hv]
    rw [e, List.append_nil, List.append_nil] at hz
    exact hz
  have hlen : ds.length = fn.params.toList.length := trodAll_len hA
  have hlt : ∀ x ∈ p, x.block < W.heap.size := fun x hx => hW'.lt x (by simpa using hx)
  refine (walk W base args ds p hval hA hlt hzz hL).mono fun e W' ⟨he, hb⟩ => ⟨_, he, ?_⟩
  have hf : s.fn H (ds ++ []) = { results := [.lit (.bool true)], args := ds } := by rw [List.append_nil]; exact hs ds hlen
  show s.post enc C.prog fn false fresh handsOn again W args _ W'
  refine post_of_below (pa := p) (pv := []) hW' ?_ ?_ ?_ rfl hb ?_
  · intro b sp hd
    rw [hf, hres]
    exact trodAll_mk1 (shut_bool hB _)
  · intro sp hsp
    rw [hf]
    exact trodAll_stays hl hb hts hA hlt (fun x hx => hsp x (by simpa using hx))
  · intro sp _
    rw [hf, hv]
    rfl
  · exact ok_one hres rfl (okWide_bool_mk hB _)
end Go.Proofs.YtlimcaajpoeoaaaDoor
