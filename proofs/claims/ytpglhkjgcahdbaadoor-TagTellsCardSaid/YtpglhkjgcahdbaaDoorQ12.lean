/- Texts of this proof, merged: WireTag, LawLaid, Mat, DigLaw, Tag2, TagSign. -/
import Derived.Test.YtpglhkjgcahdbaaDoorQ11
import Derived.Test.YtpglhkjgcahdbaaDoorQ1
import Derived.Deep.DeepHandedRow
import Derived.Lib.LaidTab
import Derived.MakeChecks
import Derived.Deep.Matrix
import Derived.Test.YtpglhkjgcahdbaaDoorQ5
import Derived.Test.YtpglhkjgcahdbaaDoorQ7
import Derived.Test.YtpglhkjgcahdbaaDoorTie
import Derived.Test.YtpglhkjgcahdbaaDoorCards
import Derived.SevenTiedAt
import Derived.LaidMore
import Derived.Stop.Joined
/- A packet with another tag: plain reckoning, and its cells (the head of WireTags.body, for stage 7). -/
namespace Go.Proofs.YtpglhkjgcahdbaaDoor
open Go.ChangeShapes Go.WideShapes Go.ChangeAt Go.RowKit
theorem right_parts {p : Pk} (h : p.right = true) : (∀ x ∈ held p.kind, x.fits p = true) ∧ held p.kind ≠ [] ∧ p = p.copied (held p.kind) ∧ p.nobody = false := by
  unfold Pk.right at h
  simp only [Bool.and_eq_true, List.all_eq_true, decide_eq_true_eq, Bool.not_eq_true'] at h
  exact ⟨h.1, h.2.1.1, h.2.1.2, h.2.2⟩
/-- The packet with another tag. -/
def setT (p : Pk) (t : List Int) : Pk := { p with t := t }
theorem setT_wf {p : Pk} (hp : p.Wf) {t : List Int} (ht : t.length = 8) : (setT p t).Wf := ⟨hp.h, hp.s, ht⟩
theorem fold_hs (p : Pk) (t : List Int) : ∀ (l : List Pt5) (r1 r2 : Pk), r1.h = r2.h → r1.s = r2.s → (l.foldl (fun q x => x.copy (setT p t) q) r1).h = (l.foldl (fun q x => x.copy p q) r2).h ∧ (l.foldl (fun q x => x.copy (setT p t) q) r1).s = (l.foldl (fun q x => x.copy p q) r2).s
  | [], r1, r2, h1, h2 => ⟨h1, h2⟩
  | x :: l, r1, r2, h1, h2 => by
    rw [List.foldl_cons, List.foldl_cons]
    refine fold_hs p t l _ _ ?_ ?_
    · unfold Pt5.copy setT
      split
      · simp [h1]
      · split <;> exact h1
    · unfold Pt5.copy setT
      split
      · exact h2
      · split
        · rfl
        · exact h2
theorem fold_t (p : Pk) : ∀ (l : List Pt5) (r : Pk), (∀ x ∈ l, x.j ≤ 12) → (l.foldl (fun q x => x.copy p q) r).t = r.t
  | [], r, _ => rfl
  | x :: l, r, h => by
    rw [List.foldl_cons, fold_t p l _ (fun y hy => h y (List.mem_cons_of_mem _ hy))]
    have hx := h x (List.mem_cons_self ..)
    unfold Pt5.copy
    split
    · rfl
    · rw [if_pos (by omega)]
theorem held_tag (k : Int) (h : 5 ≤ k ∧ k ≤ 11) : ∃ l, held k = l ++ [ptTag] ∧ ∀ x ∈ l, x.j ≤ 12 := by
  have hc : k = 5 ∨ k = 6 ∨ k = 7 ∨ k = 8 ∨ k = 9 ∨ k = 10 ∨ k = 11 := by omega
  rcases hc with rfl | rfl | rfl | rfl | rfl | rfl | rfl
  · exact ⟨[ptSession, ptSeq], rfl, by decide⟩
  · exact ⟨[ptSession, ptSeq, ptStatus 1], rfl, by decide⟩
  · exact ⟨[ptSession, ptSeq, ptOp 1 7, ptUser 1], rfl, by decide⟩
  · exact ⟨[ptSession, ptSeq, ptUser 0, ptVersion, ptStatus 0, ptCount], rfl, by decide⟩
  · exact ⟨[ptSession, ptAck, ptSack], rfl, by decide⟩
  · exact ⟨[ptSession, ptSeq], rfl, by decide⟩
  · exact ⟨[ptSession, ptSeq, ptOp 0 15], rfl, by decide⟩
theorem held_bare (k : Int) (h : ¬ (5 ≤ k ∧ k ≤ 11)) : ∀ x ∈ held k, x.j ≤ 12 := by
  rcases held_cases k with rfl | rfl | rfl | rfl | rfl | rfl | rfl | rfl | rfl | rfl | rfl | rfl | h'
  case inr.inr.inr.inr.inr.inr.inr.inr.inr.inr.inr.inr => rw [held_none h']; intro x hx; cases hx
  all_goals first
    | (exact absurd ⟨by decide, by decide⟩ h)
    | decide
theorem right_tag {p : Pk} (h : p.right = true) (hk : 5 ≤ p.kind ∧ p.kind ≤ 11) (t : List Int) : (setT p t).right = true := by
  obtain ⟨hf, hne, hc, hn⟩ := right_parts h
  obtain ⟨l, hl, -⟩ := held_tag p.kind hk
  have e : setT p t = (setT p t).copied (held p.kind) := by
    have h1 := fold_hs p t (held p.kind) (pkBare p.kind) (pkBare p.kind) rfl rfl
    have h2 : ((setT p t).copied (held p.kind)).t = t := by
      rw [hl]
      unfold Pk.copied
      rw [List.foldl_append]
      rfl
    refine Pk.ext ?_ ?_ h2.symm
    · exact (congrArg Pk.h hc).trans h1.1.symm
    · exact (congrArg Pk.s hc).trans h1.2.symm
  unfold Pk.right
  rw [show (setT p t).kind = p.kind from rfl, List.all_eq_true.2 (fun x hx => show x.fits (setT p t) = true from hf x hx), decide_eq_true hne, decide_eq_true e, show (setT p t).nobody = p.nobody from rfl, hn]
  rfl
theorem right_bare {p : Pk} (h : p.right = true) (hk : ¬ (5 ≤ p.kind ∧ p.kind ≤ 11)) {t : List Int} (ht : t ≠ p.t) : (setT p t).right = false := by
  obtain ⟨hf, hne, hc, hn⟩ := right_parts h
  have z1 : p.t = List.replicate 8 0 := by
    rw [hc]; exact fold_t p _ _ (held_bare _ hk)
  have z2 : ((setT p t).copied (held p.kind)).t = List.replicate 8 0 := fold_t _ _ _ (held_bare _ hk)
  have e : ¬ setT p t = (setT p t).copied (held p.kind) := fun he => ht (by
    have := congrArg Pk.t he
    rw [z2] at this
    rw [z1]; exact this)
  unfold Pk.right
  rw [show (setT p t).kind = p.kind from rfl, decide_eq_false e]
  simp
theorem laid_tag (p : Pk) (t : List Int) : ∀ l : List Pt5, (∀ x ∈ l, x.j ≤ 12) → (setT p t).laid l = p.laid l := fun l h => by
  unfold Pk.laid
  congr 1
  have : ∀ l : List Pt5, (∀ x ∈ l, x.j ≤ 12) → l.flatMap (fun x => x.put (setT p t)) = l.flatMap (fun x => x.put p) := fun l => by
    induction l with
    | nil => intro _; rfl
    | cons x r ih =>
      intro h
      rw [List.flatMap_cons, List.flatMap_cons, ih (fun y hy => h y (List.mem_cons_of_mem _ hy))]
      congr 1
      have hx := h x (List.mem_cons_self ..)
      unfold Pt5.put
      split
      · rfl
      · rw [if_pos (by omega), if_pos (by omega)]; rfl
  exact this l h
theorem enc_tag {p : Pk} (hk : 5 ≤ p.kind ∧ p.kind ≤ 11) (t : List Int) : ∃ pre, p.enc = pre ++ p.t ∧ (setT p t).enc = pre ++ t ∧ 0 < pre.length := by
  obtain ⟨l, hl, h12⟩ := held_tag p.kind hk
  refine ⟨p.laid l, ?_, ?_, ?_⟩
  · unfold Pk.enc; rw [hl, Pk.laid_snoc]; rfl
  · unfold Pk.enc; rw [show (setT p t).kind = p.kind from rfl, hl, Pk.laid_snoc, laid_tag p t l h12]; rfl
  · unfold Pk.laid; rw [List.length_append, lay_len]; omega
theorem info_b8 : (Tryd.prog.info? b8T).map (·.size) = some 8 := by kernel_rfl
theorem wpl_mid {P : Program} {T : TypeId} {d : TypeDesc} {n : Nat} (hu : P.underlying T = some d) (hd : d.isRow = true) (hi : (P.info? T).map (·.size) = some n) {ops : Array Oper} {rest : List Oper} {o : Oper} {a : Act} {w : World} {Q : Exit → Act → World → Prop} (hgd : Region.wanted o (yielded ops a.tmps) = true) (x : Operand) (ho : o.op = .load T x) (g off : Nat) (L : List Value) (hL : L.length = n) (hx : a.eval x = .pointer (some ⟨g, off, none⟩))
    (hw : w.rangeAt g off L) (h : wpList P ops Q rest (a.put o.dst (.agg L.toArray)) w) : wpList P ops Q (o :: rest) a w :=
  BigFrame.wpList_want hgd fun _ hK => wp_load_mid T x ho g off hx L _ hw hu hd (by rw [hi, hL]) (hK _ _ h)
theorem range_tag {W : World} {g : Nat} {p : Pk} (h : W.heap[g]? = some (.cells (pcs p).toArray pkT)) (hp : p.Wf) : W.rangeAt g 28 (nrow .u8 p.t) := fun j v hv => by
  rw [cell_of_row _ _ _ _ _ _ h, List.getElem?_toArray]
  rw [← pcs_tag hp, List.getElem?_take] at hv
  split at hv
  · rwa [List.getElem?_drop] at hv
  · cases hv
theorem wpl_tag {ops : Array Oper} {rest : List Oper} {o : Oper} {a : Act} {w : World} {Q : Exit → Act → World → Prop} (hgd : Region.wanted o (yielded ops a.tmps) = true) (x : Operand) (ho : o.op = .load b8T x) (g off : Nat) (t : List Int) (ht : t.length = 8) (hx : a.eval x = .pointer (some ⟨g, off, none⟩))
    (hw : w.rangeAt g off (nrow .u8 t)) (h : wpList Tryd.prog ops Q rest (a.put o.dst (.agg (nrow .u8 t).toArray)) w) : wpList Tryd.prog ops Q (o :: rest) a w :=
  wpl_mid Tryd.underlying24 rfl info_b8 hgd x ho g off _ (by rw [nrow_len]; exact ht) hx hw h
theorem eql_b8 (W : World) (x y : List Int) (hx : x.length = 8) (hy : y.length = 8) : (Op.equalIn 10000 b8T (.agg (nrow .u8 x).toArray) (.agg (nrow .u8 y).toArray)).run Tryd.prog W = .ok (decide (x = y)) W :=
  eql_row 9998 W Tryd.underlying24 x y hx hy
theorem store_tag {W : World} {g : Nat} {p : Pk} (h : W.heap[g]? = some (.cells (pcs p).toArray pkT)) (hp : p.Wf) {t : List Int} (ht : t.length = 8) : (storeCells ⟨g, 28, none⟩ (nrow .u8 t) 0).run Tryd.prog W = .ok () (setRow W g pkT (pcs (setT p t)).toArray) := by
  have := run_storeCells_at (P := Tryd.prog) g 28 pkT (nrow .u8 t) 0 (pcs p).toArray W h (by simp [nrow_len, ht, pcs_len hp]) (nrow_one _ _)
  rw [this, setRow_eq h]
  congr 2
  have e := splice_tag hp ht
  unfold splice at e
  rw [show pcs (setT p t) = pcs { p with t := t } from rfl, ← e]
  simp [List.append_assoc]
theorem nums_tail {W : World} {b m : Nat} {pre r : List Int} (h : Nums .u8 W (some ⟨b, 0, none⟩) (pre ++ r)) (hm : pre.length = m) : Nums .u8 W (some ⟨b, m, none⟩) r := by
  rcases h with h | ⟨b', off, h1, h2, h3⟩
  · left
    simp at h
    exact h.2
  · injection h1 with h1
    injection h1 with e1 e2
    subst e1; subst e2
    refine Or.inr ⟨b, m, rfl, h2, fun i hi => ?_⟩
    have := h3 (m + i) (by rw [List.length_append]; omega)
    rw [Nat.zero_add] at this
    rw [this]
    congr 2
    subst hm
    simp [List.getD, List.getElem?_append_right (Nat.le_add_right _ _)]
theorem nums_row8 {W : World} {g : Nat} {t : TypeId} {l : List Int} (h : W.heap[g]? = some (.cells (nrow .u8 l).toArray t)) : Nums .u8 W (some ⟨g, 0, none⟩) l :=
  Or.inr ⟨g, 0, rfl, row_lt h, fun i hi => by rw [Nat.zero_add]; exact (row_cells h i).trans (ncs_at .u8 l i hi)⟩
end Go.Proofs.YtpglhkjgcahdbaaDoor
/- The row of a law that lists package-level variables, by its walk: as law_lifted, the list met by the world in which the call begins. What a list gives: the cells of arrays, and of arrays in them. No program in it. -/
namespace Go.Proofs.YtpglhkjgcahdbaaDoor
open Go.ChangeShapes Go.WideShapes Go.ChangeAt Go.RowKit
section
variable {H : Type} {enc : TypeId × Value → H} {P : Program}
/-- The i-th part of an array reads as the i-th part of its datum. -/
theorem part_of_array {w : World} {base : Nat} {sp : Nat → Bool} {held : Bool} {fuel n c : Nat} {t e : TypeId} {cs : List Value} {ds : List (DataW H)} {p : List MemPlace} (ht : P.underlying t = some (.array n e)) (hc : P.cellsOf e = c)
    (h : DataW.trod enc P w base sp held fuel t cs = some (.agg ds, p)) {i : Nat} {d : DataW H} (hd : ds[i]? = some d) :
    ∃ m q, DataW.trod enc P w base sp held m e ((cs.drop (i * c)).take c) = some (d, q) := by
  obtain ⟨xs, m, _, hx, _, hn, hel⟩ := DataW.trod_array ht h
  have e1 : ds = xs.map (·.1) := by
    have := congrArg Prod.fst hx
    simpa using this
  rw [e1, List.getElem?_map] at hd
  obtain ⟨⟨d', q⟩, hy, rfl⟩ := Option.map_eq_some_iff.1 hd
  have hi : i < n := by
    rw [← hn]
    exact (List.getElem?_eq_some_iff.1 hy).1
  refine ⟨m, q, ?_⟩
  have := hel i hi
  rw [hc] at this
  rw [this, hy]

theorem at_part {cs part : List Value} {o c j : Nat} {v : Value} (h : (cs.drop o).take c = part) (hj : part[j]? = some v) : cs[o + j]? = some v := by
  subst h
  rw [List.getElem?_take] at hj
  split at hj
  · rw [List.getElem?_drop] at hj; exact hj
  · cases hj

/-- A number in an array of arrays of numbers. -/
theorem num_of_rows {w : World} {base : Nat} {sp : Nat → Bool} {held : Bool} {fuel n m : Nat} {k : IntKind} {t r e : TypeId} {cs : List Value} {ds : List (DataW H)} {p : List MemPlace} (ht : P.underlying t = some (.array n r)) (hr : P.underlying r = some (.array m e)) (he : P.underlying e = some (.int k))
    (hce : P.cellsOf e = 1) (hcr : P.cellsOf r = m) (h : DataW.trod enc P w base sp held fuel t cs = some (.agg ds, p)) {i j : Nat} {zs : List Int} {z : Int} (hd : ds[i]? = some (Lib.tabData k zs)) (hz : zs[j]? = some z) :
    cs[i * m + j]? = some (.int k z) := by
  obtain ⟨f, q, hq⟩ := part_of_array ht hcr h hd
  exact at_part (Lib.cells_of_tab hr he hce hcr hq) (by simp [hz])

/-- A text in an array of texts. -/
theorem text_of_row {w : World} {base : Nat} {sp : Nat → Bool} {held : Bool} {fuel n : Nat} {t e : TypeId} {cs : List Value} {ds : List (DataW H)} {p : List MemPlace} (ht : P.underlying t = some (.array n e)) (he : P.underlying e = some .string)
    (hce : P.cellsOf e = 1) (h : DataW.trod enc P w base sp held fuel t cs = some (.agg ds, p)) {i : Nat} {s : List UInt8} (hd : ds[i]? = some (.lit (.string s))) :
    cs[i]? = some (.string ⟨s.toArray⟩) := by
  obtain ⟨f, q, hq⟩ := part_of_array ht hce h hd
  obtain ⟨s', h1, h2, _⟩ := DataW.trod_string he hq
  simp only [Prod.mk.injEq, DataW.lit.injEq, Lit.string.injEq] at h2
  have e : s' = ⟨s.toArray⟩ := by rw [h2.1]
  subst e
  have := at_part (j := 0) h1 rfl
  simpa using this
end

/-- A law's row that lists variables, by its walk. -/
theorem law_lifted_laid {C : Checked} {os : Os} {f : FuncId} {fn : Func} {s : ChangeSpec} {H : Type} {enc : TypeId × Value → H} {B : TypeId} {F : Stop.Interp} {conds : List PathCond} {fresh handsOn again : Bool} {laid : List (String × DataW Unit)}
    (own : ownKnob C.prog.godebug = none) (started : os.Started) (noInit : C.prog.inits.idxOf? f = none) (hfn : C.prog.funcs[f]? = some fn)
    (witness : ∃ (w : World) (tape : Tape) (i : Input), w.os = os ∧ (w.forCall tape i).Shaped C.prog ∧ i.vars = [] ∧ Input.okWide C.prog (w.forCall tape i) .any w.heap.size f i ∧
      (OpenSpec.ofChange s).preRow enc C.prog fn conds false laid (w.forCall tape i).memory i.args ∧ ({} : Assume).holds C.prog (lone (Frame.enter C.prog f i.args .normal) [] (w.forCall tape i)))
    (hv : s.vars = []) (hres : fn.resultTypes = #[B]) (hB : C.prog.underlying B = some .bool)
    (hl : laidOutB C.prog = true) (hts : ∀ t ∈ fn.params.toList, C.prog.readableRec t = true ∧ t < C.prog.types.size)
    (hs : ∀ (ds : List (DataW H)), ds.length = fn.params.toList.length → s.fn H ds = { results := [.lit (.bool true)], args := ds })
    (walk : ∀ (W : World) (base : Nat) (args : Array Value) (ds : List (DataW H)) (ps : List MemPlace),
      (∀ (j : Nat) t v, fn.params[j]? = some t → args[j]? = some v → Value.okWide C.prog W .any base t v) →
      DataW.TrodAll enc C.prog W 0 (fun _ => true) true fn.params.toList args.toList ds ps → (∀ p ∈ ps, p.block < W.heap.size) →
      (DataW.weightsEach C.prog fn.params.toList ds).all (· ≤ reachBytes) = true → laidMetH C.prog laid W →
      Calls C.prog f args W fun e W' => e = .returned (.bool true) ∧ Below W.heap.size W W') :
    ReturnsInHanded {} C os f .any ((OpenSpec.ofChange s).preRow enc C.prog fn conds false laid) (((OpenSpec.ofChange s).at F).post enc C.prog fn false fresh handsOn again) := by
  refine returnsInHanded_of_row (C := C) (s := OpenSpec.ofChange s) own started noInit hfn witness ?_
  intro W base args ds gs before hval hW _ _ hz hL _ _
  have hW' : DataW.Whole enc C.prog fn.params.toList s.vars false W args.toList ds gs before := hW
  obtain ⟨p, q, hA, hV, rfl, hfz, hnd⟩ := hW
  have hV' : DataW.TrodVars enc C.prog W (fun _ => true) s.vars gs q := hV
  rw [hv] at hV'
  obtain ⟨rfl, rfl⟩ := trodVars_none hV'
  have hzz : (DataW.weightsEach C.prog fn.params.toList ds).all (· ≤ reachBytes) = true := by
    have e : (OpenSpec.ofChange s).bare.plain.varTypes C.prog = [] := by
      show s.plain.varTypes C.prog = []
      simp [ChangeSpec.plain, DataSpec.varTypes, hv]
    rw [e, List.append_nil, List.append_nil] at hz
    exact hz
  have hlen : ds.length = fn.params.toList.length := trodAll_len hA
  have hlt : ∀ x ∈ p, x.block < W.heap.size := fun x hx => hW'.lt x (by simpa using hx)
  refine (walk W base args ds p hval hA hlt hzz hL).mono fun e W' ⟨he, hb⟩ => ⟨_, he, ?_⟩
  have hf : s.fn H (ds ++ []) = { results := [.lit (.bool true)], args := ds } := by rw [List.append_nil]; exact hs ds hlen
  show s.post enc C.prog fn false fresh handsOn again W args _ W'
  refine post_of_below (pa := p) (pv := []) hW' ?_ ?_ ?_ rfl hb ?_
  · intro b sp hd
    rw [hf, hres]
    exact trodAll_mk1 (shut_bool hB _)
  · intro sp hsp
    rw [hf]
    exact trodAll_stays hl hb hts hA hlt (fun x hx => hsp x (by simpa using hx))
  · intro sp _
    rw [hf, hv]
    rfl
  · exact ok_one hres rfl (okWide_bool_mk hB _)
end Go.Proofs.YtpglhkjgcahdbaaDoor
/- A slice of slices of numbers that comes in. No program in it. -/
namespace Go.Proofs.YtpglhkjgcahdbaaDoor
open Go.ChangeShapes Go.WideShapes Go.ChangeAt Go.RowKit
/-- The rows of a slice of slices of numbers, as far as it is long. -/
def Mat (k : IntKind) (w : World) (A : Option Addr) (n : Nat) (R : Nat → Option Addr) (C : Nat → Nat) (Z : Nat → List Int) : Prop :=
  n = 0 ∨ ∃ b off, A = some ⟨b, off, none⟩ ∧ b < w.heap.size ∧ ∀ r, r < n → w.cell? ⟨b, off + r, none⟩ = some (.slice (R r) (Z r).length (C r)) ∧ Nums k w (R r) (Z r) ∧ (Z r).length ≤ C r ∧ C r ≤ maxLen ∧ (∀ z ∈ Z r, (Lit.int k z).wf = true) ∧ (0 < (Z r).length → ∀ a, R r = some a → a.block < w.heap.size)
theorem open_mat {H : Type} {enc : TypeId × Value → H} {P : Program} {W : World} {t e q : TypeId} {k : IntKind} {base : Nat} {v : Value} {d : DataW H} {ps : List MemPlace}
    (ht : P.underlying t = some (.slice e)) (he : P.underlying e = some (.slice q)) (hq : P.underlying q = some (.int k)) (ce : P.cellsOf e = 1) (cq : P.cellsOf q = 1)
    (hval : Value.okWide P W .any base t v) (h : DataW.Trod enc P W 0 (fun _ => true) true t v d ps) :
    ∃ (A : Option Addr) (n cap : Nat) (R : Nat → Option Addr) (C : Nat → Nat) (Z : Nat → List Int), v = .slice A n cap ∧ n ≤ cap ∧ cap ≤ maxLen ∧ Mat k W A n R C Z := by
  obtain ⟨a0, len, cap, rfl⟩ := okWide_slice ht hval
  obtain ⟨fuel, hf⟩ := h
  rcases Deep.open_int_rows ht he hq ce cq hf with ⟨hcs, hx⟩ | ⟨a, len', cap', A, L, C, Z, hcs, _, hl, hm, hx, hr⟩
  · simp [Value.cells] at hcs
    obtain ⟨rfl, rfl, rfl⟩ := hcs
    exact ⟨none, 0, 0, fun _ => none, fun _ => 0, fun _ => [], rfl, Nat.le_refl _, Nat.zero_le _, Or.inl rfl⟩
  · simp [Value.cells] at hcs
    obtain ⟨rfl, rfl, rfl⟩ := hcs
    refine ⟨some a, len, cap, A, C, fun r => (Z r).take (L r), rfl, hl, hm, ?_⟩
    by_cases h0 : len = 0
    · exact Or.inl h0
    · obtain ⟨b, off, spot⟩ := a
      have hspot : spot = none := by simpa [Addr.add] using World.cell?_spot (hr 0 (by omega)).1
      subst hspot
      refine Or.inr ⟨b, off, rfl, World.block_lt_of_cell? W ⟨b, off, none⟩ (u := .slice (A 0) (L 0) (C 0)) (by simpa [Addr.add] using (hr 0 (by omega)).1), fun r hr' => ?_⟩
      obtain ⟨h1, h2, h3, h4, h5, h6, h7⟩ := hr r (by omega)
      have hlen : ((Z r).take (L r)).length = L r := by rw [List.length_take]; omega
      have hbl : 0 < L r → ∀ a', A r = some a' → a'.block < W.heap.size := fun hL a' ha => by
        have hc := (h7 a' ha).2 0 (by omega)
        rcases a' with ⟨b', off', spot'⟩
        have hsp : spot' = none := by simpa [Addr.add] using World.cell?_spot hc
        subst hsp
        exact World.block_lt_of_cell? W ⟨b', off', none⟩ (u := .int k ((Z r).getD 0 0)) (by simpa [Addr.add] using hc)
      refine ⟨?_, ?_, by rw [hlen]; exact h2, h3, fun z hz => h5 z (List.mem_of_mem_take hz), by rw [hlen]; exact hbl⟩
      · rw [hlen, ← add_plain]; exact h1
      · by_cases hL : L r = 0
        · exact Or.inl (List.eq_nil_of_length_eq_zero (hlen.trans hL))
        · cases hA : A r with
          | none => have := h6 hA; omega
          | some a' =>
            have hc := h7 a' hA
            have hb' := hbl (by omega) a' hA
            rcases a' with ⟨b', off', spot'⟩
            have hsp : spot' = none := by simpa [Addr.add] using World.cell?_spot (hc.2 0 (by omega))
            subst hsp
            refine Or.inr ⟨b', off', rfl, hb', fun i hi => ?_⟩
            rw [hlen] at hi
            rw [← add_plain, hc.2 i (by omega)]
            have h9 : i < (Z r).length := by omega
            simp [List.getD, hi]
end Go.Proofs.YtpglhkjgcahdbaaDoor
/- What a law of layer 2 begins with: the constants in memory, parts that come in. -/
namespace Go.Proofs.YtpglhkjgcahdbaaDoor
open Go.ChangeShapes Go.WideShapes Go.ChangeAt Go.RowKit
theorem gConst : Tryd.prog.globalNamed "nightjar/digest.constants" = some 0 := by kernel_rfl
theorem tConst : (Tryd.prog.globals[0]?).map (·.type) = some w64T := by kernel_rfl
theorem const_data {H : Type} : (Rows.laid_nightjar_digest_constants (H := H)) = Lib.tabData .u32 (Sha.K.map Sha.u) := by kernel_rfl
theorem kt_of_laid {W : World} (h : laidMetH Tryd.prog [("nightjar/digest.constants", Rows.laid_nightjar_digest_constants)] W) : Kt W := by
  rw [MakeChecks.laidMetH_plain _ _ _ (by kernel_rfl)] at h
  obtain ⟨ps, ⟨g0, t0, cs0, f0, p0, q0, hg0, ht0, hv0, hd0, _⟩, _, _⟩ := h
  obtain rfl := Option.some.inj (gConst.symm.trans hg0)
  obtain rfl := Option.some.inj (tConst.symm.trans ht0)
  have k0 := World.var?_cell hg0 hv0
  rw [const_data] at hd0
  have hc := Lib.cells_of_tab Tryd.underlying77 Tryd.underlying74 (by kernel_rfl) (by kernel_rfl) hd0
  have hat : ∀ i : Nat, i < 64 → W.cell? ⟨0, i, none⟩ = some (.int .u32 (Sha.u (Sha.K.getD i 0))) := fun i hi => by
    have hK : i < Sha.K.length := hi
    rw [k0, ← Array.getElem?_toList, hc, List.getElem?_map, List.getElem?_map, List.getElem?_eq_getElem hK]
    simp [List.getD, hK]
  refine ⟨hat, ?_⟩
  rcases Nat.lt_or_ge 0 W.heap.size with hlt | hge
  · exact hlt
  · have h0 := hat 0 (by decide)
    rw [show W.cell? ⟨0, 0, none⟩ = none by simp [World.cell?, Array.getElem?_eq_none hge]] at h0
    cases h0
/-- Parts that come in. -/
def ptsOf (n : Nat) (R : Nat → Option Addr) (C : Nat → Nat) (Z : Nat → List Int) : List Pt := (List.range n).map fun r => ⟨R r, C r, Z r⟩
theorem ptsOf_len (n : Nat) (R : Nat → Option Addr) (C : Nat → Nat) (Z : Nat → List Int) : (ptsOf n R C Z).length = n := by simp [ptsOf]
theorem ptsOf_at {n : Nat} {R : Nat → Option Addr} {C : Nat → Nat} {Z : Nat → List Int} {r : Nat} {p : Pt} (h : (ptsOf n R C Z)[r]? = some p) : r < n ∧ p = ⟨R r, C r, Z r⟩ := by
  have hr : r < n := by
    have := (List.getElem?_eq_some_iff.1 h).1
    simpa [ptsOf] using this
  refine ⟨hr, ?_⟩
  unfold ptsOf at h
  rw [List.getElem?_map, List.getElem?_range hr] at h
  exact (Option.some.inj h).symm
theorem parts_of_mat {w : World} {A : Option Addr} {n : Nat} {R : Nat → Option Addr} {C : Nat → Nat} {Z : Nat → List Int} (h : Mat .u8 w A n R C Z) : Parts w A (ptsOf n R C Z) := by
  rcases h with rfl | ⟨b, off, rfl, hb, hc⟩
  · exact Or.inl rfl
  · refine Or.inr ⟨b, off, rfl, hb, fun r p hp => ?_⟩
    obtain ⟨hr, rfl⟩ := ptsOf_at hp
    obtain ⟨h1, h2, h3, h4, _⟩ := hc r hr
    exact ⟨h1, h2, h3, h4⟩
theorem byte_wf {z : Int} (h : (Lit.int .u8 z).wf = true) : 0 ≤ z ∧ z < 256 := by
  have h0 : IntKind.u8.min = 0 := rfl
  have h1 : IntKind.u8.max = 255 := rfl
  simp [Lit.wf] at h
  omega
theorem flat_wf {ps : List Pt} (h : ∀ p ∈ ps, ∀ z ∈ p.bs, 0 ≤ z ∧ z < 256) : ∀ z ∈ flat ps, 0 ≤ z ∧ z < 256 := by
  induction ps with
  | nil => intro z hz; cases hz
  | cons p r ih =>
    intro z hz
    rw [flat, List.mem_append] at hz
    rcases hz with hz | hz
    · exact h p (List.mem_cons_self ..) z hz
    · exact ih (fun q hq => h q (List.mem_cons_of_mem _ hq)) z hz
theorem mat_wf {w : World} {A : Option Addr} {n : Nat} {R : Nat → Option Addr} {C : Nat → Nat} {Z : Nat → List Int} (h : Mat .u8 w A n R C Z) : ∀ p ∈ ptsOf n R C Z, ∀ z ∈ p.bs, 0 ≤ z ∧ z < 256 := by
  rcases h with rfl | ⟨b, off, rfl, hb, hc⟩
  · intro p hp; cases hp
  · intro p hp z hz
    obtain ⟨r, hr⟩ := List.mem_iff_getElem?.1 hp
    obtain ⟨hr', rfl⟩ := ptsOf_at hr
    exact byte_wf ((hc r hr').2.2.2.2.1 z hz)
end Go.Proofs.YtpglhkjgcahdbaaDoor
/- Packets that are signed. -/
namespace Go.Proofs.YtpglhkjgcahdbaaDoor
open Go.ChangeShapes Go.WideShapes Go.ChangeAt Go.RowKit
def z8 : List Int := List.replicate 8 0
def isTag (k : Int) : Bool := decide (5 ≤ k) && decide (k ≤ 11)
/-- Whether a packet can be signed, and how it is then. -/
def sgOk (p : Pk) : Bool := isTag p.kind && (setT p z8).right
def sgTag (key : List Int) (p : Pk) : List Int := (Mac.hmac key (setT p z8).enc).take 8
def sgPk (key : List Int) (p : Pk) : Pk := if sgOk p then setT p (sgTag key p) else pk0
theorem sgTag_len (key : List Int) (p : Pk) : (sgTag key p).length = 8 := by
  unfold sgTag
  rw [List.length_take, Mac.hmac_len]; rfl
end Go.Proofs.YtpglhkjgcahdbaaDoor
/- Packets that are signed: what Sign and Good say. -/
namespace Go.Proofs.YtpglhkjgcahdbaaDoor
open Go.ChangeShapes Go.WideShapes Go.ChangeAt Go.RowKit
theorem pk_results {fn : Func} {u v : Tmp} (hr : fn.results = #[.cell u pkT, .tmp v]) {tmps : Array Value} {W : World} {g : Nat} {q : Pk} {x : Value} (hq : q.Wf) (h6 : tmps.getD u undef = .pointer (some ⟨g, 0, none⟩)) (hx : tmps.getD v undef = x) (hW : W.heap[g]? = some (.cells (pcs q).toArray pkT)) :
    (results fn tmps).run Tryd.prog W = .ok (.tuple #[.agg (pcs q).toArray, x]) W := by
  have hl := run_loadVar_mid (P := Tryd.prog) W g 0 pkT (pcs q) _ (range_row hW) Tryd.underlying26 rfl (by rw [info_pk, pcs_len hq])
  rw [results_cell_tmp hr tmps Tryd.prog W, h6, hx]
  simp only [asAddr, Sem.run_pure, Result.andThen_ok, hl]
theorem tagged_any (k : Int) (w : World) : Calls Tryd.prog 15 #[.int .i64 k] w fun e w' => e = .returned (.bool (isTag k)) ∧ w = w' := by
  unfold isTag
  have hc : k = 5 ∨ k = 6 ∨ k = 7 ∨ k = 8 ∨ k = 9 ∨ k = 10 ∨ k = 11 ∨ (k ≠ 5 ∧ k ≠ 6 ∧ k ≠ 7 ∧ k ≠ 8 ∧ k ≠ 9 ∧ k ≠ 10 ∧ k ≠ 11) := by omega
  rcases hc with rfl | rfl | rfl | rfl | rfl | rfl | rfl | ⟨h1, h2, h3, h4, h5, h6, h7⟩
  case inr.inr.inr.inr.inr.inr.inr =>
    have hd : (decide (5 ≤ k) && decide (k ≤ 11)) = false := by
      rw [← Bool.decide_and]; exact decide_eq_false (by omega)
    rw [hd]
    have b1 : (k == 5) = false := beq_eq_false_iff_ne.2 h1
    have b2 : (k == 6) = false := beq_eq_false_iff_ne.2 h2
    have b3 : (k == 7) = false := beq_eq_false_iff_ne.2 h3
    have b4 : (k == 8) = false := beq_eq_false_iff_ne.2 h4
    have b5 : (k == 9) = false := beq_eq_false_iff_ne.2 h5
    have b6 : (k == 10) = false := beq_eq_false_iff_ne.2 h6
    have b7 : (k == 11) = false := beq_eq_false_iff_ne.2 h7
    clear hd h1 h2 h3 h4 h5 h6 h7
    go_enter Tryd.func15, Tryd.ntmps15
    go_wp2
    go_ret
    exact ⟨rfl, rfl⟩
  all_goals
    go_enter Tryd.func15, Tryd.ntmps15
    go_wp2
    go_ret
    exact ⟨rfl, rfl⟩
theorem enc_byte {p : Pk} (hs : ∀ z ∈ p.s, 0 ≤ z ∧ z < 256) (ht : ∀ z ∈ p.t, 0 ≤ z ∧ z < 256) : ∀ z ∈ p.enc, 0 ≤ z ∧ z ≤ 255 := by
  intro z hz
  unfold Pk.enc Pk.laid at hz
  rw [List.mem_append, List.mem_flatMap] at hz
  rcases hz with hz | ⟨x, _, hz⟩
  · have := lay_byte _ _ z hz; omega
  · unfold Pt5.put at hz
    split at hz
    · have := lay_byte _ _ z hz; omega
    · split at hz
      · have := hs z hz; omega
      · have := ht z hz; omega
theorem zero_b8 (W : World) : (zeroValue b8T).run Tryd.prog W = .ok (.agg (nrow .u8 z8).toArray) W := by kernel_rfl
theorem isTag_iff {k : Int} (h : isTag k = true) : 5 ≤ k ∧ k ≤ 11 := by
  unfold isTag at h
  simpa using h
theorem pk0_enc {p : Pk} (h : isTag p.kind = false) : sgOk p = false := by unfold sgOk; rw [h]; rfl
set_option maxRecDepth 100000 in
set_option maxHeartbeats 2000000 in
theorem sign_any (w : World) (key : List Int) (hk : key.length = 16) (hkw : ∀ z ∈ key, 0 ≤ z ∧ z < 256) (p : Pk) (hp : p.Wf) (hrg : p.Rng) (hps : ∀ z ∈ p.s, 0 ≤ z ∧ z < 256) (ht : Kt w) (q : Pk) (hq : sgPk key p = q) (ok : Bool) (hok : sgOk p = ok) :
    Calls Tryd.prog 9 #[.agg (nrow .u8 key).toArray, .agg (pcs p).toArray] w fun e w' => e = .returned (.tuple #[.agg (pcs q).toArray, .bool ok]) ∧ Below w.heap.size w w' := by
  have z0 := zero_b32'
  have zpk := zero_pk
  have z8' := zero_b8
  obtain ⟨L, hL⟩ : ∃ L, (nrow .u8 key).toArray = L := ⟨_, rfl⟩
  have A0 : Below w.heap.size w (w.alloc (.cells (nrow .u8 key).toArray b16T)) := (Below.refl _ _).alloc (Nat.le_refl _) _
  have A1 := A0.alloc A0.size (.cells (pcs p).toArray pkT)
  have A2 := A1.alloc A1.size (.cells (pcs pk0).toArray pkT)
  have RK := row_new (W := w) (cs := (nrow .u8 key).toArray) (t := b16T) (m := (0, 0))
  have RP : ((w.alloc (.cells (nrow .u8 key).toArray b16T)).alloc (.cells (pcs p).toArray pkT)).heap[w.heap.size + 1]? = some (.cells (pcs p).toArray pkT) := by
    have := row_new (W := w.alloc (.cells (nrow .u8 key).toArray b16T)) (cs := (pcs p).toArray) (t := pkT) (m := (0, 0))
    simpa using this
  have RR : (((w.alloc (.cells (nrow .u8 key).toArray b16T)).alloc (.cells (pcs p).toArray pkT)).alloc (.cells (pcs pk0).toArray pkT)).heap[w.heap.size + 1 + 1]? = some (.cells (pcs pk0).toArray pkT) := by
    have := row_new (W := (w.alloc (.cells (nrow .u8 key).toArray b16T)).alloc (.cells (pcs p).toArray pkT)) (cs := (pcs pk0).toArray) (t := pkT) (m := (0, 0))
    simpa using this
  have RK := row_kept RK ((Below.refl _ _).alloc (Nat.le_refl _) (.cells (pcs p).toArray pkT)) (row_lt RK)
  have RK := row_kept RK ((Below.refl _ _).alloc (Nat.le_refl _) (.cells (pcs pk0).toArray pkT)) (row_lt RK)
  have RP := row_kept RP ((Below.refl _ _).alloc (Nat.le_refl _) (.cells (pcs pk0).toArray pkT)) (row_lt RP)
  have L0 : (pcs pk0).length = 36 := pcs_len pk0_wf
  have HP := Lib.hid hp
  have HK := Lib.hid hk
  have HKW := Lib.hid hkw
  have HRg := Lib.hid hrg
  have HPS := Lib.hid hps
  have HT := Lib.hid ht
  have Hq := Lib.hid hq
  have Hok := Lib.hid hok
  clear A0 A1 hp hk hkw hrg hps ht hq hok hL
  go_enter Tryd.func9, Tryd.ntmps9
  go_upto_region 1 with (fail)
  generalize ((w.alloc (.cells (nrow .u8 key).toArray b16T)).alloc (.cells (pcs p).toArray pkT)).alloc (.cells (pcs pk0).toArray pkT) = W0 at RK RP RR A2 ⊢
  obtain ⟨K, hK⟩ : ∃ K, p.kind = K := ⟨_, rfl⟩
  have c0 := pk_cell RP HP.out 0 (by decide)
  rw [show p.h.getD 0 0 = p.kind from rfl, hK] at c0
  have HKi := Lib.hid hK
  clear hK
  have hsz : w.heap.size + 1 + 1 < W0.heap.size := row_lt RR
  go_wp2_with fail
  refine (tagged_any K _).mono ?_
  rintro e w' ⟨rfl, rfl⟩
  cases hT : isTag K
  · have hok0 : sgOk p = false := pk0_enc (by rw [HKi.out]; exact hT)
    have hq0 : q = pk0 := by rw [← Hq.out, sgPk, hok0]; rfl
    have hk0 : ok = false := by rw [← Hok.out]; exact hok0
    subst hq0; subst hk0
    clear hT hok0 c0
    go_wp2_with (first
      | (refine wpl_arr_store info_pk rfl (.tmp 4) (.tmp 13) rfl (w.heap.size + 1 + 1) (pcs pk0) (pcs pk0) L0 L0 (pcs_one _) rfl rfl RR ?_))
    exact bodyPost_ret (pk_results Tryd.results9 pk0_wf rfl rfl (row_written RR)) rfl ⟨rfl, setRow_below A2 (by omega)⟩
  · have hT5 := Lib.hid (isTag_iff hT)
    have Q8 := Lib.hid (setT_wf HP.out (t := z8) rfl)
    have stT := store_tag RP HP.out (t := z8) rfl
    have hTk := Lib.hid (show isTag p.kind = true by rw [HKi.out]; exact hT)
    clear hT c0
    go_upto_region 4 with (fail)
    have RK := (setRow_far (w := W0) (g := w.heap.size + 1) (t := pkT) (cs := (pcs (setT p z8)).toArray) (show w.heap.size ≠ w.heap.size + 1 by omega)).trans RK
    have RR := (setRow_far (w := W0) (g := w.heap.size + 1) (t := pkT) (cs := (pcs (setT p z8)).toArray) (show w.heap.size + 1 + 1 ≠ w.heap.size + 1 by omega)).trans RR
    have RP := row_written (t := pkT) (ds := (pcs (setT p z8)).toArray) RP
    have A3 := setRow_below (g := w.heap.size + 1) (t := pkT) (cs := (pcs (setT p z8)).toArray) A2 (by omega)
    generalize setRow W0 (w.heap.size + 1) pkT (pcs (setT p z8)).toArray = W1 at RK RR RP A3 ⊢
    clear stT A2 hsz
    obtain ⟨p1, hp1⟩ : ∃ p1, setT p z8 = p1 := ⟨_, rfl⟩
    rw [hp1] at RP Q8
    have Hp1 := Lib.hid hp1
    clear hp1
    go_wp2_with (first
      | ((refine wpl_pk ?_ (.tmp 3) ?_ (w.heap.size + 1) p1 Q8.out ?_ RP ?_); (rfl); (rfl); (rfl)))
    cases hR : p1.right
    · refine (enc_bad p1 Q8.out hR _).mono ?_
      rintro e w2 ⟨rfl, hB⟩
      have RR := row_kept RR hB (row_lt RR)
      have A4 := A3.trans (hB.mono A3.size)
      have hok0 : sgOk p = false := by unfold sgOk; rw [Hp1.out, hR]; simp
      have hq0 : q = pk0 := by rw [← Hq.out, sgPk, hok0]; rfl
      have hk0 : ok = false := by rw [← Hok.out]; exact hok0
      subst hq0; subst hk0
      clear hR hok0 hB A3 RK RP
      go_wp2_with (first
        | (refine wpl_arr_store info_pk rfl (.tmp 4) (.tmp 23) rfl (w.heap.size + 1 + 1) (pcs pk0) (pcs pk0) L0 L0 (pcs_one _) rfl rfl RR ?_))
      exact bodyPost_ret (pk_results Tryd.results9 pk0_wf rfl rfl (row_written RR)) rfl ⟨rfl, setRow_below A4 (by omega)⟩
    · have hok1 : sgOk p = true := by unfold sgOk; rw [Hp1.out, hR, hTk.out]; rfl
      have hk1 : ok = true := by rw [← Hok.out]; exact hok1
      subst hk1
      obtain ⟨m, hm⟩ : ∃ m, p1.enc = m := ⟨_, rfl⟩
      obtain ⟨n, hn⟩ : ∃ n, m.length = n := ⟨_, rfl⟩
      obtain ⟨r, hr⟩ : ∃ r, Mac.hmac key m = r := ⟨_, rfl⟩
      have hr32 : r.length = 32 := by rw [← hr]; exact Mac.hmac_len _ _
      have SN := sha_new r hr32
      have LR : (nrow .u8 r).length = 32 := by rw [nrow_len]; exact hr32
      have ht8 : r.take 8 = sgTag key p := by rw [← hr, ← hm, ← Hp1.out]; rfl
      have hq1 : q = setT p1 (r.take 8) := by rw [← Hq.out, sgPk, hok1, if_pos rfl, ht8, ← Hp1.out]; rfl
      have hm33 : n ≤ 200 := by
        have := Pk.laid_len Q8.out (held p1.kind) (held_ok _)
        have h2 := held_len p1.kind
        have h3 : m.length ≤ 1 + 16 * (held p1.kind).length := by rw [← hm]; exact this
        omega
      have Hmw := Lib.hid (show ∀ z ∈ m, 0 ≤ z ∧ z < 256 from fun z hz => by
        rw [← hm] at hz
        have := enc_byte (p := p1) (by rw [← Hp1.out]; exact HPS.out) (by rw [← Hp1.out]; show ∀ z ∈ z8, _; decide) z hz
        omega)
      have HE := Lib.hid (enc_ok p1 Q8.out (by rw [← Hp1.out]; exact HRg.out) hR W1)
      rw [hm, hn] at HE
      have Hn := Lib.hid hn
      have Hr := Lib.hid hr
      have H8 := Lib.hid (show (r.take 8).length = 8 by rw [List.length_take, hr32]; rfl)
      clear hok1 hR hm hn hr hr32 ht8
      refine HE.out.mono ?_
      rintro e w2 ⟨A, c, rfl, hO, hB⟩
      have hl := hO.len
      rw [Hn.out] at hl
      have HN := hO.nums
      have RR := row_kept RR hB (row_lt RR)
      have RK := row_kept RK hB (row_lt RK)
      have RP := row_kept RP hB (row_lt RP)
      have A4 := A3.trans (hB.mono A3.size)
      clear hO hB A3 HE
      have P1 := parts_one (t := 22) (cap := c) (g := w2.heap.size) rfl HN Hn.out hl.1 hl.2
      have A1' := (Below.refl w2.heap.size w2).alloc (Nat.le_refl _) (.cells #[.slice A n c] 22)
      have RR := row_kept RR A1' (row_lt RR)
      have RK := row_kept RK A1' (row_lt RK)
      have RP := row_kept RP A1' (row_lt RP)
      have A5 := A4.trans (A1'.mono A4.size)
      have K2 := HT.out.keep A5 HT.out.2
      clear A1' A4 hl HN
      go_wp2_with fail
      refine (of_any _ _ 16 16 key HK.out (nums_row8 RK) (Nat.le_refl 16) (by decide) (by decide) HKW.out _ 1 1 _ m r (by simp [flat]) Hr.out rfl (Nat.le_refl 1) (by decide) P1 (by rw [Hn.out]; omega) (by decide) Hmw.out K2).mono ?_
      rintro x w3 ⟨rfl, hB⟩
      have RR := row_kept RR hB (row_lt RR)
      have RP := row_kept RP hB (row_lt RP)
      have A6 := A5.trans (hB.mono A5.size)
      clear hB A5 K2 P1 RK
      go_upto_region 8 with (fail)
      have AN := (Below.refl w3.heap.size w3).alloc (Nat.le_refl _) (.cells (nrow .u8 r).toArray b32T)
      have RG := row_new (W := w3) (cs := (nrow .u8 r).toArray) (t := b32T) (m := (0, 0))
      have RR := row_kept RR AN (row_lt RR)
      have RP := row_kept RP AN (row_lt RP)
      have A7 := A6.trans (AN.mono A6.size)
      generalize w3.alloc (.cells (nrow .u8 r).toArray b32T) = V at RG RR RP A7 ⊢
      have RT := Lib.hid (range_take (m := 8) RG)
      have LT : (nrow .u8 r).take 8 = nrow .u8 (r.take 8) := by simp [nrow, List.map_take]
      rw [LT] at RT
      obtain ⟨t, ht⟩ : ∃ t, r.take 8 = t := ⟨_, rfl⟩
      rw [ht] at RT H8 hq1
      have LC : (nrow .u8 t).length = 8 := by rw [nrow_len]; exact H8.out
      have hAA := fun W x c => arr8_at W x 8 c (Nat.le_refl 8)
      have stT := store_tag RP Q8.out H8.out
      have Hpq := Lib.hid hq1
      have HQ := Lib.hid (setT_wf Q8.out H8.out)
      clear AN RG SN A6 LT ht hq1
      go_upto_region 9 with (first
        | (refine wpList_load_mid rfl b8T (.tmp 29) rfl w3.heap.size 0 rfl (nrow .u8 t) _ RT.out Tryd.underlying24 rfl (by rw [info_b8, LC]) ?_))
      have RR := (setRow_far (w := V) (g := w.heap.size + 1) (t := pkT) (cs := (pcs (setT p1 t)).toArray) (show w.heap.size + 1 + 1 ≠ w.heap.size + 1 by omega)).trans RR
      have RP := row_written (t := pkT) (ds := (pcs (setT p1 t)).toArray) RP
      have A8 := setRow_below (g := w.heap.size + 1) (t := pkT) (cs := (pcs (setT p1 t)).toArray) A7 (by omega)
      generalize setRow V (w.heap.size + 1) pkT (pcs (setT p1 t)).toArray = V1 at RR RP A8 ⊢
      rw [← Hpq.out] at RP HQ
      have LQ := pcs_len HQ.out
      clear stT RT A7
      go_wp2_with (first
        | ((refine wpl_pk ?_ (.tmp 3) ?_ (w.heap.size + 1) q HQ.out ?_ RP ?_); (rfl); (rfl); (rfl))
        | (refine wpl_arr_store info_pk rfl (.tmp 4) (.tmp 32) rfl (w.heap.size + 1 + 1) (pcs q) (pcs pk0) LQ L0 (pcs_one _) rfl rfl RR ?_))
      exact bodyPost_ret (pk_results Tryd.results9 HQ.out rfl rfl (row_written RR)) rfl ⟨rfl, setRow_below A8 (by omega)⟩
end Go.Proofs.YtpglhkjgcahdbaaDoor
