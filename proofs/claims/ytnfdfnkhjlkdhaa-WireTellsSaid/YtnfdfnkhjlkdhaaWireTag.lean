/- A packet with another tag: plain reckoning, and its cells (the head of WireTags.body, for stage 7). -/
import Derived.Test.YtnfdfnkhjlkdhaaWire7
import Derived.Test.YtnfdfnkhjlkdhaaArrOpen
namespace Go.Proofs.Ytnfdfnkhjlkdhaa
open Go.ChangeShapes Go.WideShapes Go.ChangeAt Go.RowKit
theorem right_parts {p : Pk} (h : p.right = true) : (∀ x ∈ held p.kind, x.fits p = true) ∧ held p.kind ≠ [] ∧ p = p.copied (held p.kind) ∧ p.nobody = false := by
  unfold Pk.right at h
  simp only [Bool.and_eq_true, List.all_eq_true, decide_eq_true_eq, Bool.not_eq_true'] at h
  exact ⟨h.1, h.2.1.1, h.2.1.2, h.2.2⟩
/-- The packet with another tag. -/
def setT (p : Pk) (t : List Int) : Pk := { p with t := t }
theorem setT_wf {p : Pk} (hp : p.Wf) {t : List Int} (ht : t.length = 8) : (setT p t).Wf := ⟨hp.h, hp.s, ht⟩
theorem fold_hs (p : Pk) (t : List Int) : ∀ (l : List Pt5) (r1 r2 : Pk), r1.h = r2.h → r1.s = r2.s → (l.foldl (fun q x => x.copy (setT p t) q) r1).h = (l.foldl (fun q x => x.copy p q) r2).h ∧ (l.foldl (fun q x => x.copy (setT p t) q) r1).s = (l.foldl (fun q x => x.copy p q) r2).s
  | [], r1, r2, h1, h2 => ⟨h1, h2⟩
  | x :: l, r1, r2, h1, h2 => by
    rw [List.foldl_cons, List.foldl_cons]
    refine fold_hs p t l _ _ ?_ ?_
    · unfold Pt5.copy setT
      split
      · simp [h1]
      · split <;> exact h1
    · unfold Pt5.copy setT
      split
      · exact h2
      · split
        · rfl
        · exact h2
theorem fold_t (p : Pk) : ∀ (l : List Pt5) (r : Pk), (∀ x ∈ l, x.j ≤ 12) → (l.foldl (fun q x => x.copy p q) r).t = r.t
  | [], r, _ => rfl
  | x :: l, r, h => by
    rw [List.foldl_cons, fold_t p l _ (fun y hy => h y (List.mem_cons_of_mem _ hy))]
    have hx := h x (List.mem_cons_self ..)
    unfold Pt5.copy
    split
    · rfl
    · rw [if_pos (by omega)]
theorem held_tag (k : Int) (h : 5 ≤ k ∧ k ≤ 11) : ∃ l, held k = l ++ [ptTag] ∧ ∀ x ∈ l, x.j ≤ 12 := by
  have hc : k = 5 ∨ k = 6 ∨ k = 7 ∨ k = 8 ∨ k = 9 ∨ k = 10 ∨ k = 11 := by omega
  rcases hc with rfl | rfl | rfl | rfl | rfl | rfl | rfl
  · exact ⟨[ptSession, ptSeq], rfl, by decide⟩
  · exact ⟨[ptSession, ptSeq, ptStatus 1], rfl, by decide⟩
  · exact ⟨[ptSession, ptSeq, ptOp 1 7, ptUser 1], rfl, by decide⟩
  · exact ⟨[ptSession, ptSeq, ptUser 0, ptVersion, ptStatus 0, ptCount], rfl, by decide⟩
  · exact ⟨[ptSession, ptAck, ptSack], rfl, by decide⟩
  · exact ⟨[ptSession, ptSeq], rfl, by decide⟩
  · exact ⟨[ptSession, ptSeq, ptOp 0 15], rfl, by decide⟩
theorem held_bare (k : Int) (h : ¬ (5 ≤ k ∧ k ≤ 11)) : ∀ x ∈ held k, x.j ≤ 12 := by
  rcases held_cases k with rfl | rfl | rfl | rfl | rfl | rfl | rfl | rfl | rfl | rfl | rfl | rfl | h'
  case inr.inr.inr.inr.inr.inr.inr.inr.inr.inr.inr.inr => rw [held_none h']; intro x hx; cases hx
  all_goals first
    | (exact absurd ⟨by decide, by decide⟩ h)
    | decide
theorem right_tag {p : Pk} (h : p.right = true) (hk : 5 ≤ p.kind ∧ p.kind ≤ 11) (t : List Int) : (setT p t).right = true := by
  obtain ⟨hf, hne, hc, hn⟩ := right_parts h
  obtain ⟨l, hl, -⟩ := held_tag p.kind hk
  have e : setT p t = (setT p t).copied (held p.kind) := by
    have h1 := fold_hs p t (held p.kind) (pkBare p.kind) (pkBare p.kind) rfl rfl
    have h2 : ((setT p t).copied (held p.kind)).t = t := by
      rw [hl]
      unfold Pk.copied
      rw [List.foldl_append]
      rfl
    refine Pk.ext ?_ ?_ h2.symm
    · exact (congrArg Pk.h hc).trans h1.1.symm
    · exact (congrArg Pk.s hc).trans h1.2.symm
  unfold Pk.right
  rw [show (setT p t).kind = p.kind from rfl, List.all_eq_true.2 (fun x hx => show x.fits (setT p t) = true from hf x hx), decide_eq_true hne, decide_eq_true e, show (setT p t).nobody = p.nobody from rfl, hn]
  rfl
theorem right_bare {p : Pk} (h : p.right = true) (hk : ¬ (5 ≤ p.kind ∧ p.kind ≤ 11)) {t : List Int} (ht : t ≠ p.t) : (setT p t).right = false := by
  obtain ⟨hf, hne, hc, hn⟩ := right_parts h
  have z1 : p.t = List.replicate 8 0 := by
    rw [hc]; exact fold_t p _ _ (held_bare _ hk)
  have z2 : ((setT p t).copied (held p.kind)).t = List.replicate 8 0 := fold_t _ _ _ (held_bare _ hk)
  have e : ¬ setT p t = (setT p t).copied (held p.kind) := fun he => ht (by
    have := congrArg Pk.t he
    rw [z2] at this
    rw [z1]; exact this)
  unfold Pk.right
  rw [show (setT p t).kind = p.kind from rfl, decide_eq_false e]
  simp
theorem laid_tag (p : Pk) (t : List Int) : ∀ l : List Pt5, (∀ x ∈ l, x.j ≤ 12) → (setT p t).laid l = p.laid l := fun l h => by
  unfold Pk.laid
  congr 1
  have : ∀ l : List Pt5, (∀ x ∈ l, x.j ≤ 12) → l.flatMap (fun x => x.put (setT p t)) = l.flatMap (fun x => x.put p) := fun l => by
    induction l with
    | nil => intro _; rfl
    | cons x r ih =>
      intro h
      rw [List.flatMap_cons, List.flatMap_cons, ih (fun y hy => h y (List.mem_cons_of_mem _ hy))]
      congr 1
      have hx := h x (List.mem_cons_self ..)
      unfold Pt5.put
      split
      · rfl
      · rw [if_pos (by omega), if_pos (by omega)]; rfl
  exact this l h
theorem enc_tag {p : Pk} (hk : 5 ≤ p.kind ∧ p.kind ≤ 11) (t : List Int) : ∃ pre, p.enc = pre ++ p.t ∧ (setT p t).enc = pre ++ t ∧ 0 < pre.length := by
  obtain ⟨l, hl, h12⟩ := held_tag p.kind hk
  refine ⟨p.laid l, ?_, ?_, ?_⟩
  · unfold Pk.enc; rw [hl, Pk.laid_snoc]; rfl
  · unfold Pk.enc; rw [show (setT p t).kind = p.kind from rfl, hl, Pk.laid_snoc, laid_tag p t l h12]; rfl
  · unfold Pk.laid; rw [List.length_append, lay_len]; omega
theorem info_b8 : (Try.prog.info? b8T).map (·.size) = some 8 := by kernel_rfl
theorem wpl_mid {P : Program} {T : TypeId} {d : TypeDesc} {n : Nat} (hu : P.underlying T = some d) (hd : d.isRow = true) (hi : (P.info? T).map (·.size) = some n) {ops : Array Oper} {rest : List Oper} {o : Oper} {a : Act} {w : World} {Q : Exit → Act → World → Prop} (hgd : Region.wanted o (yielded ops a.tmps) = true) (x : Operand) (ho : o.op = .load T x) (g off : Nat) (L : List Value) (hL : L.length = n) (hx : a.eval x = .pointer (some ⟨g, off, none⟩))
    (hw : w.rangeAt g off L) (h : wpList P ops Q rest (a.put o.dst (.agg L.toArray)) w) : wpList P ops Q (o :: rest) a w :=
  BigFrame.wpList_want hgd fun _ hK => wp_load_mid T x ho g off hx L _ hw hu hd (by rw [hi, hL]) (hK _ _ h)
theorem range_tag {W : World} {g : Nat} {p : Pk} (h : W.heap[g]? = some (.cells (pcs p).toArray pkT)) (hp : p.Wf) : W.rangeAt g 28 (nrow .u8 p.t) := fun j v hv => by
  rw [cell_of_row _ _ _ _ _ _ h, List.getElem?_toArray]
  rw [← pcs_tag hp, List.getElem?_take] at hv
  split at hv
  · rwa [List.getElem?_drop] at hv
  · cases hv
theorem wpl_tag {ops : Array Oper} {rest : List Oper} {o : Oper} {a : Act} {w : World} {Q : Exit → Act → World → Prop} (hgd : Region.wanted o (yielded ops a.tmps) = true) (x : Operand) (ho : o.op = .load b8T x) (g off : Nat) (t : List Int) (ht : t.length = 8) (hx : a.eval x = .pointer (some ⟨g, off, none⟩))
    (hw : w.rangeAt g off (nrow .u8 t)) (h : wpList Try.prog ops Q rest (a.put o.dst (.agg (nrow .u8 t).toArray)) w) : wpList Try.prog ops Q (o :: rest) a w :=
  wpl_mid Try.underlying23 rfl info_b8 hgd x ho g off _ (by rw [nrow_len]; exact ht) hx hw h
theorem eql_b8 (W : World) (x y : List Int) (hx : x.length = 8) (hy : y.length = 8) : (Op.equalIn 10000 b8T (.agg (nrow .u8 x).toArray) (.agg (nrow .u8 y).toArray)).run Try.prog W = .ok (decide (x = y)) W :=
  eql_row 9998 W Try.underlying23 x y hx hy
theorem store_tag {W : World} {g : Nat} {p : Pk} (h : W.heap[g]? = some (.cells (pcs p).toArray pkT)) (hp : p.Wf) {t : List Int} (ht : t.length = 8) : (storeCells ⟨g, 28, none⟩ (nrow .u8 t) 0).run Try.prog W = .ok () (setRow W g pkT (pcs (setT p t)).toArray) := by
  have := run_storeCells_at (P := Try.prog) g 28 pkT (nrow .u8 t) 0 (pcs p).toArray W h (by simp [nrow_len, ht, pcs_len hp]) (nrow_one _ _)
  rw [this, setRow_eq h]
  congr 2
  have e := splice_tag hp ht
  unfold splice at e
  rw [show pcs (setT p t) = pcs { p with t := t } from rfl, ← e]
  simp [List.append_assoc]
theorem nums_tail {W : World} {b m : Nat} {pre r : List Int} (h : Nums .u8 W (some ⟨b, 0, none⟩) (pre ++ r)) (hm : pre.length = m) : Nums .u8 W (some ⟨b, m, none⟩) r := by
  rcases h with h | ⟨b', off, h1, h2, h3⟩
  · left
    simp at h
    exact h.2
  · injection h1 with h1
    injection h1 with e1 e2
    subst e1; subst e2
    refine Or.inr ⟨b, m, rfl, h2, fun i hi => ?_⟩
    have := h3 (m + i) (by rw [List.length_append]; omega)
    rw [Nat.zero_add] at this
    rw [this]
    congr 2
    subst hm
    simp [List.getD, List.getElem?_append_right (Nat.le_add_right _ _)]
theorem nums_row8 {W : World} {g : Nat} {t : TypeId} {l : List Int} (h : W.heap[g]? = some (.cells (nrow .u8 l).toArray t)) : Nums .u8 W (some ⟨g, 0, none⟩) l :=
  Or.inr ⟨g, 0, rfl, row_lt h, fun i hi => by rw [Nat.zero_add]; exact (row_cells h i).trans (ncs_at .u8 l i hi)⟩
end Go.Proofs.Ytnfdfnkhjlkdhaa
