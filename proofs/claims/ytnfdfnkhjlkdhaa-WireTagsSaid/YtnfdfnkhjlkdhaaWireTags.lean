/- WireTags holds for any packet and any tag: a packet may have any tag just if its kind holds one, and two packets that are unlike in their tags alone have bytes that are unlike in their last eight alone. No condition. -/
import Derived.Test.YtnfdfnkhjlkdhaaWireLaw
namespace Go.Proofs.Ytnfdfnkhjlkdhaa.wireTags
open Go.ChangeShapes Go.WideShapes Go.ChangeAt Go.RowKit

/-- The packet with another tag. -/
def setT (p : Pk) (t : List Int) : Pk := { p with t := t }
theorem setT_wf {p : Pk} (hp : p.Wf) {t : List Int} (ht : t.length = 8) : (setT p t).Wf := ⟨hp.h, hp.s, ht⟩
theorem fold_hs (p : Pk) (t : List Int) : ∀ (l : List Pt5) (r1 r2 : Pk), r1.h = r2.h → r1.s = r2.s → (l.foldl (fun q x => x.copy (setT p t) q) r1).h = (l.foldl (fun q x => x.copy p q) r2).h ∧ (l.foldl (fun q x => x.copy (setT p t) q) r1).s = (l.foldl (fun q x => x.copy p q) r2).s
  | [], r1, r2, h1, h2 => ⟨h1, h2⟩
  | x :: l, r1, r2, h1, h2 => by
    rw [List.foldl_cons, List.foldl_cons]
    refine fold_hs p t l _ _ ?_ ?_
    · unfold Pt5.copy setT
      split
      · simp [h1]
      · split <;> exact h1
    · unfold Pt5.copy setT
      split
      · exact h2
      · split
        · rfl
        · exact h2
theorem fold_t (p : Pk) : ∀ (l : List Pt5) (r : Pk), (∀ x ∈ l, x.j ≤ 12) → (l.foldl (fun q x => x.copy p q) r).t = r.t
  | [], r, _ => rfl
  | x :: l, r, h => by
    rw [List.foldl_cons, fold_t p l _ (fun y hy => h y (List.mem_cons_of_mem _ hy))]
    have hx := h x (List.mem_cons_self ..)
    unfold Pt5.copy
    split
    · rfl
    · rw [if_pos (by omega)]
theorem held_tag (k : Int) (h : 5 ≤ k ∧ k ≤ 11) : ∃ l, held k = l ++ [ptTag] ∧ ∀ x ∈ l, x.j ≤ 12 := by
  have hc : k = 5 ∨ k = 6 ∨ k = 7 ∨ k = 8 ∨ k = 9 ∨ k = 10 ∨ k = 11 := by omega
  rcases hc with rfl | rfl | rfl | rfl | rfl | rfl | rfl
  · exact ⟨[ptSession, ptSeq], rfl, by decide⟩
  · exact ⟨[ptSession, ptSeq, ptStatus 1], rfl, by decide⟩
  · exact ⟨[ptSession, ptSeq, ptOp 1 7, ptUser 1], rfl, by decide⟩
  · exact ⟨[ptSession, ptSeq, ptUser 0, ptVersion, ptStatus 0, ptCount], rfl, by decide⟩
  · exact ⟨[ptSession, ptAck, ptSack], rfl, by decide⟩
  · exact ⟨[ptSession, ptSeq], rfl, by decide⟩
  · exact ⟨[ptSession, ptSeq, ptOp 0 15], rfl, by decide⟩
theorem held_bare (k : Int) (h : ¬ (5 ≤ k ∧ k ≤ 11)) : ∀ x ∈ held k, x.j ≤ 12 := by
  rcases held_cases k with rfl | rfl | rfl | rfl | rfl | rfl | rfl | rfl | rfl | rfl | rfl | rfl | h'
  case inr.inr.inr.inr.inr.inr.inr.inr.inr.inr.inr.inr => rw [held_none h']; intro x hx; cases hx
  all_goals first
    | (exact absurd ⟨by decide, by decide⟩ h)
    | decide
theorem right_tag {p : Pk} (h : p.right = true) (hk : 5 ≤ p.kind ∧ p.kind ≤ 11) (t : List Int) : (setT p t).right = true := by
  obtain ⟨hf, hne, hc, hn⟩ := right_parts h
  obtain ⟨l, hl, -⟩ := held_tag p.kind hk
  have e : setT p t = (setT p t).copied (held p.kind) := by
    have h1 := fold_hs p t (held p.kind) (pkBare p.kind) (pkBare p.kind) rfl rfl
    have h2 : ((setT p t).copied (held p.kind)).t = t := by
      rw [hl]
      unfold Pk.copied
      rw [List.foldl_append]
      rfl
    refine Pk.ext ?_ ?_ h2.symm
    · exact (congrArg Pk.h hc).trans h1.1.symm
    · exact (congrArg Pk.s hc).trans h1.2.symm
  unfold Pk.right
  rw [show (setT p t).kind = p.kind from rfl, List.all_eq_true.2 (fun x hx => show x.fits (setT p t) = true from hf x hx), decide_eq_true hne, decide_eq_true e, show (setT p t).nobody = p.nobody from rfl, hn]
  rfl
theorem right_bare {p : Pk} (h : p.right = true) (hk : ¬ (5 ≤ p.kind ∧ p.kind ≤ 11)) {t : List Int} (ht : t ≠ p.t) : (setT p t).right = false := by
  obtain ⟨hf, hne, hc, hn⟩ := right_parts h
  have z1 : p.t = List.replicate 8 0 := by
    rw [hc]; exact fold_t p _ _ (held_bare _ hk)
  have z2 : ((setT p t).copied (held p.kind)).t = List.replicate 8 0 := fold_t _ _ _ (held_bare _ hk)
  have e : ¬ setT p t = (setT p t).copied (held p.kind) := fun he => ht (by
    have := congrArg Pk.t he
    rw [z2] at this
    rw [z1]; exact this)
  unfold Pk.right
  rw [show (setT p t).kind = p.kind from rfl, decide_eq_false e]
  simp
theorem laid_tag (p : Pk) (t : List Int) : ∀ l : List Pt5, (∀ x ∈ l, x.j ≤ 12) → (setT p t).laid l = p.laid l := fun l h => by
  unfold Pk.laid
  congr 1
  have : ∀ l : List Pt5, (∀ x ∈ l, x.j ≤ 12) → l.flatMap (fun x => x.put (setT p t)) = l.flatMap (fun x => x.put p) := fun l => by
    induction l with
    | nil => intro _; rfl
    | cons x r ih =>
      intro h
      rw [List.flatMap_cons, List.flatMap_cons, ih (fun y hy => h y (List.mem_cons_of_mem _ hy))]
      congr 1
      have hx := h x (List.mem_cons_self ..)
      unfold Pt5.put
      split
      · rfl
      · rw [if_pos (by omega), if_pos (by omega)]; rfl
  exact this l h
theorem enc_tag {p : Pk} (hk : 5 ≤ p.kind ∧ p.kind ≤ 11) (t : List Int) : ∃ pre, p.enc = pre ++ p.t ∧ (setT p t).enc = pre ++ t ∧ 0 < pre.length := by
  obtain ⟨l, hl, h12⟩ := held_tag p.kind hk
  refine ⟨p.laid l, ?_, ?_, ?_⟩
  · unfold Pk.enc; rw [hl, Pk.laid_snoc]; rfl
  · unfold Pk.enc; rw [show (setT p t).kind = p.kind from rfl, hl, Pk.laid_snoc, laid_tag p t l h12]; rfl
  · unfold Pk.laid; rw [List.length_append, lay_len]; omega
theorem info_b8 : (Try.prog.info? b8T).map (·.size) = some 8 := by kernel_rfl
theorem wpl_mid {P : Program} {T : TypeId} {d : TypeDesc} {n : Nat} (hu : P.underlying T = some d) (hd : d.isRow = true) (hi : (P.info? T).map (·.size) = some n) {ops : Array Oper} {rest : List Oper} {o : Oper} {a : Act} {w : World} {Q : Exit → Act → World → Prop} (hgd : Region.wanted o (yielded ops a.tmps) = true) (x : Operand) (ho : o.op = .load T x) (g off : Nat) (L : List Value) (hL : L.length = n) (hx : a.eval x = .pointer (some ⟨g, off, none⟩))
    (hw : w.rangeAt g off L) (h : wpList P ops Q rest (a.put o.dst (.agg L.toArray)) w) : wpList P ops Q (o :: rest) a w :=
  BigFrame.wpList_want hgd fun _ hK => wp_load_mid T x ho g off hx L _ hw hu hd (by rw [hi, hL]) (hK _ _ h)
theorem range_tag {W : World} {g : Nat} {p : Pk} (h : W.heap[g]? = some (.cells (pcs p).toArray pkT)) (hp : p.Wf) : W.rangeAt g 28 (nrow .u8 p.t) := fun j v hv => by
  rw [cell_of_row _ _ _ _ _ _ h, List.getElem?_toArray]
  rw [← pcs_tag hp, List.getElem?_take] at hv
  split at hv
  · rwa [List.getElem?_drop] at hv
  · cases hv
theorem wpl_tag {ops : Array Oper} {rest : List Oper} {o : Oper} {a : Act} {w : World} {Q : Exit → Act → World → Prop} (hgd : Region.wanted o (yielded ops a.tmps) = true) (x : Operand) (ho : o.op = .load b8T x) (g off : Nat) (t : List Int) (ht : t.length = 8) (hx : a.eval x = .pointer (some ⟨g, off, none⟩))
    (hw : w.rangeAt g off (nrow .u8 t)) (h : wpList Try.prog ops Q rest (a.put o.dst (.agg (nrow .u8 t).toArray)) w) : wpList Try.prog ops Q (o :: rest) a w :=
  wpl_mid Try.underlying23 rfl info_b8 hgd x ho g off _ (by rw [nrow_len]; exact ht) hx hw h
theorem eql_b8 (W : World) (x y : List Int) (hx : x.length = 8) (hy : y.length = 8) : (Op.equalIn 10000 b8T (.agg (nrow .u8 x).toArray) (.agg (nrow .u8 y).toArray)).run Try.prog W = .ok (decide (x = y)) W :=
  eql_row 9998 W Try.underlying23 x y hx hy
theorem store_tag {W : World} {g : Nat} {p : Pk} (h : W.heap[g]? = some (.cells (pcs p).toArray pkT)) (hp : p.Wf) {t : List Int} (ht : t.length = 8) : (storeCells ⟨g, 28, none⟩ (nrow .u8 t) 0).run Try.prog W = .ok () (setRow W g pkT (pcs (setT p t)).toArray) := by
  have := run_storeCells_at (P := Try.prog) g 28 pkT (nrow .u8 t) 0 (pcs p).toArray W h (by simp [nrow_len, ht, pcs_len hp]) (nrow_one _ _)
  rw [this, setRow_eq h]
  congr 2
  have e := splice_tag hp ht
  unfold splice at e
  rw [show pcs (setT p t) = pcs { p with t := t } from rfl, ← e]
  simp [List.append_assoc]
theorem nums_tail {W : World} {b m : Nat} {pre r : List Int} (h : Nums .u8 W (some ⟨b, 0, none⟩) (pre ++ r)) (hm : pre.length = m) : Nums .u8 W (some ⟨b, m, none⟩) r := by
  rcases h with h | ⟨b', off, h1, h2, h3⟩
  · left
    simp at h
    exact h.2
  · injection h1 with h1
    injection h1 with e1 e2
    subst e1; subst e2
    refine Or.inr ⟨b, m, rfl, h2, fun i hi => ?_⟩
    have := h3 (m + i) (by rw [List.length_append]; omega)
    rw [Nat.zero_add] at this
    rw [this]
    congr 2
    subst hm
    simp [List.getD, List.getElem?_append_right (Nat.le_add_right _ _)]
theorem nums_row8 {W : World} {g : Nat} {t : TypeId} {l : List Int} (h : W.heap[g]? = some (.cells (nrow .u8 l).toArray t)) : Nums .u8 W (some ⟨g, 0, none⟩) l :=
  Or.inr ⟨g, 0, rfl, row_lt h, fun i hi => by rw [Nat.zero_add]; exact (row_cells h i).trans (ncs_at .u8 l i hi)⟩
set_option maxRecDepth 100000 in
set_option maxHeartbeats 4000000 in
theorem walk (w : World) (p : Pk) (hp : p.Wf) (hpr : p.Rng) (hps : ∀ z ∈ p.s, 0 ≤ z ∧ z < 256) (hpt : ∀ z ∈ p.t, 0 ≤ z ∧ z < 256) (t : List Int) (ht : t.length = 8) (htw : ∀ z ∈ t, (Lit.int .u8 z).wf = true) :
    Calls Try.prog 6 #[.agg (pcs p).toArray, .agg (nrow .u8 t).toArray] w fun e w' => e = .returned (.bool true) ∧ Below w.heap.size w w' := by
  have R0 := row_new (W := w) (cs := (pcs p).toArray) (t := pkT) (m := (0, 0))
  have A0 : Below w.heap.size w (w.alloc (.cells (pcs p).toArray pkT)) := (Below.refl _ _).alloc (Nat.le_refl _) _
  have A1 := (Below.refl (w.alloc (.cells (pcs p).toArray pkT)).heap.size _).alloc (Nat.le_refl _) (.cells (nrow .u8 t).toArray b8T)
  have R1 : ((w.alloc (.cells (pcs p).toArray pkT)).alloc (.cells (nrow .u8 t).toArray b8T)).heap[w.heap.size + 1]? = some (.cells (nrow .u8 t).toArray b8T) := by
    have := row_new (W := w.alloc (.cells (pcs p).toArray pkT)) (cs := (nrow .u8 t).toArray) (t := b8T) (m := (0, 0))
    simpa using this
  have R0 := row_kept R0 A1 (row_lt R0)
  have B0 := A0.trans (A1.mono A0.size)
  have HP := Lib.hid hp
  have HT := Lib.hid ht
  have HPR := Lib.hid hpr
  have EQ := fun W => eql_b8 W t p.t ht hp.t
  have zpk := zero_pk
  have pkn := fun W => pk_new hp W
  have L := pcs_len hp
  have LT : (nrow .u8 t).length = 8 := by rw [nrow_len]; exact ht
  clear hp hpr hps hpt ht htw A0 A1
  go_enter Try.func6, Try.ntmps6
  go_wp2_with fail
  generalize (w.alloc (.cells (pcs p).toArray pkT)).alloc (.cells (nrow .u8 t).toArray b8T) = V at R0 R1 B0 ⊢
  refine (small_any V).mono ?_
  rintro e w1 ⟨rfl, hB⟩
  have R0 := row_kept R0 hB (row_lt R0)
  have R1 := row_kept R1 hB (row_lt R1)
  have B1 := B0.trans (hB.mono B0.size)
  clear hB B0
  go_wp2_with (first
    | ((refine wpl_pk ?_ (.tmp 2) ?_ w.heap.size p HP.out ?_ R0 ?_); (rfl); (rfl); (rfl)))
  refine (right_any p HP.out _).mono ?_
  rintro e w2 ⟨rfl, hB⟩
  have R0 := row_kept R0 hB (row_lt R0)
  have R1 := row_kept R1 hB (row_lt R1)
  have B2 := B1.trans (hB.mono B1.size)
  clear hB B1
  cases hr : p.right
  · clear hr
    go_wp2
    go_ret
    exact ⟨rfl, B2⟩
  · have Hr := Lib.hid hr
    clear hr
    have RT := Lib.hid (range_tag R0 HP.out)
    have RN := Lib.hid (range_row R1)
    by_cases hte : t = p.t
    · have hd : decide (t = p.t) = true := decide_eq_true hte
      rw [hd] at EQ
      clear hd hte
      go_wp2_with (first
        | ((refine wpl_tag ?_ (.tmp 3) ?_ (w.heap.size + 1) 0 t HT.out ?_ RN.out ?_); (rfl); (rfl); (rfl))
        | ((refine wpl_tag ?_ (.tmp 18) ?_ w.heap.size 28 p.t HP.out.t ?_ RT.out ?_); (rfl); (rfl); (rfl)))
      go_ret
      exact ⟨rfl, B2⟩
    · have hd : decide (t = p.t) = false := decide_eq_false hte
      rw [hd] at EQ
      have Hte := Lib.hid hte
      clear hd hte
      go_upto_region 5 with (first
        | ((refine wpl_tag ?_ (.tmp 3) ?_ (w.heap.size + 1) 0 t HT.out ?_ RN.out ?_); (rfl); (rfl); (rfl))
        | ((refine wpl_tag ?_ (.tmp 18) ?_ w.heap.size 28 p.t HP.out.t ?_ RT.out ?_); (rfl); (rfl); (rfl))
        | ((refine wpl_pk ?_ (.tmp 2) ?_ w.heap.size p HP.out ?_ R0 ?_); (rfl); (rfl); (rfl)))
      have AN := (Below.refl w2.heap.size w2).alloc (Nat.le_refl _) (.cells (pcs p).toArray pkT)
      have R6 := row_new (W := w2) (cs := (pcs p).toArray) (t := pkT) (m := (0, 0))
      have hl0 := row_lt R0
      have hl1 := row_lt R1
      have R0 := row_kept R0 AN hl0
      have R1 := row_kept R1 AN hl1
      have B3 := B2.trans (AN.mono B2.size)
      generalize w2.alloc (.cells (pcs p).toArray pkT) = X5 at R0 R1 R6 B3 ⊢
      have RN := Lib.hid (range_row R1)
      have stT := store_tag R6 HP.out HT.out
      go_upto_region 6 with (first
        | ((refine wpl_tag ?_ (.tmp 3) ?_ (w.heap.size + 1) 0 t HT.out ?_ RN.out ?_); (rfl); (rfl); (rfl)))
      have hw6 : w.heap.size ≤ w2.heap.size := by omega
      have R0 : (setRow X5 w2.heap.size pkT (pcs (setT p t)).toArray).heap[w.heap.size]? = some (.cells (pcs p).toArray pkT) := (setRow_far (by omega)).trans R0
      have R1 : (setRow X5 w2.heap.size pkT (pcs (setT p t)).toArray).heap[w.heap.size + 1]? = some (.cells (nrow .u8 t).toArray b8T) := (setRow_far (by omega)).trans R1
      have R6 := row_written (ds := (pcs (setT p t)).toArray) R6
      have B4 := setRow_below (t := pkT) (cs := (pcs (setT p t)).toArray) B3 hw6
      generalize setRow X5 w2.heap.size pkT (pcs (setT p t)).toArray = X6 at R0 R1 R6 B4 ⊢
      clear stT B3 AN RN RT pkn zpk L B2
      have HQ := Lib.hid (setT_wf HP.out HT.out)
      have HQR := Lib.hid (show (setT p t).Rng from HPR.out)
      go_wp2_with (first
        | ((refine wpl_pk ?_ (.tmp 2) ?_ w.heap.size p HP.out ?_ R0 ?_); (rfl); (rfl); (rfl)))
      refine (enc_ok p HP.out HPR.out Hr.out _).mono ?_
      rintro e w7 ⟨A7, c7, rfl, hO7, hB⟩
      have R0 := row_kept R0 hB (row_lt R0)
      have R1 := row_kept R1 hB (row_lt R1)
      have R6 := row_kept R6 hB (row_lt R6)
      have B5 := B4.trans (hB.mono B4.size)
      have HO7 := Lib.hid hO7
      clear hB B4 hO7
      go_wp2_with (first
        | ((refine wpl_pk ?_ (.tmp 6) ?_ w2.heap.size (setT p t) HQ.out ?_ R6 ?_); (rfl); (rfl); (rfl)))
      by_cases hk : 5 ≤ p.kind ∧ p.kind ≤ 11
      · have Hk := Lib.hid (show (decide (5 ≤ p.kind) && decide (p.kind ≤ 11)) = true by simp [hk])
        obtain ⟨pre, he1, he2, hpre⟩ := enc_tag hk t
        obtain ⟨m, hm⟩ : ∃ m, pre.length = m := ⟨_, rfl⟩
        rw [hm] at hpre
        have hL7 : p.enc.length = m + 8 := by rw [he1, List.length_append, hm, HP.out.t]
        have hL8 : (setT p t).enc.length = m + 8 := by rw [he2, List.length_append, hm, HT.out]
        have hm33 : m ≤ 200 := by
          have := Pk.laid_len HP.out (held p.kind) (held_ok _)
          have h2 := held_len p.kind
          have h3 : p.enc.length ≤ 1 + 16 * (held p.kind).length := this
          omega
        have Hpre := Lib.hid (And.intro he1 (And.intro he2 hm))
        rw [hL7]
        refine (enc_ok (setT p t) HQ.out HQR.out (right_tag Hr.out hk t) _).mono ?_
        rintro e w8 ⟨A8, c8, rfl, hO8, hB⟩
        have R0 := row_kept R0 hB (row_lt R0)
        have R1 := row_kept R1 hB (row_lt R1)
        have B6 := B5.trans (hB.mono B5.size)
        have hO7 := own_up HO7.out hB (Nat.le_refl _)
        rw [hL8]
        obtain ⟨b7, rfl⟩ : ∃ b, A7 = some ⟨b, 0, none⟩ := by
          rcases hO7.1.2 with ⟨h1, h0⟩ | ⟨g, _, _, hv, _⟩
          · omega
          · injection hv with hv; exact ⟨g, hv⟩
        obtain ⟨b8, rfl⟩ : ∃ b, A8 = some ⟨b, 0, none⟩ := by
          rcases hO8.1.2 with ⟨h1, h0⟩ | ⟨g, _, _, hv, _⟩
          · omega
          · injection hv with hv; exact ⟨g, hv⟩
        have c7l := hO7.len
        have c8l := hO8.len
        rw [hL7] at c7l
        rw [hL8] at c8l
        have k7 : m + 8 ≤ c7 := c7l.1
        have k8 : m + 8 ≤ c8 := c8l.1
        have i7 : c7 ≠ m := by omega
        have i8 : c8 ≠ m := by omega
        have x7 : c7 ≤ 9223372036854775807 := by have := c7l.2; unfold maxLen at this; omega
        have x8 : c8 ≤ 9223372036854775807 := by have := c8l.2; unfold maxLen at this; omega
        have HN7 := Lib.hid hO7.nums
        have HN8 := Lib.hid hO8.nums
        have c0 := pk_cell R0 HP.out 0 (by decide)
        rw [show p.h.getD 0 0 = p.kind from rfl] at c0
        clear hB B5 hO8 hO7 HO7 hk R6 he1 he2 hm hL7 hL8 c7l c8l
        go_wp2_with fail
        refine (tagged_any _ _).mono ?_
        rintro e w' ⟨rfl, rfl⟩
        rw [Hk.out]
        have m0 : (0 : Int) < (m : Int) := by omega
        have m1 : (m : Int) ≤ 200 := by omega
        go_upto_region 11 with (fail)
        obtain ⟨Ta, hTa⟩ : ∃ T, strOfNums pre = T := ⟨_, rfl⟩
        obtain ⟨Tb, hTb⟩ : ∃ T, strOfNums t = T := ⟨_, rfl⟩
        obtain ⟨Tc, hTc⟩ : ∃ T, strOfNums p.t = T := ⟨_, rfl⟩
        obtain ⟨he1, he2, hm⟩ := Hpre.out
        have N7 : Nums .u8 w8 (some ⟨b7, 0, none⟩) (pre ++ p.t) := by rw [← he1]; exact HN7.out
        have N8 : Nums .u8 w8 (some ⟨b8, 0, none⟩) (pre ++ t) := by rw [← he2]; exact HN8.out
        have N7a : Nums .u8 w8 (some ⟨b7, 0, none⟩) pre := by
          have := N7.take m
          rwa [List.take_append_of_le_length (by omega), List.take_of_length_le (by omega)] at this
        have N8a : Nums .u8 w8 (some ⟨b8, 0, none⟩) pre := by
          have := N8.take m
          rwa [List.take_append_of_le_length (by omega), List.take_of_length_le (by omega)] at this
        have N7b : Nums .u8 w8 (some ⟨b7, m, none⟩) p.t := nums_tail N7 hm
        have N8b : Nums .u8 w8 (some ⟨b8, m, none⟩) t := nums_tail N8 hm
        have Nt := nums_row8 R1
        have Np := nums_tag R0 HP.out
        have U1 : ∀ u : Over w8.heap.size w8, (convert 26 9 (.slice (some ⟨b7, 0, none⟩) m c7)).run Try.prog u.val = .ok (.string Ta) u.val := fun u => by
          rw [← hTa]; exact text_of_nums Try.underlying26 Try.underlying5 Try.underlying9 (N7a.below u.below) hm
        have U2 : ∀ u : Over w8.heap.size w8, (convert 26 9 (.slice (some ⟨b8, 0, none⟩) m c8)).run Try.prog u.val = .ok (.string Ta) u.val := fun u => by
          rw [← hTa]; exact text_of_nums Try.underlying26 Try.underlying5 Try.underlying9 (N8a.below u.below) hm
        have U3 : ∀ u : Over w8.heap.size w8, (convert 26 9 (.slice (some ⟨b8, m, none⟩) 8 (c8 - m))).run Try.prog u.val = .ok (.string Tb) u.val := fun u => by
          rw [← hTb]; exact text_of_nums Try.underlying26 Try.underlying5 Try.underlying9 (N8b.below u.below) HT.out
        have U4 : ∀ u : Over w8.heap.size w8, (convert 26 9 (.slice (some ⟨w.heap.size + 1, 0, none⟩) 8 8)).run Try.prog u.val = .ok (.string Tb) u.val := fun u => by
          rw [← hTb]; exact text_of_nums Try.underlying26 Try.underlying5 Try.underlying9 (Nt.below u.below) HT.out
        have U5 : ∀ u : Over w8.heap.size w8, (convert 26 9 (.slice (some ⟨b7, m, none⟩) 8 (c7 - m))).run Try.prog u.val = .ok (.string Tc) u.val := fun u => by
          rw [← hTc]; exact text_of_nums Try.underlying26 Try.underlying5 Try.underlying9 (N7b.below u.below) HP.out.t
        have U6 : ∀ u : Over w8.heap.size w8, (convert 26 9 (.slice (some ⟨w.heap.size, 28, none⟩) 8 8)).run Try.prog u.val = .ok (.string Tc) u.val := fun u => by
          rw [← hTc]; exact text_of_nums Try.underlying26 Try.underlying5 Try.underlying9 (Np.below u.below) HP.out.t
        have HB := Lib.hid (show ∀ u : Over w8.heap.size w8, Below w.heap.size w u.val from fun u => B6.trans (u.below.mono B6.size))
        clear hTa hTb hTc he1 he2 hm N7 N8 N7a N8a N7b N8b Nt Np R0 R1 B6 HN7 HN8 Hpre c0
        refine region_class (fun u : Over w8.heap.size w8 => u.val) ⟨w8.drew, below_drewN (Below.refl _ _) 1⟩ rfl (by kernel_rfl) (by kernel_rfl) ?_
        repeat (go_big_quiet_step (fail))
        with_reducible refine wpQuiet_nil ?_
        rintro _ ⟨u, rfl⟩
        have B2 := HB.out u
        generalize u.val = W at B2 ⊢
        go_wp2
        go_ret
        exact ⟨ret_bool (by simp), B2⟩
      · have Hk := Lib.hid (show (decide (5 ≤ p.kind) && decide (p.kind ≤ 11)) = false by simp; omega)
        refine (enc_bad (setT p t) HQ.out (right_bare Hr.out hk Hte.out) _).mono ?_
        rintro e w8 ⟨rfl, hB⟩
        have R0 := row_kept R0 hB (row_lt R0)
        have B6 := B5.trans (hB.mono B5.size)
        have c0 := pk_cell R0 HP.out 0 (by decide)
        rw [show p.h.getD 0 0 = p.kind from rfl] at c0
        clear hB B5 hk R6 R1 HO7
        go_wp2_with fail
        refine (tagged_any _ _).mono ?_
        rintro e w' ⟨rfl, rfl⟩
        rw [Hk.out]
        go_wp2
        go_ret
        exact ⟨rfl, B6⟩
theorem own : ownKnob Try.prog.godebug = none := by kernel_rfl
theorem laid : laidOutB Try.prog = true := by kernel_rfl

set_option maxRecDepth 100000 in
theorem lifted (os : Os) (started : os.Started) (H : Type) (enc : TypeId × Value → H) :
    ReturnsInHanded {} Try.checked os 6 .any (Rows.wireTagsSpec.pre6 enc Try.prog Try.f6 Rows.wireTagsRow.domain false) (Rows.wireTagsSpec.post enc Try.prog Try.f6 false true false false) := by
  refine law_lifted (C := Try.checked) (B := 4) own started (by kernel_rfl) Try.func6
    (ChangeSpec.witness6 (enc := enc) (C := Try.checked) false ⟨#[], #[.agg #[.int .i64 0, .int .i64 0, .int .i64 0, .int .i64 0, .int .i64 0, .int .i64 0, .int .i64 0, .int .i64 0, .int .i64 0, .int .i64 0, .int .i64 0, .int .i64 0, .int .u8 0, .int .u8 0, .int .u8 0, .int .u8 0, .int .u8 0, .int .u8 0, .int .u8 0, .int .u8 0, .int .u8 0, .int .u8 0, .int .u8 0, .int .u8 0, .int .u8 0, .int .u8 0, .int .u8 0, .int .u8 0, .int .u8 0, .int .u8 0, .int .u8 0, .int .u8 0, .int .u8 0, .int .u8 0, .int .u8 0, .int .u8 0], .agg #[.int .u8 0, .int .u8 0, .int .u8 0, .int .u8 0, .int .u8 0, .int .u8 0, .int .u8 0, .int .u8 0]], []⟩ 8 (by kernel_rfl) (by kernel_rfl) (by kernel_rfl) (by kernel_rfl))
    rfl rfl Try.underlying4 laid (of_decide_eq_true (by kernel_rfl)) ?_ ?_
  · intro ds hl
    rw [Try.params6] at hl
    match ds, hl with
    | [d0, d1], _ => rfl
  · intro W base args ds ps hval hA hlt hz
    rw [Try.params6] at hA hval
    obtain ⟨v0, vs0, d0, ds0, p0, q0, hargs, rfl, rfl, h0, r0⟩ := trodAll_cons hA
    obtain ⟨v1, vs1, d1, ds1, p1, q1, rfl, rfl, rfl, h1, r1⟩ := trodAll_cons r0
    obtain ⟨rfl, rfl, rfl⟩ := trodAll_nil r1
    obtain rfl : args = #[v0, v1] := by cases args; simp_all
    obtain ⟨p'0, rfl, hwf0, hrg0, hs0, ht0⟩ := open_packet (hval 0 25 v0 rfl rfl) h0
    obtain ⟨l1, rfl, hl1, hw1⟩ := open_arr Try.underlying23 Try.underlying5 (by kernel_rfl) (by kernel_rfl) (hval 1 23 v1 rfl rfl) h1
    exact walk W p'0 hwf0 hrg0 hs0 ht0 l1 hl1 hw1

theorem over : Rows.wireTagsRow.holds Try.pinned (OpenSpec.ofChange Rows.wireTagsSpec) :=
  OpenClaim.holds_of_wide 6 Try.f6 rfl rfl rfl rfl rfl rfl rfl ⟨rfl, rfl, rfl, rfl, rfl⟩ rfl rfl rfl rfl rfl (by kernel_rfl) Try.func6 (by kernel_rfl)
    (of_decide_eq_true (by kernel_rfl)) (by unfold Func.isWrapper; first | (rw [if_pos (by decide +kernel)]; kernel_rfl) | (rw [if_neg (by decide +kernel)]; exact ⟨rfl, rfl⟩))
    (fun os started H enc _ => lifted os started H enc)

theorem proved : Rows.WireTagsSaid := over
#print axioms proved
end Go.Proofs.Ytnfdfnkhjlkdhaa.wireTags
