/- The document's own packets: which are right. -/
import Derived.Test.YtnfdfnkhjlkdhaaWRef2
import Derived.Test.YtnfdfnkhjlkdhaaWireTag
namespace Go.Proofs.Ytnfdfnkhjlkdhaa
open Go.ChangeShapes Go.WideShapes Go.ChangeAt Go.RowKit
theorem Pt5.rc_len (x : Pt5) : x.rc.length = 4 := rfl
theorem flat4_at : ∀ (l : List Pt5) (i : Nat) (x : Pt5), l[i]? = some x → ∀ (j : Nat), j < 4 → (l.flatMap Pt5.rc)[i * 4 + j]? = x.rc[j]?
  | [], i, x, h, _, _ => by cases h
  | y :: r, 0, x, h, j, hj => by
    simp at h
    subst h
    rw [List.flatMap_cons, List.getElem?_append_left (by rw [Pt5.rc_len]; omega)]
    simp
  | y :: r, i + 1, x, h, j, hj => by
    rw [List.flatMap_cons, List.getElem?_append_right (by rw [Pt5.rc_len]; omega), Pt5.rc_len]
    have := flat4_at r i x (by simpa using h) j hj
    rw [show (i + 1) * 4 + j - 4 = i * 4 + j by omega]
    exact this
def RPtsIn (G : Nat) (w : World) (A : Option Addr) (l : List Pt5) : Prop := l = [] ∨ ∃ g t, A = some ⟨g, 0, none⟩ ∧ g < G ∧ w.heap[g]? = some (.cells (l.flatMap Pt5.rc).toArray t)
theorem RPtsAt.inn {w : World} {A : Option Addr} {l : List Pt5} (h : RPtsAt w A l) : RPtsIn w.heap.size w A l := by
  rcases h with h | ⟨g, t, h1, h2⟩
  · exact Or.inl h
  · exact Or.inr ⟨g, t, h1, row_lt h2, h2⟩
theorem RPtsIn.low {G B : Nat} {w w' : World} {A : Option Addr} {l : List Pt5} (h : RPtsIn G w A l) (hb : Below B w w') (hG : G ≤ B) : RPtsIn G w' A l := by
  rcases h with h | ⟨g, t, h1, h2, h3⟩
  · exact Or.inl h
  · exact Or.inr ⟨g, t, h1, h2, (hb.block g (by omega)).trans h3⟩
theorem rcell {W : World} {g : Nat} {l : List Pt5} {t : TypeId} (h : W.heap[g]? = some (.cells (l.flatMap Pt5.rc).toArray t)) {i : Nat} {x : Pt5} (hx : l[i]? = some x) (j : Nat) (hj : j < 4) : W.cell? ⟨g, i * 4 + j, none⟩ = x.rc[j]? := by
  rw [cell_of_row _ _ _ _ _ _ h, List.getElem?_toArray, flat4_at l i x hx j hj]
theorem range_secret {W : World} {g : Nat} {p : Pk} (h : W.heap[g]? = some (.cells (pcs p).toArray pkT)) (hp : p.Wf) : W.rangeAt g 12 (nrow .u8 p.s) := fun j v hv => by
  rw [cell_of_row _ _ _ _ _ _ h, List.getElem?_toArray]
  rw [← pcs_secret hp, List.getElem?_take] at hv
  split at hv
  · rwa [List.getElem?_drop] at hv
  · cases hv
theorem store_secret {W : World} {g : Nat} {p : Pk} (h : W.heap[g]? = some (.cells (pcs p).toArray pkT)) (hp : p.Wf) {s : List Int} (hs : s.length = 16) : (storeCells ⟨g, 12, none⟩ (nrow .u8 s) 0).run Try.prog W = .ok () (setRow W g pkT (pcs { p with s := s }).toArray) := by
  have := run_storeCells_at (P := Try.prog) g 12 pkT (nrow .u8 s) 0 (pcs p).toArray W h (by simp [nrow_len, hs, pcs_len hp]) (nrow_one _ _)
  rw [this, setRow_eq h]
  congr 2
  have e := splice_secret hp hs
  unfold splice at e
  rw [← e]
  simp [List.append_assoc]
theorem wpl_s16 {ops : Array Oper} {rest : List Oper} {o : Oper} {a : Act} {w : World} {Q : Exit → Act → World → Prop} (hgd : Region.wanted o (yielded ops a.tmps) = true) (x : Operand) (ho : o.op = .load b16T x) (g off : Nat) (t : List Int) (ht : t.length = 16) (hx : a.eval x = .pointer (some ⟨g, off, none⟩))
    (hw : w.rangeAt g off (nrow .u8 t)) (h : wpList Try.prog ops Q rest (a.put o.dst (.agg (nrow .u8 t).toArray)) w) : wpList Try.prog ops Q (o :: rest) a w :=
  wpl_mid Try.underlying22 rfl (show (Try.prog.info? b16T).map (·.size) = some 16 by kernel_rfl) hgd x ho g off _ (by rw [nrow_len]; exact ht) hx hw h
theorem wpQuiet_pk' {α : Type} {f : α → World} {ops : Array Oper} {rest : List Oper} {o : Oper} {a : Act} {Q : Act → Prop} (hgd : Region.wanted o (yielded ops a.tmps) = true) (x : Operand) (ho : o.op = .load pkT x) (g : Nat) (p : Pk) (hp : p.Wf) (hx : a.eval x = .pointer (some ⟨g, 0, none⟩))
    (hw : ∀ m, (f m).heap[g]? = some (.cells (pcs p).toArray pkT)) (h : wpQuiet Try.prog ops (fun w' => ∃ m, w' = f m) Q rest (a.put o.dst (.agg (pcs p).toArray))) : wpQuiet Try.prog ops (fun w' => ∃ m, w' = f m) Q (o :: rest) a :=
  BigFrame.wpQuiet_want hgd fun _ hK => ⟨.agg (pcs p).toArray, fun w' ⟨m, hm⟩ => by
    subst hm
    have hl := run_loadVar_mid (P := Try.prog) (f m) g 0 pkT (pcs p) _ (range_row (hw m)) Try.underlying25 rfl (by rw [info_pk, pcs_len hp])
    unfold Oper.quietAt execOp
    simp only [ho, hx, Instr.loadAt, Instr.sureAddr, Sem.run_bind, Sem.run_pure, Result.andThen_ok, hl]
    exact ⟨rfl, rfl⟩, hK _ h⟩
theorem wp_pickT {P : Program} {o : Oper} {a : Act} {w : World} {K : Act → World → Prop} {Q : Exit → Act → World → Prop} (c x y : Operand) (h : o.op = .pick c x y) (hc : a.eval c = .bool true)
    (hk : K (a.put o.dst (a.eval x)) w) : o.wp P a w K Q := by
  unfold Oper.wp execOp
  simp only [h, hc]
  exact hk
set_option maxRecDepth 10000 in
set_option maxHeartbeats 40000000 in
theorem rwright_any (p : Pk) (hp : p.Wf) (w : World) : Calls Try.prog 16 #[.agg (pcs p).toArray] w fun e w' => e = .returned (.bool p.right) ∧ Below w.heap.size w w' := by
  have R0 := row_new (W := w) (cs := (pcs p).toArray) (t := pkT) (m := (0, 0))
  have B0 : Below w.heap.size w (w.alloc (.cells (pcs p).toArray pkT)) := (Below.refl _ _).alloc (Nat.le_refl _) _
  have c0 := pk_cell R0 hp 0 (by decide)
  obtain ⟨K, hK⟩ : ∃ K, p.h.getD 0 0 = K := ⟨_, rfl⟩
  rw [hK] at c0
  obtain ⟨l, hl⟩ : ∃ l, held K = l := ⟨_, rfl⟩
  obtain ⟨n, hn⟩ : ∃ n, l.length = n := ⟨_, rfl⟩
  have hn7 : n ≤ 7 := by rw [← hn, ← hl]; exact held_len K
  have Hok := Lib.hid (show ∀ x ∈ l, x.Ok by rw [← hl]; exact held_ok K)
  have Hright := Lib.hid (show p.right = (l.all (fun x => x.fits p) && (decide (l ≠ []) && decide (p = p.copied l) && !p.nobody)) by unfold Pk.right; rw [show p.kind = K from hK, hl])
  have Hbare := Lib.hid (show p.copied [] = pkBare K by show pkBare p.kind = _; rw [show p.kind = K from hK])
  have HK := Lib.hid hK
  have HP := Lib.hid hp
  have zpk := zero_pk
  have pkn : ∀ W : World, (storeCells ⟨W.heap.size, 0, none⟩ ((pcs pk0).set 0 (.int .i64 K)) 0).run Try.prog (W.alloc (.cells (pcs pk0).toArray pkT)) = .ok () (W.alloc (.cells (pcs (pkBare K)).toArray pkT)) := fun W => by
    rw [pcs_set pk0_wf 0 (by decide)]
    exact pk_new (pkBare_wf K) W
  have Lb : (pcs (pkBare K)).length = 36 := pcs_len (pkBare_wf K)
  have Hl := Lib.hid hl
  have Hn := Lib.hid hn
  clear hK hl hn hp
  go_enter Try.func16, Try.ntmps16
  go_wp2_with fail
  generalize w.alloc (.cells (pcs p).toArray pkT) = V0 at R0 B0 c0 ⊢
  refine (rparts_any K V0).mono ?_
  rintro e w1 ⟨A, rfl, HA, hB1⟩
  rw [Hl.out, Hn.out]
  rw [Hl.out] at HA
  have R1 := row_kept R0 hB1 (row_lt R0)
  have B1 := B0.trans (hB1.mono B0.size)
  have c1 := (row_cells R1 0).trans ((cell_of_row _ _ _ _ _ _ R0).symm.trans c0)
  clear hB1 B0 R0 c0
  go_upto_region 3 with (fail)
  have AN := (Below.refl w1.heap.size w1).alloc (Nat.le_refl _) (.cells (pcs (pkBare K)).toArray pkT)
  have RB := row_new (W := w1) (cs := (pcs (pkBare K)).toArray) (t := pkT) (m := (0, 0))
  have hlt := row_lt R1
  have R1 := row_kept R1 AN hlt
  have HA := HA.inn.low AN (Nat.le_refl _)
  have B2 := B1.trans (AN.mono B1.size)
  generalize w1.alloc (.cells (pcs (pkBare K)).toArray pkT) = W at RB R1 HA B2 ⊢
  obtain ⟨gq, hgq⟩ : ∃ g, g = w1.heap.size := ⟨_, rfl⟩
  rw [← hgq] at RB hlt HA ⊢
  have H0 := Lib.hid (And.intro RB (And.intro R1 (And.intro B2 HA)))
  clear AN B1 c1 hgq RB R1 B2 HA
  go_wp2_with fail
  go_loopw [5] (fun i wr => ∃ k : Nat, k ≤ n ∧ i = .int .i64 k ∧ (∀ x ∈ l.take k, x.fits p = true) ∧ wr.heap[w.heap.size]? = some (.cells (pcs p).toArray pkT) ∧ wr.heap[gq]? = some (.cells (pcs (p.copied (l.take k))).toArray pkT) ∧ RPtsIn gq wr A l ∧ Below w.heap.size w wr) (fun i _ => n - (intOf i).toNat)
  case atStart => exact ⟨0, Nat.zero_le _, rfl, fun x hx => (by cases hx), H0.out.2.1, (by rw [List.take_zero, Hbare.out]; exact H0.out.1), H0.out.2.2.2, H0.out.2.2.1⟩
  case round =>
    obtain ⟨k, hk, rfl, hfits, R1, RB, HA, hB⟩ := hrel
    clear H0
    by_cases hkn : k < n
    · obtain ⟨x, hx⟩ : ∃ x, l[k]? = some x := ⟨_, List.getElem?_eq_getElem (by rw [Hn.out]; exact hkn)⟩
      have hxo := Hok.out x (List.mem_of_getElem? hx)
      rcases HA with h0 | ⟨gA, tA, rfl, hgA, RA⟩
      · rw [h0] at hx; cases hx
      have HX := Lib.hid hx
      have HXO := Lib.hid hxo
      have Hfits := Lib.hid hfits
      have Htake := Lib.hid (take_snoc5 hx)
      have q0 : (0 : Int) ≤ (k : Int) := by omega
      have q1 : (k : Int) < (n : Int) := by omega
      have q2 : (n : Int) ≤ 7 := by omega
      have HC := Lib.hid (show ∀ W : World, W.heap[gA]? = some (.cells (l.flatMap Pt5.rc).toArray tA) → (W.cell? ⟨gA, k * 4, none⟩ = some (.int .i64 ((x.j : Int) - 1)) ∧ W.cell? ⟨gA, k * 4 + 2, none⟩ = some (.int .i64 x.lo) ∧ W.cell? ⟨gA, k * 4 + 3, none⟩ = some (.int .i64 x.hi)) from fun W h => ⟨by have := rcell h hx 0 (by decide); simpa [Pt5.rc] using this, by have := rcell h hx 2 (by decide); simpa [Pt5.rc] using this, by have := rcell h hx 3 (by decide); simpa [Pt5.rc] using this⟩)
      have Hcp := Lib.hid (show p.copied (l.take (k + 1)) = x.copy p (p.copied (l.take k)) by rw [take_snoc5 hx, Pk.copied_snoc])
      have HWC := Lib.hid (Pk.copied_wf HP.out (l.take k))
      obtain ⟨b, hb⟩ : ∃ b, p.copied (l.take k) = b := ⟨_, rfl⟩
      rw [hb] at RB Hcp HWC
      have hgw : w.heap.size ≠ gq := Nat.ne_of_lt hlt
      have hgAq : gA ≠ gq := Nat.ne_of_lt hgA
      clear hx hxo hfits hb
      obtain ⟨C0, C2, C3⟩ := HC.out _ RA
      have hFin := Lib.hid (show ∀ (b' : Pk) (W : World), x.copy p b = b' → x.fits p = true → Below w.heap.size w W → W.heap[w.heap.size]? = some (.cells (pcs p).toArray pkT) → W.heap[gA]? = some (.cells (l.flatMap Pt5.rc).toArray tA) → W.heap[gq]? = some (.cells (pcs b').toArray pkT) →
        (k + 1 ≤ n ∧ (∀ y ∈ l.take (k + 1), y.fits p = true) ∧ W.heap[w.heap.size]? = some (.cells (pcs p).toArray pkT) ∧ W.heap[gq]? = some (.cells (pcs (p.copied (l.take (k + 1)))).toArray pkT) ∧ RPtsIn gq W (some ⟨gA, 0, none⟩) l ∧ Below w.heap.size w W) from fun b' W h1 hf hb r1 ra rb =>
        ⟨by omega, fun y hy => by
          rw [Htake.out, List.mem_append] at hy
          rcases hy with hy | hy
          · exact Hfits.out y hy
          · rw [List.mem_singleton.1 hy]; exact hf, r1, by rw [Hcp.out, h1]; exact rb, Or.inr ⟨gA, tA, rfl, hgA, ra⟩, hb⟩)
      have hj1 := HXO.out.j1
      have hj2 := HXO.out.j2
      have hcase : (x.j = 12) ∨ (x.j = 13) ∨ (x.j ≤ 11) := by omega
      rcases hcase with hj | hj | hj
      · -- the secret
        have hv : ((x.j : Int) - 1) = 11 := by omega
        rw [hv] at C0
        have hcp : x.copy p b = { b with s := p.s } := by unfold Pt5.copy; rw [if_neg (by omega), if_pos hj]
        have hft : x.fits p = true := by unfold Pt5.fits; rw [if_neg (by omega)]
        have RS := Lib.hid (range_secret R1 HP.out)
        have stS := store_secret RB HWC.out HP.out.s
        have LS : (nrow .u8 p.s).length = 16 := by rw [nrow_len]; exact HP.out.s
        clear hj hj1 hj2 hv
        go_wp2_with (first
          | ((refine wpl_s16 ?_ (.tmp 58) ?_ w.heap.size 12 p.s HP.out.s ?_ RS.out ?_); (rfl); (rfl); (rfl)))
        go_roundw
        case rel =>
          have h := hFin.out _ _ hcp hft (setRow_below (g := gq) (t := pkT) (cs := (pcs { b with s := p.s }).toArray) hB (Nat.le_of_lt hlt)) ((setRow_far hgw).trans R1) ((setRow_far hgAq).trans RA) (row_written RB)
          exact ⟨k + 1, h.1, by go_num, h.2⟩
        case measure => simp [intOf]; omega
      · -- the tag
        have hv : ((x.j : Int) - 1) = 12 := by omega
        rw [hv] at C0
        have hcp : x.copy p b = setT b p.t := by unfold Pt5.copy setT; rw [if_neg (by omega), if_neg (by omega)]
        have hft : x.fits p = true := by unfold Pt5.fits; rw [if_neg (by omega)]
        have RS := Lib.hid (range_tag R1 HP.out)
        have stS := store_tag RB HWC.out HP.out.t
        have LS : (nrow .u8 p.t).length = 8 := by rw [nrow_len]; exact HP.out.t
        clear hj hj1 hj2 hv
        go_wp2_with (first
          | ((refine wpl_tag ?_ (.tmp 63) ?_ w.heap.size 28 p.t HP.out.t ?_ RS.out ?_); (rfl); (rfl); (rfl)))
        go_roundw
        case rel =>
          have h := hFin.out _ _ hcp hft (setRow_below (g := gq) (t := pkT) (cs := (pcs (setT b p.t)).toArray) hB (Nat.le_of_lt hlt)) ((setRow_far hgw).trans R1) ((setRow_far hgAq).trans RA) (row_written RB)
          exact ⟨k + 1, h.1, by go_num, h.2⟩
        case measure => simp [intOf]; omega
      · -- a number
        obtain ⟨v, hv⟩ : ∃ v, ((x.j : Int) - 1) = v := ⟨_, rfl⟩
        have HV := Lib.hid hv
        have HJ := Lib.hid (And.intro hj1 hj)
        obtain ⟨y, hy⟩ : ∃ y, p.h.getD x.j 0 = y := ⟨_, rfl⟩
        have Hy := Lib.hid hy
        have v11 : (v == 11) = false := beq_eq_false_iff_ne.2 (by omega)
        have v12 : (v == 12) = false := beq_eq_false_iff_ne.2 (by omega)
        rw [hv] at C0 HC
        have hft : x.fits p = (decide (x.lo ≤ y) && decide (y ≤ x.hi)) := by unfold Pt5.fits; rw [if_pos hj, hy]
        have hcp : x.copy p b = { b with h := b.h.set x.j y } := by unfold Pt5.copy; rw [if_pos hj, hy]
        obtain ⟨b', hb'⟩ : ∃ b', ({ b with h := b.h.set x.j y } : Pk) = b' := ⟨_, rfl⟩
        have Hb' := Lib.hid hb'
        have Hcp' := Lib.hid (hcp.trans hb')
        have Hb'w := Lib.hid (show b'.Wf by rw [← hb']; exact ⟨by rw [List.length_set]; exact HWC.out.h, HWC.out.s, HWC.out.t⟩)
        have Hft := Lib.hid hft
        clear hv hj1 hj2 hj hy hft hcp hb'
        go_upto_region 7 with (fail)
        have HU := Lib.hid (show ∀ u : Over wr.heap.size wr, u.val.heap[w.heap.size]? = some (.cells (pcs p).toArray pkT) from fun u => row_kept R1 u.below (row_lt R1))
        have HUC := fun u : Over wr.heap.size wr => (HC.out _ (row_kept RA u.below (row_lt RA))).1
        have HG := Lib.hid (show ∀ u : Over wr.heap.size wr, Calls Try.prog 24 #[.agg (pcs p).toArray, .int .i64 v] u.val fun e w' => e = .returned (.int .i64 y) ∧ Below u.val.heap.size u.val w' from fun u => rget_any p HP.out x.j HJ.out.1 HJ.out.2 u.val v HV.out y Hy.out)
        refine region_class (fun u : Over wr.heap.size wr => u.val) ⟨wr.drew, below_drewN (Below.refl _ _) 1⟩ rfl (by kernel_rfl) (by kernel_rfl) ?_
        repeat (first
          | ((with_reducible refine wpQuiet_pk' ?_ (.tmp 1) ?_ w.heap.size p HP.out ?_ (fun u => HU.out u) ?_); (rfl); (rfl); (rfl); (conv => arg 6; simp only [Act.put, List.setIfInBounds_toArray, List.set_cons_succ, List.set_cons_zero]))
          | go_big_quiet_step ((first
            | (go_at_call 24; with_reducible exact over_left (Nat.le_refl _) (HG.out _)))))
        with_reducible refine wpQuiet_nil ?_
        rintro _ ⟨u, rfl⟩
        have u2 := u.below
        generalize u.val = w2 at u2 ⊢
        have R1 := row_kept R1 u2 (row_lt R1)
        have RA := row_kept RA u2 (row_lt RA)
        have RB := row_kept RB u2 (row_lt RB)
        have B2 := hB.trans (u2.mono hB.size)
        obtain ⟨D0, D2, D3⟩ := HC.out _ RA
        clear HU HUC HG C0 C2 C3 hB u2
        by_cases hlo : y < x.lo
        · have hR := Lib.hid (show p.right = false by
            rw [Hright.out, List.all_eq_false.2 ⟨x, List.mem_of_getElem? HX.out, by rw [Hft.out, decide_eq_false (show ¬ x.lo ≤ y by omega)]; simp⟩]; rfl)
          go_wp2
          go_ret
          exact ⟨by rw [hR.out]; rfl, B2⟩
        · by_cases hhi : x.hi < y
          · have hR := Lib.hid (show p.right = false by
              rw [Hright.out, List.all_eq_false.2 ⟨x, List.mem_of_getElem? HX.out, by rw [Hft.out, decide_eq_false (show ¬ y ≤ x.hi by omega), Bool.and_false]; simp⟩]; rfl)
            have hlo2 : x.lo ≤ y := by omega
            go_wp2
            go_ret
            exact ⟨by rw [hR.out]; rfl, B2⟩
          · have hlo2 : x.lo ≤ y := by omega
            have hhi2 : y ≤ x.hi := by omega
            have hft1 : x.fits p = true := by rw [Hft.out, decide_eq_true hlo2, decide_eq_true hhi2]; rfl
            have Hft1 := Lib.hid hft1
            clear hft1
            go_upto_region 10 with (fail)
            have HU := Lib.hid (show ∀ u : Over w2.heap.size w2, u.val.heap[gq]? = some (.cells (pcs b).toArray pkT) from fun u => row_kept RB u.below (row_lt RB))
            have HUC := fun u : Over w2.heap.size w2 => (HC.out _ (row_kept RA u.below (row_lt RA))).1
            have HG := Lib.hid (show ∀ u : Over w2.heap.size w2, Calls Try.prog 32 #[.agg (pcs b).toArray, .int .i64 v, .int .i64 y] u.val fun e w' => e = .returned (.agg (pcs b').toArray) ∧ Below u.val.heap.size u.val w' from fun u => rwith_any b HWC.out x.j HJ.out.1 HJ.out.2 y u.val v HV.out b' Hb'.out)
            refine region_tail_class (fun u : Over w2.heap.size w2 => u.val) ⟨w2.drew, below_drewN (Below.refl _ _) 1⟩ rfl 8 (by kernel_rfl) (by kernel_rfl) ?_
            simp only [List.take_succ_cons, List.take_zero, List.drop_succ_cons, List.drop_zero]
            repeat (first
              | ((with_reducible refine wpQuiet_pk' ?_ (.tmp 4) ?_ gq b HWC.out ?_ (fun u => HU.out u) ?_); (rfl); (rfl); (rfl); (conv => arg 6; simp only [Act.put, List.setIfInBounds_toArray, List.set_cons_succ, List.set_cons_zero]))
              | go_big_quiet_step ((first
                | (go_at_call 32; with_reducible exact over_left (Nat.le_refl _) (HG.out _)))))
            with_reducible refine wpQuiet_nil ?_
            rintro _ ⟨u, rfl⟩
            have u3 := u.below
            generalize u.val = w3 at u3 ⊢
            have R1 := row_kept R1 u3 (row_lt R1)
            have RA := row_kept RA u3 (row_lt RA)
            have RB := row_kept RB u3 (row_lt RB)
            have B3 := B2.trans (u3.mono B2.size)
            clear HU HUC HG D0 D2 D3 B2 u3
            have Lb' := pcs_len Hb'w.out
            have Lbb := pcs_len HWC.out
            go_wp2_with (first
              | (refine wpl_arr_store info_pk rfl (.tmp 4) (.tmp 55) rfl gq (pcs b') (pcs b) Lb' Lbb (pcs_one _) rfl rfl RB ?_))
            go_roundw
            case rel =>
              have h := hFin.out _ _ Hcp'.out Hft1.out (setRow_below (g := gq) (t := pkT) (cs := (pcs b').toArray) B3 (Nat.le_of_lt hlt)) ((setRow_far hgw).trans R1) ((setRow_far hgAq).trans RA) (row_written RB)
              exact ⟨k + 1, h.1, by go_num, h.2⟩
            case measure => simp [intOf]; omega
    · obtain rfl : k = n := by omega
      rw [List.take_of_length_le (by rw [Hn.out]; exact Nat.le_refl _)] at hfits RB
      have hall : l.all (fun x => x.fits p) = true := List.all_eq_true.2 hfits
      obtain ⟨q, hq⟩ : ∃ q, decide (p.copied l = p) = q := ⟨_, rfl⟩
      have EQ := fun W => eql_pk W (Pk.copied_wf HP.out l) HP.out
      rw [hq] at EQ
      have hR : p.right = (decide (l ≠ []) && q && !p.nobody) := by
        rw [Hright.out, hall, ← hq, show decide (p = p.copied l) = decide (p.copied l = p) from decide_eq_decide.2 ⟨Eq.symm, Eq.symm⟩]; rfl
      have HR := Lib.hid hR
      have HWC := Lib.hid (Pk.copied_wf HP.out l)
      have c0 := pk_cell R1 HP.out 0 (by decide)
      have c3 := pk_cell R1 HP.out 3 (by decide)
      have c5 := pk_cell R1 HP.out 5 (by decide)
      have c6 := pk_cell R1 HP.out 6 (by decide)
      have c7 := pk_cell R1 HP.out 7 (by decide)
      rw [HK.out] at c0
      have hnob : p.nobody = (decide (K = 8) && decide (p.h.getD 3 0 = 0) && !(decide (p.h.getD 7 0 = 0) && decide (p.h.getD 5 0 = 0) && decide (p.h.getD 6 0 = 0))) := by unfold Pk.nobody; rw [show p.kind = K from HK.out]
      obtain ⟨x3, h3⟩ : ∃ x, p.h.getD 3 0 = x := ⟨_, rfl⟩
      obtain ⟨x5, h5⟩ : ∃ x, p.h.getD 5 0 = x := ⟨_, rfl⟩
      obtain ⟨x6, h6⟩ : ∃ x, p.h.getD 6 0 = x := ⟨_, rfl⟩
      obtain ⟨x7, h7⟩ : ∃ x, p.h.getD 7 0 = x := ⟨_, rfl⟩
      rw [h3] at c3; rw [h5] at c5; rw [h6] at c6; rw [h7] at c7
      rw [h3, h5, h6, h7] at hnob
      have HNB := Lib.hid hnob
      have HR1 := Lib.hid R1
      have HRB := Lib.hid RB
      have hk0 : l ≠ [] → (0 : Int) < (k : Int) := fun h => by
        have := Hn.out
        have : 0 < l.length := List.length_pos_iff.2 h
        omega
      have hk1 : l = [] → k = 0 := fun h => by have := Hn.out; rw [h] at this; exact this.symm
      have Hk0 := Lib.hid hk0
      have Hk1 := Lib.hid hk1
      clear hk0 hk1 hR hq hall hfits R1 RB HA Hright zpk pkn Lb Hbare hnob h3 h5 h6 h7 hlt
      have hcase : (K ≠ 8) ∨ (K = 8 ∧ x3 ≠ 0) ∨ (K = 8 ∧ x3 = 0 ∧ x7 ≠ 0) ∨ (K = 8 ∧ x3 = 0 ∧ x7 = 0 ∧ x5 ≠ 0) ∨ (K = 8 ∧ x3 = 0 ∧ x7 = 0 ∧ x5 = 0 ∧ x6 ≠ 0) ∨ (K = 8 ∧ x3 = 0 ∧ x7 = 0 ∧ x5 = 0 ∧ x6 = 0) := by omega
      obtain ⟨nb, hnb⟩ : ∃ nb, p.nobody = nb := ⟨_, rfl⟩
      have HNb := Lib.hid (hnb.symm.trans HNB.out)
      rw [hnb] at HR
      clear hnb HNB
      rcases hcase with h8 | ⟨h8, h3⟩ | ⟨h8, h3, h7⟩ | ⟨h8, h3, h7, h5⟩ | ⟨h8, h3, h7, h5, h6⟩ | ⟨h8, h3, h7, h5, h6⟩
      · have hnb : nb = false := by rw [HNb.out]; simp [h8]
        subst hnb
        have b8 : (K == 8) = false := beq_eq_false_iff_ne.2 h8
        by_cases hl0 : l = []
        · have hkz : k = 0 := Hk1.out hl0
          subst hkz
          have hR := Lib.hid (show p.right = false by rw [HR.out, decide_eq_false (fun h => h hl0)]; rfl)
          go_wp2_with fail
          go_ret
          exact ⟨ret_bool (by simp [hR.out]), hB⟩
        · have hkp : (0 : Int) < (k : Int) := Hk0.out hl0
          have hdk : decide (0 < k) = true := decide_eq_true (by omega)
          have hR := Lib.hid (show p.right = (q && !false) by rw [HR.out, decide_eq_true hl0]; rfl)
          clear hl0
          cases q
          · go_wp2_with (first
              | ((refine wpl_pk ?_ (.tmp 1) ?_ w.heap.size p HP.out ?_ HR1.out ?_); rotate_left; (rfl); (rfl); rotate_left; (rfl))
              | ((refine wpl_pk ?_ (.tmp 4) ?_ gq (p.copied l) HWC.out ?_ HRB.out ?_); rotate_left; (rfl); (rfl); rotate_left; (rfl)))
            go_ret
            exact ⟨ret_bool (by simp [hR.out]), hB⟩
          · go_upto_region 16 with (fail)
            refine wp_region_list ?_
            iterate 29 (first | (go_big_may; (first
              | ((refine wpl_pk ?_ (.tmp 1) ?_ w.heap.size p HP.out ?_ HR1.out ?_); rotate_left; (rfl); (rfl); rotate_left; (rfl))
              | ((refine wpl_pk ?_ (.tmp 4) ?_ gq (p.copied l) HWC.out ?_ HRB.out ?_); rotate_left; (rfl); (rfl); rotate_left; (rfl)))) | go_values | go_skip | go_guarded | go_step | go_upon | go_back)
            rename_i hKr _ hK
            generalize hA : Act.mk _ _ = aa
            refine hK aa wr ?_
            clear hK
            refine wpList_skip (by rw [← hA]; rfl) ?_
            rw [show aa.put (some 86) undef = aa by rw [← hA]; rfl]
            refine wpList_skip (by rw [← hA]; rfl) ?_
            rw [show aa.put (some 87) undef = aa by rw [← hA]; rfl]
            refine wpList_skip (by rw [← hA]; rfl) ?_
            rw [show aa.put (some 88) undef = aa by rw [← hA]; rfl]
            refine wpList_skip (by rw [← hA]; rfl) ?_
            rw [show aa.put (some 89) undef = aa by rw [← hA]; rfl]
            refine wpList_skip (by rw [← hA]; rfl) ?_
            rw [show aa.put (some 90) undef = aa by rw [← hA]; rfl]
            refine wpList_skip (by rw [← hA]; rfl) ?_
            rw [show aa.put (some 91) undef = aa by rw [← hA]; rfl]
            refine wpList_skip (by rw [← hA]; rfl) ?_
            rw [show aa.put (some 92) undef = aa by rw [← hA]; rfl]
            refine wpList_skip (by rw [← hA]; rfl) ?_
            rw [show aa.put (some 93) undef = aa by rw [← hA]; rfl]
            refine wpList_skip (by rw [← hA]; rfl) ?_
            rw [show aa.put (some 94) undef = aa by rw [← hA]; rfl]
            refine wpList_skip (by rw [← hA]; rfl) ?_
            rw [show aa.put (some 95) undef = aa by rw [← hA]; rfl]
            refine wpList_skip (by rw [← hA]; rfl) ?_
            rw [show aa.put (some 96) undef = aa by rw [← hA]; rfl]
            refine wpList_skip (by rw [← hA]; rfl) ?_
            rw [show aa.put (some 97) undef = aa by rw [← hA]; rfl]
            refine wpList_skip (by rw [← hA]; rfl) ?_
            rw [show aa.put (some 98) undef = aa by rw [← hA]; rfl]
            refine BigFrame.wpList_want (by rw [← hA]; rfl) fun K2 hK2 => wp_pickT (.tmp 85) (.const (.bool true)) (.tmp 98) rfl (by rw [← hA]; rfl) (hK2 _ _ ?_)
            clear hK2 K2
            rw [show aa.eval (.const (.bool true)) = .bool true from rfl]
            generalize hBx : Act.put aa _ _ = ab
            refine BigFrame.wpList_want (by rfl) fun K2 hK2 => wp_pickT (.tmp 82) (.tmp 99) (.const (.bool false)) rfl (by rw [← hBx, ← hA]; rfl) (hK2 _ _ ?_)
            clear hK2 K2
            rw [show ab.eval (.tmp 99) = .bool true by rw [← hBx, ← hA]; rfl]
            generalize hC : Act.put ab _ _ = ac
            refine BigFrame.wpList_want (by rfl) fun K2 hK2 => BigFrame.wp_assign (.tmp 100) rfl (hK2 _ _ ?_)
            clear hK2 K2
            rw [show ac.eval (.tmp 100) = .bool true by rw [← hC, ← hBx, ← hA]; rfl]
            generalize hD : Act.put ac _ _ = ad
            refine wpList_nil ?_
            have h2 : ad.tmps.getD 2 undef = .bool true := by rw [← hD, ← hC, ← hBx, ← hA]; rfl
            have h3 : ad.defers = [] := by rw [← hD, ← hC, ← hBx, ← hA]; rfl
            clear hA hBx hC hD
            refine hKr ad wr ?_
            go_wp2
            refine bodyPost_ret (v := .bool true) ((results_tmp Try.results16 ad.tmps Try.prog wr).trans (by rw [h2])) h3 ⟨ret_bool (by simp [hR.out]), hB⟩
      · have hnb : nb = false := by rw [HNb.out]; simp [h3]
        subst hnb
        subst h8
        have b3 : (x3 == 0) = false := beq_eq_false_iff_ne.2 h3
        by_cases hl0 : l = []
        · have hkz : k = 0 := Hk1.out hl0
          subst hkz
          have hR := Lib.hid (show p.right = false by rw [HR.out, decide_eq_false (fun h => h hl0)]; rfl)
          go_wp2_with fail
          go_ret
          exact ⟨ret_bool (by simp [hR.out]), hB⟩
        · have hkp : (0 : Int) < (k : Int) := Hk0.out hl0
          have hdk : decide (0 < k) = true := decide_eq_true (by omega)
          have hR := Lib.hid (show p.right = (q && !false) by rw [HR.out, decide_eq_true hl0]; rfl)
          clear hl0
          cases q
          · go_wp2_with (first
              | ((refine wpl_pk ?_ (.tmp 1) ?_ w.heap.size p HP.out ?_ HR1.out ?_); rotate_left; (rfl); (rfl); rotate_left; (rfl))
              | ((refine wpl_pk ?_ (.tmp 4) ?_ gq (p.copied l) HWC.out ?_ HRB.out ?_); rotate_left; (rfl); (rfl); rotate_left; (rfl)))
            go_ret
            exact ⟨ret_bool (by simp [hR.out]), hB⟩
          · go_upto_region 16 with (fail)
            refine wp_region_list ?_
            iterate 29 (first | (go_big_may; (first
              | ((refine wpl_pk ?_ (.tmp 1) ?_ w.heap.size p HP.out ?_ HR1.out ?_); rotate_left; (rfl); (rfl); rotate_left; (rfl))
              | ((refine wpl_pk ?_ (.tmp 4) ?_ gq (p.copied l) HWC.out ?_ HRB.out ?_); rotate_left; (rfl); (rfl); rotate_left; (rfl)))) | go_values | go_skip | go_guarded | go_step | go_upon | go_back)
            rename_i hKr _ hK
            generalize hA : Act.mk _ _ = aa
            refine hK aa wr ?_
            clear hK
            refine wpList_skip (by rw [← hA]; rfl) ?_
            rw [show aa.put (some 86) undef = aa by rw [← hA]; rfl]
            refine wpList_skip (by rw [← hA]; rfl) ?_
            rw [show aa.put (some 87) undef = aa by rw [← hA]; rfl]
            refine wpList_skip (by rw [← hA]; rfl) ?_
            rw [show aa.put (some 88) undef = aa by rw [← hA]; rfl]
            refine wpList_skip (by rw [← hA]; rfl) ?_
            rw [show aa.put (some 89) undef = aa by rw [← hA]; rfl]
            refine wpList_skip (by rw [← hA]; rfl) ?_
            rw [show aa.put (some 90) undef = aa by rw [← hA]; rfl]
            refine wpList_skip (by rw [← hA]; rfl) ?_
            rw [show aa.put (some 91) undef = aa by rw [← hA]; rfl]
            refine wpList_skip (by rw [← hA]; rfl) ?_
            rw [show aa.put (some 92) undef = aa by rw [← hA]; rfl]
            refine wpList_skip (by rw [← hA]; rfl) ?_
            rw [show aa.put (some 93) undef = aa by rw [← hA]; rfl]
            refine wpList_skip (by rw [← hA]; rfl) ?_
            rw [show aa.put (some 94) undef = aa by rw [← hA]; rfl]
            refine wpList_skip (by rw [← hA]; rfl) ?_
            rw [show aa.put (some 95) undef = aa by rw [← hA]; rfl]
            refine wpList_skip (by rw [← hA]; rfl) ?_
            rw [show aa.put (some 96) undef = aa by rw [← hA]; rfl]
            refine wpList_skip (by rw [← hA]; rfl) ?_
            rw [show aa.put (some 97) undef = aa by rw [← hA]; rfl]
            refine wpList_skip (by rw [← hA]; rfl) ?_
            rw [show aa.put (some 98) undef = aa by rw [← hA]; rfl]
            refine BigFrame.wpList_want (by rw [← hA]; rfl) fun K2 hK2 => wp_pickT (.tmp 85) (.const (.bool true)) (.tmp 98) rfl (by rw [← hA]; rfl) (hK2 _ _ ?_)
            clear hK2 K2
            rw [show aa.eval (.const (.bool true)) = .bool true from rfl]
            generalize hBx : Act.put aa _ _ = ab
            refine BigFrame.wpList_want (by rfl) fun K2 hK2 => wp_pickT (.tmp 82) (.tmp 99) (.const (.bool false)) rfl (by rw [← hBx, ← hA]; rfl) (hK2 _ _ ?_)
            clear hK2 K2
            rw [show ab.eval (.tmp 99) = .bool true by rw [← hBx, ← hA]; rfl]
            generalize hC : Act.put ab _ _ = ac
            refine BigFrame.wpList_want (by rfl) fun K2 hK2 => BigFrame.wp_assign (.tmp 100) rfl (hK2 _ _ ?_)
            clear hK2 K2
            rw [show ac.eval (.tmp 100) = .bool true by rw [← hC, ← hBx, ← hA]; rfl]
            generalize hD : Act.put ac _ _ = ad
            refine wpList_nil ?_
            have h2 : ad.tmps.getD 2 undef = .bool true := by rw [← hD, ← hC, ← hBx, ← hA]; rfl
            have h3 : ad.defers = [] := by rw [← hD, ← hC, ← hBx, ← hA]; rfl
            clear hA hBx hC hD
            refine hKr ad wr ?_
            go_wp2
            refine bodyPost_ret (v := .bool true) ((results_tmp Try.results16 ad.tmps Try.prog wr).trans (by rw [h2])) h3 ⟨ret_bool (by simp [hR.out]), hB⟩
      · have hnb : nb = true := by rw [HNb.out]; simp [h8, h3, h7]
        subst hnb
        subst h8; subst h3
        have b7 : (x7 == 0) = false := beq_eq_false_iff_ne.2 h7
        by_cases hl0 : l = []
        · have hkz : k = 0 := Hk1.out hl0
          subst hkz
          have hR := Lib.hid (show p.right = false by rw [HR.out, decide_eq_false (fun h => h hl0)]; rfl)
          go_wp2_with fail
          go_ret
          exact ⟨ret_bool (by simp [hR.out]), hB⟩
        · have hkp : (0 : Int) < (k : Int) := Hk0.out hl0
          have hdk : decide (0 < k) = true := decide_eq_true (by omega)
          have hR := Lib.hid (show p.right = (q && !true) by rw [HR.out, decide_eq_true hl0]; rfl)
          clear hl0
          cases q
          all_goals
            go_wp2_with (first
              | ((refine wpl_pk ?_ (.tmp 1) ?_ w.heap.size p HP.out ?_ HR1.out ?_); rotate_left; (rfl); (rfl); rotate_left; (rfl))
              | ((refine wpl_pk ?_ (.tmp 4) ?_ gq (p.copied l) HWC.out ?_ HRB.out ?_); rotate_left; (rfl); (rfl); rotate_left; (rfl)))
            go_ret
            exact ⟨ret_bool (by simp [hR.out]), hB⟩
      · have hnb : nb = true := by rw [HNb.out]; simp [h8, h3, h5]
        subst hnb
        subst h8; subst h3; subst h7
        have b5 : (x5 == 0) = false := beq_eq_false_iff_ne.2 h5
        by_cases hl0 : l = []
        · have hkz : k = 0 := Hk1.out hl0
          subst hkz
          have hR := Lib.hid (show p.right = false by rw [HR.out, decide_eq_false (fun h => h hl0)]; rfl)
          go_wp2_with fail
          go_ret
          exact ⟨ret_bool (by simp [hR.out]), hB⟩
        · have hkp : (0 : Int) < (k : Int) := Hk0.out hl0
          have hdk : decide (0 < k) = true := decide_eq_true (by omega)
          have hR := Lib.hid (show p.right = (q && !true) by rw [HR.out, decide_eq_true hl0]; rfl)
          clear hl0
          cases q
          all_goals
            go_wp2_with (first
              | ((refine wpl_pk ?_ (.tmp 1) ?_ w.heap.size p HP.out ?_ HR1.out ?_); rotate_left; (rfl); (rfl); rotate_left; (rfl))
              | ((refine wpl_pk ?_ (.tmp 4) ?_ gq (p.copied l) HWC.out ?_ HRB.out ?_); rotate_left; (rfl); (rfl); rotate_left; (rfl)))
            go_ret
            exact ⟨ret_bool (by simp [hR.out]), hB⟩
      · have hnb : nb = true := by rw [HNb.out]; simp [h8, h3, h6]
        subst hnb
        subst h8; subst h3; subst h7; subst h5
        have b6 : (x6 == 0) = false := beq_eq_false_iff_ne.2 h6
        by_cases hl0 : l = []
        · have hkz : k = 0 := Hk1.out hl0
          subst hkz
          have hR := Lib.hid (show p.right = false by rw [HR.out, decide_eq_false (fun h => h hl0)]; rfl)
          go_wp2_with fail
          go_ret
          exact ⟨ret_bool (by simp [hR.out]), hB⟩
        · have hkp : (0 : Int) < (k : Int) := Hk0.out hl0
          have hdk : decide (0 < k) = true := decide_eq_true (by omega)
          have hR := Lib.hid (show p.right = (q && !true) by rw [HR.out, decide_eq_true hl0]; rfl)
          clear hl0
          cases q
          all_goals
            go_wp2_with (first
              | ((refine wpl_pk ?_ (.tmp 1) ?_ w.heap.size p HP.out ?_ HR1.out ?_); rotate_left; (rfl); (rfl); rotate_left; (rfl))
              | ((refine wpl_pk ?_ (.tmp 4) ?_ gq (p.copied l) HWC.out ?_ HRB.out ?_); rotate_left; (rfl); (rfl); rotate_left; (rfl)))
            go_ret
            exact ⟨ret_bool (by simp [hR.out]), hB⟩
      · have hnb : nb = false := by rw [HNb.out]; simp [h7, h5, h6]
        subst hnb
        subst h8; subst h3; subst h7; subst h5; subst h6
        by_cases hl0 : l = []
        · have hkz : k = 0 := Hk1.out hl0
          subst hkz
          have hR := Lib.hid (show p.right = false by rw [HR.out, decide_eq_false (fun h => h hl0)]; rfl)
          go_wp2_with fail
          go_ret
          exact ⟨ret_bool (by simp [hR.out]), hB⟩
        · have hkp : (0 : Int) < (k : Int) := Hk0.out hl0
          have hdk : decide (0 < k) = true := decide_eq_true (by omega)
          have hR := Lib.hid (show p.right = (q && !false) by rw [HR.out, decide_eq_true hl0]; rfl)
          clear hl0
          cases q
          all_goals
            go_wp2_with (first
              | ((refine wpl_pk ?_ (.tmp 1) ?_ w.heap.size p HP.out ?_ HR1.out ?_); rotate_left; (rfl); (rfl); rotate_left; (rfl))
              | ((refine wpl_pk ?_ (.tmp 4) ?_ gq (p.copied l) HWC.out ?_ HRB.out ?_); rotate_left; (rfl); (rfl); rotate_left; (rfl)))
            go_ret
            exact ⟨ret_bool (by simp [hR.out]), hB⟩
end Go.Proofs.Ytnfdfnkhjlkdhaa
