/- Which packets are right: the loop. -/
import Derived.Test.YtnfdfnkhjlkdhaaWire5
import Derived.Deep.CutRange
import Derived.Deep.Cut
namespace Go.Proofs.Ytnfdfnkhjlkdhaa
open Go.ChangeShapes Go.WideShapes Go.ChangeAt Go.RowKit
theorem take_snoc5 {l : List Pt5} {k : Nat} {x : Pt5} (h : l[k]? = some x) : l.take (k + 1) = l.take k ++ [x] := by
  rw [List.take_add_one, h]; rfl
/-- The parts lie below block G. -/
def PtsIn (G : Nat) (w : World) (A : Option Addr) (l : List Pt5) : Prop := l = [] ∨ ∃ g t, A = some ⟨g, 0, none⟩ ∧ g < G ∧ w.heap[g]? = some (.cells (l.flatMap Pt5.cs).toArray t)
theorem PtsAt.inn {w : World} {A : Option Addr} {l : List Pt5} (h : PtsAt w A l) : PtsIn w.heap.size w A l := by
  rcases h with h | ⟨g, t, h1, h2⟩
  · exact Or.inl h
  · exact Or.inr ⟨g, t, h1, row_lt h2, h2⟩
theorem PtsIn.low {G B : Nat} {w w' : World} {A : Option Addr} {l : List Pt5} (h : PtsIn G w A l) (hb : Below B w w') (hG : G ≤ B) : PtsIn G w' A l := by
  rcases h with h | ⟨g, t, h1, h2, h3⟩
  · exact Or.inl h
  · exact Or.inr ⟨g, t, h1, h2, (hb.block g (by omega)).trans h3⟩
theorem row_low {w w' : World} {B g : Nat} {o : Obj} (h : w.heap[g]? = some o) (hb : Below B w w') (hg : g < B) : w'.heap[g]? = some o := (hb.block g hg).trans h
theorem wpl_rowT {P : Program} {T : TypeId} {d : TypeDesc} {n : Nat} (hu : P.underlying T = some d) (hd : d.isRow = true) (hi : (P.info? T).map (·.size) = some n) {ops : Array Oper} {rest : List Oper} {o : Oper} {a : Act} {w : World} {Q : Exit → Act → World → Prop} (hgd : Region.wanted o (yielded ops a.tmps) = true) (x : Operand) (ho : o.op = .load T x) (g : Nat) (L : List Value) (hL : L.length = n) (hx : a.eval x = .pointer (some ⟨g, 0, none⟩))
    (hw : w.heap[g]? = some (.cells L.toArray T)) (h : wpList P ops Q rest (a.put o.dst (.agg L.toArray)) w) : wpList P ops Q (o :: rest) a w :=
  BigFrame.wpList_want hgd fun _ hK => wp_load_mid T x ho g 0 hx L _ (range_row hw) hu hd (by rw [hi, hL]) (hK _ _ h)
theorem wpl_pk {ops : Array Oper} {rest : List Oper} {o : Oper} {a : Act} {w : World} {Q : Exit → Act → World → Prop} (hgd : Region.wanted o (yielded ops a.tmps) = true) (x : Operand) (ho : o.op = .load pkT x) (g : Nat) (p : Pk) (hp : p.Wf) (hx : a.eval x = .pointer (some ⟨g, 0, none⟩))
    (hw : w.heap[g]? = some (.cells (pcs p).toArray pkT)) (h : wpList Try.prog ops Q rest (a.put o.dst (.agg (pcs p).toArray)) w) : wpList Try.prog ops Q (o :: rest) a w :=
  wpl_rowT Try.underlying25 rfl info_pk hgd x ho g (pcs p) (pcs_len hp) hx hw h
set_option maxRecDepth 10000 in
set_option maxHeartbeats 2000000 in
theorem wright_any (p : Pk) (hp : p.Wf) (w : World) : Calls Try.prog 15 #[.agg (pcs p).toArray] w fun e w' => e = .returned (.bool p.right) ∧ Below w.heap.size w w' := by
  have R0 := row_new (W := w) (cs := (pcs p).toArray) (t := pkT) (m := (0, 0))
  have B0 : Below w.heap.size w (w.alloc (.cells (pcs p).toArray pkT)) := (Below.refl _ _).alloc (Nat.le_refl _) _
  have c0 := pk_cell R0 hp 0 (by decide)
  obtain ⟨K, hK⟩ : ∃ K, p.h.getD 0 0 = K := ⟨_, rfl⟩
  rw [hK] at c0
  obtain ⟨l, hl⟩ : ∃ l, held K = l := ⟨_, rfl⟩
  obtain ⟨n, hn⟩ : ∃ n, l.length = n := ⟨_, rfl⟩
  have hn7 : n ≤ 7 := by rw [← hn, ← hl]; exact held_len K
  have Hok := Lib.hid (show ∀ x ∈ l, x.Ok by rw [← hl]; exact held_ok K)
  have Hright := Lib.hid (show p.right = (l.all (fun x => x.fits p) && (decide (l ≠ []) && decide (p = p.copied l) && !p.nobody)) by unfold Pk.right; rw [show p.kind = K from hK, hl])
  have Hbare := Lib.hid (show p.copied [] = pkBare K by show pkBare p.kind = _; rw [show p.kind = K from hK])
  have HP := Lib.hid hp
  have zpk := zero_pk
  have zpt := zero_pt
  have pkn : ∀ W : World, (storeCells ⟨W.heap.size, 0, none⟩ ((pcs pk0).set 0 (.int .i64 K)) 0).run Try.prog (W.alloc (.cells (pcs pk0).toArray pkT)) = .ok () (W.alloc (.cells (pcs (pkBare K)).toArray pkT)) := fun W => by
    rw [pcs_set pk0_wf 0 (by decide)]
    exact pk_new (pkBare_wf K) W
  have Lb : (pcs (pkBare K)).length = 36 := pcs_len (pkBare_wf K)
  have Hl := Lib.hid hl
  have Hn := Lib.hid hn
  clear hK hl hn hp
  go_enter Try.func15, Try.ntmps15
  go_wp2_with fail
  generalize w.alloc (.cells (pcs p).toArray pkT) = V0 at R0 B0 c0 ⊢
  refine (held_any K V0).mono ?_
  rintro e w1 ⟨A, rfl, HA, hB1⟩
  rw [Hl.out, Hn.out]
  rw [Hl.out] at HA
  have R1 := row_kept R0 hB1 (row_lt R0)
  have B1 := B0.trans (hB1.mono B0.size)
  have c1 := (row_cells R1 0).trans ((cell_of_row _ _ _ _ _ _ R0).symm.trans c0)
  clear hB1 B0 R0 c0
  go_upto_region 3 with (fail)
  have AN := (Below.refl w1.heap.size w1).alloc (Nat.le_refl _) (.cells (pcs (pkBare K)).toArray pkT)
  have RB := row_new (W := w1) (cs := (pcs (pkBare K)).toArray) (t := pkT) (m := (0, 0))
  have hlt := row_lt R1
  have R1 := row_kept R1 AN hlt
  have HA := HA.inn.low AN (Nat.le_refl _)
  have B2 := B1.trans (AN.mono B1.size)
  generalize w1.alloc (.cells (pcs (pkBare K)).toArray pkT) = W at RB R1 HA B2 ⊢
  obtain ⟨gq, hgq⟩ : ∃ g, g = w1.heap.size := ⟨_, rfl⟩
  rw [← hgq] at RB hlt HA ⊢
  have H0 := Lib.hid (And.intro RB (And.intro R1 (And.intro B2 HA)))
  clear AN B1 c1 hgq RB R1 B2 HA
  go_wp2_with fail
  go_loopw [15] (fun i wr => ∃ k : Nat, k ≤ n ∧ i = .int .i64 k ∧ (∀ x ∈ l.take k, x.fits p = true) ∧ wr.heap[w.heap.size]? = some (.cells (pcs p).toArray pkT) ∧ wr.heap[gq]? = some (.cells (pcs (p.copied (l.take k))).toArray pkT) ∧ PtsIn gq wr A l ∧ Below w.heap.size w wr) (fun i _ => n - (intOf i).toNat)
  case atStart => exact ⟨0, Nat.zero_le _, rfl, fun x hx => (by cases hx), H0.out.2.1, (by rw [List.take_zero, Hbare.out]; exact H0.out.1), H0.out.2.2.2, H0.out.2.2.1⟩
  case round =>
    obtain ⟨k, hk, rfl, hfits, R1, RB, HA, hB⟩ := hrel
    clear H0
    by_cases hkn : k < n
    · obtain ⟨x, hx⟩ : ∃ x, l[k]? = some x := ⟨_, List.getElem?_eq_getElem (by rw [Hn.out]; exact hkn)⟩
      have hxo := Hok.out x (List.mem_of_getElem? hx)
      rcases HA with h0 | ⟨gA, tA, rfl, hgA, RA⟩
      · rw [h0] at hx; cases hx
      have RX := range5 RA hx
      have HX := Lib.hid hx
      have HXO := Lib.hid hxo
      have Hfits := Lib.hid hfits
      have Htake := Lib.hid (take_snoc5 hx)
      have ptn := fun W => pt_new x W
      have q0 : (0 : Int) ≤ (k : Int) := by omega
      have q1 : (k : Int) < (n : Int) := by omega
      have q2 : (n : Int) ≤ 7 := by omega
      clear hx hxo hfits
      go_wp2_with (first
        | (refine wpList_load_mid rfl ptT (.tmp 17) rfl gA (k * 5) rfl x.cs _ RX Try.underlying46 rfl (by rw [info_pt]; rfl) ?_))
      have RT := row_new (W := wr) (cs := x.cs.toArray) (t := ptT) (m := (0, 0))
      have AT := (Below.refl wr.heap.size wr).alloc (Nat.le_refl _) (.cells x.cs.toArray ptT)
      have R1t := row_kept R1 AT (row_lt R1)
      refine (fits_any x HXO.out p HP.out _ w.heap.size R1t).mono ?_
      rintro e w2 ⟨rfl, hB2⟩
      have u2 := AT.trans (hB2.mono AT.size)
      have RT := row_kept RT hB2 (row_lt RT)
      have R1 := row_kept R1 u2 (row_lt R1)
      have hqr := row_lt RB
      have RB := row_kept RB u2 hqr
      have RA := row_kept RA u2 (row_lt RA)
      have B2 := hB.trans (u2.mono hB.size)
      have CT := row_cells RT
      have hq2 := row_lt RB
      clear hB2 AT R1t RX ptn
      cases hf : x.fits p
      · have hR := Lib.hid (show p.right = false by
          rw [Hright.out, List.all_eq_false.2 ⟨x, List.mem_of_getElem? HX.out, by rw [hf]; decide⟩]; rfl)
        clear hf
        go_wp2
        go_ret
        exact ⟨by rw [hR.out]; rfl, B2⟩
      · have Hf := Lib.hid hf
        clear hf
        have LXC := Lib.hid (show (pcs (p.copied (l.take k))).length = 36 from pcs_len (Pk.copied_wf HP.out _))
        go_wp2_with fail
        refine (copy_part x HXO.out p (p.copied (l.take k)) HP.out (Pk.copied_wf HP.out _) w2 w.heap.size gq hlt R1 RB).mono ?_
        rintro e w3 ⟨rfl, R3, hB3⟩
        have RA3 := row_low RA hB3 hgA
        have R13 := row_low R1 hB3 hlt
        have B3 : Below w.heap.size w w3 := B2.trans (hB3.mono (Nat.le_of_lt hlt))
        clear RT CT R1 RB RA B2
        go_wp2_with fail
        go_roundw
        case rel =>
          refine ⟨k + 1, by omega, by go_num, fun y hy => ?_, R13, ?_, Or.inr ⟨gA, tA, rfl, hgA, RA3⟩, B3⟩
          · rw [Htake.out, List.mem_append] at hy
            rcases hy with hy | hy
            · exact Hfits.out y hy
            · rw [List.mem_singleton.1 hy]; exact Hf.out
          · rw [Htake.out, Pk.copied_snoc]; exact R3
        case measure => simp [intOf]; omega
    · obtain rfl : k = n := by omega
      rw [List.take_of_length_le (by rw [Hn.out]; exact Nat.le_refl _)] at hfits RB
      have hall : l.all (fun x => x.fits p) = true := List.all_eq_true.2 hfits
      obtain ⟨q, hq⟩ : ∃ q, decide (p = p.copied l) = q := ⟨_, rfl⟩
      have EQ := fun W => eql_pk W HP.out (Pk.copied_wf HP.out l)
      rw [hq] at EQ
      have hR : p.right = (decide (l ≠ []) && q && !p.nobody) := by rw [Hright.out, hall, hq]; rfl
      have HR := Lib.hid hR
      have HWC := Lib.hid (Pk.copied_wf HP.out l)
      have HR1 := Lib.hid R1
      have HRB := Lib.hid RB
      clear hR hq hall hfits R1 RB HA Hright zpk zpt pkn Lb Hbare
      by_cases hl0 : l = []
      · have hk0 : k = 0 := by have := Hn.out; rw [hl0] at this; exact this.symm
        subst hk0
        go_wp2_with fail
        go_ret
        exact ⟨ret_bool (by rw [HR.out, hl0]; rfl), hB⟩
      · have hk0 : (0 : Int) < (k : Int) := by
          have := Hn.out
          have : 0 < l.length := List.length_pos_iff.2 hl0
          omega
        have hdk : decide (0 < k) = true := decide_eq_true (by omega)
        have hd : decide (l ≠ []) = true := decide_eq_true hl0
        have HR := Lib.hid (show p.right = (q && !p.nobody) by rw [HR.out, hd]; rfl)
        clear hd hl0
        cases q
        · go_wp2_with (first
            | ((refine wpl_pk ?_ (.tmp 1) ?_ w.heap.size p HP.out ?_ HR1.out ?_); (rfl); (rfl); (rfl))
            | ((refine wpl_pk ?_ (.tmp 4) ?_ gq (p.copied l) HWC.out ?_ HRB.out ?_); (rfl); (rfl); (rfl)))
          go_ret
          exact ⟨ret_bool (by rw [HR.out]; rfl), hB⟩
        · go_wp2_with (first
            | ((refine wpl_pk ?_ (.tmp 1) ?_ w.heap.size p HP.out ?_ HR1.out ?_); (rfl); (rfl); (rfl))
            | ((refine wpl_pk ?_ (.tmp 4) ?_ gq (p.copied l) HWC.out ?_ HRB.out ?_); (rfl); (rfl); (rfl)))
          refine (nobody_any p HP.out _).mono ?_
          rintro e w5 ⟨rfl, hB5⟩
          go_wp2
          go_ret
          exact ⟨ret_bool (by rw [HR.out]; rfl), hB.trans (hB5.mono hB.size)⟩
end Go.Proofs.Ytnfdfnkhjlkdhaa
