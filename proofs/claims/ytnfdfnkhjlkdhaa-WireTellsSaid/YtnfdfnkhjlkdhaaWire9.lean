/- The packet of bytes. -/
import Derived.Test.YtnfdfnkhjlkdhaaWire8
namespace Go.Proofs.Ytnfdfnkhjlkdhaa
open Go.ChangeShapes Go.WideShapes Go.ChangeAt Go.RowKit
/-- A reading: what is left, whether it failed, the packet so far. -/
structure Dst where
  rest : List Int
  bad : Bool
  q : Pk
def Dst.step (d : Dst) (x : Pt5) : Dst := ⟨ndrop d.rest d.bad (x.am : Int), nbad d.rest d.bad (x.am : Int), x.rd d.rest d.bad d.q⟩
def Dst.go (d : Dst) (l : List Pt5) : Dst := l.foldl Dst.step d
def dKind (bs : List Int) : Int := be (ntake bs false 1)
def dec0 (bs : List Int) : Dst := ⟨ndrop bs false 1, nbad bs false 1, pkBare (dKind bs)⟩
def dec1 (bs : List Int) : Dst := (dec0 bs).go (held (dKind bs))
/-- Whether bytes are a packet's, and which. -/
def decOk (bs : List Int) : Bool := (!(dec1 bs).bad && decide ((dec1 bs).rest.length = 0)) && (dec1 bs).q.right
def decPk (bs : List Int) : Pk := if decOk bs then (dec1 bs).q else pk0
theorem Dst.go_snoc (d : Dst) (l : List Pt5) (x : Pt5) : d.go (l ++ [x]) = (d.go l).step x := by simp [Dst.go, List.foldl_append]
theorem Pt5.rd_wf {x : Pt5} {rest : List Int} {f : Bool} {q : Pk} (hq : q.Wf) : (x.rd rest f q).Wf := by
  unfold Pt5.rd
  split
  · exact ⟨by simpa using hq.h, hq.s, hq.t⟩
  · split
    · exact hq
    · rename_i h1 h2
      split
      · rename_i h3
        have : (16 : Int) ≤ rest.length := by
          have h4 : x.am = 16 := by simp [Pt5.am, h3]
          rw [h4] at h2
          simp [nbad] at h2
          omega
        exact ⟨hq.h, by rw [List.length_take]; omega, hq.t⟩
      · rename_i h3
        have : (8 : Int) ≤ rest.length := by
          have h4 : x.am = 8 := by simp [Pt5.am, h1, h3]
          rw [h4] at h2
          simp [nbad] at h2
          omega
        exact ⟨hq.h, hq.s, by rw [List.length_take]; omega⟩
structure Dst.Fine (d : Dst) : Prop where
  wf : d.q.Wf
  by1 : ∀ x ∈ d.rest, 0 ≤ x ∧ x ≤ 255
  len : d.rest.length ≤ 1000000
theorem Dst.Fine.step {d : Dst} (h : d.Fine) (x : Pt5) : (d.step x).Fine := ⟨Pt5.rd_wf h.wf, ndrop_bytes h.by1, ndrop_len h.len⟩
theorem Dst.Fine.go {d : Dst} (h : d.Fine) (l : List Pt5) : (d.go l).Fine := by
  unfold Dst.go
  induction l generalizing d with
  | nil => exact h
  | cons x r ih => exact ih (h.step x)
theorem dec0_fine {bs : List Int} (hb : ∀ x ∈ bs, 0 ≤ x ∧ x ≤ 255) (hl : bs.length ≤ 1000000) : (dec0 bs).Fine := ⟨pkBare_wf _, ndrop_bytes hb, ndrop_len hl⟩
theorem decPk_wf {bs : List Int} (hb : ∀ x ∈ bs, 0 ≤ x ∧ x ≤ 255) (hl : bs.length ≤ 1000000) : (decPk bs).Wf := by
  unfold decPk
  split
  · exact ((dec0_fine hb hl).go _).wf
  · exact pk0_wf
theorem pk_results {fn : Func} {u v : Tmp} (hr : fn.results = #[.cell u pkT, .tmp v]) {tmps : Array Value} {W : World} {g : Nat} {q : Pk} {x : Value} (hq : q.Wf) (h6 : tmps.getD u undef = .pointer (some ⟨g, 0, none⟩)) (hx : tmps.getD v undef = x) (hW : W.heap[g]? = some (.cells (pcs q).toArray pkT)) :
    (results fn tmps).run Try.prog W = .ok (.tuple #[.agg (pcs q).toArray, x]) W := by
  have hl := run_loadVar_mid (P := Try.prog) W g 0 pkT (pcs q) _ (range_row hW) Try.underlying25 rfl (by rw [info_pk, pcs_len hq])
  rw [results_cell_tmp hr tmps Try.prog W, h6, hx]
  simp only [asAddr, Sem.run_pure, Result.andThen_ok, hl]
theorem parts_not {l : List Pt5} {cs : Array Value} {t t' : TypeId} {v : Value} (hl : l ≠ []) (h0 : cs[0]? = some v) (hv : (match v with | .func .. => false | .nilFunc => false | _ => true) = true) (h : (some (Obj.cells cs t) : Option Obj) = some (.cells (l.flatMap Pt5.cs).toArray t')) : False := by
  injection h with h
  injection h with h1 h2
  subst h1
  obtain ⟨x, r, rfl⟩ := List.exists_cons_of_ne_nil hl
  simp [Pt5.cs] at h0
  split at h0 <;> (subst h0; simp at hv)
set_option maxRecDepth 10000 in
set_option maxHeartbeats 2000000 in
theorem dec_any (bs : List Int) (hb : ∀ x ∈ bs, 0 ≤ x ∧ x ≤ 255) (hlen : bs.length ≤ 1000000) (w : World) (A : Option Addr) (n c : Nat) (hn : bs.length = n) (hN : Nums .u8 w A bs) (pk : Pk) (hpk : decPk bs = pk) (er : Int) (her : (if decOk bs = true then (0 : Int) else 2) = er) :
    Calls Try.prog 13 #[.slice A n c] w fun e w' => e = .returned (.tuple #[.agg (pcs pk).toArray, .int .i64 er]) ∧ Below w.heap.size w w' := by
  have Hpk := Lib.hid hpk
  have Her := Lib.hid her
  clear hpk her
  have zpk := zero_pk
  have zpt := zero_pt
  obtain ⟨K, hK⟩ : ∃ K, dKind bs = K := ⟨_, rfl⟩
  obtain ⟨l, hl⟩ : ∃ l, held K = l := ⟨_, rfl⟩
  obtain ⟨m, hm⟩ : ∃ m, l.length = m := ⟨_, rfl⟩
  have hm7 : m ≤ 7 := by rw [← hm, ← hl]; exact held_len K
  have Hok := Lib.hid (show ∀ x ∈ l, x.Ok by rw [← hl]; exact held_ok K)
  have pkn : ∀ W : World, (storeCells ⟨W.heap.size, 0, none⟩ ((pcs pk0).set 0 (.int .i64 K)) 0).run Try.prog (W.alloc (.cells (pcs pk0).toArray pkT)) = .ok () (W.alloc (.cells (pcs (pkBare K)).toArray pkT)) := fun W => by
    rw [pcs_set pk0_wf 0 (by decide)]
    exact pk_new (pkBare_wf K) W
  have Lb : (pcs (pkBare K)).length = 36 := pcs_len (pkBare_wf K)
  have HN := Lib.hid hN
  have Hn := Lib.hid hn
  have Hb := Lib.hid hb
  have HK := Lib.hid hK
  have Hl := Lib.hid hl
  have Hm := Lib.hid hm
  have Hlen := Lib.hid hlen
  have Hd1 := Lib.hid (show dec1 bs = (dec0 bs).go l by unfold dec1; rw [hK, hl])
  have HF := Lib.hid (dec0_fine hb hlen)
  have Hq0 := Lib.hid (show (dec0 bs).q = pkBare K by show pkBare (dKind bs) = _; rw [hK])
  clear hK hl hm hN hn hb hlen
  go_enter Try.func13, Try.ntmps13
  go_wp2_with fail
  have RR := row_new (W := w) (cs := (pcs pk0).toArray) (t := pkT) (m := (0, 0))
  have B0 : Below w.heap.size w (w.alloc (.cells (pcs pk0).toArray pkT)) := (Below.refl _ _).alloc (Nat.le_refl _) _
  generalize w.alloc (.cells (pcs pk0).toArray pkT) = W0 at RR B0 ⊢
  refine (fld04.openH W0 A n c bs Hn.out (HN.out.below B0) (by rw [← Hn.out]; exact Hlen.out)).mono ?_
  rintro e w1 ⟨g, A1, c1, rfl, hg, H1, hB1, hA1⟩
  have RR := row_kept RR hB1 (row_lt RR)
  have B1 := B0.trans (hB1.mono B0.size)
  have hw0 : w.heap.size < W0.heap.size := row_lt (by assumption)
  have H1 := Lib.hid (H1.half (K := w1.heap.size) (fun a ha => (hA1 a ha).2))
  clear hA1 hB1 B0
  go_wp2_with fail
  refine (fld04.numH H1.out Hb.out Hlen.out 1).mono ?_
  rintro e w2 ⟨rfl, H2, hbut, hbel⟩
  rw [show min (max (1 : Int) 1) 7 = 1 from rfl] at H2 ⊢
  rw [show be (ntake bs false 1) = K from HK.out]
  have hgl := H1.out.lt
  have RR := (hbut.1 _ (row_lt RR) (by omega)).trans RR
  have B2 := hbel w.heap.size w (by omega) B1
  have h12 := hbut.2
  have HH2 := Lib.hid H2
  clear hbut hbel B1 H1 H2
  go_upto_region 3 with (fail)
  have AN := (Below.refl w2.heap.size w2).alloc (Nat.le_refl _) (.cells (pcs (pkBare K)).toArray pkT)
  have RB := row_new (W := w2) (cs := (pcs (pkBare K)).toArray) (t := pkT) (m := (0, 0))
  have RR := row_kept RR AN (row_lt RR)
  have B3 := B2.trans (AN.mono B2.size)
  have H3 := Lib.hid (HH2.out.below (by omega) h12 AN)
  generalize w2.alloc (.cells (pcs (pkBare K)).toArray pkT) = V at RB RR B3 H3 ⊢
  obtain ⟨gq, hgq⟩ : ∃ g, g = w2.heap.size := ⟨_, rfl⟩
  rw [← hgq] at RB ⊢
  have hgg : g < gq := by omega
  have hKq : w1.heap.size ≤ gq := by omega
  have hwq : w.heap.size < gq := by omega
  have hwg : w.heap.size < g := by omega
  have cK := show V.cell? ⟨gq, 0, none⟩ = some (.int .i64 K) from (pk_cell RB (pkBare_wf K) 0 (by decide))
  clear AN HH2 B2 hgq hgl h12 hg hw0
  go_wp2_with fail
  refine (held_any K V).mono ?_
  rintro e w3 ⟨A3, rfl, HA, hB3⟩
  rw [Hl.out, Hm.out]
  rw [Hl.out] at HA
  have RB := row_kept RB hB3 (row_lt RB)
  have RR := row_kept RR hB3 (row_lt RR)
  have B4 := B3.trans (hB3.mono B3.size)
  have hKV : w1.heap.size ≤ V.heap.size := by have := row_lt (show V.heap[gq]? = _ by assumption); omega
  have H4 := H3.out.below H3.out.lt hKV hB3
  have HS := Lib.hid (And.intro RB (And.intro RR (And.intro B4 (And.intro H4 HA))))
  clear RB RR B3 B4 H4 HA hB3 H3 cK hKV
  go_wp2_with fail
  go_loopw [17] (fun i wr => ∃ k : Nat, k ≤ m ∧ i = .int .i64 k ∧ wr.heap[gq]? = some (.cells (pcs ((dec0 bs).go (l.take k)).q).toArray pkT) ∧ wr.heap[w.heap.size]? = some (.cells (pcs pk0).toArray pkT) ∧ Half rdT w1.heap.size wr g ((dec0 bs).go (l.take k)).rest ((dec0 bs).go (l.take k)).bad ∧ PtsAt wr A3 l ∧ Below w.heap.size w wr) (fun i _ => m - (intOf i).toNat)
  case atStart => exact ⟨0, Nat.zero_le _, rfl, (by rw [List.take_zero, show ((dec0 bs).go []).q = pkBare K from Hq0.out]; exact HS.out.1), HS.out.2.1, (by rw [List.take_zero]; exact HS.out.2.2.2.1), HS.out.2.2.2.2, HS.out.2.2.1⟩
  case round =>
    obtain ⟨k, hk, rfl, RB, RR, H, HA, hB⟩ := hrel
    clear HS
    have HFk := Lib.hid (HF.out.go (l.take k))
    obtain ⟨d, hd⟩ : ∃ d, (dec0 bs).go (l.take k) = d := ⟨_, rfl⟩
    rw [hd] at RB H HFk
    by_cases hkn : k < m
    · obtain ⟨x, hx⟩ : ∃ x, l[k]? = some x := ⟨_, List.getElem?_eq_getElem (by rw [Hm.out]; exact hkn)⟩
      have hxo := Hok.out x (List.mem_of_getElem? hx)
      have hl0 : l ≠ [] := fun h0 => by rw [h0] at hx; cases hx
      rcases HA with h0 | ⟨gA, tA, rfl, RA⟩
      · exact absurd h0 hl0
      have RX := range5 RA hx
      have HXO := Lib.hid hxo
      have Hstep := Lib.hid (show (dec0 bs).go (l.take (k + 1)) = d.step x by rw [take_snoc5 hx, Dst.go_snoc, hd])
      have ptn := fun W => pt_new x W
      have q0 : (0 : Int) ≤ (k : Int) := by omega
      have q1 : (k : Int) < (m : Int) := by omega
      have q2 : (m : Int) ≤ 7 := by omega
      have hA1 : gA ≠ g := fun he => by
        obtain ⟨A', c', h1, -⟩ := H
        rw [he, h1] at RA
        exact parts_not hl0 (cs := #[.slice A' d.rest.length c', .bool d.bad]) (v := .slice A' d.rest.length c') rfl rfl RA
      have hA2 : gA ≠ gq := fun he => by
        rw [he, RB] at RA
        have h0 := pcs_at HFk.out.wf 0 (by decide)
        exact parts_not hl0 (cs := (pcs d.q).toArray) (v := .int .i64 (d.q.h.getD 0 0)) (by rw [List.getElem?_toArray]; exact h0) rfl RA
      have HH := Lib.hid H
      have Hl0 := Lib.hid hl0
      clear hx hxo hl0 hd H
      go_wp2_with (first
        | (refine wpList_load_mid rfl ptT (.tmp 19) rfl gA (k * 5) rfl x.cs _ RX Try.underlying46 rfl (by rw [info_pt]; rfl) ?_))
      have AT := (Below.refl wr.heap.size wr).alloc (Nat.le_refl _) (.cells x.cs.toArray ptT)
      have hql := row_lt RB
      have RBt := row_kept RB AT hql
      have RRt := row_kept RR AT (row_lt RR)
      have RAt := row_kept RA AT (row_lt RA)
      have Ht := HH.out.below HH.out.lt (by omega) AT
      have Bt := hB.alloc hB.size (.cells x.cs.toArray ptT)
      refine (read_part x HXO.out d.q HFk.out.wf _ w1.heap.size g gq hgg hKq d.rest d.bad Ht HFk.out.by1 HFk.out.len RBt).mono ?_
      rintro e w4 ⟨rfl, RB4, H4, hbut⟩
      have RR4 := (hbut.1 _ (row_lt RRt) (by omega) (by omega)).trans RRt
      have RA4 := (hbut.1 _ (row_lt RAt) hA1 hA2).trans RAt
      have B4 := hbut.2.2 _ _ (by omega) (by omega) Bt
      clear hbut Bt Ht RAt RRt RBt AT RX ptn RB RR RA HH hB hA1 hA2
      go_wp2_with fail
      go_roundw
      case rel =>
        refine ⟨k + 1, by omega, by go_num, ?_, RR4, ?_, Or.inr ⟨gA, tA, rfl, RA4⟩, B4⟩
        · rw [Hstep.out]; exact RB4
        · rw [Hstep.out]; exact H4
      case measure => simp [intOf]; omega
    · obtain rfl : k = m := by omega
      rw [List.take_of_length_le (by rw [Hm.out]; exact Nat.le_refl _)] at hd
      have hd1 : dec1 bs = d := by rw [Hd1.out, hd]
      obtain ⟨dn, hdn⟩ : ∃ b, (!d.bad && decide (d.rest.length = 0)) = b := ⟨_, rfl⟩
      obtain ⟨r, hr⟩ : ∃ b, d.q.right = b := ⟨_, rfl⟩
      have hok : decOk bs = (dn && r) := by unfold decOk; rw [hd1, hdn, hr]
      have HOK := Lib.hid hok
      have HPK := Lib.hid (show decPk bs = if (dn && r) = true then d.q else pk0 by unfold decPk; rw [hok, hd1])
      have LZ : (pcs pk0).length = 36 := pcs_len pk0_wf
      have LQ : (pcs d.q).length = 36 := pcs_len HFk.out.wf
      have Hdn := Lib.hid hdn
      have Hr := Lib.hid hr
      have HH := Lib.hid H
      clear hd hd1 hok hdn hr HA pkn Lb zpt hwg hgg hKq H
      have hRR := RR
      cases dn with
      | false =>
        go_wp2_with (first
          | (go_at_call 28; refine (fld04.doneH HH.out).mono ?_; rintro e w' ⟨rfl, rfl⟩; rw [Hdn.out])
          | (refine wpl_arr_store info_pk rfl (.tmp 2) (.tmp 33) rfl w.heap.size (pcs pk0) (pcs pk0) LZ LZ (pcs_one _) rfl rfl RR ?_))
        refine bodyPost_ret (v := .tuple #[.agg (pcs pk0).toArray, .int .i64 2]) (pk_results Try.results13 pk0_wf rfl rfl (row_written RR)) rfl ⟨?_, setRow_below hB (Nat.le_refl _)⟩
        rw [← Hpk.out, ← Her.out, HOK.out, HPK.out]; rfl
      | true =>
        go_wp2_with (first
          | (go_at_call 28; refine (fld04.doneH HH.out).mono ?_; rintro e w' ⟨rfl, rfl⟩; rw [Hdn.out])
          | ((refine wpl_pk ?_ (.tmp 5) ?_ gq d.q HFk.out.wf ?_ RB ?_); (rfl); (rfl); (rfl)))
        refine (wright_any d.q HFk.out.wf _).mono ?_
        rintro e w5 ⟨rfl, hB5⟩
        have RR5 := row_kept RR hB5 (row_lt RR)
        have RB5 := row_kept RB hB5 (row_lt RB)
        have B5 := hB.trans (hB5.mono hB.size)
        rw [Hr.out]
        clear RR RB hB hB5
        cases r with
        | false =>
          go_wp2_with (first
            | (refine wpl_arr_store info_pk rfl (.tmp 2) (.tmp 33) rfl w.heap.size (pcs pk0) (pcs pk0) LZ LZ (pcs_one _) rfl rfl RR5 ?_))
          refine bodyPost_ret (v := .tuple #[.agg (pcs pk0).toArray, .int .i64 2]) (pk_results Try.results13 pk0_wf rfl rfl (row_written RR5)) rfl ⟨?_, setRow_below B5 (Nat.le_refl _)⟩
          rw [← Hpk.out, ← Her.out, HOK.out, HPK.out]; rfl
        | true =>
          go_wp2_with (first
            | ((refine wpl_pk ?_ (.tmp 5) ?_ gq d.q HFk.out.wf ?_ RB5 ?_); (rfl); (rfl); (rfl))
            | (refine wpl_arr_store info_pk rfl (.tmp 2) (.tmp 34) rfl w.heap.size (pcs d.q) (pcs pk0) LQ LZ (pcs_one _) rfl rfl RR5 ?_))
          refine bodyPost_ret (v := .tuple #[.agg (pcs d.q).toArray, .int .i64 0]) (pk_results Try.results13 HFk.out.wf rfl rfl (row_written RR5)) rfl ⟨?_, setRow_below B5 (Nat.le_refl _)⟩
          rw [← Hpk.out, ← Her.out, HOK.out, HPK.out]; rfl
end Go.Proofs.Ytnfdfnkhjlkdhaa
