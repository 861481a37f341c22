/- TagMay holds for any key, any packet and any tag: a packet is signed just if its kind holds a tag, and it is right, whatever its tag was. The constants read as the program lays them (the card ties them). No other condition. -/
import Derived.Test.YtpglhkjgcahdbaaDoorQ17
namespace Go.Proofs.YtpglhkjgcahdbaaDoor.tagMay
open Go.ChangeShapes Go.WideShapes Go.ChangeAt Go.RowKit
set_option maxRecDepth 100000 in
set_option maxHeartbeats 2000000 in
theorem walk (w : World) (hL : laidMetH Tryd.prog Rows.tagMayRow.laid w) (key : List Int) (hk : key.length = 16) (hkw : ∀ z ∈ key, (Lit.int .u8 z).wf = true) (p : Pk) (hp : p.Wf) (hrg : p.Rng) (hps : ∀ z ∈ p.s, 0 ≤ z ∧ z < 256) (hpt : ∀ z ∈ p.t, 0 ≤ z ∧ z < 256) (t : List Int) (ht : t.length = 8) (htw : ∀ z ∈ t, (Lit.int .u8 z).wf = true) :
    Calls Tryd.prog 6 #[.agg (nrow .u8 key).toArray, .agg (pcs p).toArray, .agg (nrow .u8 t).toArray] w fun e w' => e = .returned (.bool true) ∧ Below w.heap.size w w' := by
  have HT := Lib.hid (kt_of_laid hL)
  have zpk := zero_pk
  have z8' := zero_b8
  have A0 : Below w.heap.size w (w.alloc (.cells (nrow .u8 key).toArray b16T)) := (Below.refl _ _).alloc (Nat.le_refl _) _
  have A1 := A0.alloc A0.size (.cells (pcs p).toArray pkT)
  have RK := row_new (W := w) (cs := (nrow .u8 key).toArray) (t := b16T) (m := (0, 0))
  have RP : ((w.alloc (.cells (nrow .u8 key).toArray b16T)).alloc (.cells (pcs p).toArray pkT)).heap[w.heap.size + 1]? = some (.cells (pcs p).toArray pkT) := by
    have := row_new (W := w.alloc (.cells (nrow .u8 key).toArray b16T)) (cs := (pcs p).toArray) (t := pkT) (m := (0, 0))
    simpa using this
  have RK := row_kept RK ((Below.refl _ _).alloc (Nat.le_refl _) (.cells (pcs p).toArray pkT)) (row_lt RK)
  have LK : (nrow .u8 key).length = 16 := by rw [nrow_len]; exact hk
  have KW := Lib.hid (show ∀ z ∈ key, 0 ≤ z ∧ z < 256 from fun z hz => byte_wf (hkw z hz))
  have KJ := Lib.hid (fun (w : World) (o : Obj) => (Below.refl w.heap.size w).alloc (Nat.le_refl _) o)
  obtain ⟨q, hq⟩ : ∃ q, sgPk key p = q := ⟨_, rfl⟩
  obtain ⟨ok, hok⟩ : ∃ ok, sgOk p = ok := ⟨_, rfl⟩
  have hqw : q.Wf := by rw [← hq]; exact sgPk_wf key hp
  have pkq := fun W => pk_new hqw W
  have pkp := fun W => pk_new hp W
  have LQ := pcs_len hqw
  have LP := pcs_len hp
  have HP := Lib.hid hp
  have HQ := Lib.hid hqw
  have HRg := Lib.hid hrg
  have HPS := Lib.hid hps
  have HK := Lib.hid hk
  have Hq := Lib.hid hq
  have Hok := Lib.hid hok
  have SP := Lib.hid (fun W ht => sign_any W key hk KW.out p hp hrg hps ht q hq ok hok)
  have A2 := A1.alloc A1.size (.cells (nrow .u8 t).toArray b8T)
  have RT : (((w.alloc (.cells (nrow .u8 key).toArray b16T)).alloc (.cells (pcs p).toArray pkT)).alloc (.cells (nrow .u8 t).toArray b8T)).heap[w.heap.size + 1 + 1]? = some (.cells (nrow .u8 t).toArray b8T) := by
    have := row_new (W := (w.alloc (.cells (nrow .u8 key).toArray b16T)).alloc (.cells (pcs p).toArray pkT)) (cs := (nrow .u8 t).toArray) (t := b8T) (m := (0, 0))
    simpa using this
  have RK := row_kept RK ((Below.refl _ _).alloc (Nat.le_refl _) (.cells (nrow .u8 t).toArray b8T)) (row_lt RK)
  have RP := row_kept RP ((Below.refl _ _).alloc (Nat.le_refl _) (.cells (nrow .u8 t).toArray b8T)) (row_lt RP)
  have LT : (nrow .u8 t).length = 8 := by rw [nrow_len]; exact ht
  have HT8 := Lib.hid ht
  have A1 := A2
  clear A2 ht htw
  clear A0 hL hk hkw hp hrg hps hpt hq hok hqw
  go_enter Tryd.func6, Tryd.ntmps6
  go_upto_region 1 with (fail)
  generalize ((w.alloc (.cells (nrow .u8 key).toArray b16T)).alloc (.cells (pcs p).toArray pkT)).alloc (.cells (nrow .u8 t).toArray b8T) = W0 at RK RP RT A1 ⊢
  go_wp2_with fail
  refine (small_any W0 (HT.out.keep A1 HT.out.2)).mono ?_
  rintro e w1 ⟨rfl, hB⟩
  have RK := row_kept RK hB (row_lt RK)
  have RP := row_kept RP hB (row_lt RP)
  have RT := row_kept RT hB (row_lt RT)
  have A2 := A1.trans (hB.mono A1.size)
  clear hB A1
  go_wp2_with (first
    | ((refine wpl_k16 ?_ (.tmp 3) ?_ w.heap.size key LK ?_ RK ?_); (rfl); (rfl); (rfl))
    | ((refine wpl_pk ?_ (.tmp 4) ?_ (w.heap.size + 1) p HP.out ?_ RP ?_); (rfl); (rfl); (rfl))
    )
  refine (SP.out _ (HT.out.keep A2 HT.out.2)).mono ?_
  rintro e w2 ⟨rfl, hB⟩
  have RK := row_kept RK hB (row_lt RK)
  have RP := row_kept RP hB (row_lt RP)
  have RT := row_kept RT hB (row_lt RT)
  have A3 := A2.trans (hB.mono A2.size)
  clear hB A2 SP
  have HG := Lib.hid (row_lt RT)
  go_upto_region 3 with (fail)
  have AN := KJ.out w2 (.cells (pcs q).toArray pkT)
  have RQ := row_new (W := w2) (cs := (pcs q).toArray) (t := pkT) (m := (0, 0))
  have RK := row_kept RK AN (row_lt RK)
  have RP := row_kept RP AN (row_lt RP)
  have RT := row_kept RT AN (row_lt RT)
  have A4 := A3.trans (AN.mono A3.size)
  generalize w2.alloc (.cells (pcs q).toArray pkT) = V at RK RP RT RQ A4 ⊢
  obtain ⟨gq, hgq'⟩ : ∃ g, g = w2.heap.size := ⟨_, rfl⟩
  have HG := Lib.hid (show w.heap.size + 1 + 1 < gq by rw [hgq']; exact HG.out)
  rw [← hgq'] at RQ ⊢
  clear AN A3 pkq hgq'
  have HG2 := Lib.hid (row_lt RQ)
  go_upto_region 4 with (first
    | ((refine wpl_pk ?_ (.tmp 4) ?_ (w.heap.size + 1) p HP.out ?_ RP ?_); (rfl); (rfl); (rfl))
    )
  have AN := KJ.out V (.cells (pcs p).toArray pkT)
  have RB := row_new (W := V) (cs := (pcs p).toArray) (t := pkT) (m := (0, 0))
  have RK := row_kept RK AN (row_lt RK)
  have RP := row_kept RP AN (row_lt RP)
  have RT := row_kept RT AN (row_lt RT)
  have RQ := row_kept RQ AN (row_lt RQ)
  have A5 := A4.trans (AN.mono A4.size)
  generalize V.alloc (.cells (pcs p).toArray pkT) = V1 at RK RP RT RQ RB A5 ⊢
  obtain ⟨gb, hgb'⟩ : ∃ g, g = V.heap.size := ⟨_, rfl⟩
  have HG2 := Lib.hid (show gq < gb by rw [hgb']; exact HG2.out)
  rw [← hgb'] at RB ⊢
  clear AN A4 hgb'
  have stT := store_tag RB HP.out (t := z8) rfl
  go_upto_region 5 with (fail)
  have RK := (setRow_far (w := V1) (g := gb) (t := pkT) (cs := (pcs (setT p z8)).toArray) (show w.heap.size ≠ gb from fun he => by have h1 := HG.out; have h2 := HG2.out; omega)).trans RK
  have RP := (setRow_far (w := V1) (g := gb) (t := pkT) (cs := (pcs (setT p z8)).toArray) (show w.heap.size + 1 ≠ gb from fun he => by have h1 := HG.out; have h2 := HG2.out; omega)).trans RP
  have RT := (setRow_far (w := V1) (g := gb) (t := pkT) (cs := (pcs (setT p z8)).toArray) (show w.heap.size + 1 + 1 ≠ gb from fun he => by have h1 := HG.out; have h2 := HG2.out; omega)).trans RT
  have RQ := (setRow_far (w := V1) (g := gb) (t := pkT) (cs := (pcs (setT p z8)).toArray) (show gq ≠ gb from fun he => by have h1 := HG.out; have h2 := HG2.out; omega)).trans RQ
  have RB := row_written (t := pkT) (ds := (pcs (setT p z8)).toArray) RB
  have A6 := setRow_below (g := gb) (t := pkT) (cs := (pcs (setT p z8)).toArray) A5 (show w.heap.size ≤ gb by have h1 := HG.out; have h2 := HG2.out; omega)
  generalize setRow V1 gb pkT (pcs (setT p z8)).toArray = V2 at RK RP RT RQ RB A6 ⊢
  clear stT A5
  have HG3 := Lib.hid (row_lt RB)
  have HB8 := Lib.hid (setT_wf HP.out (t := z8) rfl)
  go_upto_region 6 with (first
    | ((refine wpl_pk ?_ (.tmp 4) ?_ (w.heap.size + 1) p HP.out ?_ RP ?_); (rfl); (rfl); (rfl))
    )
  have AN := KJ.out V2 (.cells (pcs p).toArray pkT)
  have RO := row_new (W := V2) (cs := (pcs p).toArray) (t := pkT) (m := (0, 0))
  have RK := row_kept RK AN (row_lt RK)
  have RP := row_kept RP AN (row_lt RP)
  have RT := row_kept RT AN (row_lt RT)
  have RQ := row_kept RQ AN (row_lt RQ)
  have RB := row_kept RB AN (row_lt RB)
  have A7 := A6.trans (AN.mono A6.size)
  generalize V2.alloc (.cells (pcs p).toArray pkT) = V3 at RK RP RT RQ RB RO A7 ⊢
  obtain ⟨go, hgo'⟩ : ∃ g, g = V2.heap.size := ⟨_, rfl⟩
  have HG3 := Lib.hid (show gb < go by rw [hgo']; exact HG3.out)
  rw [← hgo'] at RO ⊢
  clear AN A6 hgo' pkp
  have HRT := Lib.hid (range_row RT)
  have stT := store_tag RO HP.out HT8.out
  go_upto_region 7 with (first
    | ((refine wpl_tag ?_ (.tmp 5) ?_ (w.heap.size + 1 + 1) 0 t HT8.out ?_ HRT.out ?_); (rfl); (rfl); (rfl))
    )
  have RK := (setRow_far (w := V3) (g := go) (t := pkT) (cs := (pcs (setT p t)).toArray) (show w.heap.size ≠ go from fun he => by have h1 := HG.out; have h2 := HG2.out; have h3 := HG3.out; omega)).trans RK
  have RP := (setRow_far (w := V3) (g := go) (t := pkT) (cs := (pcs (setT p t)).toArray) (show w.heap.size + 1 ≠ go from fun he => by have h1 := HG.out; have h2 := HG2.out; have h3 := HG3.out; omega)).trans RP
  have RQ := (setRow_far (w := V3) (g := go) (t := pkT) (cs := (pcs (setT p t)).toArray) (show gq ≠ go from fun he => by have h1 := HG.out; have h2 := HG2.out; have h3 := HG3.out; omega)).trans RQ
  have RB := (setRow_far (w := V3) (g := go) (t := pkT) (cs := (pcs (setT p t)).toArray) (show gb ≠ go from fun he => by have h1 := HG.out; have h2 := HG2.out; have h3 := HG3.out; omega)).trans RB
  have RO := row_written (t := pkT) (ds := (pcs (setT p t)).toArray) RO
  have A8 := setRow_below (g := go) (t := pkT) (cs := (pcs (setT p t)).toArray) A7 (show w.heap.size ≤ go by have h1 := HG.out; have h2 := HG2.out; have h3 := HG3.out; omega)
  generalize setRow V3 go pkT (pcs (setT p t)).toArray = V4 at RK RP RQ RB RO A8 ⊢
  clear stT HRT A7 RT
  have HPT := Lib.hid (setT_wf HP.out HT8.out)
  have SO := Lib.hid (fun W ht => sign_any W key HK.out KW.out (setT p t) HPT.out HRg.out HPS.out ht q (by rw [← Hq.out]; exact sgPk_set key p t) ok (by rw [sgOk_set]; exact Hok.out))
  go_wp2_with (first
    | ((refine wpl_k16 ?_ (.tmp 3) ?_ w.heap.size key LK ?_ RK ?_); (rfl); (rfl); (rfl))
    | ((refine wpl_pk ?_ (.tmp 11) ?_ go (setT p t) HPT.out ?_ RO ?_); (rfl); (rfl); (rfl))
    )
  refine (SO.out _ (HT.out.keep A8 HT.out.2)).mono ?_
  rintro e w5 ⟨rfl, hB⟩
  have RP := row_kept RP hB (row_lt RP)
  have RQ := row_kept RQ hB (row_lt RQ)
  have RB := row_kept RB hB (row_lt RB)
  have A9 := A8.trans (hB.mono A8.size)
  clear hB A8 SO RK RO
  have pkq := fun W => pk_new HQ.out W
  go_upto_region 8 with (fail)
  have AN := KJ.out w5 (.cells (pcs q).toArray pkT)
  have RR := row_new (W := w5) (cs := (pcs q).toArray) (t := pkT) (m := (0, 0))
  have RP := row_kept RP AN (row_lt RP)
  have RQ := row_kept RQ AN (row_lt RQ)
  have RB := row_kept RB AN (row_lt RB)
  have A10 := A9.trans (AN.mono A9.size)
  generalize w5.alloc (.cells (pcs q).toArray pkT) = V5 at RP RQ RB RR A10 ⊢
  obtain ⟨gr, hgr'⟩ : ∃ g, g = w5.heap.size := ⟨_, rfl⟩
  rw [← hgr'] at RR ⊢
  clear AN A9 pkq hgr'
  have EQ := fun W => eql_pk W HQ.out HQ.out
  rw [decide_eq_true rfl] at EQ
  have c0 := pk_cell RP HP.out 0 (by decide)
  rw [show p.h.getD 0 0 = p.kind from rfl] at c0
  go_wp2_with fail
  refine (tagged_any p.kind _).mono ?_
  rintro e w' ⟨rfl, rfl⟩
  cases hT : isTag p.kind
  · have hok0 : ok = false := by rw [← Hok.out]; exact pk0_enc hT
    subst hok0
    clear hT c0 RP
    go_wp2_with (first
      | ((refine wpl_pk ?_ (.tmp 8) ?_ gq q HQ.out ?_ RQ ?_); (rfl); (rfl); (rfl))
      | ((refine wpl_pk ?_ (.tmp 12) ?_ gr q HQ.out ?_ RR ?_); (rfl); (rfl); (rfl))
      )
    go_ret
    exact ⟨rfl, A10⟩
  · have hok1 : ok = (setT p z8).right := by rw [← Hok.out]; unfold sgOk; rw [hT]; rfl
    clear hT c0 RP
    go_wp2_with (first
      | ((refine wpl_pk ?_ (.tmp 10) ?_ gb (setT p z8) HB8.out ?_ RB ?_); (rfl); (rfl); (rfl))
      )
    refine (wright_any (setT p z8) HB8.out _).mono ?_
    rintro e w6 ⟨rfl, hB⟩
    rw [← hok1]
    have RQ := row_kept RQ hB (row_lt RQ)
    have RR := row_kept RR hB (row_lt RR)
    have A11 := A10.trans (hB.mono A10.size)
    clear hB A10 RB hok1
    go_wp2_with (first
      | ((refine wpl_pk ?_ (.tmp 8) ?_ gq q HQ.out ?_ RQ ?_); (rfl); (rfl); (rfl))
      | ((refine wpl_pk ?_ (.tmp 12) ?_ gr q HQ.out ?_ RR ?_); (rfl); (rfl); (rfl))
      )
    go_ret
    exact ⟨ret_bool (by simp), A11⟩
theorem own : ownKnob Tryd.prog.godebug = none := by kernel_rfl
theorem laid : laidOutB Tryd.prog = true := by kernel_rfl

noncomputable def laidWorld (os : Os) : World := World.doorLaid Tryd.prog 400 os
theorem laid_met (os : Os) : laidMet Tryd.prog Rows.tagMayRow.laid ((laidWorld os).forCall (fun _ _ => 0) ⟨#[], #[.agg #[.int .u8 0, .int .u8 0, .int .u8 0, .int .u8 0, .int .u8 0, .int .u8 0, .int .u8 0, .int .u8 0, .int .u8 0, .int .u8 0, .int .u8 0, .int .u8 0, .int .u8 0, .int .u8 0, .int .u8 0, .int .u8 0], .agg (pcs pk0).toArray, .agg #[.int .u8 0, .int .u8 0, .int .u8 0, .int .u8 0, .int .u8 0, .int .u8 0, .int .u8 0, .int .u8 0]], []⟩).memory :=
  laidMet_of_run' 8 (by kernel_rfl) (by kernel_rfl)
theorem reads (os : Os) {H : Type} (enc : TypeId × Value → H) : ∃ places, DataW.whole enc Tryd.prog ((laidWorld os).forCall (fun _ _ => 0) ⟨#[], #[.agg #[.int .u8 0, .int .u8 0, .int .u8 0, .int .u8 0, .int .u8 0, .int .u8 0, .int .u8 0, .int .u8 0, .int .u8 0, .int .u8 0, .int .u8 0, .int .u8 0, .int .u8 0, .int .u8 0, .int .u8 0, .int .u8 0], .agg (pcs pk0).toArray, .agg #[.int .u8 0, .int .u8 0, .int .u8 0, .int .u8 0, .int .u8 0, .int .u8 0, .int .u8 0, .int .u8 0]], []⟩).memory Tryd.f6.params.toList Rows.tagMaySpec.vars false #[.agg #[.int .u8 0, .int .u8 0, .int .u8 0, .int .u8 0, .int .u8 0, .int .u8 0, .int .u8 0, .int .u8 0, .int .u8 0, .int .u8 0, .int .u8 0, .int .u8 0, .int .u8 0, .int .u8 0, .int .u8 0, .int .u8 0], .agg (pcs pk0).toArray, .agg #[.int .u8 0, .int .u8 0, .int .u8 0, .int .u8 0, .int .u8 0, .int .u8 0, .int .u8 0, .int .u8 0]].toList 8 = some ([.agg [.lit (.int .u8 0), .lit (.int .u8 0), .lit (.int .u8 0), .lit (.int .u8 0), .lit (.int .u8 0), .lit (.int .u8 0), .lit (.int .u8 0), .lit (.int .u8 0), .lit (.int .u8 0), .lit (.int .u8 0), .lit (.int .u8 0), .lit (.int .u8 0), .lit (.int .u8 0), .lit (.int .u8 0), .lit (.int .u8 0), .lit (.int .u8 0)], .agg [.lit (.int .i64 0), .lit (.int .i64 0), .lit (.int .i64 0), .lit (.int .i64 0), .lit (.int .i64 0), .lit (.int .i64 0), .lit (.int .i64 0), .lit (.int .i64 0), .lit (.int .i64 0), .lit (.int .i64 0), .lit (.int .i64 0), .lit (.int .i64 0), .agg [.lit (.int .u8 0), .lit (.int .u8 0), .lit (.int .u8 0), .lit (.int .u8 0), .lit (.int .u8 0), .lit (.int .u8 0), .lit (.int .u8 0), .lit (.int .u8 0), .lit (.int .u8 0), .lit (.int .u8 0), .lit (.int .u8 0), .lit (.int .u8 0), .lit (.int .u8 0), .lit (.int .u8 0), .lit (.int .u8 0), .lit (.int .u8 0)], .agg [.lit (.int .u8 0), .lit (.int .u8 0), .lit (.int .u8 0), .lit (.int .u8 0), .lit (.int .u8 0), .lit (.int .u8 0), .lit (.int .u8 0), .lit (.int .u8 0)]], .agg [.lit (.int .u8 0), .lit (.int .u8 0), .lit (.int .u8 0), .lit (.int .u8 0), .lit (.int .u8 0), .lit (.int .u8 0), .lit (.int .u8 0), .lit (.int .u8 0)]], [], places) :=
  ⟨[], by kernel_rfl⟩

set_option maxRecDepth 100000 in
theorem lifted (os : Os) (started : os.Started) (H : Type) (enc : TypeId × Value → H) (F : Stop.Interp) :
    ReturnsInHanded {} Tryd.checked os 6 .any ((OpenSpec.ofChange Rows.tagMaySpec).preRow enc Tryd.prog Tryd.f6 Rows.tagMayRow.domain false Rows.tagMayRow.laid) (((OpenSpec.ofChange Rows.tagMaySpec).at F).post enc Tryd.prog Tryd.f6 false true false false) := by
  obtain ⟨places, hx⟩ := reads os enc
  refine law_lifted_laid (C := Tryd.checked) (s := Rows.tagMaySpec) (B := 4) own started (by kernel_rfl) Tryd.func6
    (witness_row_at (enc := enc) (C := Tryd.checked) false (laidWorld os) #[.agg #[.int .u8 0, .int .u8 0, .int .u8 0, .int .u8 0, .int .u8 0, .int .u8 0, .int .u8 0, .int .u8 0, .int .u8 0, .int .u8 0, .int .u8 0, .int .u8 0, .int .u8 0, .int .u8 0, .int .u8 0, .int .u8 0], .agg (pcs pk0).toArray, .agg #[.int .u8 0, .int .u8 0, .int .u8 0, .int .u8 0, .int .u8 0, .int .u8 0, .int .u8 0, .int .u8 0]] rfl (by kernel_rfl) (by kernel_rfl) (by kernel_rfl)
      (OpenSpec.preRow_of_cond 8 hx (by kernel_rfl) (fun k hk => by cases hk) (by kernel_rfl) (laid_met os)))
    rfl rfl Tryd.underlying4 laid (of_decide_eq_true (by kernel_rfl)) ?_ ?_
  · intro ds hl
    rw [Tryd.params6] at hl
    match ds, hl with
    | [d0, d1, d2], _ => rfl
  · intro W base args ds ps hval hA hlt hz hL
    rw [Tryd.params6] at hA hval
    obtain ⟨v0, vs0, d0, ds0, p0, q0, hargs, rfl, rfl, h0, r0⟩ := trodAll_cons hA
    obtain ⟨v1, vs1, d1, ds1, p1, q1, rfl, rfl, rfl, h1, r1⟩ := trodAll_cons r0
    obtain ⟨v2, vs2, d2, ds2, p2, q2, rfl, rfl, rfl, h2, r2⟩ := trodAll_cons r1
    obtain ⟨rfl, rfl, rfl⟩ := trodAll_nil r2
    obtain rfl : args = #[v0, v1, v2] := by cases args; simp_all
    obtain ⟨l0, rfl, hl0, hw0⟩ := open_arr Tryd.underlying23 Tryd.underlying5 (by kernel_rfl) (by kernel_rfl) (hval 0 23 v0 rfl rfl) h0
    obtain ⟨p'1, rfl, hwf1, hrg1, hs1, ht1⟩ := open_packet (hval 1 26 v1 rfl rfl) h1
    obtain ⟨l2, rfl, hl2, hw2⟩ := open_arr Tryd.underlying24 Tryd.underlying5 (by kernel_rfl) (by kernel_rfl) (hval 2 24 v2 rfl rfl) h2
    exact walk W hL l0 hl0 hw0 p'1 hwf1 hrg1 hs1 ht1 l2 hl2 hw2

theorem said : Rows.TagMaySaid :=
  OpenClaim.holds_of_cond 6 Tryd.f6 rfl rfl rfl rfl rfl rfl rfl ⟨rfl, rfl, rfl, rfl, rfl⟩ rfl rfl rfl rfl rfl (by kernel_rfl) Tryd.func6 (by kernel_rfl)
    (of_decide_eq_true (by kernel_rfl)) (by unfold Func.isWrapper; first | (rw [if_pos (by decide +kernel)]; kernel_rfl) | (rw [if_neg (by decide +kernel)]; exact ⟨rfl, rfl⟩))
    (fun os started H enc _ F => by rw [OpenClaim.pre_eq_preRow]; exact lifted os started H enc F)
theorem plain (f : FuncId) (fn : Func) (hf : Tryd.pinned.checked.prog.funcNamed "nightjar/nightjarlaw07.TagMay" = some f) (hfn : Tryd.pinned.checked.prog.funcs[f]? = some fn) :
    false = Tryd.pinned.checked.prog.looks [] ∧ ∀ (j : Nat) t, fn.params[j]? = some t → Tryd.pinned.checked.prog.wantsStandIn t = false := by
  obtain rfl : f = 6 := Option.some.inj ((show Tryd.prog.funcNamed "nightjar/nightjarlaw07.TagMay" = some 6 by kernel_rfl).symm.trans hf) |>.symm
  obtain rfl : fn = Tryd.f6 := (Option.some.inj (Tryd.func6.symm.trans hfn)).symm
  refine ⟨by kernel_rfl, fun j t ht => ?_⟩
  have hm : t ∈ Tryd.f6.params.toList := by simpa using Array.mem_of_getElem? ht
  have hall : (Tryd.f6.params.toList.all fun u => !Tryd.prog.wantsStandIn u) = true := by kernel_rfl
  exact (show Tryd.prog.wantsStandIn t = false by simpa using List.all_eq_true.1 hall t hm)

theorem proved : Rows.TagMayCardSaid :=
  Claim7.holds_tied_plain_at .later [] _ _ _ _ said (fun _ h => by cases h) (by kernel_rfl) (fun _ h => by cases h) tagMay_row_tie rfl ⟨rfl, rfl⟩ (by kernel_rfl) rfl plain (by kernel_rfl)
#print axioms proved
end Go.Proofs.YtpglhkjgcahdbaaDoor.tagMay
