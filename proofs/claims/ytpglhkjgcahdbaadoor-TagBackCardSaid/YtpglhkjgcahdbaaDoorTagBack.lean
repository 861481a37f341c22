/- TagBack holds for any key and any packet: what was signed is right, and good, and the packet but for its tag, and is signed as it is once more; what is not signed is of nothing, not good, and of no kind that holds a tag, or not right. The constants read as the program lays them (the card ties them). No other condition. -/
import Derived.Test.YtpglhkjgcahdbaaDoorQ17
namespace Go.Proofs.YtpglhkjgcahdbaaDoor.tagBack
open Go.ChangeShapes Go.WideShapes Go.ChangeAt Go.RowKit
set_option maxRecDepth 100000 in
set_option maxHeartbeats 2000000 in
theorem walk (w : World) (hL : laidMetH Tryd.prog Rows.tagBackRow.laid w) (key : List Int) (hk : key.length = 16) (hkw : ∀ z ∈ key, (Lit.int .u8 z).wf = true) (p : Pk) (hp : p.Wf) (hrg : p.Rng) (hps : ∀ z ∈ p.s, 0 ≤ z ∧ z < 256) (hpt : ∀ z ∈ p.t, 0 ≤ z ∧ z < 256) :
    Calls Tryd.prog 4 #[.agg (nrow .u8 key).toArray, .agg (pcs p).toArray] w fun e w' => e = .returned (.bool true) ∧ Below w.heap.size w w' := by
  have HT := Lib.hid (kt_of_laid hL)
  have zpk := zero_pk
  have z8' := zero_b8
  have A0 : Below w.heap.size w (w.alloc (.cells (nrow .u8 key).toArray b16T)) := (Below.refl _ _).alloc (Nat.le_refl _) _
  have A1 := A0.alloc A0.size (.cells (pcs p).toArray pkT)
  have RK := row_new (W := w) (cs := (nrow .u8 key).toArray) (t := b16T) (m := (0, 0))
  have RP : ((w.alloc (.cells (nrow .u8 key).toArray b16T)).alloc (.cells (pcs p).toArray pkT)).heap[w.heap.size + 1]? = some (.cells (pcs p).toArray pkT) := by
    have := row_new (W := w.alloc (.cells (nrow .u8 key).toArray b16T)) (cs := (pcs p).toArray) (t := pkT) (m := (0, 0))
    simpa using this
  have RK := row_kept RK ((Below.refl _ _).alloc (Nat.le_refl _) (.cells (pcs p).toArray pkT)) (row_lt RK)
  have LK : (nrow .u8 key).length = 16 := by rw [nrow_len]; exact hk
  have KW := Lib.hid (show ∀ z ∈ key, 0 ≤ z ∧ z < 256 from fun z hz => byte_wf (hkw z hz))
  have KJ := Lib.hid (fun (w : World) (o : Obj) => (Below.refl w.heap.size w).alloc (Nat.le_refl _) o)
  obtain ⟨q, hq⟩ : ∃ q, sgPk key p = q := ⟨_, rfl⟩
  obtain ⟨ok, hok⟩ : ∃ ok, sgOk p = ok := ⟨_, rfl⟩
  have hqw : q.Wf := by rw [← hq]; exact sgPk_wf key hp
  have pkq := fun W => pk_new hqw W
  have pkp := fun W => pk_new hp W
  have LQ := pcs_len hqw
  have LP := pcs_len hp
  have HP := Lib.hid hp
  have HQ := Lib.hid hqw
  have HRg := Lib.hid hrg
  have HPS := Lib.hid hps
  have HK := Lib.hid hk
  have Hq := Lib.hid hq
  have Hok := Lib.hid hok
  have SP := Lib.hid (fun W ht => sign_any W key hk KW.out p hp hrg hps ht q hq ok hok)
  clear A0 hL hk hkw hp hrg hps hpt hq hok hqw
  go_enter Tryd.func4, Tryd.ntmps4
  go_upto_region 1 with (fail)
  generalize (w.alloc (.cells (nrow .u8 key).toArray b16T)).alloc (.cells (pcs p).toArray pkT) = W0 at RK RP A1 ⊢
  go_wp2_with fail
  refine (small_any W0 (HT.out.keep A1 HT.out.2)).mono ?_
  rintro e w1 ⟨rfl, hB⟩
  have RK := row_kept RK hB (row_lt RK)
  have RP := row_kept RP hB (row_lt RP)
  have A2 := A1.trans (hB.mono A1.size)
  clear hB A1
  go_wp2_with (first
    | ((refine wpl_k16 ?_ (.tmp 2) ?_ w.heap.size key LK ?_ RK ?_); (rfl); (rfl); (rfl))
    | ((refine wpl_pk ?_ (.tmp 3) ?_ (w.heap.size + 1) p HP.out ?_ RP ?_); (rfl); (rfl); (rfl))
    )
  refine (SP.out _ (HT.out.keep A2 HT.out.2)).mono ?_
  rintro e w2 ⟨rfl, hB⟩
  have RK := row_kept RK hB (row_lt RK)
  have RP := row_kept RP hB (row_lt RP)
  have A3 := A2.trans (hB.mono A2.size)
  clear hB A2 SP
  have HG := Lib.hid (row_lt RP)
  go_upto_region 3 with (fail)
  have AN := KJ.out w2 (.cells (pcs q).toArray pkT)
  have RQ := row_new (W := w2) (cs := (pcs q).toArray) (t := pkT) (m := (0, 0))
  have RK := row_kept RK AN (row_lt RK)
  have RP := row_kept RP AN (row_lt RP)
  have A4 := A3.trans (AN.mono A3.size)
  generalize w2.alloc (.cells (pcs q).toArray pkT) = V at RK RP RQ A4 ⊢
  obtain ⟨gq, hgq'⟩ : ∃ g, g = w2.heap.size := ⟨_, rfl⟩
  have HG := Lib.hid (show w.heap.size + 1 < gq by rw [hgq']; exact HG.out)
  rw [← hgq'] at RQ ⊢
  clear AN A3 hgq'
  cases ok
  · have hq0 : q = pk0 := by rw [← Hq.out]; exact sgPk_bad Hok.out
    have g1 : gdB key p = false := by unfold gdB; rw [Hok.out]; rfl
    have GD := Lib.hid (fun W ht => good_any W key HK.out KW.out p HP.out HRg.out HPS.out ht false g1)
    have EQ := fun W => eql_pk W pk0_wf pk0_wf
    rw [decide_eq_true rfl] at EQ
    subst hq0
    clear pkq pkp g1
    go_wp2_with (first
      | ((refine wpl_pk ?_ (.tmp 6) ?_ gq pk0 pk0_wf ?_ RQ ?_); (rfl); (rfl); (rfl))
      | ((refine wpl_k16 ?_ (.tmp 2) ?_ w.heap.size key LK ?_ RK ?_); (rfl); (rfl); (rfl))
      | ((refine wpl_pk ?_ (.tmp 3) ?_ (w.heap.size + 1) p HP.out ?_ RP ?_); (rfl); (rfl); (rfl))
      )
    refine (GD.out _ (HT.out.keep A4 HT.out.2)).mono ?_
    rintro e w3 ⟨rfl, hB⟩
    have RP := row_kept RP hB (row_lt RP)
    have A5 := A4.trans (hB.mono A4.size)
    clear hB A4 GD EQ RK RQ
    have c0 := pk_cell RP HP.out 0 (by decide)
    rw [show p.h.getD 0 0 = p.kind from rfl] at c0
    go_wp2_with fail
    refine (tagged_any p.kind _).mono ?_
    rintro e w' ⟨rfl, rfl⟩
    cases hT : isTag p.kind
    · clear hT c0
      go_wp2
      go_ret
      exact ⟨rfl, A5⟩
    · have hr : p.right = false := by
        cases h : p.right
        · rfl
        · have h2 := right_tag h (isTag_iff hT) z8
          have h3 := Hok.out
          unfold sgOk at h3
          rw [hT, h2] at h3
          exact h3
      clear hT c0
      go_wp2_with (first
        | ((refine wpl_pk ?_ (.tmp 3) ?_ (w.heap.size + 1) p HP.out ?_ RP ?_); (rfl); (rfl); (rfl))
        )
      refine (wright_any p HP.out _).mono ?_
      rintro e w4 ⟨rfl, hB⟩
      rw [hr]
      have A6 := A5.trans (hB.mono A5.size)
      clear hB A5
      go_wp2
      go_ret
      exact ⟨rfl, A6⟩
  · have hqp : q = setT p (sgTag key p) := by rw [← Hq.out]; exact sgPk_ok Hok.out
    have hqt : sgTag key q = q.t := by rw [hqp, sgTag_set, setT_t]
    have hqo : sgOk q = true := by rw [hqp, sgOk_set]; exact Hok.out
    have hqs : sgPk key q = q := by rw [hqp, sgPk_set, sgPk_ok Hok.out]
    have hqr : q.right = true := by
      have h := Hok.out
      unfold sgOk at h
      rw [Bool.and_eq_true] at h
      have h2 := right_tag h.2 (isTag_iff h.1) (sgTag key p)
      rw [hqp]
      exact h2
    have hbare : setT q p.t = p := by rw [hqp]; rfl
    have hqg : gdB key q = true := by unfold gdB; rw [hqo, hqt, Bool.true_and]; exact decide_eq_true rfl
    have hqR : q.Rng := by rw [hqp]; exact HRg.out
    have hqS : ∀ z ∈ q.s, 0 ≤ z ∧ z < 256 := by rw [hqp]; exact HPS.out
    have SQ := Lib.hid (fun W ht => sign_any W key HK.out KW.out q HQ.out hqR hqS ht q hqs true hqo)
    have GQ := Lib.hid (fun W ht => good_any W key HK.out KW.out q HQ.out hqR hqS ht true hqg)
    have Hbare := Lib.hid hbare
    have Hqr := Lib.hid hqr
    have EQ := fun W => eql_pk W HQ.out HQ.out
    rw [decide_eq_true rfl] at EQ
    have EP := fun W => eql_pk W HP.out HP.out
    rw [decide_eq_true rfl] at EP
    clear hqp hqt hqo hqs hqr hbare hqg hqR hqS
    go_wp2_with (first
      | ((refine wpl_k16 ?_ (.tmp 2) ?_ w.heap.size key LK ?_ RK ?_); (rfl); (rfl); (rfl))
      | ((refine wpl_pk ?_ (.tmp 6) ?_ gq q HQ.out ?_ RQ ?_); (rfl); (rfl); (rfl))
      )
    refine (SQ.out _ (HT.out.keep A4 HT.out.2)).mono ?_
    rintro e w3 ⟨rfl, hB⟩
    have RK := row_kept RK hB (row_lt RK)
    have RP := row_kept RP hB (row_lt RP)
    have RQ := row_kept RQ hB (row_lt RQ)
    have A5 := A4.trans (hB.mono A4.size)
    clear hB A4 SQ
    have HG2 := Lib.hid (row_lt RQ)
    go_upto_region 6 with (fail)
    have AN := KJ.out w3 (.cells (pcs q).toArray pkT)
    have RA := row_new (W := w3) (cs := (pcs q).toArray) (t := pkT) (m := (0, 0))
    have RK := row_kept RK AN (row_lt RK)
    have RP := row_kept RP AN (row_lt RP)
    have RQ := row_kept RQ AN (row_lt RQ)
    have A6 := A5.trans (AN.mono A5.size)
    generalize w3.alloc (.cells (pcs q).toArray pkT) = V1 at RK RP RQ RA A6 ⊢
    obtain ⟨ga, hga'⟩ : ∃ g, g = w3.heap.size := ⟨_, rfl⟩
    have HG2 := Lib.hid (show gq < ga by rw [hga']; exact HG2.out)
    rw [← hga'] at RA ⊢
    clear AN A5 hga'
    have HG3 := Lib.hid (row_lt RA)
    go_upto_region 7 with (first
      | ((refine wpl_pk ?_ (.tmp 6) ?_ gq q HQ.out ?_ RQ ?_); (rfl); (rfl); (rfl))
      )
    have AN := KJ.out V1 (.cells (pcs q).toArray pkT)
    have RB := row_new (W := V1) (cs := (pcs q).toArray) (t := pkT) (m := (0, 0))
    have RK := row_kept RK AN (row_lt RK)
    have RP := row_kept RP AN (row_lt RP)
    have RQ := row_kept RQ AN (row_lt RQ)
    have RA := row_kept RA AN (row_lt RA)
    have A7 := A6.trans (AN.mono A6.size)
    generalize V1.alloc (.cells (pcs q).toArray pkT) = V2 at RK RP RQ RA RB A7 ⊢
    obtain ⟨gb, hgb'⟩ : ∃ g, g = V1.heap.size := ⟨_, rfl⟩
    have HG3 := Lib.hid (show ga < gb by rw [hgb']; exact HG3.out)
    rw [← hgb'] at RB ⊢
    clear AN A6 hgb' pkq
    have HRT := Lib.hid (range_tag RP HP.out)
    have stT := store_tag RB HQ.out HP.out.t
    rw [Hbare.out] at stT
    have LPt : (nrow .u8 p.t).length = 8 := by rw [nrow_len]; exact HP.out.t
    go_upto_region 8 with (first
      | ((refine wpl_tag ?_ (.tmp 50) ?_ (w.heap.size + 1) 28 p.t HP.out.t ?_ HRT.out ?_); (rfl); (rfl); (rfl))
      )
    have RK := (setRow_far (w := V2) (g := gb) (t := pkT) (cs := (pcs p).toArray) (show w.heap.size ≠ gb from fun he => by have h1 := HG.out; have h2 := HG2.out; have h3 := HG3.out; omega)).trans RK
    have RP := (setRow_far (w := V2) (g := gb) (t := pkT) (cs := (pcs p).toArray) (show w.heap.size + 1 ≠ gb from fun he => by have h1 := HG.out; have h2 := HG2.out; have h3 := HG3.out; omega)).trans RP
    have RQ := (setRow_far (w := V2) (g := gb) (t := pkT) (cs := (pcs p).toArray) (show gq ≠ gb from fun he => by have h1 := HG.out; have h2 := HG2.out; have h3 := HG3.out; omega)).trans RQ
    have RA := (setRow_far (w := V2) (g := gb) (t := pkT) (cs := (pcs p).toArray) (show ga ≠ gb from fun he => by have h1 := HG.out; have h2 := HG2.out; have h3 := HG3.out; omega)).trans RA
    have RB := row_written (t := pkT) (ds := (pcs p).toArray) RB
    have A8 := setRow_below (g := gb) (t := pkT) (cs := (pcs p).toArray) A7 (show w.heap.size ≤ gb by have h1 := HG.out; have h2 := HG2.out; have h3 := HG3.out; omega)
    generalize setRow V2 gb pkT (pcs p).toArray = V3 at RK RP RQ RA RB A8 ⊢
    clear stT HRT A7
    go_wp2_with (first
      | ((refine wpl_pk ?_ (.tmp 6) ?_ gq q HQ.out ?_ RQ ?_); (rfl); (rfl); (rfl))
      )
    refine (wright_any q HQ.out _).mono ?_
    rintro e w6 ⟨rfl, hB⟩
    rw [Hqr.out]
    have RK := row_kept RK hB (row_lt RK)
    have RP := row_kept RP hB (row_lt RP)
    have RQ := row_kept RQ hB (row_lt RQ)
    have RA := row_kept RA hB (row_lt RA)
    have RB := row_kept RB hB (row_lt RB)
    have A9 := A8.trans (hB.mono A8.size)
    clear hB A8
    go_wp2_with (first
      | ((refine wpl_k16 ?_ (.tmp 2) ?_ w.heap.size key LK ?_ RK ?_); (rfl); (rfl); (rfl))
      | ((refine wpl_pk ?_ (.tmp 6) ?_ gq q HQ.out ?_ RQ ?_); (rfl); (rfl); (rfl))
      )
    refine (GQ.out _ (HT.out.keep A9 HT.out.2)).mono ?_
    rintro e w7 ⟨rfl, hB⟩
    have RP := row_kept RP hB (row_lt RP)
    have RQ := row_kept RQ hB (row_lt RQ)
    have RA := row_kept RA hB (row_lt RA)
    have RB := row_kept RB hB (row_lt RB)
    have A10 := A9.trans (hB.mono A9.size)
    clear hB A9 GQ RK
    go_wp2_with (first
      | ((refine wpl_pk ?_ (.tmp 8) ?_ ga q HQ.out ?_ RA ?_); (rfl); (rfl); (rfl))
      | ((refine wpl_pk ?_ (.tmp 6) ?_ gq q HQ.out ?_ RQ ?_); (rfl); (rfl); (rfl))
      | ((refine wpl_pk ?_ (.tmp 10) ?_ gb p HP.out ?_ RB ?_); (rfl); (rfl); (rfl))
      | ((refine wpl_pk ?_ (.tmp 3) ?_ (w.heap.size + 1) p HP.out ?_ RP ?_); (rfl); (rfl); (rfl))
      )
    go_ret
    exact ⟨rfl, A10⟩
theorem own : ownKnob Tryd.prog.godebug = none := by kernel_rfl
theorem laid : laidOutB Tryd.prog = true := by kernel_rfl

noncomputable def laidWorld (os : Os) : World := World.doorLaid Tryd.prog 400 os
theorem laid_met (os : Os) : laidMet Tryd.prog Rows.tagBackRow.laid ((laidWorld os).forCall (fun _ _ => 0) ⟨#[], #[.agg #[.int .u8 0, .int .u8 0, .int .u8 0, .int .u8 0, .int .u8 0, .int .u8 0, .int .u8 0, .int .u8 0, .int .u8 0, .int .u8 0, .int .u8 0, .int .u8 0, .int .u8 0, .int .u8 0, .int .u8 0, .int .u8 0], .agg (pcs pk0).toArray], []⟩).memory :=
  laidMet_of_run' 8 (by kernel_rfl) (by kernel_rfl)
theorem reads (os : Os) {H : Type} (enc : TypeId × Value → H) : ∃ places, DataW.whole enc Tryd.prog ((laidWorld os).forCall (fun _ _ => 0) ⟨#[], #[.agg #[.int .u8 0, .int .u8 0, .int .u8 0, .int .u8 0, .int .u8 0, .int .u8 0, .int .u8 0, .int .u8 0, .int .u8 0, .int .u8 0, .int .u8 0, .int .u8 0, .int .u8 0, .int .u8 0, .int .u8 0, .int .u8 0], .agg (pcs pk0).toArray], []⟩).memory Tryd.f4.params.toList Rows.tagBackSpec.vars false #[.agg #[.int .u8 0, .int .u8 0, .int .u8 0, .int .u8 0, .int .u8 0, .int .u8 0, .int .u8 0, .int .u8 0, .int .u8 0, .int .u8 0, .int .u8 0, .int .u8 0, .int .u8 0, .int .u8 0, .int .u8 0, .int .u8 0], .agg (pcs pk0).toArray].toList 8 = some ([.agg [.lit (.int .u8 0), .lit (.int .u8 0), .lit (.int .u8 0), .lit (.int .u8 0), .lit (.int .u8 0), .lit (.int .u8 0), .lit (.int .u8 0), .lit (.int .u8 0), .lit (.int .u8 0), .lit (.int .u8 0), .lit (.int .u8 0), .lit (.int .u8 0), .lit (.int .u8 0), .lit (.int .u8 0), .lit (.int .u8 0), .lit (.int .u8 0)], .agg [.lit (.int .i64 0), .lit (.int .i64 0), .lit (.int .i64 0), .lit (.int .i64 0), .lit (.int .i64 0), .lit (.int .i64 0), .lit (.int .i64 0), .lit (.int .i64 0), .lit (.int .i64 0), .lit (.int .i64 0), .lit (.int .i64 0), .lit (.int .i64 0), .agg [.lit (.int .u8 0), .lit (.int .u8 0), .lit (.int .u8 0), .lit (.int .u8 0), .lit (.int .u8 0), .lit (.int .u8 0), .lit (.int .u8 0), .lit (.int .u8 0), .lit (.int .u8 0), .lit (.int .u8 0), .lit (.int .u8 0), .lit (.int .u8 0), .lit (.int .u8 0), .lit (.int .u8 0), .lit (.int .u8 0), .lit (.int .u8 0)], .agg [.lit (.int .u8 0), .lit (.int .u8 0), .lit (.int .u8 0), .lit (.int .u8 0), .lit (.int .u8 0), .lit (.int .u8 0), .lit (.int .u8 0), .lit (.int .u8 0)]]], [], places) :=
  ⟨[], by kernel_rfl⟩

set_option maxRecDepth 100000 in
theorem lifted (os : Os) (started : os.Started) (H : Type) (enc : TypeId × Value → H) (F : Stop.Interp) :
    ReturnsInHanded {} Tryd.checked os 4 .any ((OpenSpec.ofChange Rows.tagBackSpec).preRow enc Tryd.prog Tryd.f4 Rows.tagBackRow.domain false Rows.tagBackRow.laid) (((OpenSpec.ofChange Rows.tagBackSpec).at F).post enc Tryd.prog Tryd.f4 false true false false) := by
  obtain ⟨places, hx⟩ := reads os enc
  refine law_lifted_laid (C := Tryd.checked) (s := Rows.tagBackSpec) (B := 4) own started (by kernel_rfl) Tryd.func4
    (witness_row_at (enc := enc) (C := Tryd.checked) false (laidWorld os) #[.agg #[.int .u8 0, .int .u8 0, .int .u8 0, .int .u8 0, .int .u8 0, .int .u8 0, .int .u8 0, .int .u8 0, .int .u8 0, .int .u8 0, .int .u8 0, .int .u8 0, .int .u8 0, .int .u8 0, .int .u8 0, .int .u8 0], .agg (pcs pk0).toArray] rfl (by kernel_rfl) (by kernel_rfl) (by kernel_rfl)
      (OpenSpec.preRow_of_cond 8 hx (by kernel_rfl) (fun k hk => by cases hk) (by kernel_rfl) (laid_met os)))
    rfl rfl Tryd.underlying4 laid (of_decide_eq_true (by kernel_rfl)) ?_ ?_
  · intro ds hl
    rw [Tryd.params4] at hl
    match ds, hl with
    | [d0, d1], _ => rfl
  · intro W base args ds ps hval hA hlt hz hL
    rw [Tryd.params4] at hA hval
    obtain ⟨v0, vs0, d0, ds0, p0, q0, hargs, rfl, rfl, h0, r0⟩ := trodAll_cons hA
    obtain ⟨v1, vs1, d1, ds1, p1, q1, rfl, rfl, rfl, h1, r1⟩ := trodAll_cons r0
    obtain ⟨rfl, rfl, rfl⟩ := trodAll_nil r1
    obtain rfl : args = #[v0, v1] := by cases args; simp_all
    obtain ⟨l0, rfl, hl0, hw0⟩ := open_arr Tryd.underlying23 Tryd.underlying5 (by kernel_rfl) (by kernel_rfl) (hval 0 23 v0 rfl rfl) h0
    obtain ⟨p'1, rfl, hwf1, hrg1, hs1, ht1⟩ := open_packet (hval 1 26 v1 rfl rfl) h1
    exact walk W hL l0 hl0 hw0 p'1 hwf1 hrg1 hs1 ht1

theorem said : Rows.TagBackSaid :=
  OpenClaim.holds_of_cond 4 Tryd.f4 rfl rfl rfl rfl rfl rfl rfl ⟨rfl, rfl, rfl, rfl, rfl⟩ rfl rfl rfl rfl rfl (by kernel_rfl) Tryd.func4 (by kernel_rfl)
    (of_decide_eq_true (by kernel_rfl)) (by unfold Func.isWrapper; first | (rw [if_pos (by decide +kernel)]; kernel_rfl) | (rw [if_neg (by decide +kernel)]; exact ⟨rfl, rfl⟩))
    (fun os started H enc _ F => by rw [OpenClaim.pre_eq_preRow]; exact lifted os started H enc F)
theorem plain (f : FuncId) (fn : Func) (hf : Tryd.pinned.checked.prog.funcNamed "nightjar/nightjarlaw07.TagBack" = some f) (hfn : Tryd.pinned.checked.prog.funcs[f]? = some fn) :
    false = Tryd.pinned.checked.prog.looks [] ∧ ∀ (j : Nat) t, fn.params[j]? = some t → Tryd.pinned.checked.prog.wantsStandIn t = false := by
  obtain rfl : f = 4 := Option.some.inj ((show Tryd.prog.funcNamed "nightjar/nightjarlaw07.TagBack" = some 4 by kernel_rfl).symm.trans hf) |>.symm
  obtain rfl : fn = Tryd.f4 := (Option.some.inj (Tryd.func4.symm.trans hfn)).symm
  refine ⟨by kernel_rfl, fun j t ht => ?_⟩
  have hm : t ∈ Tryd.f4.params.toList := by simpa using Array.mem_of_getElem? ht
  have hall : (Tryd.f4.params.toList.all fun u => !Tryd.prog.wantsStandIn u) = true := by kernel_rfl
  exact (show Tryd.prog.wantsStandIn t = false by simpa using List.all_eq_true.1 hall t hm)

theorem proved : Rows.TagBackCardSaid :=
  Claim7.holds_tied_plain_at .later [] _ _ _ _ said (fun _ h => by cases h) (by kernel_rfl) (fun _ h => by cases h) tagBack_row_tie rfl ⟨rfl, rfl⟩ (by kernel_rfl) rfl plain (by kernel_rfl)
#print axioms proved
end Go.Proofs.YtpglhkjgcahdbaaDoor.tagBack
