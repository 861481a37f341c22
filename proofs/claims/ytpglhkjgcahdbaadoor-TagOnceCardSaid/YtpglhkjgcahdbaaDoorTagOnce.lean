/- TagOnce holds for any key, any packet and any tag: of all tags one alone is good. The constants read as the program lays them (the card ties them). No other condition. -/
import Derived.Test.YtpglhkjgcahdbaaDoorQ17
namespace Go.Proofs.YtpglhkjgcahdbaaDoor.tagOnce
open Go.ChangeShapes Go.WideShapes Go.ChangeAt Go.RowKit
set_option maxRecDepth 100000 in
set_option maxHeartbeats 2000000 in
theorem walk (w : World) (hL : laidMetH Tryd.prog Rows.tagOnceRow.laid w) (key : List Int) (hk : key.length = 16) (hkw : ∀ z ∈ key, (Lit.int .u8 z).wf = true) (p : Pk) (hp : p.Wf) (hrg : p.Rng) (hps : ∀ z ∈ p.s, 0 ≤ z ∧ z < 256) (hpt : ∀ z ∈ p.t, 0 ≤ z ∧ z < 256) (t : List Int) (ht : t.length = 8) (htw : ∀ z ∈ t, (Lit.int .u8 z).wf = true) :
    Calls Tryd.prog 5 #[.agg (nrow .u8 key).toArray, .agg (pcs p).toArray, .agg (nrow .u8 t).toArray] w fun e w' => e = .returned (.bool true) ∧ Below w.heap.size w w' := by
  have HT := Lib.hid (kt_of_laid hL)
  have zpk := zero_pk
  have z8' := zero_b8
  have A0 : Below w.heap.size w (w.alloc (.cells (nrow .u8 key).toArray b16T)) := (Below.refl _ _).alloc (Nat.le_refl _) _
  have A1 := A0.alloc A0.size (.cells (pcs p).toArray pkT)
  have RK := row_new (W := w) (cs := (nrow .u8 key).toArray) (t := b16T) (m := (0, 0))
  have RP : ((w.alloc (.cells (nrow .u8 key).toArray b16T)).alloc (.cells (pcs p).toArray pkT)).heap[w.heap.size + 1]? = some (.cells (pcs p).toArray pkT) := by
    have := row_new (W := w.alloc (.cells (nrow .u8 key).toArray b16T)) (cs := (pcs p).toArray) (t := pkT) (m := (0, 0))
    simpa using this
  have RK := row_kept RK ((Below.refl _ _).alloc (Nat.le_refl _) (.cells (pcs p).toArray pkT)) (row_lt RK)
  have LK : (nrow .u8 key).length = 16 := by rw [nrow_len]; exact hk
  have KW := Lib.hid (show ∀ z ∈ key, 0 ≤ z ∧ z < 256 from fun z hz => byte_wf (hkw z hz))
  have KJ := Lib.hid (fun (w : World) (o : Obj) => (Below.refl w.heap.size w).alloc (Nat.le_refl _) o)
  obtain ⟨q, hq⟩ : ∃ q, sgPk key p = q := ⟨_, rfl⟩
  obtain ⟨ok, hok⟩ : ∃ ok, sgOk p = ok := ⟨_, rfl⟩
  have hqw : q.Wf := by rw [← hq]; exact sgPk_wf key hp
  have pkq := fun W => pk_new hqw W
  have pkp := fun W => pk_new hp W
  have LQ := pcs_len hqw
  have LP := pcs_len hp
  have HP := Lib.hid hp
  have HQ := Lib.hid hqw
  have HRg := Lib.hid hrg
  have HPS := Lib.hid hps
  have HK := Lib.hid hk
  have Hq := Lib.hid hq
  have Hok := Lib.hid hok
  have SP := Lib.hid (fun W ht => sign_any W key hk KW.out p hp hrg hps ht q hq ok hok)
  have A2 := A1.alloc A1.size (.cells (nrow .u8 t).toArray b8T)
  have RT : (((w.alloc (.cells (nrow .u8 key).toArray b16T)).alloc (.cells (pcs p).toArray pkT)).alloc (.cells (nrow .u8 t).toArray b8T)).heap[w.heap.size + 1 + 1]? = some (.cells (nrow .u8 t).toArray b8T) := by
    have := row_new (W := (w.alloc (.cells (nrow .u8 key).toArray b16T)).alloc (.cells (pcs p).toArray pkT)) (cs := (nrow .u8 t).toArray) (t := b8T) (m := (0, 0))
    simpa using this
  have RK := row_kept RK ((Below.refl _ _).alloc (Nat.le_refl _) (.cells (nrow .u8 t).toArray b8T)) (row_lt RK)
  have RP := row_kept RP ((Below.refl _ _).alloc (Nat.le_refl _) (.cells (nrow .u8 t).toArray b8T)) (row_lt RP)
  have LT : (nrow .u8 t).length = 8 := by rw [nrow_len]; exact ht
  have HT8 := Lib.hid ht
  have A1 := A2
  clear A2 ht htw
  clear A0 hL hk hkw hp hrg hps hpt hq hok hqw
  go_enter Tryd.func5, Tryd.ntmps5
  go_upto_region 1 with (fail)
  generalize ((w.alloc (.cells (nrow .u8 key).toArray b16T)).alloc (.cells (pcs p).toArray pkT)).alloc (.cells (nrow .u8 t).toArray b8T) = W0 at RK RP RT A1 ⊢
  go_wp2_with fail
  refine (small_any W0 (HT.out.keep A1 HT.out.2)).mono ?_
  rintro e w1 ⟨rfl, hB⟩
  have RK := row_kept RK hB (row_lt RK)
  have RP := row_kept RP hB (row_lt RP)
  have RT := row_kept RT hB (row_lt RT)
  have A2 := A1.trans (hB.mono A1.size)
  clear hB A1
  go_wp2_with (first
    | ((refine wpl_k16 ?_ (.tmp 3) ?_ w.heap.size key LK ?_ RK ?_); (rfl); (rfl); (rfl))
    | ((refine wpl_pk ?_ (.tmp 4) ?_ (w.heap.size + 1) p HP.out ?_ RP ?_); (rfl); (rfl); (rfl))
    )
  refine (SP.out _ (HT.out.keep A2 HT.out.2)).mono ?_
  rintro e w2 ⟨rfl, hB⟩
  have RK := row_kept RK hB (row_lt RK)
  have RP := row_kept RP hB (row_lt RP)
  have RT := row_kept RT hB (row_lt RT)
  have A3 := A2.trans (hB.mono A2.size)
  clear hB A2 SP
  have HG := Lib.hid (row_lt RT)
  go_upto_region 3 with (fail)
  have AN := KJ.out w2 (.cells (pcs q).toArray pkT)
  have RQ := row_new (W := w2) (cs := (pcs q).toArray) (t := pkT) (m := (0, 0))
  have RK := row_kept RK AN (row_lt RK)
  have RP := row_kept RP AN (row_lt RP)
  have RT := row_kept RT AN (row_lt RT)
  have A4 := A3.trans (AN.mono A3.size)
  generalize w2.alloc (.cells (pcs q).toArray pkT) = V at RK RP RT RQ A4 ⊢
  have hgq : w.heap.size + 1 + 1 < w2.heap.size + 1 := by
    have h1 := row_lt RT
    have h2 := A3.size
    have h3 : w.heap.size + 1 + 1 < w2.heap.size := HG.out
    omega
  obtain ⟨gq, hgq'⟩ : ∃ g, g = w2.heap.size := ⟨_, rfl⟩
  rw [← hgq'] at RQ ⊢
  have hg1 : w.heap.size + 1 ≠ gq := by rw [hgq']; have := HG.out; omega
  have HRT := Lib.hid (range_row RT)
  have stT := store_tag RP HP.out HT8.out
  clear AN A3 pkq pkp hgq hgq'
  go_upto_region 4 with (first
    | ((refine wpl_tag ?_ (.tmp 5) ?_ (w.heap.size + 1 + 1) 0 t HT8.out ?_ HRT.out ?_); (rfl); (rfl); (rfl))
    )
  have RK := (setRow_far (w := V) (g := w.heap.size + 1) (t := pkT) (cs := (pcs (setT p t)).toArray) (show w.heap.size ≠ w.heap.size + 1 by omega)).trans RK
  have RT := (setRow_far (w := V) (g := w.heap.size + 1) (t := pkT) (cs := (pcs (setT p t)).toArray) (show w.heap.size + 1 + 1 ≠ w.heap.size + 1 by omega)).trans RT
  have RQ := (setRow_far (w := V) (g := w.heap.size + 1) (t := pkT) (cs := (pcs (setT p t)).toArray) (Ne.symm hg1)).trans RQ
  have RP := row_written (t := pkT) (ds := (pcs (setT p t)).toArray) RP
  have A5 := setRow_below (g := w.heap.size + 1) (t := pkT) (cs := (pcs (setT p t)).toArray) A4 (by omega)
  generalize setRow V (w.heap.size + 1) pkT (pcs (setT p t)).toArray = V1 at RK RT RQ RP A5 ⊢
  have HPT := Lib.hid (setT_wf HP.out HT8.out)
  obtain ⟨b, hb⟩ : ∃ b, gdB key (setT p t) = b := ⟨_, rfl⟩
  have hbe : b = (ok && decide (q.t = t)) := by
    rw [← hb, ← Hok.out, ← Hq.out]
    unfold gdB
    rw [sgOk_set, sgTag_set, setT_t]
    cases h : sgOk p
    · rw [Bool.false_and, Bool.false_and]
    · rw [sgPk_ok h, setT_t]
  have GD := Lib.hid (fun W ht => good_any W key HK.out KW.out (setT p t) HPT.out HRg.out HPS.out ht b hb)
  have EQ := fun W => eql_b8 W q.t t HQ.out.t HT8.out
  clear stT HRT A4 hb
  have HRT := Lib.hid (range_row RT)
  have HRQ := Lib.hid (range_tag RQ HQ.out)
  go_wp2_with (first
    | ((refine wpl_k16 ?_ (.tmp 3) ?_ w.heap.size key LK ?_ RK ?_); (rfl); (rfl); (rfl))
    | ((refine wpl_pk ?_ (.tmp 4) ?_ (w.heap.size + 1) (setT p t) HPT.out ?_ RP ?_); (rfl); (rfl); (rfl))
    )
  refine (GD.out _ (HT.out.keep A5 HT.out.2)).mono ?_
  rintro e w5 ⟨rfl, hB⟩
  have RT := row_kept RT hB (row_lt RT)
  have RQ := row_kept RQ hB (row_lt RQ)
  have HRT := Lib.hid (range_row RT)
  have HRQ := Lib.hid (range_tag RQ HQ.out)
  have A6 := A5.trans (hB.mono A5.size)
  clear hB A5 GD RK RP
  cases ok
  · rw [Bool.false_and] at hbe
    subst hbe
    go_wp2
    go_ret
    exact ⟨rfl, A6⟩
  · rw [Bool.true_and] at hbe
    rw [← hbe] at EQ
    clear hbe
    go_wp2_with (first
      | ((refine wpl_tag ?_ (.tmp 26) ?_ gq 28 q.t HQ.out.t ?_ HRQ.out ?_); (rfl); (rfl); (rfl))
      | ((refine wpl_tag ?_ (.tmp 5) ?_ (w.heap.size + 1 + 1) 0 t HT8.out ?_ HRT.out ?_); (rfl); (rfl); (rfl)))
    go_ret
    exact ⟨ret_bool (by simp), A6⟩
theorem own : ownKnob Tryd.prog.godebug = none := by kernel_rfl
theorem laid : laidOutB Tryd.prog = true := by kernel_rfl

noncomputable def laidWorld (os : Os) : World := World.doorLaid Tryd.prog 400 os
theorem laid_met (os : Os) : laidMet Tryd.prog Rows.tagOnceRow.laid ((laidWorld os).forCall (fun _ _ => 0) ⟨#[], #[.agg #[.int .u8 0, .int .u8 0, .int .u8 0, .int .u8 0, .int .u8 0, .int .u8 0, .int .u8 0, .int .u8 0, .int .u8 0, .int .u8 0, .int .u8 0, .int .u8 0, .int .u8 0, .int .u8 0, .int .u8 0, .int .u8 0], .agg (pcs pk0).toArray, .agg #[.int .u8 0, .int .u8 0, .int .u8 0, .int .u8 0, .int .u8 0, .int .u8 0, .int .u8 0, .int .u8 0]], []⟩).memory :=
  laidMet_of_run' 8 (by kernel_rfl) (by kernel_rfl)
theorem reads (os : Os) {H : Type} (enc : TypeId × Value → H) : ∃ places, DataW.whole enc Tryd.prog ((laidWorld os).forCall (fun _ _ => 0) ⟨#[], #[.agg #[.int .u8 0, .int .u8 0, .int .u8 0, .int .u8 0, .int .u8 0, .int .u8 0, .int .u8 0, .int .u8 0, .int .u8 0, .int .u8 0, .int .u8 0, .int .u8 0, .int .u8 0, .int .u8 0, .int .u8 0, .int .u8 0], .agg (pcs pk0).toArray, .agg #[.int .u8 0, .int .u8 0, .int .u8 0, .int .u8 0, .int .u8 0, .int .u8 0, .int .u8 0, .int .u8 0]], []⟩).memory Tryd.f5.params.toList Rows.tagOnceSpec.vars false #[.agg #[.int .u8 0, .int .u8 0, .int .u8 0, .int .u8 0, .int .u8 0, .int .u8 0, .int .u8 0, .int .u8 0, .int .u8 0, .int .u8 0, .int .u8 0, .int .u8 0, .int .u8 0, .int .u8 0, .int .u8 0, .int .u8 0], .agg (pcs pk0).toArray, .agg #[.int .u8 0, .int .u8 0, .int .u8 0, .int .u8 0, .int .u8 0, .int .u8 0, .int .u8 0, .int .u8 0]].toList 8 = some ([.agg [.lit (.int .u8 0), .lit (.int .u8 0), .lit (.int .u8 0), .lit (.int .u8 0), .lit (.int .u8 0), .lit (.int .u8 0), .lit (.int .u8 0), .lit (.int .u8 0), .lit (.int .u8 0), .lit (.int .u8 0), .lit (.int .u8 0), .lit (.int .u8 0), .lit (.int .u8 0), .lit (.int .u8 0), .lit (.int .u8 0), .lit (.int .u8 0)], .agg [.lit (.int .i64 0), .lit (.int .i64 0), .lit (.int .i64 0), .lit (.int .i64 0), .lit (.int .i64 0), .lit (.int .i64 0), .lit (.int .i64 0), .lit (.int .i64 0), .lit (.int .i64 0), .lit (.int .i64 0), .lit (.int .i64 0), .lit (.int .i64 0), .agg [.lit (.int .u8 0), .lit (.int .u8 0), .lit (.int .u8 0), .lit (.int .u8 0), .lit (.int .u8 0), .lit (.int .u8 0), .lit (.int .u8 0), .lit (.int .u8 0), .lit (.int .u8 0), .lit (.int .u8 0), .lit (.int .u8 0), .lit (.int .u8 0), .lit (.int .u8 0), .lit (.int .u8 0), .lit (.int .u8 0), .lit (.int .u8 0)], .agg [.lit (.int .u8 0), .lit (.int .u8 0), .lit (.int .u8 0), .lit (.int .u8 0), .lit (.int .u8 0), .lit (.int .u8 0), .lit (.int .u8 0), .lit (.int .u8 0)]], .agg [.lit (.int .u8 0), .lit (.int .u8 0), .lit (.int .u8 0), .lit (.int .u8 0), .lit (.int .u8 0), .lit (.int .u8 0), .lit (.int .u8 0), .lit (.int .u8 0)]], [], places) :=
  ⟨[], by kernel_rfl⟩

set_option maxRecDepth 100000 in
theorem lifted (os : Os) (started : os.Started) (H : Type) (enc : TypeId × Value → H) (F : Stop.Interp) :
    ReturnsInHanded {} Tryd.checked os 5 .any ((OpenSpec.ofChange Rows.tagOnceSpec).preRow enc Tryd.prog Tryd.f5 Rows.tagOnceRow.domain false Rows.tagOnceRow.laid) (((OpenSpec.ofChange Rows.tagOnceSpec).at F).post enc Tryd.prog Tryd.f5 false true false false) := by
  obtain ⟨places, hx⟩ := reads os enc
  refine law_lifted_laid (C := Tryd.checked) (s := Rows.tagOnceSpec) (B := 4) own started (by kernel_rfl) Tryd.func5
    (witness_row_at (enc := enc) (C := Tryd.checked) false (laidWorld os) #[.agg #[.int .u8 0, .int .u8 0, .int .u8 0, .int .u8 0, .int .u8 0, .int .u8 0, .int .u8 0, .int .u8 0, .int .u8 0, .int .u8 0, .int .u8 0, .int .u8 0, .int .u8 0, .int .u8 0, .int .u8 0, .int .u8 0], .agg (pcs pk0).toArray, .agg #[.int .u8 0, .int .u8 0, .int .u8 0, .int .u8 0, .int .u8 0, .int .u8 0, .int .u8 0, .int .u8 0]] rfl (by kernel_rfl) (by kernel_rfl) (by kernel_rfl)
      (OpenSpec.preRow_of_cond 8 hx (by kernel_rfl) (fun k hk => by cases hk) (by kernel_rfl) (laid_met os)))
    rfl rfl Tryd.underlying4 laid (of_decide_eq_true (by kernel_rfl)) ?_ ?_
  · intro ds hl
    rw [Tryd.params5] at hl
    match ds, hl with
    | [d0, d1, d2], _ => rfl
  · intro W base args ds ps hval hA hlt hz hL
    rw [Tryd.params5] at hA hval
    obtain ⟨v0, vs0, d0, ds0, p0, q0, hargs, rfl, rfl, h0, r0⟩ := trodAll_cons hA
    obtain ⟨v1, vs1, d1, ds1, p1, q1, rfl, rfl, rfl, h1, r1⟩ := trodAll_cons r0
    obtain ⟨v2, vs2, d2, ds2, p2, q2, rfl, rfl, rfl, h2, r2⟩ := trodAll_cons r1
    obtain ⟨rfl, rfl, rfl⟩ := trodAll_nil r2
    obtain rfl : args = #[v0, v1, v2] := by cases args; simp_all
    obtain ⟨l0, rfl, hl0, hw0⟩ := open_arr Tryd.underlying23 Tryd.underlying5 (by kernel_rfl) (by kernel_rfl) (hval 0 23 v0 rfl rfl) h0
    obtain ⟨p'1, rfl, hwf1, hrg1, hs1, ht1⟩ := open_packet (hval 1 26 v1 rfl rfl) h1
    obtain ⟨l2, rfl, hl2, hw2⟩ := open_arr Tryd.underlying24 Tryd.underlying5 (by kernel_rfl) (by kernel_rfl) (hval 2 24 v2 rfl rfl) h2
    exact walk W hL l0 hl0 hw0 p'1 hwf1 hrg1 hs1 ht1 l2 hl2 hw2

theorem said : Rows.TagOnceSaid :=
  OpenClaim.holds_of_cond 5 Tryd.f5 rfl rfl rfl rfl rfl rfl rfl ⟨rfl, rfl, rfl, rfl, rfl⟩ rfl rfl rfl rfl rfl (by kernel_rfl) Tryd.func5 (by kernel_rfl)
    (of_decide_eq_true (by kernel_rfl)) (by unfold Func.isWrapper; first | (rw [if_pos (by decide +kernel)]; kernel_rfl) | (rw [if_neg (by decide +kernel)]; exact ⟨rfl, rfl⟩))
    (fun os started H enc _ F => by rw [OpenClaim.pre_eq_preRow]; exact lifted os started H enc F)
theorem plain (f : FuncId) (fn : Func) (hf : Tryd.pinned.checked.prog.funcNamed "nightjar/nightjarlaw07.TagOnce" = some f) (hfn : Tryd.pinned.checked.prog.funcs[f]? = some fn) :
    false = Tryd.pinned.checked.prog.looks [] ∧ ∀ (j : Nat) t, fn.params[j]? = some t → Tryd.pinned.checked.prog.wantsStandIn t = false := by
  obtain rfl : f = 5 := Option.some.inj ((show Tryd.prog.funcNamed "nightjar/nightjarlaw07.TagOnce" = some 5 by kernel_rfl).symm.trans hf) |>.symm
  obtain rfl : fn = Tryd.f5 := (Option.some.inj (Tryd.func5.symm.trans hfn)).symm
  refine ⟨by kernel_rfl, fun j t ht => ?_⟩
  have hm : t ∈ Tryd.f5.params.toList := by simpa using Array.mem_of_getElem? ht
  have hall : (Tryd.f5.params.toList.all fun u => !Tryd.prog.wantsStandIn u) = true := by kernel_rfl
  exact (show Tryd.prog.wantsStandIn t = false by simpa using List.all_eq_true.1 hall t hm)

theorem proved : Rows.TagOnceCardSaid :=
  Claim7.holds_tied_plain_at .later [] _ _ _ _ said (fun _ h => by cases h) (by kernel_rfl) (fun _ h => by cases h) tagOnce_row_tie rfl ⟨rfl, rfl⟩ (by kernel_rfl) rfl plain (by kernel_rfl)
#print axioms proved
end Go.Proofs.YtpglhkjgcahdbaaDoor.tagOnce
