/- TagTells holds for any secret, any numbers, any key and any packet: keys, packets that are signed, and which are good, are as the document says. The constants read as the program lays them (the card ties them). No other condition. -/
import Derived.Test.YtpglhkjgcahdbaaDoorQ17
import Derived.Test.YtpglhkjgcahdbaaDoorQ21
namespace Go.Proofs.YtpglhkjgcahdbaaDoor.tagTells
open Go.ChangeShapes Go.WideShapes Go.ChangeAt Go.RowKit
set_option maxRecDepth 100000 in
set_option maxHeartbeats 2000000 in
theorem walk (w : World) (hL : laidMetH Tryd.prog Rows.tagTellsRow.laid w) (A : Option Addr) (n cap : Nat) (zs : List Int) (hl : n ≤ cap) (hm : cap ≤ maxLen) (hn : zs.length = n) (hN : Nums .u8 w A zs) (hw : ∀ z ∈ zs, (Lit.int .u8 z).wf = true) (a : Int) (wa : (Lit.int .i64 a).wf = true) (m : Int) (wm : (Lit.int .i64 m).wf = true) (key : List Int) (hk : key.length = 16) (hkw : ∀ z ∈ key, (Lit.int .u8 z).wf = true) (p : Pk) (hp : p.Wf) (hrg : p.Rng) (hps : ∀ z ∈ p.s, 0 ≤ z ∧ z < 256) (hpt : ∀ z ∈ p.t, 0 ≤ z ∧ z < 256) :
    Calls Tryd.prog 3 #[.slice A n cap, .int .i64 a, .int .i64 m, .agg (nrow .u8 key).toArray, .agg (pcs p).toArray] w fun e w' => e = .returned (.bool true) ∧ Below w.heap.size w w' := by
  have HT := Lib.hid (kt_of_laid hL)
  have HNz := Lib.hid hN
  have Hn := Lib.hid hn
  have HWz := Lib.hid (show ∀ z ∈ zs, 0 ≤ z ∧ z < 256 from fun z hz => byte_wf (hw z hz))
  have HCz := Lib.hid (And.intro hl hm)
  have Wa := Lib.hid (wf_i64 wa)
  have Wm := Lib.hid (wf_i64 wm)
  clear hN hn hw hl hm wa wm
  have zpk := zero_pk
  have z8' := zero_b8
  have A0 : Below w.heap.size w (w.alloc (.cells (nrow .u8 key).toArray b16T)) := (Below.refl _ _).alloc (Nat.le_refl _) _
  have A1 := A0.alloc A0.size (.cells (pcs p).toArray pkT)
  have RK := row_new (W := w) (cs := (nrow .u8 key).toArray) (t := b16T) (m := (0, 0))
  have RP : ((w.alloc (.cells (nrow .u8 key).toArray b16T)).alloc (.cells (pcs p).toArray pkT)).heap[w.heap.size + 1]? = some (.cells (pcs p).toArray pkT) := by
    have := row_new (W := w.alloc (.cells (nrow .u8 key).toArray b16T)) (cs := (pcs p).toArray) (t := pkT) (m := (0, 0))
    simpa using this
  have RK := row_kept RK ((Below.refl _ _).alloc (Nat.le_refl _) (.cells (pcs p).toArray pkT)) (row_lt RK)
  have LK : (nrow .u8 key).length = 16 := by rw [nrow_len]; exact hk
  have KW := Lib.hid (show ∀ z ∈ key, 0 ≤ z ∧ z < 256 from fun z hz => byte_wf (hkw z hz))
  have KJ := Lib.hid (fun (w : World) (o : Obj) => (Below.refl w.heap.size w).alloc (Nat.le_refl _) o)
  obtain ⟨q, hq⟩ : ∃ q, sgPk key p = q := ⟨_, rfl⟩
  obtain ⟨ok, hok⟩ : ∃ ok, sgOk p = ok := ⟨_, rfl⟩
  have hqw : q.Wf := by rw [← hq]; exact sgPk_wf key hp
  have pkq := fun W => pk_new hqw W
  have pkp := fun W => pk_new hp W
  have LQ := pcs_len hqw
  have LP := pcs_len hp
  have HP := Lib.hid hp
  have HQ := Lib.hid hqw
  have HRg := Lib.hid hrg
  have HPS := Lib.hid hps
  have HK := Lib.hid hk
  have Hq := Lib.hid hq
  have Hok := Lib.hid hok
  have SP := Lib.hid (fun W ht => sign_any W key hk KW.out p hp hrg hps ht q hq ok hok)
  clear A0 hL hk hkw hp hrg hps hpt hq hok hqw
  by_cases h3 : 300 < n
  · go_enter Tryd.func3, Tryd.ntmps3
    go_upto_region 1 with (fail)
    generalize (w.alloc (.cells (nrow .u8 key).toArray b16T)).alloc (.cells (pcs p).toArray pkT) = W0 at RK RP A1 ⊢
    go_wp2_with fail
    refine (small_any W0 (HT.out.keep A1 HT.out.2)).mono ?_
    rintro e w1 ⟨rfl, hB⟩
    have A2 := A1.trans (hB.mono A1.size)
    go_wp2
    go_ret
    exact ⟨rfl, A2⟩
  have h1 : n ≤ 300 := by omega
  have d1 : decide ((300 : Int) < (n : Int)) = false := decide_eq_false (by omega)
  clear h3
  go_enter Tryd.func3, Tryd.ntmps3
  go_upto_region 1 with (fail)
  generalize (w.alloc (.cells (nrow .u8 key).toArray b16T)).alloc (.cells (pcs p).toArray pkT) = W0 at RK RP A1 ⊢
  go_wp2_with fail
  refine (small_any W0 (HT.out.keep A1 HT.out.2)).mono ?_
  rintro e w1 ⟨rfl, hB⟩
  have RK := row_kept RK hB (row_lt RK)
  have RP := row_kept RP hB (row_lt RP)
  have A2 := A1.trans (hB.mono A1.size)
  clear hB A1
  go_wp2_with (first
    | ((refine wpl_k16 ?_ (.tmp 8) ?_ w.heap.size key LK ?_ RK ?_); (rfl); (rfl); (rfl))
    | ((refine wpl_pk ?_ (.tmp 9) ?_ (w.heap.size + 1) p HP.out ?_ RP ?_); (rfl); (rfl); (rfl))
    )
  refine (SP.out _ (HT.out.keep A2 HT.out.2)).mono ?_
  rintro e w2 ⟨rfl, hB⟩
  have RK := row_kept RK hB (row_lt RK)
  have RP := row_kept RP hB (row_lt RP)
  have A3 := A2.trans (hB.mono A2.size)
  clear hB A2 SP
  go_upto_region 5 with (fail)
  have AN := KJ.out w2 (.cells (pcs q).toArray pkT)
  have RQ := row_new (W := w2) (cs := (pcs q).toArray) (t := pkT) (m := (0, 0))
  have RK := row_kept RK AN (row_lt RK)
  have RP := row_kept RP AN (row_lt RP)
  have A4 := A3.trans (AN.mono A3.size)
  generalize w2.alloc (.cells (pcs q).toArray pkT) = V at RK RP RQ A4 ⊢
  obtain ⟨gq, hgq'⟩ : ∃ g, g = w2.heap.size := ⟨_, rfl⟩
  rw [← hgq'] at RQ ⊢
  clear AN A3 hgq'
  have SR := Lib.hid (fun W => rsign_any W key HK.out KW.out p HP.out HRg.out HPS.out q Hq.out ok Hok.out)
  go_wp2_with (first
    | ((refine wpl_k16 ?_ (.tmp 8) ?_ w.heap.size key LK ?_ RK ?_); (rfl); (rfl); (rfl))
    | ((refine wpl_pk ?_ (.tmp 9) ?_ (w.heap.size + 1) p HP.out ?_ RP ?_); (rfl); (rfl); (rfl))
    )
  refine (SR.out _).mono ?_
  rintro e w3 ⟨rfl, hB⟩
  have RK := row_kept RK hB (row_lt RK)
  have RP := row_kept RP hB (row_lt RP)
  have RQ := row_kept RQ hB (row_lt RQ)
  have A5 := A4.trans (hB.mono A4.size)
  clear hB A4 SR
  go_upto_region 6 with (fail)
  have AN := KJ.out w3 (.cells (pcs q).toArray pkT)
  have RR := row_new (W := w3) (cs := (pcs q).toArray) (t := pkT) (m := (0, 0))
  have RK := row_kept RK AN (row_lt RK)
  have RP := row_kept RP AN (row_lt RP)
  have RQ := row_kept RQ AN (row_lt RQ)
  have A6 := A5.trans (AN.mono A5.size)
  generalize w3.alloc (.cells (pcs q).toArray pkT) = V1 at RK RP RQ RR A6 ⊢
  obtain ⟨gr, hgr'⟩ : ∃ g, g = w3.heap.size := ⟨_, rfl⟩
  rw [← hgr'] at RR ⊢
  clear AN A5 hgr' pkq pkp
  obtain ⟨c, hc⟩ : ∃ c, tk zs a m = c := ⟨_, rfl⟩
  have hc16 : c.length = 16 := by rw [← hc]; exact tk_len _ _ _
  have Hc := Lib.hid hc
  obtain ⟨b, hb⟩ : ∃ b, gdB key p = b := ⟨_, rfl⟩
  have Hb := Lib.hid hb
  have EQ := fun W => eql_b16 W c c hc16 hc16
  rw [decide_eq_true rfl] at EQ
  have EP := fun W => eql_pk W HQ.out HQ.out
  rw [decide_eq_true rfl] at EP
  have ebo : (ok == ok) = true := by cases ok <;> rfl
  have ebb : (b == b) = true := by cases b <;> rfl
  clear hc hc16 hb
  have HUK := Lib.hid (show ∀ u : Over V1.heap.size V1, u.val.heap[w.heap.size]? = some (.cells (nrow .u8 key).toArray b16T) from fun u => row_kept RK u.below (row_lt RK))
  have HUP := Lib.hid (show ∀ u : Over V1.heap.size V1, u.val.heap[w.heap.size + 1]? = some (.cells (pcs p).toArray pkT) from fun u => row_kept RP u.below (row_lt RP))
  have HUQ := Lib.hid (show ∀ u : Over V1.heap.size V1, u.val.heap[gq]? = some (.cells (pcs q).toArray pkT) from fun u => row_kept RQ u.below (row_lt RQ))
  have HUR := Lib.hid (show ∀ u : Over V1.heap.size V1, u.val.heap[gr]? = some (.cells (pcs q).toArray pkT) from fun u => row_kept RR u.below (row_lt RR))
  have HB := Lib.hid (show ∀ u : Over V1.heap.size V1, Below w.heap.size w u.val from fun u => A6.trans (u.below.mono A6.size))
  have F1 := Lib.hid (fun u : Over V1.heap.size V1 => key_any u.val A n cap zs Hn.out (HNz.out.below (HB.out u)) HCz.out.1 HCz.out.2 (by omega) HWz.out a m Wa.out Wm.out c Hc.out (HT.out.keep (HB.out u) HT.out.2))
  have F2 := Lib.hid (fun u : Over V1.heap.size V1 => rkey_any u.val A n cap zs Hn.out (HNz.out.below (HB.out u)) (by omega) HWz.out a m Wa.out Wm.out c Hc.out)
  have F3 := Lib.hid (fun u : Over V1.heap.size V1 => good_any u.val key HK.out KW.out p HP.out HRg.out HPS.out (HT.out.keep (HB.out u) HT.out.2) b Hb.out)
  have F4 := Lib.hid (fun u : Over V1.heap.size V1 => rgood_any u.val key HK.out KW.out p HP.out HRg.out HPS.out b Hb.out)
  clear RK RP RQ RR A6
  refine region_class (fun u : Over V1.heap.size V1 => u.val) ⟨V1.drew, below_drewN (Below.refl _ _) 1⟩ rfl (by kernel_rfl) (by kernel_rfl) ?_
  repeat (first
    | ((with_reducible refine wpQuiet_arr Tryd.underlying23 info_b16 ?_ (.tmp 8) ?_ w.heap.size (nrow .u8 key) LK ?_ (fun u => HUK.out u) ?_); (rfl); (rfl); (rfl); (conv => arg 6; simp only [Act.put, List.setIfInBounds_toArray, List.set_cons_succ, List.set_cons_zero]))
    | ((with_reducible refine wpQuiet_pk' ?_ (.tmp 9) ?_ (w.heap.size + 1) p HP.out ?_ (fun u => HUP.out u) ?_); (rfl); (rfl); (rfl); (conv => arg 6; simp only [Act.put, List.setIfInBounds_toArray, List.set_cons_succ, List.set_cons_zero]))
    | ((with_reducible refine wpQuiet_pk' ?_ (.tmp 12) ?_ gq q HQ.out ?_ (fun u => HUQ.out u) ?_); (rfl); (rfl); (rfl); (conv => arg 6; simp only [Act.put, List.setIfInBounds_toArray, List.set_cons_succ, List.set_cons_zero]))
    | ((with_reducible refine wpQuiet_pk' ?_ (.tmp 14) ?_ gr q HQ.out ?_ (fun u => HUR.out u) ?_); (rfl); (rfl); (rfl); (conv => arg 6; simp only [Act.put, List.setIfInBounds_toArray, List.set_cons_succ, List.set_cons_zero]))
    | go_big_quiet_step ((first
      | (go_at_call 11; with_reducible exact over_left (Nat.le_refl _) (F1.out _))
      | (go_at_call 12; with_reducible exact over_left (Nat.le_refl _) (F2.out _))
      | (go_at_call 13; with_reducible exact over_left (Nat.le_refl _) (F3.out _))
      | (go_at_call 14; with_reducible exact over_left (Nat.le_refl _) (F4.out _)))))
  with_reducible refine wpQuiet_nil ?_
  rintro _ ⟨u, rfl⟩
  have B2 := HB.out u
  generalize u.val = W at B2 ⊢
  go_wp2
  go_ret
  exact ⟨ret_bool (by simp), B2⟩
theorem own : ownKnob Tryd.prog.godebug = none := by kernel_rfl
theorem laid : laidOutB Tryd.prog = true := by kernel_rfl

noncomputable def laidWorld (os : Os) : World := World.doorLaid Tryd.prog 400 os
theorem laid_met (os : Os) : laidMet Tryd.prog Rows.tagTellsRow.laid ((laidWorld os).forCall (fun _ _ => 0) ⟨#[], #[.slice none 0 0, .int .i64 0, .int .i64 0, .agg #[.int .u8 0, .int .u8 0, .int .u8 0, .int .u8 0, .int .u8 0, .int .u8 0, .int .u8 0, .int .u8 0, .int .u8 0, .int .u8 0, .int .u8 0, .int .u8 0, .int .u8 0, .int .u8 0, .int .u8 0, .int .u8 0], .agg (pcs pk0).toArray], []⟩).memory :=
  laidMet_of_run' 8 (by kernel_rfl) (by kernel_rfl)
theorem reads (os : Os) {H : Type} (enc : TypeId × Value → H) : ∃ places, DataW.whole enc Tryd.prog ((laidWorld os).forCall (fun _ _ => 0) ⟨#[], #[.slice none 0 0, .int .i64 0, .int .i64 0, .agg #[.int .u8 0, .int .u8 0, .int .u8 0, .int .u8 0, .int .u8 0, .int .u8 0, .int .u8 0, .int .u8 0, .int .u8 0, .int .u8 0, .int .u8 0, .int .u8 0, .int .u8 0, .int .u8 0, .int .u8 0, .int .u8 0], .agg (pcs pk0).toArray], []⟩).memory Tryd.f3.params.toList Rows.tagTellsSpec.vars false #[Value.slice none 0 0, Value.int .i64 0, .int .i64 0, .agg #[.int .u8 0, .int .u8 0, .int .u8 0, .int .u8 0, .int .u8 0, .int .u8 0, .int .u8 0, .int .u8 0, .int .u8 0, .int .u8 0, .int .u8 0, .int .u8 0, .int .u8 0, .int .u8 0, .int .u8 0, .int .u8 0], .agg (pcs pk0).toArray].toList 8 = some ([.nil, .lit (.int .i64 0), .lit (.int .i64 0), .agg [.lit (.int .u8 0), .lit (.int .u8 0), .lit (.int .u8 0), .lit (.int .u8 0), .lit (.int .u8 0), .lit (.int .u8 0), .lit (.int .u8 0), .lit (.int .u8 0), .lit (.int .u8 0), .lit (.int .u8 0), .lit (.int .u8 0), .lit (.int .u8 0), .lit (.int .u8 0), .lit (.int .u8 0), .lit (.int .u8 0), .lit (.int .u8 0)], .agg [.lit (.int .i64 0), .lit (.int .i64 0), .lit (.int .i64 0), .lit (.int .i64 0), .lit (.int .i64 0), .lit (.int .i64 0), .lit (.int .i64 0), .lit (.int .i64 0), .lit (.int .i64 0), .lit (.int .i64 0), .lit (.int .i64 0), .lit (.int .i64 0), .agg [.lit (.int .u8 0), .lit (.int .u8 0), .lit (.int .u8 0), .lit (.int .u8 0), .lit (.int .u8 0), .lit (.int .u8 0), .lit (.int .u8 0), .lit (.int .u8 0), .lit (.int .u8 0), .lit (.int .u8 0), .lit (.int .u8 0), .lit (.int .u8 0), .lit (.int .u8 0), .lit (.int .u8 0), .lit (.int .u8 0), .lit (.int .u8 0)], .agg [.lit (.int .u8 0), .lit (.int .u8 0), .lit (.int .u8 0), .lit (.int .u8 0), .lit (.int .u8 0), .lit (.int .u8 0), .lit (.int .u8 0), .lit (.int .u8 0)]]], [], places) :=
  ⟨[], by kernel_rfl⟩

set_option maxRecDepth 100000 in
theorem lifted (os : Os) (started : os.Started) (H : Type) (enc : TypeId × Value → H) (F : Stop.Interp) :
    ReturnsInHanded {} Tryd.checked os 3 .any ((OpenSpec.ofChange Rows.tagTellsSpec).preRow enc Tryd.prog Tryd.f3 Rows.tagTellsRow.domain false Rows.tagTellsRow.laid) (((OpenSpec.ofChange Rows.tagTellsSpec).at F).post enc Tryd.prog Tryd.f3 false true false false) := by
  obtain ⟨places, hx⟩ := reads os enc
  refine law_lifted_laid (C := Tryd.checked) (s := Rows.tagTellsSpec) (B := 4) own started (by kernel_rfl) Tryd.func3
    (witness_row_at (enc := enc) (C := Tryd.checked) false (laidWorld os) #[.slice none 0 0, .int .i64 0, .int .i64 0, .agg #[.int .u8 0, .int .u8 0, .int .u8 0, .int .u8 0, .int .u8 0, .int .u8 0, .int .u8 0, .int .u8 0, .int .u8 0, .int .u8 0, .int .u8 0, .int .u8 0, .int .u8 0, .int .u8 0, .int .u8 0, .int .u8 0], .agg (pcs pk0).toArray] rfl (by kernel_rfl) (by kernel_rfl) (by kernel_rfl)
      (OpenSpec.preRow_of_cond 8 hx (by kernel_rfl) (fun k hk => by cases hk) (by kernel_rfl) (laid_met os)))
    rfl rfl Tryd.underlying4 laid (of_decide_eq_true (by kernel_rfl)) ?_ ?_
  · intro ds hl
    rw [Tryd.params3] at hl
    match ds, hl with
    | [d0, d1, d2, d3, d4], _ => rfl
  · intro W base args ds ps hval hA hlt hz hL
    rw [Tryd.params3] at hA hval
    obtain ⟨v0, vs0, d0, ds0, p0, q0, hargs, rfl, rfl, h0, r0⟩ := trodAll_cons hA
    obtain ⟨v1, vs1, d1, ds1, p1, q1, rfl, rfl, rfl, h1, r1⟩ := trodAll_cons r0
    obtain ⟨v2, vs2, d2, ds2, p2, q2, rfl, rfl, rfl, h2, r2⟩ := trodAll_cons r1
    obtain ⟨v3, vs3, d3, ds3, p3, q3, rfl, rfl, rfl, h3, r3⟩ := trodAll_cons r2
    obtain ⟨v4, vs4, d4, ds4, p4, q4, rfl, rfl, rfl, h4, r4⟩ := trodAll_cons r3
    obtain ⟨rfl, rfl, rfl⟩ := trodAll_nil r4
    obtain rfl : args = #[v0, v1, v2, v3, v4] := by cases args; simp_all
    obtain ⟨A0, n0, cap0, zs0, rfl, hl0, hm0, hn0, hN0, hw0⟩ := open_nums Tryd.underlying22 Tryd.underlying5 (by kernel_rfl) (hval 0 22 v0 rfl rfl) h0
    obtain ⟨a1, rfl, rfl, rfl, w1⟩ := open_int Tryd.underlying3 (hval 1 3 v1 rfl rfl) h1
    obtain ⟨a2, rfl, rfl, rfl, w2⟩ := open_int Tryd.underlying3 (hval 2 3 v2 rfl rfl) h2
    obtain ⟨l3, rfl, hl3, hw3⟩ := open_arr Tryd.underlying23 Tryd.underlying5 (by kernel_rfl) (by kernel_rfl) (hval 3 23 v3 rfl rfl) h3
    obtain ⟨p'4, rfl, hwf4, hrg4, hs4, ht4⟩ := open_packet (hval 4 26 v4 rfl rfl) h4
    exact walk W hL A0 n0 cap0 zs0 hl0 hm0 hn0 hN0 hw0 a1 w1 a2 w2 l3 hl3 hw3 p'4 hwf4 hrg4 hs4 ht4

theorem said : Rows.TagTellsSaid :=
  OpenClaim.holds_of_cond 3 Tryd.f3 rfl rfl rfl rfl rfl rfl rfl ⟨rfl, rfl, rfl, rfl, rfl⟩ rfl rfl rfl rfl rfl (by kernel_rfl) Tryd.func3 (by kernel_rfl)
    (of_decide_eq_true (by kernel_rfl)) (by unfold Func.isWrapper; first | (rw [if_pos (by decide +kernel)]; kernel_rfl) | (rw [if_neg (by decide +kernel)]; exact ⟨rfl, rfl⟩))
    (fun os started H enc _ F => by rw [OpenClaim.pre_eq_preRow]; exact lifted os started H enc F)
theorem plain (f : FuncId) (fn : Func) (hf : Tryd.pinned.checked.prog.funcNamed "nightjar/nightjarlaw07.TagTells" = some f) (hfn : Tryd.pinned.checked.prog.funcs[f]? = some fn) :
    false = Tryd.pinned.checked.prog.looks [] ∧ ∀ (j : Nat) t, fn.params[j]? = some t → Tryd.pinned.checked.prog.wantsStandIn t = false := by
  obtain rfl : f = 3 := Option.some.inj ((show Tryd.prog.funcNamed "nightjar/nightjarlaw07.TagTells" = some 3 by kernel_rfl).symm.trans hf) |>.symm
  obtain rfl : fn = Tryd.f3 := (Option.some.inj (Tryd.func3.symm.trans hfn)).symm
  refine ⟨by kernel_rfl, fun j t ht => ?_⟩
  have hm : t ∈ Tryd.f3.params.toList := by simpa using Array.mem_of_getElem? ht
  have hall : (Tryd.f3.params.toList.all fun u => !Tryd.prog.wantsStandIn u) = true := by kernel_rfl
  exact (show Tryd.prog.wantsStandIn t = false by simpa using List.all_eq_true.1 hall t hm)

theorem proved : Rows.TagTellsCardSaid :=
  Claim7.holds_tied_plain_at .later [] _ _ _ _ said (fun _ h => by cases h) (by kernel_rfl) (fun _ h => by cases h) tagTells_row_tie rfl ⟨rfl, rfl⟩ (by kernel_rfl) rfl plain (by kernel_rfl)
#print axioms proved
end Go.Proofs.YtpglhkjgcahdbaaDoor.tagTells
