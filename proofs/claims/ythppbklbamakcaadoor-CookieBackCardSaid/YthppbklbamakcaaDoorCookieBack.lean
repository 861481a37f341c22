/- CookieBack holds for any secret and any numbers: a cookie that was minted is good in its epoch and the next one, and old at all others. The constants read as the program lays them (the card ties them). No other condition. -/
import Derived.Test.YthppbklbamakcaaDoorCookieSmall
import Derived.Test.YthppbklbamakcaaDoorArrOpen
namespace Go.Proofs.YthppbklbamakcaaDoor.cookieBack
open Go.ChangeShapes Go.WideShapes Go.ChangeAt Go.RowKit

set_option maxRecDepth 100000 in
set_option maxHeartbeats 2000000 in
theorem walk (w : World) (hL : laidMetH Tryd.prog Rows.cookieBackRow.laid w)
    (A : Option Addr) (n cap : Nat) (zs : List Int) (hl : n ≤ cap) (hm : cap ≤ maxLen) (hn : zs.length = n) (hN : Nums .u8 w A zs) (hw : ∀ z ∈ zs, (Lit.int .u8 z).wf = true)
    (a : Int) (wa : (Lit.int .i64 a).wf = true) (m : Int) (wm : (Lit.int .i64 m).wf = true) (e : Int) (we : (Lit.int .i64 e).wf = true) (now : Int) (wn : (Lit.int .i64 now).wf = true) :
    Calls Tryd.prog 4 #[.slice A n cap, .int .i64 a, .int .i64 m, .int .i64 e, .int .i64 now] w fun e w' => e = .returned (.bool true) ∧ Below w.heap.size w w' := by
  have HT := Lib.hid (kt_of_laid hL)
  have HN := Lib.hid hN
  have Hn := Lib.hid hn
  have HW := Lib.hid (show ∀ z ∈ zs, 0 ≤ z ∧ z < 256 from fun z hz => byte_wf (hw z hz))
  have HC := Lib.hid (And.intro hl hm)
  have Wa := Lib.hid (wf_i64 wa)
  have Wm := Lib.hid (wf_i64 wm)
  have We := Lib.hid (wf_i64 we)
  have Wn := Lib.hid (wf_i64 wn)
  clear hL hN hn hw hm hl wa wm we wn
  by_cases h3 : 300 < n
  · go_enter Tryd.func4, Tryd.ntmps4
    go_wp2_with (go_at_call 8; refine (small_any _ HT.out).mono ?_; rintro e w1 ⟨rfl, hB1⟩)
    go_ret
    exact ⟨rfl, hB1⟩
  · have h1 : n ≤ 300 := by omega
    have d1 : decide ((300 : Int) < (n : Int)) = false := decide_eq_false (by omega)
    clear h3
    obtain ⟨c, hc⟩ : ∃ c, ck zs a m e = c := ⟨_, rfl⟩
    have hc16 : c.length = 16 := by rw [← hc]; exact ck_len _ _ _ _
    have CN := c16_new c hc16
    have z1 := zero_b16
    have L0 : (nrow .u8 c).length = 16 := by rw [nrow_len]; exact hc16
    obtain ⟨er, her⟩ : ∃ er, ckErr e now true = er := ⟨_, rfl⟩
    have Hc := Lib.hid hc
    have Hc16 := Lib.hid hc16
    have Her := Lib.hid her
    clear hc hc16 her
    go_enter Tryd.func4, Tryd.ntmps4
    go_wp2_with fail
    refine (small_any _ HT.out).mono ?_
    rintro x w1 ⟨rfl, hB1⟩
    have K1 := HT.out.keep hB1 HT.out.2
    go_wp2_with fail
    refine (mint_any _ A n cap zs Hn.out (HN.out.below hB1) HC.out.1 HC.out.2 (by omega) HW.out a m e Wa.out Wm.out We.out c Hc.out K1).mono ?_
    rintro x w2 ⟨rfl, hB2⟩
    have B2 := hB1.trans (hB2.mono hB1.size)
    clear hB2 K1 hB1
    go_upto_region 5 with (fail)
    have AN := (Below.refl w2.heap.size w2).alloc (Nat.le_refl _) (.cells (nrow .u8 c).toArray b16T)
    have RA := row_new (W := w2) (cs := (nrow .u8 c).toArray) (t := b16T) (m := (0, 0))
    have B3 := B2.trans (AN.mono B2.size)
    generalize w2.alloc (.cells (nrow .u8 c).toArray b16T) = V at RA B3 ⊢
    have K3 := HT.out.keep B3 HT.out.2
    clear AN B2 CN
    go_wp2_with (first
      | ((with_reducible refine wpl_arr Tryd.underlying23 info_b16 ?_ (.tmp 12) ?_ w2.heap.size (nrow .u8 c) L0 ?_ RA ?_); (rfl); (rfl); (rfl)))
    refine (check_any _ A n cap zs Hn.out (HN.out.below B3) HC.out.1 HC.out.2 (by omega) HW.out a m e now Wa.out Wm.out We.out Wn.out c Hc16.out c Hc.out er (by rw [decide_eq_true rfl]; exact Her.out) K3).mono ?_
    rintro x w3 ⟨rfl, hB3⟩
    have B4 := B3.trans (hB3.mono B3.size)
    clear hB3 K3 B3 RA
    have hcase : (e < 0 ∧ er = 4) ∨ (0 ≤ e ∧ now = e ∧ er = 0) ∨ (0 ≤ e ∧ now = e + 1 ∧ er = 0) ∨ (0 ≤ e ∧ now < e ∧ er = 4) ∨ (0 ≤ e ∧ e + 1 < now ∧ er = 4) := by
      have := Her.out
      rw [ckErr] at this
      split at this
      · omega
      · simp at this
        omega
    have we0 := We.out
    have wn0 := Wn.out
    rcases hcase with ⟨h0, rfl⟩ | ⟨h0, rfl, rfl⟩ | ⟨h0, rfl, rfl⟩ | ⟨h0, h5, rfl⟩ | ⟨h0, h5, rfl⟩
    · go_wp2
      go_ret
      exact ⟨rfl, B4⟩
    · go_wp2
      go_ret
      exact ⟨rfl, B4⟩
    · have b0 : (e + 1 == e) = false := beq_eq_false_iff_ne.2 (by omega)
      have hsub : IntKind.i64.wrap (e + 1 - e) = 1 := by rw [show e + 1 - e = 1 by omega]; rfl
      go_wp2
      go_ret
      exact ⟨rfl, B4⟩
    · have b0 : (now == e) = false := beq_eq_false_iff_ne.2 (by omega)
      go_wp2
      go_ret
      exact ⟨rfl, B4⟩
    · have b0 : (now == e) = false := beq_eq_false_iff_ne.2 (by omega)
      have hsub : IntKind.i64.wrap (now - e) = now - e := IntWalk.i64_in _ (by omega)
      have b1 : (now - e == 1) = false := beq_eq_false_iff_ne.2 (by omega)
      go_wp2
      go_ret
      exact ⟨rfl, B4⟩
theorem own : ownKnob Tryd.prog.godebug = none := by kernel_rfl
theorem laid : laidOutB Tryd.prog = true := by kernel_rfl

noncomputable def laidWorld (os : Os) : World := World.doorLaid Tryd.prog 400 os
theorem laid_met (os : Os) : laidMet Tryd.prog Rows.cookieBackRow.laid ((laidWorld os).forCall (fun _ _ => 0) ⟨#[], #[.slice none 0 0, .int .i64 0, .int .i64 0, .int .i64 0, .int .i64 0], []⟩).memory :=
  laidMet_of_run' 8 (by kernel_rfl) (by kernel_rfl)
theorem reads (os : Os) {H : Type} (enc : TypeId × Value → H) : ∃ places, DataW.whole enc Tryd.prog ((laidWorld os).forCall (fun _ _ => 0) ⟨#[], #[.slice none 0 0, .int .i64 0, .int .i64 0, .int .i64 0, .int .i64 0], []⟩).memory Tryd.f4.params.toList Rows.cookieBackSpec.vars false #[Value.slice none 0 0, Value.int .i64 0, .int .i64 0, .int .i64 0, .int .i64 0].toList 8 = some ([.nil, .lit (.int .i64 0), .lit (.int .i64 0), .lit (.int .i64 0), .lit (.int .i64 0)], [], places) :=
  ⟨[], by kernel_rfl⟩

set_option maxRecDepth 100000 in
theorem lifted (os : Os) (started : os.Started) (H : Type) (enc : TypeId × Value → H) (F : Stop.Interp) :
    ReturnsInHanded {} Tryd.checked os 4 .any ((OpenSpec.ofChange Rows.cookieBackSpec).preRow enc Tryd.prog Tryd.f4 Rows.cookieBackRow.domain false Rows.cookieBackRow.laid) (((OpenSpec.ofChange Rows.cookieBackSpec).at F).post enc Tryd.prog Tryd.f4 false true false false) := by
  obtain ⟨places, hx⟩ := reads os enc
  refine law_lifted_laid (C := Tryd.checked) (s := Rows.cookieBackSpec) (B := 4) own started (by kernel_rfl) Tryd.func4
    (witness_row_at (enc := enc) (C := Tryd.checked) false (laidWorld os) #[.slice none 0 0, .int .i64 0, .int .i64 0, .int .i64 0, .int .i64 0] rfl (by kernel_rfl) (by kernel_rfl) (by kernel_rfl)
      (OpenSpec.preRow_of_cond 8 hx (by kernel_rfl) (fun k hk => by cases hk) (by kernel_rfl) (laid_met os)))
    rfl rfl Tryd.underlying4 laid (of_decide_eq_true (by kernel_rfl)) ?_ ?_
  · intro ds hl
    rw [Tryd.params4] at hl
    match ds, hl with
    | [d0, d1, d2, d3, d4], _ => rfl
  · intro W base args ds ps hval hA hlt hz hL
    rw [Tryd.params4] at hA hval
    obtain ⟨v0, vs0, d0, ds0, p0, q0, hargs, rfl, rfl, h0, r0⟩ := trodAll_cons hA
    obtain ⟨v1, vs1, d1, ds1, p1, q1, rfl, rfl, rfl, h1, r1⟩ := trodAll_cons r0
    obtain ⟨v2, vs2, d2, ds2, p2, q2, rfl, rfl, rfl, h2, r2⟩ := trodAll_cons r1
    obtain ⟨v3, vs3, d3, ds3, p3, q3, rfl, rfl, rfl, h3, r3⟩ := trodAll_cons r2
    obtain ⟨v4, vs4, d4, ds4, p4, q4, rfl, rfl, rfl, h4, r4⟩ := trodAll_cons r3
    obtain ⟨rfl, rfl, rfl⟩ := trodAll_nil r4
    obtain rfl : args = #[v0, v1, v2, v3, v4] := by cases args; simp_all
    obtain ⟨A0, n0, cap0, zs0, rfl, hl0, hm0, hn0, hN0, hw0⟩ := open_nums Tryd.underlying22 Tryd.underlying5 (by kernel_rfl) (hval 0 22 v0 rfl rfl) h0
    obtain ⟨a1, rfl, rfl, rfl, w1⟩ := open_int Tryd.underlying3 (hval 1 3 v1 rfl rfl) h1
    obtain ⟨a2, rfl, rfl, rfl, w2⟩ := open_int Tryd.underlying3 (hval 2 3 v2 rfl rfl) h2
    obtain ⟨a3, rfl, rfl, rfl, w3⟩ := open_int Tryd.underlying3 (hval 3 3 v3 rfl rfl) h3
    obtain ⟨a4, rfl, rfl, rfl, w4⟩ := open_int Tryd.underlying3 (hval 4 3 v4 rfl rfl) h4
    exact walk W hL A0 n0 cap0 zs0 hl0 hm0 hn0 hN0 hw0 a1 w1 a2 w2 a3 w3 a4 w4

theorem said : Rows.CookieBackSaid :=
  OpenClaim.holds_of_cond 4 Tryd.f4 rfl rfl rfl rfl rfl rfl rfl ⟨rfl, rfl, rfl, rfl, rfl⟩ rfl rfl rfl rfl rfl (by kernel_rfl) Tryd.func4 (by kernel_rfl)
    (of_decide_eq_true (by kernel_rfl)) (by unfold Func.isWrapper; first | (rw [if_pos (by decide +kernel)]; kernel_rfl) | (rw [if_neg (by decide +kernel)]; exact ⟨rfl, rfl⟩))
    (fun os started H enc _ F => by rw [OpenClaim.pre_eq_preRow]; exact lifted os started H enc F)
theorem plain (f : FuncId) (fn : Func) (hf : Tryd.pinned.checked.prog.funcNamed "nightjar/nightjarlaw06.CookieBack" = some f) (hfn : Tryd.pinned.checked.prog.funcs[f]? = some fn) :
    false = Tryd.pinned.checked.prog.looks [] ∧ ∀ (j : Nat) t, fn.params[j]? = some t → Tryd.pinned.checked.prog.wantsStandIn t = false := by
  obtain rfl : f = 4 := Option.some.inj ((show Tryd.prog.funcNamed "nightjar/nightjarlaw06.CookieBack" = some 4 by kernel_rfl).symm.trans hf) |>.symm
  obtain rfl : fn = Tryd.f4 := (Option.some.inj (Tryd.func4.symm.trans hfn)).symm
  refine ⟨by kernel_rfl, fun j t ht => ?_⟩
  have hm : t ∈ Tryd.f4.params.toList := by simpa using Array.mem_of_getElem? ht
  have hall : (Tryd.f4.params.toList.all fun u => !Tryd.prog.wantsStandIn u) = true := by kernel_rfl
  exact (show Tryd.prog.wantsStandIn t = false by simpa using List.all_eq_true.1 hall t hm)

theorem proved : Rows.CookieBackCardSaid :=
  Claim7.holds_tied_plain_at .later [] _ _ _ _ said (fun _ h => by cases h) (by kernel_rfl) (fun _ h => by cases h) cookieBack_row_tie rfl ⟨rfl, rfl⟩ (by kernel_rfl) rfl plain (by kernel_rfl)
#print axioms proved
end Go.Proofs.YthppbklbamakcaaDoor.cookieBack
