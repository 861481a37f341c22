/- CookieAges holds for any secret, any numbers, any cookie and any two times: no cookie is good ahead of its epoch, or two behind it; where one is good at two times, these are its epoch and the next one. The constants read as the program lays them (the card ties them). No other condition. -/
import Derived.Test.YthppbklbamakcaaDoorCookieSmall
import Derived.Test.YthppbklbamakcaaDoorArrOpen
namespace Go.Proofs.YthppbklbamakcaaDoor.cookieAges
open Go.ChangeShapes Go.WideShapes Go.ChangeAt Go.RowKit

set_option maxRecDepth 100000 in
set_option maxHeartbeats 2000000 in
theorem walk (w : World) (hL : laidMetH Tryd.prog Rows.cookieAgesRow.laid w)
    (A : Option Addr) (n cap : Nat) (zs : List Int) (hl : n ≤ cap) (hm : cap ≤ maxLen) (hn : zs.length = n) (hN : Nums .u8 w A zs) (hw : ∀ z ∈ zs, (Lit.int .u8 z).wf = true)
    (a : Int) (wa : (Lit.int .i64 a).wf = true) (m : Int) (wm : (Lit.int .i64 m).wf = true) (e : Int) (we : (Lit.int .i64 e).wf = true) (now : Int) (wn : (Lit.int .i64 now).wf = true) (lat : Int) (wl : (Lit.int .i64 lat).wf = true) (x : List Int) (hx : x.length = 16) (hxw : ∀ z ∈ x, (Lit.int .u8 z).wf = true) :
    Calls Tryd.prog 7 #[.slice A n cap, .int .i64 a, .int .i64 m, .int .i64 e, .int .i64 now, .int .i64 lat, .agg (nrow .u8 x).toArray] w fun e w' => e = .returned (.bool true) ∧ Below w.heap.size w w' := by
  have HT := Lib.hid (kt_of_laid hL)
  have HN := Lib.hid hN
  have Hn := Lib.hid hn
  have HW := Lib.hid (show ∀ z ∈ zs, 0 ≤ z ∧ z < 256 from fun z hz => byte_wf (hw z hz))
  have HC := Lib.hid (And.intro hl hm)
  have Wa := Lib.hid (wf_i64 wa)
  have Wm := Lib.hid (wf_i64 wm)
  have We := Lib.hid (wf_i64 we)
  clear hL hN hn hw hm hl wa wm we
  have Wn := Lib.hid (wf_i64 wn)
  have Hx := Lib.hid hx
  have LX : (nrow .u8 x).length = 16 := by rw [nrow_len]; exact hx
  have RX := row_new (W := w) (cs := (nrow .u8 x).toArray) (t := b16T) (m := (0, 0))
  have B0 : Below w.heap.size w (w.alloc (.cells (nrow .u8 x).toArray b16T)) := (Below.refl _ _).alloc (Nat.le_refl _) _
  have HT0 := Lib.hid (HT.out.keep B0 HT.out.2)
  clear wn hx hxw
  have Wl := Lib.hid (wf_i64 wl)
  clear wl
  by_cases h3 : 300 < n ∨ lat ≤ now
  · have hcase : 300 < n ∨ (n ≤ 300 ∧ lat ≤ now) := by omega
    clear h3
    rcases hcase with h | ⟨h0, h⟩
    all_goals
      (try have d1 : decide ((300 : Int) < (n : Int)) = false := decide_eq_false (by omega))
      go_enter Tryd.func7, Tryd.ntmps7
      go_wp2_with (go_at_call 8; refine (small_any _ HT0.out).mono ?_; rintro e w1 ⟨rfl, hB1⟩)
      go_ret
      exact ⟨rfl, B0.trans (hB1.mono B0.size)⟩
  · have h1 : n ≤ 300 := by omega
    have d1 : decide ((300 : Int) < (n : Int)) = false := decide_eq_false (by omega)
    have d2 : now < lat := by omega
    clear h3
    obtain ⟨c, hc⟩ : ∃ c, ck zs a m e = c := ⟨_, rfl⟩
    have hc16 : c.length = 16 := by rw [← hc]; exact ck_len _ _ _ _
    have Hc := Lib.hid hc
    have Hc16 := Lib.hid hc16
    obtain ⟨q, hq⟩ : ∃ q, decide (x = c) = q := ⟨_, rfl⟩
    obtain ⟨er1, h1'⟩ : ∃ er, ckErr e now q = er := ⟨_, rfl⟩
    obtain ⟨er2, h2'⟩ : ∃ er, ckErr e lat q = er := ⟨_, rfl⟩
    have Hq := Lib.hid hq
    have He1 := Lib.hid h1'
    have He2 := Lib.hid h2'
    clear hc hc16 hq h1' h2'
    go_enter Tryd.func7, Tryd.ntmps7
    go_wp2_with fail
    generalize w.alloc (.cells (nrow .u8 x).toArray b16T) = V0 at RX B0 HT0 ⊢
    refine (small_any V0 HT0.out).mono ?_
    rintro y w1 ⟨rfl, hB1⟩
    have RX := row_kept RX hB1 (row_lt RX)
    have B1 := B0.trans (hB1.mono B0.size)
    have K1 := HT.out.keep B1 HT.out.2
    clear hB1 B0 HT0
    go_wp2_with (first
      | ((with_reducible refine wpl_arr Tryd.underlying23 info_b16 ?_ (.tmp 13) ?_ w.heap.size (nrow .u8 x) LX ?_ RX ?_); (rfl); (rfl); (rfl)))
    refine (check_any _ A n cap zs Hn.out (HN.out.below B1) HC.out.1 HC.out.2 (by omega) HW.out a m e now Wa.out Wm.out We.out Wn.out x Hx.out c Hc.out er1 (by rw [Hq.out]; exact He1.out) K1).mono ?_
    rintro y w2 ⟨rfl, hB2⟩
    have RX := row_kept RX hB2 (row_lt RX)
    have B2 := B1.trans (hB2.mono B1.size)
    have K2 := HT.out.keep B2 HT.out.2
    clear hB2 B1 K1
    go_wp2_with (first
      | ((with_reducible refine wpl_arr Tryd.underlying23 info_b16 ?_ (.tmp 13) ?_ w.heap.size (nrow .u8 x) LX ?_ RX ?_); (rfl); (rfl); (rfl)))
    refine (check_any _ A n cap zs Hn.out (HN.out.below B2) HC.out.1 HC.out.2 (by omega) HW.out a m e lat Wa.out Wm.out We.out Wl.out x Hx.out c Hc.out er2 (by rw [Hq.out]; exact He2.out) K2).mono ?_
    rintro y V ⟨rfl, hB4⟩
    have B4 := B2.trans (hB4.mono B2.size)
    clear hB4 RX K2 B2
    have hcase : (er1 = 4 ∧ er2 = 4) ∨ (now = e ∧ lat = e + 1 ∧ 0 ≤ e ∧ er1 = 0 ∧ er2 = 0) ∨ (er1 = 3 ∧ er2 = 3) ∨ (now = e ∧ er1 = 0 ∧ er2 = 4) ∨ (er1 = 3 ∧ er2 = 4) ∨ (now = e + 1 ∧ er1 = 0 ∧ er2 = 4) ∨ (er1 = 4 ∧ er2 = 0) ∨ (er1 = 4 ∧ er2 = 3) := by
      have e1 := He1.out
      have e2 := He2.out
      unfold ckErr at e1 e2
      by_cases o1 : e < 0 ∨ now ≠ e ∧ now ≠ e + 1
      · rw [if_pos o1] at e1
        by_cases o2 : e < 0 ∨ lat ≠ e ∧ lat ≠ e + 1
        · rw [if_pos o2] at e2
          omega
        · rw [if_neg o2] at e2
          cases q
          · simp at e2; omega
          · simp at e2; omega
      · rw [if_neg o1] at e1
        by_cases o2 : e < 0 ∨ lat ≠ e ∧ lat ≠ e + 1
        · rw [if_pos o2] at e2
          cases q
          · simp at e1; omega
          · simp at e1; omega
        · rw [if_neg o2] at e2
          cases q
          · simp at e1 e2; omega
          · simp at e1 e2; omega
    have we0 := We.out
    have wl0 := Wl.out
    have wn0 := Wn.out
    rcases hcase with ⟨rfl, rfl⟩ | ⟨rfl, rfl, h0, rfl, rfl⟩ | ⟨rfl, rfl⟩ | ⟨rfl, rfl, rfl⟩ | ⟨rfl, rfl⟩ | ⟨rfl, rfl, rfl⟩ | ⟨rfl, rfl⟩ | ⟨rfl, rfl⟩
    all_goals
      go_wp2
      go_ret
      exact ⟨rfl, B4⟩
theorem own : ownKnob Tryd.prog.godebug = none := by kernel_rfl
theorem laid : laidOutB Tryd.prog = true := by kernel_rfl

noncomputable def laidWorld (os : Os) : World := World.doorLaid Tryd.prog 400 os
theorem laid_met (os : Os) : laidMet Tryd.prog Rows.cookieAgesRow.laid ((laidWorld os).forCall (fun _ _ => 0) ⟨#[], #[.slice none 0 0, .int .i64 0, .int .i64 0, .int .i64 0, .int .i64 0, .int .i64 0, .agg #[.int .u8 0, .int .u8 0, .int .u8 0, .int .u8 0, .int .u8 0, .int .u8 0, .int .u8 0, .int .u8 0, .int .u8 0, .int .u8 0, .int .u8 0, .int .u8 0, .int .u8 0, .int .u8 0, .int .u8 0, .int .u8 0]], []⟩).memory :=
  laidMet_of_run' 8 (by kernel_rfl) (by kernel_rfl)
theorem reads (os : Os) {H : Type} (enc : TypeId × Value → H) : ∃ places, DataW.whole enc Tryd.prog ((laidWorld os).forCall (fun _ _ => 0) ⟨#[], #[.slice none 0 0, .int .i64 0, .int .i64 0, .int .i64 0, .int .i64 0, .int .i64 0, .agg #[.int .u8 0, .int .u8 0, .int .u8 0, .int .u8 0, .int .u8 0, .int .u8 0, .int .u8 0, .int .u8 0, .int .u8 0, .int .u8 0, .int .u8 0, .int .u8 0, .int .u8 0, .int .u8 0, .int .u8 0, .int .u8 0]], []⟩).memory Tryd.f7.params.toList Rows.cookieAgesSpec.vars false #[Value.slice none 0 0, Value.int .i64 0, .int .i64 0, .int .i64 0, .int .i64 0, .int .i64 0, .agg #[.int .u8 0, .int .u8 0, .int .u8 0, .int .u8 0, .int .u8 0, .int .u8 0, .int .u8 0, .int .u8 0, .int .u8 0, .int .u8 0, .int .u8 0, .int .u8 0, .int .u8 0, .int .u8 0, .int .u8 0, .int .u8 0]].toList 8 = some ([.nil, .lit (.int .i64 0), .lit (.int .i64 0), .lit (.int .i64 0), .lit (.int .i64 0), .lit (.int .i64 0), .agg [.lit (.int .u8 0), .lit (.int .u8 0), .lit (.int .u8 0), .lit (.int .u8 0), .lit (.int .u8 0), .lit (.int .u8 0), .lit (.int .u8 0), .lit (.int .u8 0), .lit (.int .u8 0), .lit (.int .u8 0), .lit (.int .u8 0), .lit (.int .u8 0), .lit (.int .u8 0), .lit (.int .u8 0), .lit (.int .u8 0), .lit (.int .u8 0)]], [], places) :=
  ⟨[], by kernel_rfl⟩

set_option maxRecDepth 100000 in
theorem lifted (os : Os) (started : os.Started) (H : Type) (enc : TypeId × Value → H) (F : Stop.Interp) :
    ReturnsInHanded {} Tryd.checked os 7 .any ((OpenSpec.ofChange Rows.cookieAgesSpec).preRow enc Tryd.prog Tryd.f7 Rows.cookieAgesRow.domain false Rows.cookieAgesRow.laid) (((OpenSpec.ofChange Rows.cookieAgesSpec).at F).post enc Tryd.prog Tryd.f7 false true false false) := by
  obtain ⟨places, hx⟩ := reads os enc
  refine law_lifted_laid (C := Tryd.checked) (s := Rows.cookieAgesSpec) (B := 4) own started (by kernel_rfl) Tryd.func7
    (witness_row_at (enc := enc) (C := Tryd.checked) false (laidWorld os) #[.slice none 0 0, .int .i64 0, .int .i64 0, .int .i64 0, .int .i64 0, .int .i64 0, .agg #[.int .u8 0, .int .u8 0, .int .u8 0, .int .u8 0, .int .u8 0, .int .u8 0, .int .u8 0, .int .u8 0, .int .u8 0, .int .u8 0, .int .u8 0, .int .u8 0, .int .u8 0, .int .u8 0, .int .u8 0, .int .u8 0]] rfl (by kernel_rfl) (by kernel_rfl) (by kernel_rfl)
      (OpenSpec.preRow_of_cond 8 hx (by kernel_rfl) (fun k hk => by cases hk) (by kernel_rfl) (laid_met os)))
    rfl rfl Tryd.underlying4 laid (of_decide_eq_true (by kernel_rfl)) ?_ ?_
  · intro ds hl
    rw [Tryd.params7] at hl
    match ds, hl with
    | [d0, d1, d2, d3, d4, d5, d6], _ => rfl
  · intro W base args ds ps hval hA hlt hz hL
    rw [Tryd.params7] at hA hval
    obtain ⟨v0, vs0, d0, ds0, p0, q0, hargs, rfl, rfl, h0, r0⟩ := trodAll_cons hA
    obtain ⟨v1, vs1, d1, ds1, p1, q1, rfl, rfl, rfl, h1, r1⟩ := trodAll_cons r0
    obtain ⟨v2, vs2, d2, ds2, p2, q2, rfl, rfl, rfl, h2, r2⟩ := trodAll_cons r1
    obtain ⟨v3, vs3, d3, ds3, p3, q3, rfl, rfl, rfl, h3, r3⟩ := trodAll_cons r2
    obtain ⟨v4, vs4, d4, ds4, p4, q4, rfl, rfl, rfl, h4, r4⟩ := trodAll_cons r3
    obtain ⟨v5, vs5, d5, ds5, p5, q5, rfl, rfl, rfl, h5, r5⟩ := trodAll_cons r4
    obtain ⟨v6, vs6, d6, ds6, p6, q6, rfl, rfl, rfl, h6, r6⟩ := trodAll_cons r5
    obtain ⟨rfl, rfl, rfl⟩ := trodAll_nil r6
    obtain rfl : args = #[v0, v1, v2, v3, v4, v5, v6] := by cases args; simp_all
    obtain ⟨A0, n0, cap0, zs0, rfl, hl0, hm0, hn0, hN0, hw0⟩ := open_nums Tryd.underlying22 Tryd.underlying5 (by kernel_rfl) (hval 0 22 v0 rfl rfl) h0
    obtain ⟨a1, rfl, rfl, rfl, w1⟩ := open_int Tryd.underlying3 (hval 1 3 v1 rfl rfl) h1
    obtain ⟨a2, rfl, rfl, rfl, w2⟩ := open_int Tryd.underlying3 (hval 2 3 v2 rfl rfl) h2
    obtain ⟨a3, rfl, rfl, rfl, w3⟩ := open_int Tryd.underlying3 (hval 3 3 v3 rfl rfl) h3
    obtain ⟨a4, rfl, rfl, rfl, w4⟩ := open_int Tryd.underlying3 (hval 4 3 v4 rfl rfl) h4
    obtain ⟨a5, rfl, rfl, rfl, w5⟩ := open_int Tryd.underlying3 (hval 5 3 v5 rfl rfl) h5
    obtain ⟨l6, rfl, hl6, hw6⟩ := open_arr Tryd.underlying23 Tryd.underlying5 (by kernel_rfl) (by kernel_rfl) (hval 6 23 v6 rfl rfl) h6
    exact walk W hL A0 n0 cap0 zs0 hl0 hm0 hn0 hN0 hw0 a1 w1 a2 w2 a3 w3 a4 w4 a5 w5 l6 hl6 hw6

theorem said : Rows.CookieAgesSaid :=
  OpenClaim.holds_of_cond 7 Tryd.f7 rfl rfl rfl rfl rfl rfl rfl ⟨rfl, rfl, rfl, rfl, rfl⟩ rfl rfl rfl rfl rfl (by kernel_rfl) Tryd.func7 (by kernel_rfl)
    (of_decide_eq_true (by kernel_rfl)) (by unfold Func.isWrapper; first | (rw [if_pos (by decide +kernel)]; kernel_rfl) | (rw [if_neg (by decide +kernel)]; exact ⟨rfl, rfl⟩))
    (fun os started H enc _ F => by rw [OpenClaim.pre_eq_preRow]; exact lifted os started H enc F)
theorem plain (f : FuncId) (fn : Func) (hf : Tryd.pinned.checked.prog.funcNamed "nightjar/nightjarlaw06.CookieAges" = some f) (hfn : Tryd.pinned.checked.prog.funcs[f]? = some fn) :
    false = Tryd.pinned.checked.prog.looks [] ∧ ∀ (j : Nat) t, fn.params[j]? = some t → Tryd.pinned.checked.prog.wantsStandIn t = false := by
  obtain rfl : f = 7 := Option.some.inj ((show Tryd.prog.funcNamed "nightjar/nightjarlaw06.CookieAges" = some 7 by kernel_rfl).symm.trans hf) |>.symm
  obtain rfl : fn = Tryd.f7 := (Option.some.inj (Tryd.func7.symm.trans hfn)).symm
  refine ⟨by kernel_rfl, fun j t ht => ?_⟩
  have hm : t ∈ Tryd.f7.params.toList := by simpa using Array.mem_of_getElem? ht
  have hall : (Tryd.f7.params.toList.all fun u => !Tryd.prog.wantsStandIn u) = true := by kernel_rfl
  exact (show Tryd.prog.wantsStandIn t = false by simpa using List.all_eq_true.1 hall t hm)

theorem proved : Rows.CookieAgesCardSaid :=
  Claim7.holds_tied_plain_at .later [] _ _ _ _ said (fun _ h => by cases h) (by kernel_rfl) (fun _ h => by cases h) cookieAges_row_tie rfl ⟨rfl, rfl⟩ (by kernel_rfl) rfl plain (by kernel_rfl)
#print axioms proved
end Go.Proofs.YthppbklbamakcaaDoor.cookieAges
