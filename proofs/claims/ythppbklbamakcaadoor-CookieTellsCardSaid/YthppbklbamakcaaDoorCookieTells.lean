/- CookieTells holds for any secret, any numbers and any cookie: what is minted and checked is the document's own answer. The constants read as the program lays them (the card ties them). No other condition. -/
import Derived.Test.YthppbklbamakcaaDoorCookieSmall
import Derived.Test.YthppbklbamakcaaDoorArrOpen
namespace Go.Proofs.YthppbklbamakcaaDoor.cookieTells
open Go.ChangeShapes Go.WideShapes Go.ChangeAt Go.RowKit

set_option maxRecDepth 100000 in
set_option maxHeartbeats 2000000 in
theorem walk (w : World) (hL : laidMetH Tryd.prog Rows.cookieTellsRow.laid w)
    (A : Option Addr) (n cap : Nat) (zs : List Int) (hl : n ≤ cap) (hm : cap ≤ maxLen) (hn : zs.length = n) (hN : Nums .u8 w A zs) (hw : ∀ z ∈ zs, (Lit.int .u8 z).wf = true)
    (a : Int) (wa : (Lit.int .i64 a).wf = true) (m : Int) (wm : (Lit.int .i64 m).wf = true) (e : Int) (we : (Lit.int .i64 e).wf = true) (now : Int) (wn : (Lit.int .i64 now).wf = true) (x : List Int) (hx : x.length = 16) (hxw : ∀ z ∈ x, (Lit.int .u8 z).wf = true) :
    Calls Tryd.prog 3 #[.slice A n cap, .int .i64 a, .int .i64 m, .int .i64 e, .int .i64 now, .agg (nrow .u8 x).toArray] w fun e w' => e = .returned (.bool true) ∧ Below w.heap.size w w' := by
  have HT := Lib.hid (kt_of_laid hL)
  have HN := Lib.hid hN
  have Hn := Lib.hid hn
  have HW := Lib.hid (show ∀ z ∈ zs, 0 ≤ z ∧ z < 256 from fun z hz => byte_wf (hw z hz))
  have HC := Lib.hid (And.intro hl hm)
  have Wa := Lib.hid (wf_i64 wa)
  have Wm := Lib.hid (wf_i64 wm)
  have We := Lib.hid (wf_i64 we)
  clear hL hN hn hw hm hl wa wm we
  have Wn := Lib.hid (wf_i64 wn)
  have Hx := Lib.hid hx
  have LX : (nrow .u8 x).length = 16 := by rw [nrow_len]; exact hx
  have RX := row_new (W := w) (cs := (nrow .u8 x).toArray) (t := b16T) (m := (0, 0))
  have B0 : Below w.heap.size w (w.alloc (.cells (nrow .u8 x).toArray b16T)) := (Below.refl _ _).alloc (Nat.le_refl _) _
  have HT0 := Lib.hid (HT.out.keep B0 HT.out.2)
  clear wn hx hxw
  by_cases h3 : 300 < n
  · go_enter Tryd.func3, Tryd.ntmps3
    go_wp2_with (go_at_call 8; refine (small_any _ HT0.out).mono ?_; rintro e w1 ⟨rfl, hB1⟩)
    go_ret
    exact ⟨rfl, B0.trans (hB1.mono B0.size)⟩
  · have h1 : n ≤ 300 := by omega
    have d1 : decide ((300 : Int) < (n : Int)) = false := decide_eq_false (by omega)
    clear h3
    obtain ⟨c, hc⟩ : ∃ c, ck zs a m e = c := ⟨_, rfl⟩
    have hc16 : c.length = 16 := by rw [← hc]; exact ck_len _ _ _ _
    have Hc := Lib.hid hc
    have Hc16 := Lib.hid hc16
    obtain ⟨er, her⟩ : ∃ er, ckErr e now (decide (x = c)) = er := ⟨_, rfl⟩
    have EQ := fun W => eql_b16 W c c hc16 hc16
    rw [decide_eq_true rfl] at EQ
    have He := Lib.hid her
    clear hc hc16 her
    go_enter Tryd.func3, Tryd.ntmps3
    go_wp2_with fail
    generalize w.alloc (.cells (nrow .u8 x).toArray b16T) = V0 at RX B0 HT0 ⊢
    refine (small_any V0 HT0.out).mono ?_
    rintro y V ⟨rfl, hB1⟩
    have RX := row_kept RX hB1 (row_lt RX)
    have B1 := B0.trans (hB1.mono B0.size)
    clear hB1 B0 HT0
    go_upto_region 4 with (fail)
    have HU := Lib.hid (show ∀ u : Over V.heap.size V, u.val.heap[w.heap.size]? = some (.cells (nrow .u8 x).toArray b16T) from fun u => row_kept RX u.below (row_lt RX))
    have HB := Lib.hid (show ∀ u : Over V.heap.size V, Below w.heap.size w u.val from fun u => B1.trans (u.below.mono B1.size))
    have HM := Lib.hid (fun u : Over V.heap.size V => mint_any u.val A n cap zs Hn.out (HN.out.below (HB.out u)) HC.out.1 HC.out.2 (by omega) HW.out a m e Wa.out Wm.out We.out c Hc.out (HT.out.keep (HB.out u) HT.out.2))
    have HR := Lib.hid (fun u : Over V.heap.size V => rmint_any u.val A n cap zs Hn.out (HN.out.below (HB.out u)) (by omega) HW.out a m e Wa.out Wm.out We.out c Hc.out)
    have HK := Lib.hid (fun u : Over V.heap.size V => check_any u.val A n cap zs Hn.out (HN.out.below (HB.out u)) HC.out.1 HC.out.2 (by omega) HW.out a m e now Wa.out Wm.out We.out Wn.out x Hx.out c Hc.out er He.out (HT.out.keep (HB.out u) HT.out.2))
    have HRK := Lib.hid (fun u : Over V.heap.size V => rcheck_any u.val A n cap zs Hn.out (HN.out.below (HB.out u)) (by omega) HW.out a m e now Wa.out Wm.out We.out Wn.out x Hx.out c Hc.out er He.out)
    clear RX B1
    refine region_class (fun u : Over V.heap.size V => u.val) ⟨V.drew, below_drewN (Below.refl _ _) 1⟩ rfl (by kernel_rfl) (by kernel_rfl) ?_
    repeat (first
      | ((with_reducible refine wpQuiet_arr Tryd.underlying23 info_b16 ?_ (.tmp 11) ?_ w.heap.size (nrow .u8 x) LX ?_ (fun u => HU.out u) ?_); (rfl); (rfl); (rfl); (conv => arg 6; simp only [Act.put, List.setIfInBounds_toArray, List.set_cons_succ, List.set_cons_zero]))
      | go_big_quiet_step ((first
        | (go_at_call 9; with_reducible exact over_left (Nat.le_refl _) (HM.out _))
        | (go_at_call 10; with_reducible exact over_left (Nat.le_refl _) (HR.out _))
        | (go_at_call 11; with_reducible exact over_left (Nat.le_refl _) (HK.out _))
        | (go_at_call 12; with_reducible exact over_left (Nat.le_refl _) (HRK.out _))
        )))
    with_reducible refine wpQuiet_nil ?_
    rintro _ ⟨u, rfl⟩
    have B2 := HB.out u
    generalize u.val = W at B2 ⊢
    go_wp2
    go_ret
    exact ⟨rfl, B2⟩
theorem own : ownKnob Tryd.prog.godebug = none := by kernel_rfl
theorem laid : laidOutB Tryd.prog = true := by kernel_rfl

noncomputable def laidWorld (os : Os) : World := World.doorLaid Tryd.prog 400 os
theorem laid_met (os : Os) : laidMet Tryd.prog Rows.cookieTellsRow.laid ((laidWorld os).forCall (fun _ _ => 0) ⟨#[], #[.slice none 0 0, .int .i64 0, .int .i64 0, .int .i64 0, .int .i64 0, .agg #[.int .u8 0, .int .u8 0, .int .u8 0, .int .u8 0, .int .u8 0, .int .u8 0, .int .u8 0, .int .u8 0, .int .u8 0, .int .u8 0, .int .u8 0, .int .u8 0, .int .u8 0, .int .u8 0, .int .u8 0, .int .u8 0]], []⟩).memory :=
  laidMet_of_run' 8 (by kernel_rfl) (by kernel_rfl)
theorem reads (os : Os) {H : Type} (enc : TypeId × Value → H) : ∃ places, DataW.whole enc Tryd.prog ((laidWorld os).forCall (fun _ _ => 0) ⟨#[], #[.slice none 0 0, .int .i64 0, .int .i64 0, .int .i64 0, .int .i64 0, .agg #[.int .u8 0, .int .u8 0, .int .u8 0, .int .u8 0, .int .u8 0, .int .u8 0, .int .u8 0, .int .u8 0, .int .u8 0, .int .u8 0, .int .u8 0, .int .u8 0, .int .u8 0, .int .u8 0, .int .u8 0, .int .u8 0]], []⟩).memory Tryd.f3.params.toList Rows.cookieTellsSpec.vars false #[Value.slice none 0 0, Value.int .i64 0, .int .i64 0, .int .i64 0, .int .i64 0, .agg #[.int .u8 0, .int .u8 0, .int .u8 0, .int .u8 0, .int .u8 0, .int .u8 0, .int .u8 0, .int .u8 0, .int .u8 0, .int .u8 0, .int .u8 0, .int .u8 0, .int .u8 0, .int .u8 0, .int .u8 0, .int .u8 0]].toList 8 = some ([.nil, .lit (.int .i64 0), .lit (.int .i64 0), .lit (.int .i64 0), .lit (.int .i64 0), .agg [.lit (.int .u8 0), .lit (.int .u8 0), .lit (.int .u8 0), .lit (.int .u8 0), .lit (.int .u8 0), .lit (.int .u8 0), .lit (.int .u8 0), .lit (.int .u8 0), .lit (.int .u8 0), .lit (.int .u8 0), .lit (.int .u8 0), .lit (.int .u8 0), .lit (.int .u8 0), .lit (.int .u8 0), .lit (.int .u8 0), .lit (.int .u8 0)]], [], places) :=
  ⟨[], by kernel_rfl⟩

set_option maxRecDepth 100000 in
theorem lifted (os : Os) (started : os.Started) (H : Type) (enc : TypeId × Value → H) (F : Stop.Interp) :
    ReturnsInHanded {} Tryd.checked os 3 .any ((OpenSpec.ofChange Rows.cookieTellsSpec).preRow enc Tryd.prog Tryd.f3 Rows.cookieTellsRow.domain false Rows.cookieTellsRow.laid) (((OpenSpec.ofChange Rows.cookieTellsSpec).at F).post enc Tryd.prog Tryd.f3 false true false false) := by
  obtain ⟨places, hx⟩ := reads os enc
  refine law_lifted_laid (C := Tryd.checked) (s := Rows.cookieTellsSpec) (B := 4) own started (by kernel_rfl) Tryd.func3
    (witness_row_at (enc := enc) (C := Tryd.checked) false (laidWorld os) #[.slice none 0 0, .int .i64 0, .int .i64 0, .int .i64 0, .int .i64 0, .agg #[.int .u8 0, .int .u8 0, .int .u8 0, .int .u8 0, .int .u8 0, .int .u8 0, .int .u8 0, .int .u8 0, .int .u8 0, .int .u8 0, .int .u8 0, .int .u8 0, .int .u8 0, .int .u8 0, .int .u8 0, .int .u8 0]] rfl (by kernel_rfl) (by kernel_rfl) (by kernel_rfl)
      (OpenSpec.preRow_of_cond 8 hx (by kernel_rfl) (fun k hk => by cases hk) (by kernel_rfl) (laid_met os)))
    rfl rfl Tryd.underlying4 laid (of_decide_eq_true (by kernel_rfl)) ?_ ?_
  · intro ds hl
    rw [Tryd.params3] at hl
    match ds, hl with
    | [d0, d1, d2, d3, d4, d5], _ => rfl
  · intro W base args ds ps hval hA hlt hz hL
    rw [Tryd.params3] at hA hval
    obtain ⟨v0, vs0, d0, ds0, p0, q0, hargs, rfl, rfl, h0, r0⟩ := trodAll_cons hA
    obtain ⟨v1, vs1, d1, ds1, p1, q1, rfl, rfl, rfl, h1, r1⟩ := trodAll_cons r0
    obtain ⟨v2, vs2, d2, ds2, p2, q2, rfl, rfl, rfl, h2, r2⟩ := trodAll_cons r1
    obtain ⟨v3, vs3, d3, ds3, p3, q3, rfl, rfl, rfl, h3, r3⟩ := trodAll_cons r2
    obtain ⟨v4, vs4, d4, ds4, p4, q4, rfl, rfl, rfl, h4, r4⟩ := trodAll_cons r3
    obtain ⟨v5, vs5, d5, ds5, p5, q5, rfl, rfl, rfl, h5, r5⟩ := trodAll_cons r4
    obtain ⟨rfl, rfl, rfl⟩ := trodAll_nil r5
    obtain rfl : args = #[v0, v1, v2, v3, v4, v5] := by cases args; simp_all
    obtain ⟨A0, n0, cap0, zs0, rfl, hl0, hm0, hn0, hN0, hw0⟩ := open_nums Tryd.underlying22 Tryd.underlying5 (by kernel_rfl) (hval 0 22 v0 rfl rfl) h0
    obtain ⟨a1, rfl, rfl, rfl, w1⟩ := open_int Tryd.underlying3 (hval 1 3 v1 rfl rfl) h1
    obtain ⟨a2, rfl, rfl, rfl, w2⟩ := open_int Tryd.underlying3 (hval 2 3 v2 rfl rfl) h2
    obtain ⟨a3, rfl, rfl, rfl, w3⟩ := open_int Tryd.underlying3 (hval 3 3 v3 rfl rfl) h3
    obtain ⟨a4, rfl, rfl, rfl, w4⟩ := open_int Tryd.underlying3 (hval 4 3 v4 rfl rfl) h4
    obtain ⟨l5, rfl, hl5, hw5⟩ := open_arr Tryd.underlying23 Tryd.underlying5 (by kernel_rfl) (by kernel_rfl) (hval 5 23 v5 rfl rfl) h5
    exact walk W hL A0 n0 cap0 zs0 hl0 hm0 hn0 hN0 hw0 a1 w1 a2 w2 a3 w3 a4 w4 l5 hl5 hw5

theorem said : Rows.CookieTellsSaid :=
  OpenClaim.holds_of_cond 3 Tryd.f3 rfl rfl rfl rfl rfl rfl rfl ⟨rfl, rfl, rfl, rfl, rfl⟩ rfl rfl rfl rfl rfl (by kernel_rfl) Tryd.func3 (by kernel_rfl)
    (of_decide_eq_true (by kernel_rfl)) (by unfold Func.isWrapper; first | (rw [if_pos (by decide +kernel)]; kernel_rfl) | (rw [if_neg (by decide +kernel)]; exact ⟨rfl, rfl⟩))
    (fun os started H enc _ F => by rw [OpenClaim.pre_eq_preRow]; exact lifted os started H enc F)
theorem plain (f : FuncId) (fn : Func) (hf : Tryd.pinned.checked.prog.funcNamed "nightjar/nightjarlaw06.CookieTells" = some f) (hfn : Tryd.pinned.checked.prog.funcs[f]? = some fn) :
    false = Tryd.pinned.checked.prog.looks [] ∧ ∀ (j : Nat) t, fn.params[j]? = some t → Tryd.pinned.checked.prog.wantsStandIn t = false := by
  obtain rfl : f = 3 := Option.some.inj ((show Tryd.prog.funcNamed "nightjar/nightjarlaw06.CookieTells" = some 3 by kernel_rfl).symm.trans hf) |>.symm
  obtain rfl : fn = Tryd.f3 := (Option.some.inj (Tryd.func3.symm.trans hfn)).symm
  refine ⟨by kernel_rfl, fun j t ht => ?_⟩
  have hm : t ∈ Tryd.f3.params.toList := by simpa using Array.mem_of_getElem? ht
  have hall : (Tryd.f3.params.toList.all fun u => !Tryd.prog.wantsStandIn u) = true := by kernel_rfl
  exact (show Tryd.prog.wantsStandIn t = false by simpa using List.all_eq_true.1 hall t hm)

theorem proved : Rows.CookieTellsCardSaid :=
  Claim7.holds_tied_plain_at .later [] _ _ _ _ said (fun _ h => by cases h) (by kernel_rfl) (fun _ h => by cases h) cookieTells_row_tie rfl ⟨rfl, rfl⟩ (by kernel_rfl) rfl plain (by kernel_rfl)
#print axioms proved
end Go.Proofs.YthppbklbamakcaaDoor.cookieTells
