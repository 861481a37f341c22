/- TagKeys holds for any secret and any numbers up to 2^60: numbers that are 2^56 apart have like keys. The constants read as the program lays them (the card ties them). No other condition. -/
import Derived.Test.YtpglhkjgcahdbaaDoorQ17
namespace Go.Proofs.YtpglhkjgcahdbaaDoor.tagKeys
open Go.ChangeShapes Go.WideShapes Go.ChangeAt Go.RowKit
theorem lay_add : ∀ (k : Nat) (x : Int), lay (x + 256 ^ k) k = lay x k
  | 0, x => by simp [lay]
  | k + 1, x => by
    rw [lay_succ, lay_succ x]
    have e1 : (x + 256 ^ (k + 1)) / 256 = x / 256 + 256 ^ k := by rw [Int.pow_succ]; omega
    have e2 : byt (x + 256 ^ (k + 1)) 0 = byt x 0 := by unfold byt; rw [Int.pow_succ]; simp
    rw [e1, e2, lay_add k]
theorem lay56 (x : Int) : lay (x + 72057594037927936) 7 = lay x 7 := lay_add 7 x

set_option maxRecDepth 100000 in
set_option maxHeartbeats 2000000 in
theorem walk (w : World) (hL : laidMetH Tryd.prog Rows.tagKeysRow.laid w)
    (A : Option Addr) (n cap : Nat) (zs : List Int) (hl : n ≤ cap) (hm : cap ≤ maxLen) (hn : zs.length = n) (hN : Nums .u8 w A zs) (hw : ∀ z ∈ zs, (Lit.int .u8 z).wf = true)
    (a : Int) (wa : (Lit.int .i64 a).wf = true) (m : Int) (wm : (Lit.int .i64 m).wf = true) :
    Calls Tryd.prog 7 #[.slice A n cap, .int .i64 a, .int .i64 m] w fun e w' => e = .returned (.bool true) ∧ Below w.heap.size w w' := by
  have HT := Lib.hid (kt_of_laid hL)
  have HN := Lib.hid hN
  have Hn := Lib.hid hn
  have HW := Lib.hid (show ∀ z ∈ zs, 0 ≤ z ∧ z < 256 from fun z hz => byte_wf (hw z hz))
  have HC := Lib.hid (And.intro hl hm)
  have Wa := Lib.hid (wf_i64 wa)
  have Wm := Lib.hid (wf_i64 wm)
  clear hL hN hn hw hm hl wa wm
  have HT0 := HT
  have B0 : Below w.heap.size w w := Below.refl _ _
  by_cases hbad : 300 < n ∨ a < 0 ∨ 1152921504606846976 < a ∨ m < 0 ∨ 1152921504606846976 < m
  · have hcase : 300 < n ∨ (n ≤ 300 ∧ a < 0) ∨ (n ≤ 300 ∧ 0 ≤ a ∧ 1152921504606846976 < a) ∨ (n ≤ 300 ∧ 0 ≤ a ∧ a ≤ 1152921504606846976 ∧ m < 0) ∨ (n ≤ 300 ∧ 0 ≤ a ∧ a ≤ 1152921504606846976 ∧ 0 ≤ m ∧ 1152921504606846976 < m) := by omega
    clear hbad
    rcases hcase with h | ⟨h0, h⟩ | ⟨h0, h1, h⟩ | ⟨h0, h1, h2, h⟩ | ⟨h0, h1, h2, h3, h⟩
    all_goals
      (try have d1 : decide ((300 : Int) < (n : Int)) = false := decide_eq_false (by omega))
      go_enter Tryd.func7, Tryd.ntmps7
      go_wp2_with (go_at_call 8; refine (small_any _ HT0.out).mono ?_; rintro e w1 ⟨rfl, hB1⟩)
      go_ret
      exact ⟨rfl, B0.trans (hB1.mono B0.size)⟩
  · have h1 : n ≤ 300 := by omega
    have d1 : decide ((300 : Int) < (n : Int)) = false := decide_eq_false (by omega)
    have a0 : 0 ≤ a := by omega
    have a1 : a ≤ 1152921504606846976 := by omega
    have m0 : 0 ≤ m := by omega
    have m1 : m ≤ 1152921504606846976 := by omega
    have sa : IntKind.i64.wrap (a + 72057594037927936) = a + 72057594037927936 := IntWalk.i64_in _ (by omega)
    have sm : IntKind.i64.wrap (m + 72057594037927936) = m + 72057594037927936 := IntWalk.i64_in _ (by omega)
    clear hbad
    obtain ⟨c, hc⟩ : ∃ c, tk zs a m = c := ⟨_, rfl⟩
    have hc16 : c.length = 16 := by rw [← hc]; exact tk_len _ _ _
    have Hc := Lib.hid hc
    have Hc16 := Lib.hid hc16
    have Ha := Lib.hid (show tk zs (a + 72057594037927936) m = c by rw [← hc]; unfold tk; rw [lay56])
    have Hm := Lib.hid (show tk zs a (m + 72057594037927936) = c by rw [← hc]; unfold tk; rw [lay56])
    have Va := Lib.hid (show -9223372036854775808 ≤ a + 72057594037927936 ∧ a + 72057594037927936 ≤ 9223372036854775807 by omega)
    have Vm := Lib.hid (show -9223372036854775808 ≤ m + 72057594037927936 ∧ m + 72057594037927936 ≤ 9223372036854775807 by omega)
    have CN := c16_new c hc16
    have z1 := zero_b16
    have L0 : (nrow .u8 c).length = 16 := by rw [nrow_len]; exact hc16
    have EQ := fun W => eql_b16 W c c hc16 hc16
    rw [decide_eq_true rfl] at EQ
    clear hc hc16
    go_enter Tryd.func7, Tryd.ntmps7
    go_wp2_with fail
    refine (small_any _ HT.out).mono ?_
    rintro x w1 ⟨rfl, hB1⟩
    have K1 := HT.out.keep hB1 HT.out.2
    go_wp2_with fail
    refine (key_any _ A n cap zs Hn.out (HN.out.below hB1) HC.out.1 HC.out.2 (by omega) HW.out a m Wa.out Wm.out c Hc.out K1).mono ?_
    rintro x w2 ⟨rfl, hB2⟩
    have B2 := hB1.trans (hB2.mono hB1.size)
    clear hB2 K1 hB1
    go_upto_region 5 with (fail)
    have AN := (Below.refl w2.heap.size w2).alloc (Nat.le_refl _) (.cells (nrow .u8 c).toArray b16T)
    have RX := row_new (W := w2) (cs := (nrow .u8 c).toArray) (t := b16T) (m := (0, 0))
    have B1 := B2.trans (AN.mono B2.size)
    generalize w2.alloc (.cells (nrow .u8 c).toArray b16T) = V at RX B1 ⊢
    have HU := Lib.hid (show ∀ u : Over V.heap.size V, u.val.heap[w2.heap.size]? = some (.cells (nrow .u8 c).toArray b16T) from fun u => row_kept RX u.below (row_lt RX))
    have HB := Lib.hid (show ∀ u : Over V.heap.size V, Below w.heap.size w u.val from fun u => B1.trans (u.below.mono B1.size))
    have HMa := Lib.hid (fun u : Over V.heap.size V => key_any u.val A n cap zs Hn.out (HN.out.below (HB.out u)) HC.out.1 HC.out.2 (by omega) HW.out (a + 72057594037927936) m Va.out Wm.out c Ha.out (HT.out.keep (HB.out u) HT.out.2))
    have HMm := Lib.hid (fun u : Over V.heap.size V => key_any u.val A n cap zs Hn.out (HN.out.below (HB.out u)) HC.out.1 HC.out.2 (by omega) HW.out a (m + 72057594037927936) Wa.out Vm.out c Hm.out (HT.out.keep (HB.out u) HT.out.2))
    clear RX B1 AN B2 CN
    refine region_class (fun u : Over V.heap.size V => u.val) ⟨V.drew, below_drewN (Below.refl _ _) 1⟩ rfl (by kernel_rfl) (by kernel_rfl) ?_
    repeat (first
      | ((with_reducible refine wpQuiet_arr Tryd.underlying23 info_b16 ?_ (.tmp 8) ?_ w2.heap.size (nrow .u8 c) L0 ?_ (fun u => HU.out u) ?_); (rfl); (rfl); (rfl); (conv => arg 6; simp only [Act.put, List.setIfInBounds_toArray, List.set_cons_succ, List.set_cons_zero]))
      | go_big_quiet_step ((first
        | (go_at_call 11; first
            | (with_reducible exact over_left (Nat.le_refl _) (HMa.out _))
            | (with_reducible exact over_left (Nat.le_refl _) (HMm.out _)))
        )))
    with_reducible refine wpQuiet_nil ?_
    rintro _ ⟨u, rfl⟩
    have B2 := HB.out u
    generalize u.val = W at B2 ⊢
    go_wp2
    go_ret
    exact ⟨rfl, B2⟩
theorem own : ownKnob Tryd.prog.godebug = none := by kernel_rfl
theorem laid : laidOutB Tryd.prog = true := by kernel_rfl

noncomputable def laidWorld (os : Os) : World := World.doorLaid Tryd.prog 400 os
theorem laid_met (os : Os) : laidMet Tryd.prog Rows.tagKeysRow.laid ((laidWorld os).forCall (fun _ _ => 0) ⟨#[], #[.slice none 0 0, .int .i64 0, .int .i64 0], []⟩).memory :=
  laidMet_of_run' 8 (by kernel_rfl) (by kernel_rfl)
theorem reads (os : Os) {H : Type} (enc : TypeId × Value → H) : ∃ places, DataW.whole enc Tryd.prog ((laidWorld os).forCall (fun _ _ => 0) ⟨#[], #[.slice none 0 0, .int .i64 0, .int .i64 0], []⟩).memory Tryd.f7.params.toList Rows.tagKeysSpec.vars false #[Value.slice none 0 0, Value.int .i64 0, .int .i64 0].toList 8 = some ([.nil, .lit (.int .i64 0), .lit (.int .i64 0)], [], places) :=
  ⟨[], by kernel_rfl⟩

set_option maxRecDepth 100000 in
theorem lifted (os : Os) (started : os.Started) (H : Type) (enc : TypeId × Value → H) (F : Stop.Interp) :
    ReturnsInHanded {} Tryd.checked os 7 .any ((OpenSpec.ofChange Rows.tagKeysSpec).preRow enc Tryd.prog Tryd.f7 Rows.tagKeysRow.domain false Rows.tagKeysRow.laid) (((OpenSpec.ofChange Rows.tagKeysSpec).at F).post enc Tryd.prog Tryd.f7 false true false false) := by
  obtain ⟨places, hx⟩ := reads os enc
  refine law_lifted_laid (C := Tryd.checked) (s := Rows.tagKeysSpec) (B := 4) own started (by kernel_rfl) Tryd.func7
    (witness_row_at (enc := enc) (C := Tryd.checked) false (laidWorld os) #[.slice none 0 0, .int .i64 0, .int .i64 0] rfl (by kernel_rfl) (by kernel_rfl) (by kernel_rfl)
      (OpenSpec.preRow_of_cond 8 hx (by kernel_rfl) (fun k hk => by cases hk) (by kernel_rfl) (laid_met os)))
    rfl rfl Tryd.underlying4 laid (of_decide_eq_true (by kernel_rfl)) ?_ ?_
  · intro ds hl
    rw [Tryd.params7] at hl
    match ds, hl with
    | [d0, d1, d2], _ => rfl
  · intro W base args ds ps hval hA hlt hz hL
    rw [Tryd.params7] at hA hval
    obtain ⟨v0, vs0, d0, ds0, p0, q0, hargs, rfl, rfl, h0, r0⟩ := trodAll_cons hA
    obtain ⟨v1, vs1, d1, ds1, p1, q1, rfl, rfl, rfl, h1, r1⟩ := trodAll_cons r0
    obtain ⟨v2, vs2, d2, ds2, p2, q2, rfl, rfl, rfl, h2, r2⟩ := trodAll_cons r1
    obtain ⟨rfl, rfl, rfl⟩ := trodAll_nil r2
    obtain rfl : args = #[v0, v1, v2] := by cases args; simp_all
    obtain ⟨A0, n0, cap0, zs0, rfl, hl0, hm0, hn0, hN0, hw0⟩ := open_nums Tryd.underlying22 Tryd.underlying5 (by kernel_rfl) (hval 0 22 v0 rfl rfl) h0
    obtain ⟨a1, rfl, rfl, rfl, w1⟩ := open_int Tryd.underlying3 (hval 1 3 v1 rfl rfl) h1
    obtain ⟨a2, rfl, rfl, rfl, w2⟩ := open_int Tryd.underlying3 (hval 2 3 v2 rfl rfl) h2
    exact walk W hL A0 n0 cap0 zs0 hl0 hm0 hn0 hN0 hw0 a1 w1 a2 w2

theorem said : Rows.TagKeysSaid :=
  OpenClaim.holds_of_cond 7 Tryd.f7 rfl rfl rfl rfl rfl rfl rfl ⟨rfl, rfl, rfl, rfl, rfl⟩ rfl rfl rfl rfl rfl (by kernel_rfl) Tryd.func7 (by kernel_rfl)
    (of_decide_eq_true (by kernel_rfl)) (by unfold Func.isWrapper; first | (rw [if_pos (by decide +kernel)]; kernel_rfl) | (rw [if_neg (by decide +kernel)]; exact ⟨rfl, rfl⟩))
    (fun os started H enc _ F => by rw [OpenClaim.pre_eq_preRow]; exact lifted os started H enc F)
theorem plain (f : FuncId) (fn : Func) (hf : Tryd.pinned.checked.prog.funcNamed "nightjar/nightjarlaw07.TagKeys" = some f) (hfn : Tryd.pinned.checked.prog.funcs[f]? = some fn) :
    false = Tryd.pinned.checked.prog.looks [] ∧ ∀ (j : Nat) t, fn.params[j]? = some t → Tryd.pinned.checked.prog.wantsStandIn t = false := by
  obtain rfl : f = 7 := Option.some.inj ((show Tryd.prog.funcNamed "nightjar/nightjarlaw07.TagKeys" = some 7 by kernel_rfl).symm.trans hf) |>.symm
  obtain rfl : fn = Tryd.f7 := (Option.some.inj (Tryd.func7.symm.trans hfn)).symm
  refine ⟨by kernel_rfl, fun j t ht => ?_⟩
  have hm : t ∈ Tryd.f7.params.toList := by simpa using Array.mem_of_getElem? ht
  have hall : (Tryd.f7.params.toList.all fun u => !Tryd.prog.wantsStandIn u) = true := by kernel_rfl
  exact (show Tryd.prog.wantsStandIn t = false by simpa using List.all_eq_true.1 hall t hm)

theorem proved : Rows.TagKeysCardSaid :=
  Claim7.holds_tied_plain_at .later [] _ _ _ _ said (fun _ h => by cases h) (by kernel_rfl) (fun _ h => by cases h) tagKeys_row_tie rfl ⟨rfl, rfl⟩ (by kernel_rfl) rfl plain (by kernel_rfl)
#print axioms proved
end Go.Proofs.YtpglhkjgcahdbaaDoor.tagKeys
