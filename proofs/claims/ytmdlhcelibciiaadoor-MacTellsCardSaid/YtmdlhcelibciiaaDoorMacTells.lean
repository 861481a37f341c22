/- MacTells holds for any key and any bytes: the program's digest by a key, and which bytes are equal, are the document's own answers. The constants read as the program lays them (the card ties them). No other condition. -/
import Derived.Test.YtmdlhcelibciiaaDoorMacSmall
import Derived.Test.YtmdlhcelibciiaaDoorDigLaw
import Derived.Test.YtmdlhcelibciiaaDoorMacRef2
namespace Go.Proofs.YtmdlhcelibciiaaDoor.macTells
open Go.ChangeShapes Go.WideShapes Go.ChangeAt Go.RowKit

set_option maxRecDepth 100000 in
set_option maxHeartbeats 2000000 in
theorem walk (w : World) (hL : laidMetH Tryd.prog Rows.macTellsRow.laid w)
    (A : Option Addr) (n cap : Nat) (zs : List Int) (hl : n ≤ cap) (hm : cap ≤ maxLen) (hn : zs.length = n) (hN : Nums .u8 w A zs) (hw : ∀ z ∈ zs, (Lit.int .u8 z).wf = true)
    (B : Option Addr) (n' cap' : Nat) (ys : List Int) (hl' : n' ≤ cap') (hm' : cap' ≤ maxLen) (hn' : ys.length = n') (hN' : Nums .u8 w B ys) (hw' : ∀ z ∈ ys, (Lit.int .u8 z).wf = true)
    (C : Option Addr) (n'' cap'' : Nat) (xs : List Int) (hl'' : n'' ≤ cap'') (hm'' : cap'' ≤ maxLen) (hn'' : xs.length = n'') (hN'' : Nums .u8 w C xs) (hw'' : ∀ z ∈ xs, (Lit.int .u8 z).wf = true) :
    Calls Tryd.prog 3 #[.slice A n cap, .slice B n' cap', .slice C n'' cap''] w fun e w' => e = .returned (.bool true) ∧ Below w.heap.size w w' := by
  have HT := Lib.hid (kt_of_laid hL)
  have HN := Lib.hid hN
  have Hn := Lib.hid hn
  have HW := Lib.hid (show ∀ z ∈ zs, 0 ≤ z ∧ z < 256 from fun z hz => byte_wf (hw z hz))
  have HN' := Lib.hid hN'
  have Hn' := Lib.hid hn'
  have HW' := Lib.hid (show ∀ z ∈ ys, 0 ≤ z ∧ z < 256 from fun z hz => byte_wf (hw' z hz))
  have HN'' := Lib.hid hN''
  have Hn'' := Lib.hid hn''
  have HW'' := Lib.hid (show ∀ z ∈ xs, 0 ≤ z ∧ z < 256 from fun z hz => byte_wf (hw'' z hz))
  have HC := Lib.hid (And.intro (And.intro hl hm) (And.intro hl' hm'))
  clear hL hN hn hw hN' hn' hw' hN'' hn'' hw'' hm hm' hm'' hl hl' hl''
  by_cases h3 : 300 < n ∨ 300 < n' ∨ 300 < n''
  · have hcase : (300 < n) ∨ (n ≤ 300 ∧ 300 < n') ∨ (n ≤ 300 ∧ n' ≤ 300 ∧ 300 < n'') := by omega
    clear h3
    rcases hcase with h | ⟨h0, h⟩ | ⟨h0, h1, h⟩
    all_goals
      go_enter Tryd.func3, Tryd.ntmps3
      go_wp2_with (go_at_call 8; refine (small_any _ HT.out).mono ?_; rintro e w1 ⟨rfl, hB1⟩)
      go_ret
      exact ⟨rfl, hB1⟩
  · have h1 : n ≤ 300 := by omega
    have h2 : n' ≤ 300 := by omega
    have h4 : n'' ≤ 300 := by omega
    clear h3
    obtain ⟨r, hr⟩ : ∃ r, Mac.hmac zs ys = r := ⟨_, rfl⟩
    have Hr := Lib.hid hr
    have hr32 : r.length = 32 := by rw [← hr]; exact Mac.hmac_len _ _
    have E1 : ∀ W : World, (Op.equalIn 10000 b32T (.agg (nrow .u8 r).toArray) (.agg (nrow .u8 r).toArray)).run Tryd.prog W = .ok true W := fun W => by rw [eql_b32 W r r hr32 hr32, decide_eq_true rfl]
    obtain ⟨q, hq⟩ : ∃ q, decide (ys = xs) = q := ⟨_, rfl⟩
    have Hq := Lib.hid hq
    have HM0 := Lib.hid (show ys.length ≤ 900000 by rw [Hn'.out]; omega)
    have d1 : decide ((300 : Int) < (n : Int)) = false := decide_eq_false (by omega)
    have d2 : decide ((300 : Int) < (n' : Int)) = false := decide_eq_false (by omega)
    have d3 : decide ((300 : Int) < (n'' : Int)) = false := decide_eq_false (by omega)
    clear hr hr32 hq
    go_enter Tryd.func3, Tryd.ntmps3
    go_wp2_with fail
    refine (small_any _ HT.out).mono ?_
    rintro e w1 ⟨rfl, hB1⟩
    have P2 := parts_one (t := 22) (cap := cap') (g := w1.heap.size) rfl (HN'.out.below hB1) Hn'.out HC.out.2.1 HC.out.2.2
    have B2 := hB1.alloc hB1.size (.cells #[.slice B n' cap'] 22)
    have K2 := HT.out.keep B2 HT.out.2
    go_wp2_with fail
    refine (of_any _ A n cap zs Hn.out (HN.out.below B2) HC.out.1.1 HC.out.1.2 (by omega) HW.out _ 1 1 _ ys r (by simp [flat]) Hr.out rfl (Nat.le_refl _) (show (1 : Nat) ≤ maxLen by decide) P2 HM0.out (by decide) HW'.out K2).mono ?_
    rintro e w2 ⟨rfl, hB2⟩
    have B3 := B2.trans (hB2.mono B2.size)
    clear hB2 K2 P2 B2 hB1
    go_wp2_with fail
    refine (mof_any _ A n cap zs Hn.out (HN.out.below B3) (by omega) HW.out B n' cap' ys r Hn'.out (HN'.out.below B3) (by omega) HW'.out Hr.out).mono ?_
    rintro e w3 ⟨rfl, hB3⟩
    have B4 := B3.trans (hB3.mono B3.size)
    clear hB3 B3
    have NB := Lib.hid (HN'.out.below B4)
    have NC := Lib.hid (HN''.out.below B4)
    go_wp2_with fail
    refine (equal_any _ B C n' n'' _ _ ys xs Hn'.out Hn''.out NB.out NC.out HW'.out HW''.out q Hq.out).mono ?_
    rintro e w' ⟨rfl, rfl⟩
    go_wp2_with fail
    refine (requal_any _ B C n' n'' _ _ ys xs Hn'.out Hn''.out NB.out NC.out HW'.out HW''.out q Hq.out).mono ?_
    rintro e w' ⟨rfl, rfl⟩
    go_wp2
    go_ret
    exact ⟨rfl, B4⟩
theorem own : ownKnob Tryd.prog.godebug = none := by kernel_rfl
theorem laid : laidOutB Tryd.prog = true := by kernel_rfl

noncomputable def laidWorld (os : Os) : World := World.doorLaid Tryd.prog 400 os
theorem laid_met (os : Os) : laidMet Tryd.prog Rows.macTellsRow.laid ((laidWorld os).forCall (fun _ _ => 0) ⟨#[], #[.slice none 0 0, .slice none 0 0, .slice none 0 0], []⟩).memory :=
  laidMet_of_run' 8 (by kernel_rfl) (by kernel_rfl)
theorem reads (os : Os) {H : Type} (enc : TypeId × Value → H) : ∃ places, DataW.whole enc Tryd.prog ((laidWorld os).forCall (fun _ _ => 0) ⟨#[], #[.slice none 0 0, .slice none 0 0, .slice none 0 0], []⟩).memory Tryd.f3.params.toList Rows.macTellsSpec.vars false #[Value.slice none 0 0, .slice none 0 0, .slice none 0 0].toList 8 = some ([.nil, .nil, .nil], [], places) :=
  ⟨[], by kernel_rfl⟩

set_option maxRecDepth 100000 in
theorem lifted (os : Os) (started : os.Started) (H : Type) (enc : TypeId × Value → H) (F : Stop.Interp) :
    ReturnsInHanded {} Tryd.checked os 3 .any ((OpenSpec.ofChange Rows.macTellsSpec).preRow enc Tryd.prog Tryd.f3 Rows.macTellsRow.domain false Rows.macTellsRow.laid) (((OpenSpec.ofChange Rows.macTellsSpec).at F).post enc Tryd.prog Tryd.f3 false true false false) := by
  obtain ⟨places, hx⟩ := reads os enc
  refine law_lifted_laid (C := Tryd.checked) (s := Rows.macTellsSpec) (B := 4) own started (by kernel_rfl) Tryd.func3
    (witness_row_at (enc := enc) (C := Tryd.checked) false (laidWorld os) #[.slice none 0 0, .slice none 0 0, .slice none 0 0] rfl (by kernel_rfl) (by kernel_rfl) (by kernel_rfl)
      (OpenSpec.preRow_of_cond 8 hx (by kernel_rfl) (fun k hk => by cases hk) (by kernel_rfl) (laid_met os)))
    rfl rfl Tryd.underlying4 laid (of_decide_eq_true (by kernel_rfl)) ?_ ?_
  · intro ds hl
    rw [Tryd.params3] at hl
    match ds, hl with
    | [d0, d1, d2], _ => rfl
  · intro W base args ds ps hval hA hlt hz hL
    rw [Tryd.params3] at hA hval
    obtain ⟨v0, vs0, d0, ds0, p0, q0, hargs, rfl, rfl, h0, r0⟩ := trodAll_cons hA
    obtain ⟨v1, vs1, d1, ds1, p1, q1, rfl, rfl, rfl, h1, r1⟩ := trodAll_cons r0
    obtain ⟨v2, vs2, d2, ds2, p2, q2, rfl, rfl, rfl, h2, r2⟩ := trodAll_cons r1
    obtain ⟨rfl, rfl, rfl⟩ := trodAll_nil r2
    obtain rfl : args = #[v0, v1, v2] := by cases args; simp_all
    obtain ⟨A0, n0, cap0, zs0, rfl, hl0, hm0, hn0, hN0, hw0⟩ := open_nums Tryd.underlying22 Tryd.underlying5 (by kernel_rfl) (hval 0 22 v0 rfl rfl) h0
    obtain ⟨A1, n1, cap1, zs1, rfl, hl1, hm1, hn1, hN1, hw1⟩ := open_nums Tryd.underlying22 Tryd.underlying5 (by kernel_rfl) (hval 1 22 v1 rfl rfl) h1
    obtain ⟨A2, n2, cap2, zs2, rfl, hl2, hm2, hn2, hN2, hw2⟩ := open_nums Tryd.underlying22 Tryd.underlying5 (by kernel_rfl) (hval 2 22 v2 rfl rfl) h2
    exact walk W hL A0 n0 cap0 zs0 hl0 hm0 hn0 hN0 hw0 A1 n1 cap1 zs1 hl1 hm1 hn1 hN1 hw1 A2 n2 cap2 zs2 hl2 hm2 hn2 hN2 hw2

theorem said : Rows.MacTellsSaid :=
  OpenClaim.holds_of_cond 3 Tryd.f3 rfl rfl rfl rfl rfl rfl rfl ⟨rfl, rfl, rfl, rfl, rfl⟩ rfl rfl rfl rfl rfl (by kernel_rfl) Tryd.func3 (by kernel_rfl)
    (of_decide_eq_true (by kernel_rfl)) (by unfold Func.isWrapper; first | (rw [if_pos (by decide +kernel)]; kernel_rfl) | (rw [if_neg (by decide +kernel)]; exact ⟨rfl, rfl⟩))
    (fun os started H enc _ F => by rw [OpenClaim.pre_eq_preRow]; exact lifted os started H enc F)
theorem plain (f : FuncId) (fn : Func) (hf : Tryd.pinned.checked.prog.funcNamed "nightjar/nightjarlaw03.MacTells" = some f) (hfn : Tryd.pinned.checked.prog.funcs[f]? = some fn) :
    false = Tryd.pinned.checked.prog.looks [] ∧ ∀ (j : Nat) t, fn.params[j]? = some t → Tryd.pinned.checked.prog.wantsStandIn t = false := by
  obtain rfl : f = 3 := Option.some.inj ((show Tryd.prog.funcNamed "nightjar/nightjarlaw03.MacTells" = some 3 by kernel_rfl).symm.trans hf) |>.symm
  obtain rfl : fn = Tryd.f3 := (Option.some.inj (Tryd.func3.symm.trans hfn)).symm
  refine ⟨by kernel_rfl, fun j t ht => ?_⟩
  have hm : t ∈ Tryd.f3.params.toList := by simpa using Array.mem_of_getElem? ht
  have hall : (Tryd.f3.params.toList.all fun u => !Tryd.prog.wantsStandIn u) = true := by kernel_rfl
  exact (show Tryd.prog.wantsStandIn t = false by simpa using List.all_eq_true.1 hall t hm)

theorem proved : Rows.MacTellsCardSaid :=
  Claim7.holds_tied_plain_at .later [] _ _ _ _ said (fun _ h => by cases h) (by kernel_rfl) (fun _ h => by cases h) macTells_row_tie rfl ⟨rfl, rfl⟩ (by kernel_rfl) rfl plain (by kernel_rfl)
#print axioms proved
end Go.Proofs.YtmdlhcelibciiaaDoor.macTells
