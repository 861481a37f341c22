/- MacEqual holds for any two rows of bytes, any place and any turn. The constants read as the program lays them (the card ties them). No other condition. -/
import Derived.Test.YtmdlhcelibciiaaDoorMacSmall
import Derived.Test.YtmdlhcelibciiaaDoorDigLaw
import Derived.Test.YtmdlhcelibciiaaDoorMacOwn
namespace Go.Proofs.YtmdlhcelibciiaaDoor.macEqual
open Go.ChangeShapes Go.WideShapes Go.ChangeAt Go.RowKit

set_option maxRecDepth 100000 in
set_option maxHeartbeats 2000000 in
theorem walk (w : World) (hL : laidMetH Tryd.prog Rows.macEqualRow.laid w)
    (A : Option Addr) (n cap : Nat) (zs : List Int) (hl : n ≤ cap) (hm : cap ≤ maxLen) (hn : zs.length = n) (hN : Nums .u8 w A zs) (hw : ∀ z ∈ zs, (Lit.int .u8 z).wf = true)
    (B : Option Addr) (n' cap' : Nat) (ys : List Int) (hl' : n' ≤ cap') (hm' : cap' ≤ maxLen) (hn' : ys.length = n') (hN' : Nums .u8 w B ys) (hw' : ∀ z ∈ ys, (Lit.int .u8 z).wf = true)
    (i : Int) (wi : (Lit.int .i64 i).wf = true) (c : Int) (wc : (Lit.int .u8 c).wf = true) :
    Calls Tryd.prog 5 #[.slice A n cap, .slice B n' cap', .int .i64 i, .int .u8 c] w fun e w' => e = .returned (.bool true) ∧ Below w.heap.size w w' := by
  have HT := Lib.hid (kt_of_laid hL)
  have HN := Lib.hid hN
  have Hn := Lib.hid hn
  have HW := Lib.hid (show ∀ z ∈ zs, 0 ≤ z ∧ z < 256 from fun z hz => byte_wf (hw z hz))
  have HN' := Lib.hid hN'
  have Hn' := Lib.hid hn'
  have HW' := Lib.hid (show ∀ z ∈ ys, 0 ≤ z ∧ z < 256 from fun z hz => byte_wf (hw' z hz))
  have hc := byte_wf wc
  clear hL hN hn hw wi wc hN' hn' hw' hm hm' hl' hl
  by_cases h3 : 300 < n ∨ 300 < n'
  · have hcase : (300 < n) ∨ (n ≤ 300 ∧ 300 < n') := by omega
    clear h3
    rcases hcase with h | ⟨h0, h⟩
    all_goals
      go_enter Tryd.func5, Tryd.ntmps5
      go_wp2_with (go_at_call 8; refine (small_any _ HT.out).mono ?_; rintro e w1 ⟨rfl, hB1⟩)
      go_ret
      exact ⟨rfl, hB1⟩
  · have h1 : n ≤ 300 := by omega
    have h2 : n' ≤ 300 := by omega
    clear h3
    obtain ⟨i0, hi, hz0, hz1, hz2⟩ := info_parts infoB
    have HI := Lib.hid (And.intro hi (And.intro hz0 (And.intro hz1 hz2)))
    clear hi hz0 hz1 hz2
    have HL0 := Lib.hid (show ([] : List Int).length + n < 17592186044415 by simp; omega)
    have HL1 := Lib.hid (show zs.length < 17592186044415 by rw [Hn.out]; omega)
    have HLc := Lib.hid (show (zs ++ [c]).length = n + 1 by simp [Hn.out])
    have HWc := Lib.hid (show ∀ z ∈ zs ++ [c], 0 ≤ z ∧ z < 256 from Mac.app_wf HW.out (by intro z hz; simp at hz; subst hz; exact hc))
    obtain ⟨r, hr⟩ : ∃ r, decide (zs = ys) = r := ⟨_, rfl⟩
    have hr' : decide (ys = zs) = r := by rw [← hr]; exact decide_eq_decide.2 ⟨Eq.symm, Eq.symm⟩
    have Hr := Lib.hid (And.intro hr hr')
    have Hne := Lib.hid (decide_eq_false (app_ne zs c))
    clear hr hr'
    by_cases hin : 0 ≤ i ∧ i < (n : Int) ∧ c ≠ 0
    · obtain ⟨q0, q1, q2⟩ := hin
      obtain ⟨j, rfl⟩ : ∃ j : Nat, i = j := ⟨i.toNat, by omega⟩
      have hj : j < n := by omega
      have qc : (c == 0) = false := beq_eq_false_iff_ne.2 q2
      have qc' : (c != 0) = true := bne_iff_ne.2 q2
      go_enter Tryd.func5, Tryd.ntmps5
      go_wp2_with (first
        | (go_at_call 8; refine (small_any _ HT.out).mono ?_; rintro e w1 ⟨rfl, hB1⟩)
        | (at_builtin; refine wpList_append_rowA rfl (.tmp 21) (.tmp 22) 22 rfl i0 1 Tryd.underlying22 HI.out.1 HI.out.2.1 HI.out.2.2.1 HI.out.2.2.2 (by decide) 0 rfl rfl (OwnN.empty (base := w1.heap.size) (Nat.le_refl _)) A n _ zs rfl Hn.out ((HN.out.below hB1).alloc _) HL0.out w1.heap.size w1 (Nat.le_refl _) ((Below.refl _ _).alloc (Nat.le_refl _) _) ?_; intro A1 c1 w2 hO1 hB2; rw [Nat.zero_add])
        )
      rw [List.nil_append] at hO1
      have HO1 := Lib.hid hO1
      have NA := Lib.hid ((HN.out.below hB1).below hB2)
      have NB := Lib.hid ((HN'.out.below hB1).below hB2)
      have B2 := hB1.trans (hB2.mono hB1.size)
      have W12 := hB2.size
      clear hO1
      go_wp2_with fail
      refine (equal_any _ A B n n' _ _ zs ys Hn.out Hn'.out NA.out NB.out HW.out HW'.out r Hr.out.1).mono ?_
      rintro e w' ⟨rfl, rfl⟩
      go_wp2_with fail
      refine (equal_any _ B A n' n _ _ ys zs Hn'.out Hn.out NB.out NA.out HW'.out HW.out r Hr.out.2).mono ?_
      rintro e w' ⟨rfl, rfl⟩
      go_wp2_with fail
      refine (equal_any _ A A1 n n _ _ zs zs Hn.out Hn.out NA.out HO1.out.nums HW.out HW.out true (decide_eq_true rfl)).mono ?_
      rintro e w' ⟨rfl, rfl⟩
      go_wp2_with (first
        | (at_builtin; refine wpList_append_num_keep rfl (.tmp 39) (.tmp 41) 22 rfl i0 1 Tryd.underlying22 HI.out.1 HI.out.2.1 HI.out.2.2.1 HI.out.2.2.2 (by decide) n Hn.out rfl (HO1.out.alloc _) ⟨w2.heap.size, 0, none⟩ _ c rfl (by simp) HL1.out w1.heap.size w2 (Nat.le_refl _) ((Below.refl _ _).alloc W12 _) ?_; intro A2 c2 w3 hN2 hK2 hB3)
        )
      have NC := Lib.hid hN2
      have NA3 := Lib.hid (show Nums .u8 w3 A zs from (HN.out.below hB1).below (hB2.trans hB3))
      have B3 := B2.trans (hB3.mono hB1.size)
      clear hN2
      refine (equal_any _ A A2 n (n + 1) _ _ zs (zs ++ [c]) Hn.out HLc.out NA3.out NC.out HW.out HWc.out false Hne.out).mono ?_
      rintro e w' ⟨rfl, rfl⟩
      obtain ⟨g, cur, rfl, hg, hh, hat, hput⟩ := hK2.put j (by rw [Hn.out]; exact hj)
      have HP := Lib.hid hput
      have HX := Lib.hid (show zs ≠ zs.set j (Mac.xor8 (zs.getD j 0) c) from set_ne zs j (by rw [Hn.out]; exact hj) (Mac.xor8_ne (HW.out _ (by rw [List.getD_eq_getElem?_getD, List.getElem?_eq_getElem (by rw [Hn.out]; exact hj)]; exact List.getElem_mem _)) hc q2))
      have HXw := Lib.hid (show ∀ z ∈ zs.set j (Mac.xor8 (zs.getD j 0) c), 0 ≤ z ∧ z < 256 from fun z hz => by
        rcases List.mem_or_eq_of_mem_set hz with h | h
        · exact HW.out z h
        · rw [h]; exact Mac.xor8_bd _ _)
      have HXl := Lib.hid (show (zs.set j (Mac.xor8 (zs.getD j 0) c)).length = n by rw [List.length_set]; exact Hn.out)
      generalize zs.getD j 0 = x at hat HX HXw HXl
      have HP' := Lib.hid (HP.out (Mac.xor8 x c))
      have hX : bits .xor .u8 x c = Mac.xor8 x c := rfl
      clear hput HP hK2
      generalize Mac.xor8 x c = y at HP' HX HXw HXl hX
      have NA4 := Lib.hid (show Nums .u8 (setRow w3 g 5 (cur.setIfInBounds j (.int .u8 y))) A zs from (HN.out.below hB1).below (setRow_below (hB2.trans hB3) hg))
      have B4 := Lib.hid (setRow_below (t := 5) (cs := cur.setIfInBounds j (.int .u8 y)) (g := g) B3 (Nat.le_trans hB1.size hg))
      have BHH := Lib.hid hh
      obtain ⟨s0, s1, d0, d1, f0, f1, z1⟩ := rows1 hh
      clear hB1 hB2 hB3 B2 B3
      have b10 : n ≤ c1 := by have := HO1.out.len.1; rw [Hn.out] at this; exact this
      have b11 : (n : Int) ≤ (c1 : Int) := by omega
      go_wp2_with fail
      refine (equal_any _ A _ n n _ _ zs (zs.set j y) Hn.out HXl.out NA4.out HP'.out HW.out HXw.out false (decide_eq_false HX.out)).mono ?_
      rintro e w' ⟨rfl, rfl⟩
      go_wp2_with fail
      refine (equal_any _ _ A n n _ _ (zs.set j y) zs HXl.out Hn.out HP'.out NA4.out HXw.out HW.out false (decide_eq_false (Ne.symm HX.out))).mono ?_
      rintro e w' ⟨rfl, rfl⟩
      go_wp2
      go_ret
      exact ⟨rfl, B4.out⟩
    · have hcase : (i < 0) ∨ (0 ≤ i ∧ (n : Int) ≤ i) ∨ (0 ≤ i ∧ i < (n : Int) ∧ c = 0) := by omega
      clear hin
      have hcase2 : ((i < 0) ∨ (0 ≤ i ∧ (n : Int) ≤ i)) ∨ (0 ≤ i ∧ i < (n : Int) ∧ c = 0) := by omega
      clear hcase
      rcases hcase2 with hcase | ⟨q0, q1, rfl⟩
      · rcases hcase with h | ⟨q0, q1⟩
        all_goals
          go_enter Tryd.func5, Tryd.ntmps5
          go_wp2_with (first
            | (go_at_call 8; refine (small_any _ HT.out).mono ?_; rintro e w1 ⟨rfl, hB1⟩)
            | (at_builtin; refine wpList_append_rowA rfl (.tmp 21) (.tmp 22) 22 rfl i0 1 Tryd.underlying22 HI.out.1 HI.out.2.1 HI.out.2.2.1 HI.out.2.2.2 (by decide) 0 rfl rfl (OwnN.empty (base := w1.heap.size) (Nat.le_refl _)) A n _ zs rfl Hn.out ((HN.out.below hB1).alloc _) HL0.out w1.heap.size w1 (Nat.le_refl _) ((Below.refl _ _).alloc (Nat.le_refl _) _) ?_; intro A1 c1 w2 hO1 hB2; rw [Nat.zero_add])
            )
          rw [List.nil_append] at hO1
          have HO1 := Lib.hid hO1
          have NA := Lib.hid ((HN.out.below hB1).below hB2)
          have NB := Lib.hid ((HN'.out.below hB1).below hB2)
          have B2 := hB1.trans (hB2.mono hB1.size)
          have W12 := hB2.size
          clear hO1
          go_wp2_with fail
          refine (equal_any _ A B n n' _ _ zs ys Hn.out Hn'.out NA.out NB.out HW.out HW'.out r Hr.out.1).mono ?_
          rintro e w' ⟨rfl, rfl⟩
          go_wp2_with fail
          refine (equal_any _ B A n' n _ _ ys zs Hn'.out Hn.out NB.out NA.out HW'.out HW.out r Hr.out.2).mono ?_
          rintro e w' ⟨rfl, rfl⟩
          go_wp2_with fail
          refine (equal_any _ A A1 n n _ _ zs zs Hn.out Hn.out NA.out HO1.out.nums HW.out HW.out true (decide_eq_true rfl)).mono ?_
          rintro e w' ⟨rfl, rfl⟩
          go_wp2_with (first
            | (at_builtin; refine wpList_append_num_keep rfl (.tmp 39) (.tmp 41) 22 rfl i0 1 Tryd.underlying22 HI.out.1 HI.out.2.1 HI.out.2.2.1 HI.out.2.2.2 (by decide) n Hn.out rfl (HO1.out.alloc _) ⟨w2.heap.size, 0, none⟩ _ c rfl (by simp) HL1.out w1.heap.size w2 (Nat.le_refl _) ((Below.refl _ _).alloc W12 _) ?_; intro A2 c2 w3 hN2 hK2 hB3)
            )
          have NC := Lib.hid hN2
          have NA3 := Lib.hid (show Nums .u8 w3 A zs from (HN.out.below hB1).below (hB2.trans hB3))
          have B3 := B2.trans (hB3.mono hB1.size)
          clear hN2
          refine (equal_any _ A A2 n (n + 1) _ _ zs (zs ++ [c]) Hn.out HLc.out NA3.out NC.out HW.out HWc.out false Hne.out).mono ?_
          rintro e w' ⟨rfl, rfl⟩
          clear hK2
          go_wp2
          go_ret
          exact ⟨rfl, B3⟩
      · skip
        go_enter Tryd.func5, Tryd.ntmps5
        go_wp2_with (first
          | (go_at_call 8; refine (small_any _ HT.out).mono ?_; rintro e w1 ⟨rfl, hB1⟩)
          | (at_builtin; refine wpList_append_rowA rfl (.tmp 21) (.tmp 22) 22 rfl i0 1 Tryd.underlying22 HI.out.1 HI.out.2.1 HI.out.2.2.1 HI.out.2.2.2 (by decide) 0 rfl rfl (OwnN.empty (base := w1.heap.size) (Nat.le_refl _)) A n _ zs rfl Hn.out ((HN.out.below hB1).alloc _) HL0.out w1.heap.size w1 (Nat.le_refl _) ((Below.refl _ _).alloc (Nat.le_refl _) _) ?_; intro A1 c1 w2 hO1 hB2; rw [Nat.zero_add])
          )
        rw [List.nil_append] at hO1
        have HO1 := Lib.hid hO1
        have NA := Lib.hid ((HN.out.below hB1).below hB2)
        have NB := Lib.hid ((HN'.out.below hB1).below hB2)
        have B2 := hB1.trans (hB2.mono hB1.size)
        have W12 := hB2.size
        clear hO1
        go_wp2_with fail
        refine (equal_any _ A B n n' _ _ zs ys Hn.out Hn'.out NA.out NB.out HW.out HW'.out r Hr.out.1).mono ?_
        rintro e w' ⟨rfl, rfl⟩
        go_wp2_with fail
        refine (equal_any _ B A n' n _ _ ys zs Hn'.out Hn.out NB.out NA.out HW'.out HW.out r Hr.out.2).mono ?_
        rintro e w' ⟨rfl, rfl⟩
        go_wp2_with fail
        refine (equal_any _ A A1 n n _ _ zs zs Hn.out Hn.out NA.out HO1.out.nums HW.out HW.out true (decide_eq_true rfl)).mono ?_
        rintro e w' ⟨rfl, rfl⟩
        go_wp2_with (first
          | (at_builtin; refine wpList_append_num_keep rfl (.tmp 39) (.tmp 41) 22 rfl i0 1 Tryd.underlying22 HI.out.1 HI.out.2.1 HI.out.2.2.1 HI.out.2.2.2 (by decide) n Hn.out rfl (HO1.out.alloc _) ⟨w2.heap.size, 0, none⟩ _ 0 rfl (by simp) HL1.out w1.heap.size w2 (Nat.le_refl _) ((Below.refl _ _).alloc W12 _) ?_; intro A2 c2 w3 hN2 hK2 hB3)
          )
        have NC := Lib.hid hN2
        have NA3 := Lib.hid (show Nums .u8 w3 A zs from (HN.out.below hB1).below (hB2.trans hB3))
        have B3 := B2.trans (hB3.mono hB1.size)
        clear hN2
        refine (equal_any _ A A2 n (n + 1) _ _ zs (zs ++ [0]) Hn.out HLc.out NA3.out NC.out HW.out HWc.out false Hne.out).mono ?_
        rintro e w' ⟨rfl, rfl⟩
        clear hK2
        go_wp2
        go_ret
        exact ⟨rfl, B3⟩
theorem own : ownKnob Tryd.prog.godebug = none := by kernel_rfl
theorem laid : laidOutB Tryd.prog = true := by kernel_rfl

noncomputable def laidWorld (os : Os) : World := World.doorLaid Tryd.prog 400 os
theorem laid_met (os : Os) : laidMet Tryd.prog Rows.macEqualRow.laid ((laidWorld os).forCall (fun _ _ => 0) ⟨#[], #[.slice none 0 0, .slice none 0 0, .int .i64 0, .int .u8 0], []⟩).memory :=
  laidMet_of_run' 8 (by kernel_rfl) (by kernel_rfl)
theorem reads (os : Os) {H : Type} (enc : TypeId × Value → H) : ∃ places, DataW.whole enc Tryd.prog ((laidWorld os).forCall (fun _ _ => 0) ⟨#[], #[.slice none 0 0, .slice none 0 0, .int .i64 0, .int .u8 0], []⟩).memory Tryd.f5.params.toList Rows.macEqualSpec.vars false #[Value.slice none 0 0, .slice none 0 0, Value.int .i64 0, .int .u8 0].toList 8 = some ([.nil, .nil, .lit (.int .i64 0), .lit (.int .u8 0)], [], places) :=
  ⟨[], by kernel_rfl⟩

set_option maxRecDepth 100000 in
theorem lifted (os : Os) (started : os.Started) (H : Type) (enc : TypeId × Value → H) (F : Stop.Interp) :
    ReturnsInHanded {} Tryd.checked os 5 .any ((OpenSpec.ofChange Rows.macEqualSpec).preRow enc Tryd.prog Tryd.f5 Rows.macEqualRow.domain false Rows.macEqualRow.laid) (((OpenSpec.ofChange Rows.macEqualSpec).at F).post enc Tryd.prog Tryd.f5 false true false false) := by
  obtain ⟨places, hx⟩ := reads os enc
  refine law_lifted_laid (C := Tryd.checked) (s := Rows.macEqualSpec) (B := 4) own started (by kernel_rfl) Tryd.func5
    (witness_row_at (enc := enc) (C := Tryd.checked) false (laidWorld os) #[.slice none 0 0, .slice none 0 0, .int .i64 0, .int .u8 0] rfl (by kernel_rfl) (by kernel_rfl) (by kernel_rfl)
      (OpenSpec.preRow_of_cond 8 hx (by kernel_rfl) (fun k hk => by cases hk) (by kernel_rfl) (laid_met os)))
    rfl rfl Tryd.underlying4 laid (of_decide_eq_true (by kernel_rfl)) ?_ ?_
  · intro ds hl
    rw [Tryd.params5] at hl
    match ds, hl with
    | [d0, d1, d2, d3], _ => rfl
  · intro W base args ds ps hval hA hlt hz hL
    rw [Tryd.params5] at hA hval
    obtain ⟨v0, vs0, d0, ds0, p0, q0, hargs, rfl, rfl, h0, r0⟩ := trodAll_cons hA
    obtain ⟨v1, vs1, d1, ds1, p1, q1, rfl, rfl, rfl, h1, r1⟩ := trodAll_cons r0
    obtain ⟨v2, vs2, d2, ds2, p2, q2, rfl, rfl, rfl, h2, r2⟩ := trodAll_cons r1
    obtain ⟨v3, vs3, d3, ds3, p3, q3, rfl, rfl, rfl, h3, r3⟩ := trodAll_cons r2
    obtain ⟨rfl, rfl, rfl⟩ := trodAll_nil r3
    obtain rfl : args = #[v0, v1, v2, v3] := by cases args; simp_all
    obtain ⟨A0, n0, cap0, zs0, rfl, hl0, hm0, hn0, hN0, hw0⟩ := open_nums Tryd.underlying22 Tryd.underlying5 (by kernel_rfl) (hval 0 22 v0 rfl rfl) h0
    obtain ⟨A1, n1, cap1, zs1, rfl, hl1, hm1, hn1, hN1, hw1⟩ := open_nums Tryd.underlying22 Tryd.underlying5 (by kernel_rfl) (hval 1 22 v1 rfl rfl) h1
    obtain ⟨a2, rfl, rfl, rfl, w2⟩ := open_int Tryd.underlying3 (hval 2 3 v2 rfl rfl) h2
    obtain ⟨a3, rfl, rfl, rfl, w3⟩ := open_int Tryd.underlying5 (hval 3 5 v3 rfl rfl) h3
    exact walk W hL A0 n0 cap0 zs0 hl0 hm0 hn0 hN0 hw0 A1 n1 cap1 zs1 hl1 hm1 hn1 hN1 hw1 a2 w2 a3 w3

theorem said : Rows.MacEqualSaid :=
  OpenClaim.holds_of_cond 5 Tryd.f5 rfl rfl rfl rfl rfl rfl rfl ⟨rfl, rfl, rfl, rfl, rfl⟩ rfl rfl rfl rfl rfl (by kernel_rfl) Tryd.func5 (by kernel_rfl)
    (of_decide_eq_true (by kernel_rfl)) (by unfold Func.isWrapper; first | (rw [if_pos (by decide +kernel)]; kernel_rfl) | (rw [if_neg (by decide +kernel)]; exact ⟨rfl, rfl⟩))
    (fun os started H enc _ F => by rw [OpenClaim.pre_eq_preRow]; exact lifted os started H enc F)
theorem plain (f : FuncId) (fn : Func) (hf : Tryd.pinned.checked.prog.funcNamed "nightjar/nightjarlaw03.MacEqual" = some f) (hfn : Tryd.pinned.checked.prog.funcs[f]? = some fn) :
    false = Tryd.pinned.checked.prog.looks [] ∧ ∀ (j : Nat) t, fn.params[j]? = some t → Tryd.pinned.checked.prog.wantsStandIn t = false := by
  obtain rfl : f = 5 := Option.some.inj ((show Tryd.prog.funcNamed "nightjar/nightjarlaw03.MacEqual" = some 5 by kernel_rfl).symm.trans hf) |>.symm
  obtain rfl : fn = Tryd.f5 := (Option.some.inj (Tryd.func5.symm.trans hfn)).symm
  refine ⟨by kernel_rfl, fun j t ht => ?_⟩
  have hm : t ∈ Tryd.f5.params.toList := by simpa using Array.mem_of_getElem? ht
  have hall : (Tryd.f5.params.toList.all fun u => !Tryd.prog.wantsStandIn u) = true := by kernel_rfl
  exact (show Tryd.prog.wantsStandIn t = false by simpa using List.all_eq_true.1 hall t hm)

theorem proved : Rows.MacEqualCardSaid :=
  Claim7.holds_tied_plain_at .later [] _ _ _ _ said (fun _ h => by cases h) (by kernel_rfl) (fun _ h => by cases h) macEqual_row_tie rfl ⟨rfl, rfl⟩ (by kernel_rfl) rfl plain (by kernel_rfl)
#print axioms proved
end Go.Proofs.YtmdlhcelibciiaaDoor.macEqual
