/- SubBlocks holds for any state and any op. The tables read as the program lays them (the card ties them). No other condition. -/
import Derived.Test.YtocibmjiailbgaaDoorSub
import Derived.SevenTiedAt
import Derived.LaidMore
import Derived.Stop.Joined
import Derived.Lib.Hide
namespace Go.Proofs.YtocibmjiailbgaaDoor.subBlocks
open Go.ChangeShapes Go.WideShapes Go.ChangeAt Go.RowKit Go.Proofs.YtocibmjiailbgaaDoor.Subs

set_option maxHeartbeats 4000000 in
theorem walk (w : World) (hL : laidMetH Tryd.prog Rows.subBlocksRow.laid w) (s : Int) (ws : (Lit.int .i64 s).wf = true) (o : Int) (wo : (Lit.int .i64 o).wf = true) :
    Calls Tryd.prog 6 #[.int .i64 s, .int .i64 o] w fun e w' => e = .returned (.bool true) ∧ Below w.heap.size w w' := by
  have ht := tabs_of_laid hL
  have hb := Below.refl w.heap.size w
  clear hL ws wo
  have e1 : st 4 o = 0 := by unfold st to; (repeat' split) <;> omega
  by_cases ho : o < 1 ∨ 7 < o
  · go_enter Tryd.func6, Tryd.ntmps6
    go_wp2_with (first
      | (go_at_call 7; refine (small_any _ ht).mono ?_; rintro e w' ⟨rfl, rfl⟩)
      | (go_at_call 8; refine (step_any _ _ _ ht).mono ?_; rintro e w' ⟨rfl, rfl⟩)
      | (go_at_call 12; refine (named_any _ _ ht).mono ?_; rintro e w' ⟨rfl, rfl⟩)
      )
    all_goals (first | (go_ret; exact ⟨rfl, hb⟩) | (exfalso; omega))
  · have h2 : 1 ≤ o := by omega
    have h3 : o ≤ 7 := by omega
    clear ho
    by_cases h7 : o = 7
    · subst h7
      have e2 : er 4 7 = 0 := by decide
      clear h2 h3
      by_cases hs : 0 ≤ s ∧ s ≤ 3
      · have e3 : st s 6 = 4 := by unfold st to; (repeat' split) <;> omega
        have e4 : er s 6 = 0 := by unfold er to; (repeat' split) <;> omega
        go_enter Tryd.func6, Tryd.ntmps6
        go_wp2_with (first
          | (go_at_call 7; refine (small_any _ ht).mono ?_; rintro e w' ⟨rfl, rfl⟩)
          | (go_at_call 8; refine (step_any _ _ _ ht).mono ?_; rintro e w' ⟨rfl, rfl⟩)
          | (go_at_call 12; refine (named_any _ _ ht).mono ?_; rintro e w' ⟨rfl, rfl⟩)
          )
        all_goals (go_ret; exact ⟨rfl, hb⟩)
      · have hs' : s < 0 ∨ 3 < s := by omega
        clear hs
        rcases hs' with hs | hs
        all_goals
          go_enter Tryd.func6, Tryd.ntmps6
          go_wp2_with (first
            | (go_at_call 7; refine (small_any _ ht).mono ?_; rintro e w' ⟨rfl, rfl⟩)
            | (go_at_call 8; refine (step_any _ _ _ ht).mono ?_; rintro e w' ⟨rfl, rfl⟩)
            | (go_at_call 12; refine (named_any _ _ ht).mono ?_; rintro e w' ⟨rfl, rfl⟩)
            )
          all_goals (first | (go_ret; exact ⟨rfl, hb⟩) | (exfalso; omega))
    · have e2 : er 4 o = 8 := by unfold er to; (repeat' split) <;> omega
      have e7 : (o == 7) = false := beq_eq_false_iff_ne.2 h7
      clear h7
      by_cases hs : 0 ≤ s ∧ s ≤ 3
      · have e3 : st s 6 = 4 := by unfold st to; (repeat' split) <;> omega
        have e4 : er s 6 = 0 := by unfold er to; (repeat' split) <;> omega
        go_enter Tryd.func6, Tryd.ntmps6
        go_wp2_with (first
          | (go_at_call 7; refine (small_any _ ht).mono ?_; rintro e w' ⟨rfl, rfl⟩)
          | (go_at_call 8; refine (step_any _ _ _ ht).mono ?_; rintro e w' ⟨rfl, rfl⟩)
          | (go_at_call 12; refine (named_any _ _ ht).mono ?_; rintro e w' ⟨rfl, rfl⟩)
          )
        all_goals (go_ret; exact ⟨rfl, hb⟩)
      · have hs' : s < 0 ∨ 3 < s := by omega
        clear hs
        rcases hs' with hs | hs
        all_goals
          go_enter Tryd.func6, Tryd.ntmps6
          go_wp2_with (first
            | (go_at_call 7; refine (small_any _ ht).mono ?_; rintro e w' ⟨rfl, rfl⟩)
            | (go_at_call 8; refine (step_any _ _ _ ht).mono ?_; rintro e w' ⟨rfl, rfl⟩)
            | (go_at_call 12; refine (named_any _ _ ht).mono ?_; rintro e w' ⟨rfl, rfl⟩)
            )
          all_goals (first | (go_ret; exact ⟨rfl, hb⟩) | (exfalso; omega))

theorem own : ownKnob Tryd.prog.godebug = none := by kernel_rfl
theorem laid : laidOutB Tryd.prog = true := by kernel_rfl

noncomputable def laidWorld (os : Os) : World := World.doorLaid Tryd.prog 400 os
theorem laid_met (os : Os) : laidMet Tryd.prog Rows.subBlocksRow.laid ((laidWorld os).forCall (fun _ _ => 0) ⟨#[], #[.int .i64 0, .int .i64 0], []⟩).memory :=
  laidMet_of_run' 8 (by kernel_rfl) (by kernel_rfl)
theorem reads (os : Os) {H : Type} (enc : TypeId × Value → H) : ∃ places, DataW.whole enc Tryd.prog ((laidWorld os).forCall (fun _ _ => 0) ⟨#[], #[.int .i64 0, .int .i64 0], []⟩).memory Tryd.f6.params.toList Rows.subBlocksSpec.vars false #[Value.int .i64 0, .int .i64 0].toList 8 = some ([.lit (.int .i64 0), .lit (.int .i64 0)], [], places) :=
  ⟨[], by kernel_rfl⟩

set_option maxRecDepth 100000 in
theorem lifted (os : Os) (started : os.Started) (H : Type) (enc : TypeId × Value → H) (F : Stop.Interp) :
    ReturnsInHanded {} Tryd.checked os 6 .any ((OpenSpec.ofChange Rows.subBlocksSpec).preRow enc Tryd.prog Tryd.f6 Rows.subBlocksRow.domain false Rows.subBlocksRow.laid) (((OpenSpec.ofChange Rows.subBlocksSpec).at F).post enc Tryd.prog Tryd.f6 false true false false) := by
  obtain ⟨places, hx⟩ := reads os enc
  refine law_lifted_laid (C := Tryd.checked) (s := Rows.subBlocksSpec) (B := 4) own started (by kernel_rfl) Tryd.func6
    (witness_row_at (enc := enc) (C := Tryd.checked) false (laidWorld os) #[.int .i64 0, .int .i64 0] rfl (by kernel_rfl) (by kernel_rfl) (by kernel_rfl)
      (OpenSpec.preRow_of_cond 8 hx (by kernel_rfl) (fun k hk => by cases hk) (by kernel_rfl) (laid_met os)))
    rfl rfl Tryd.underlying4 laid (of_decide_eq_true (by kernel_rfl)) ?_ ?_
  · intro ds hl
    rw [Tryd.params6] at hl
    match ds, hl with
    | [d0, d1], _ => rfl
  · intro W base args ds ps hval hA hlt hz hL
    rw [Tryd.params6] at hA hval
    obtain ⟨v0, vs0, d0, ds0, p0, q0, hargs, rfl, rfl, h0, r0⟩ := trodAll_cons hA
    obtain ⟨v1, vs1, d1, ds1, p1, q1, rfl, rfl, rfl, h1, r1⟩ := trodAll_cons r0
    obtain ⟨rfl, rfl, rfl⟩ := trodAll_nil r1
    obtain rfl : args = #[v0, v1] := by cases args; simp_all
    obtain ⟨a0, rfl, rfl, rfl, w0⟩ := open_int Tryd.underlying3 (hval 0 3 v0 rfl rfl) h0
    obtain ⟨a1, rfl, rfl, rfl, w1⟩ := open_int Tryd.underlying3 (hval 1 3 v1 rfl rfl) h1
    exact walk W hL a0 w0 a1 w1

theorem said : Rows.SubBlocksSaid :=
  OpenClaim.holds_of_cond 6 Tryd.f6 rfl rfl rfl rfl rfl rfl rfl ⟨rfl, rfl, rfl, rfl, rfl⟩ rfl rfl rfl rfl rfl (by kernel_rfl) Tryd.func6 (by kernel_rfl)
    (of_decide_eq_true (by kernel_rfl)) (by unfold Func.isWrapper; first | (rw [if_pos (by decide +kernel)]; kernel_rfl) | (rw [if_neg (by decide +kernel)]; exact ⟨rfl, rfl⟩))
    (fun os started H enc _ F => by rw [OpenClaim.pre_eq_preRow]; exact lifted os started H enc F)
theorem plain (f : FuncId) (fn : Func) (hf : Tryd.pinned.checked.prog.funcNamed "nightjar/nightjarlaw16.SubBlocks" = some f) (hfn : Tryd.pinned.checked.prog.funcs[f]? = some fn) :
    false = Tryd.pinned.checked.prog.looks [] ∧ ∀ (j : Nat) t, fn.params[j]? = some t → Tryd.pinned.checked.prog.wantsStandIn t = false := by
  obtain rfl : f = 6 := Option.some.inj ((show Tryd.prog.funcNamed "nightjar/nightjarlaw16.SubBlocks" = some 6 by kernel_rfl).symm.trans hf) |>.symm
  obtain rfl : fn = Tryd.f6 := (Option.some.inj (Tryd.func6.symm.trans hfn)).symm
  refine ⟨by kernel_rfl, fun j t ht => ?_⟩
  have hm : t ∈ Tryd.f6.params.toList := by simpa using Array.mem_of_getElem? ht
  have hall : (Tryd.f6.params.toList.all fun u => !Tryd.prog.wantsStandIn u) = true := by kernel_rfl
  exact (show Tryd.prog.wantsStandIn t = false by simpa using List.all_eq_true.1 hall t hm)

theorem proved : Rows.SubBlocksCardSaid :=
  Claim7.holds_tied_plain_at .later [] _ _ _ _ said (fun _ h => by cases h) (by kernel_rfl) (fun _ h => by cases h) subBlocks_row_tie rfl ⟨rfl, rfl⟩ (by kernel_rfl) rfl plain (by kernel_rfl)
#print axioms proved
end Go.Proofs.YtocibmjiailbgaaDoor.subBlocks
