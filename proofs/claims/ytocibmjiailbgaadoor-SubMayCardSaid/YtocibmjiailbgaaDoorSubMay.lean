/- SubMay holds for any ops. The tables read as the program lays them (the card ties them). No other condition. -/
import Derived.Test.YtocibmjiailbgaaDoorSub
import Derived.SevenTiedAt
import Derived.LaidMore
import Derived.Stop.Joined
import Derived.Lib.Hide
namespace Go.Proofs.YtocibmjiailbgaaDoor.subMay
open Go.ChangeShapes Go.WideShapes Go.ChangeAt Go.RowKit Go.Proofs.YtocibmjiailbgaaDoor.Subs

theorem cases_to (s z : Int) (h0 : 0 ≤ s) (h4 : s ≤ 4) : (er s z = 1 ∨ er s z = 8) ∨
    (s = 0 ∧ z = 1 ∧ st 0 1 = 1 ∧ er 0 1 = 0) ∨ (s = 3 ∧ z = 1 ∧ st 3 1 = 1 ∧ er 3 1 = 0) ∨ (s = 1 ∧ z = 2 ∧ st 1 2 = 0 ∧ er 1 2 = 0) ∨ (s = 2 ∧ z = 2 ∧ st 2 2 = 0 ∧ er 2 2 = 0) ∨ (s = 3 ∧ z = 2 ∧ st 3 2 = 0 ∧ er 3 2 = 0) ∨ (s = 1 ∧ z = 3 ∧ st 1 3 = 2 ∧ er 1 3 = 0) ∨ (s = 1 ∧ z = 4 ∧ st 1 4 = 3 ∧ er 1 4 = 0) ∨ (s = 2 ∧ z = 5 ∧ st 2 5 = 0 ∧ er 2 5 = 0) ∨ (s = 0 ∧ z = 6 ∧ st 0 6 = 4 ∧ er 0 6 = 0) ∨ (s = 1 ∧ z = 6 ∧ st 1 6 = 4 ∧ er 1 6 = 0) ∨ (s = 2 ∧ z = 6 ∧ st 2 6 = 4 ∧ er 2 6 = 0) ∨ (s = 3 ∧ z = 6 ∧ st 3 6 = 4 ∧ er 3 6 = 0) ∨ (s = 4 ∧ z = 7 ∧ st 4 7 = 0 ∧ er 4 7 = 0) := by
  by_cases hz : z < 1 ∨ 7 < z
  · exact Or.inl (Or.inl (if_pos (by omega)))
  · have h1 : s = 0 ∨ s = 1 ∨ s = 2 ∨ s = 3 ∨ s = 4 := by omega
    have h2 : z = 1 ∨ z = 2 ∨ z = 3 ∨ z = 4 ∨ z = 5 ∨ z = 6 ∨ z = 7 := by omega
    clear hz h0 h4
    rcases h1 with rfl | rfl | rfl | rfl | rfl <;> rcases h2 with rfl | rfl | rfl | rfl | rfl | rfl | rfl <;> decide

def St (s : Int) (i : Nat) (a b c d : Value) : Prop := a = .int .i64 s ∧ b = .bool (decide (s = 2)) ∧ c = .bool (decide (s = 4)) ∧ d = .int .i64 i

set_option maxHeartbeats 4000000 in
theorem walk (w : World) (hL : laidMetH Tryd.prog Rows.subMayRow.laid w)
    (A : Option Addr) (n cap : Nat) (zs : List Int) (hl : n ≤ cap) (hm : cap ≤ maxLen) (hn : zs.length = n) (hN : Nums .i64 w A zs) (hw : ∀ z ∈ zs, (Lit.int .i64 z).wf = true) :
    Calls Tryd.prog 4 #[.slice A n cap] w fun e w' => e = .returned (.bool true) ∧ Below w.heap.size w w' := by
  have ht := tabs_of_laid hL
  have hb := Below.refl w.heap.size w
  have Hn := Lib.hid hn
  have HN := Lib.hid hN
  unfold maxLen at hm
  clear hL hw hn hN
  by_cases h : 500 < n
  · go_enter Tryd.func4, Tryd.ntmps4
    go_wp2_with (first
      | (go_at_call 7; refine (small_any _ ht).mono ?_; rintro e w' ⟨rfl, rfl⟩)
      | (go_at_call 8; refine (step_any _ _ _ ht).mono ?_; rintro e w' ⟨rfl, rfl⟩)
      | (go_at_call 12; refine (named_any _ _ ht).mono ?_; rintro e w' ⟨rfl, rfl⟩)
      )
    all_goals (go_ret; exact ⟨rfl, hb⟩)
  · rcases HN.out with h0 | ⟨b, off, rfl, hlt, hc⟩
    · obtain rfl : n = 0 := by have := Hn.out; rw [h0] at this; simpa using this.symm
      go_enter Tryd.func4, Tryd.ntmps4
      go_wp2_with (first
        | (go_at_call 7; refine (small_any _ ht).mono ?_; rintro e w' ⟨rfl, rfl⟩)
        | (go_at_call 8; refine (step_any _ _ _ ht).mono ?_; rintro e w' ⟨rfl, rfl⟩)
        | (go_at_call 12; refine (named_any _ _ ht).mono ?_; rintro e w' ⟨rfl, rfl⟩)
        )
      go_loop [4, 5, 6, 7] (fun a b c d => a = .int .i64 0 ∧ b = .bool false ∧ c = .bool false ∧ d = .int .i64 0) (fun _ _ _ _ => 0)
      case atStart => exact ⟨rfl, rfl, rfl, rfl⟩
      case round =>
        obtain ⟨rfl, rfl, rfl, rfl⟩ := hrel
        go_wp2
        go_ret
        exact ⟨rfl, hb⟩
    · have Hc := Lib.hid hc
      clear hc hlt
      go_enter Tryd.func4, Tryd.ntmps4
      go_wp2_with (first
        | (go_at_call 7; refine (small_any _ ht).mono ?_; rintro e w' ⟨rfl, rfl⟩)
        | (go_at_call 8; refine (step_any _ _ _ ht).mono ?_; rintro e w' ⟨rfl, rfl⟩)
        | (go_at_call 12; refine (named_any _ _ ht).mono ?_; rintro e w' ⟨rfl, rfl⟩)
        )
      go_loop [4, 5, 6, 7] (fun a b c d => ∃ (s : Int) (k : Nat), 0 ≤ s ∧ s ≤ 4 ∧ k ≤ n ∧ St s k a b c d) (fun _ _ _ d => n - (intOf d).toNat)
      case atStart => exact ⟨0, 0, by omega, by omega, by omega, rfl, rfl, rfl, rfl⟩
      case round =>
        obtain ⟨s, k, hs0, hs, hk, rfl, rfl, rfl, rfl⟩ := hrel
        by_cases hlt : k < n
        · have hcell : w.cell? ⟨b, off + k, none⟩ = some (.int .i64 (zs.getD k 0)) := Hc.out k (by rw [Hn.out]; exact hlt)
          generalize zs.getD k 0 = z at hcell
          rcases cases_to s z hs0 hs with (e | e) | ⟨rfl, rfl, t1, t2⟩ | ⟨rfl, rfl, t1, t2⟩ | ⟨rfl, rfl, t1, t2⟩ | ⟨rfl, rfl, t1, t2⟩ | ⟨rfl, rfl, t1, t2⟩ | ⟨rfl, rfl, t1, t2⟩ | ⟨rfl, rfl, t1, t2⟩ | ⟨rfl, rfl, t1, t2⟩ | ⟨rfl, rfl, t1, t2⟩ | ⟨rfl, rfl, t1, t2⟩ | ⟨rfl, rfl, t1, t2⟩ | ⟨rfl, rfl, t1, t2⟩ | ⟨rfl, rfl, t1, t2⟩
          · go_wp2_with (first
              | (go_at_call 7; refine (small_any _ ht).mono ?_; rintro e w' ⟨rfl, rfl⟩)
              | (go_at_call 8; refine (step_any _ _ _ ht).mono ?_; rintro e w' ⟨rfl, rfl⟩)
              | (go_at_call 12; refine (named_any _ _ ht).mono ?_; rintro e w' ⟨rfl, rfl⟩)
              )
            go_round
            case rel => exact ⟨s, k + 1, hs0, hs, by omega, rfl, rfl, rfl, by go_num⟩
            case measure => simp [intOf]; omega
          · go_wp2_with (first
              | (go_at_call 7; refine (small_any _ ht).mono ?_; rintro e w' ⟨rfl, rfl⟩)
              | (go_at_call 8; refine (step_any _ _ _ ht).mono ?_; rintro e w' ⟨rfl, rfl⟩)
              | (go_at_call 12; refine (named_any _ _ ht).mono ?_; rintro e w' ⟨rfl, rfl⟩)
              )
            go_round
            case rel => exact ⟨s, k + 1, hs0, hs, by omega, rfl, rfl, rfl, by go_num⟩
            case measure => simp [intOf]; omega
          all_goals
            have n0 : (name 0).toList.isEmpty = false := by kernel_rfl
            have n1 : (name 1).toList.isEmpty = false := by kernel_rfl
            have n2 : (name 2).toList.isEmpty = false := by kernel_rfl
            have n3 : (name 3).toList.isEmpty = false := by kernel_rfl
            have n4 : (name 4).toList.isEmpty = false := by kernel_rfl
            clear hs hs0
            go_wp2_with (first
              | (go_at_call 7; refine (small_any _ ht).mono ?_; rintro e w' ⟨rfl, rfl⟩)
              | (go_at_call 8; refine (step_any _ _ _ ht).mono ?_; rintro e w' ⟨rfl, rfl⟩)
              | (go_at_call 12; refine (named_any _ _ ht).mono ?_; rintro e w' ⟨rfl, rfl⟩)
              )
            go_round
            case rel => first | exact ⟨0, k + 1, by omega, by omega, by omega, rfl, rfl, rfl, by go_num⟩ | exact ⟨1, k + 1, by omega, by omega, by omega, rfl, rfl, rfl, by go_num⟩ | exact ⟨2, k + 1, by omega, by omega, by omega, rfl, rfl, rfl, by go_num⟩ | exact ⟨3, k + 1, by omega, by omega, by omega, rfl, rfl, rfl, by go_num⟩ | exact ⟨4, k + 1, by omega, by omega, by omega, rfl, rfl, rfl, by go_num⟩
            case measure => simp [intOf]; omega
        · obtain rfl : k = n := by omega
          go_wp2
          go_ret
          exact ⟨rfl, hb⟩

theorem own : ownKnob Tryd.prog.godebug = none := by kernel_rfl
theorem laid : laidOutB Tryd.prog = true := by kernel_rfl

noncomputable def laidWorld (os : Os) : World := World.doorLaid Tryd.prog 400 os
theorem laid_met (os : Os) : laidMet Tryd.prog Rows.subMayRow.laid ((laidWorld os).forCall (fun _ _ => 0) ⟨#[], #[.slice none 0 0], []⟩).memory :=
  laidMet_of_run' 8 (by kernel_rfl) (by kernel_rfl)
theorem reads (os : Os) {H : Type} (enc : TypeId × Value → H) : ∃ places, DataW.whole enc Tryd.prog ((laidWorld os).forCall (fun _ _ => 0) ⟨#[], #[.slice none 0 0], []⟩).memory Tryd.f4.params.toList Rows.subMaySpec.vars false #[Value.slice none 0 0].toList 8 = some ([.nil], [], places) :=
  ⟨[], by kernel_rfl⟩

set_option maxRecDepth 100000 in
theorem lifted (os : Os) (started : os.Started) (H : Type) (enc : TypeId × Value → H) (F : Stop.Interp) :
    ReturnsInHanded {} Tryd.checked os 4 .any ((OpenSpec.ofChange Rows.subMaySpec).preRow enc Tryd.prog Tryd.f4 Rows.subMayRow.domain false Rows.subMayRow.laid) (((OpenSpec.ofChange Rows.subMaySpec).at F).post enc Tryd.prog Tryd.f4 false true false false) := by
  obtain ⟨places, hx⟩ := reads os enc
  refine law_lifted_laid (C := Tryd.checked) (s := Rows.subMaySpec) (B := 4) own started (by kernel_rfl) Tryd.func4
    (witness_row_at (enc := enc) (C := Tryd.checked) false (laidWorld os) #[.slice none 0 0] rfl (by kernel_rfl) (by kernel_rfl) (by kernel_rfl)
      (OpenSpec.preRow_of_cond 8 hx (by kernel_rfl) (fun k hk => by cases hk) (by kernel_rfl) (laid_met os)))
    rfl rfl Tryd.underlying4 laid (of_decide_eq_true (by kernel_rfl)) ?_ ?_
  · intro ds hl
    rw [Tryd.params4] at hl
    match ds, hl with
    | [d0], _ => rfl
  · intro W base args ds ps hval hA hlt hz hL
    rw [Tryd.params4] at hA hval
    obtain ⟨v0, vs0, d0, ds0, p0, q0, hargs, rfl, rfl, h0, r0⟩ := trodAll_cons hA
    obtain ⟨rfl, rfl, rfl⟩ := trodAll_nil r0
    obtain rfl : args = #[v0] := by cases args; simp_all
    obtain ⟨A0, n0, cap0, zs0, rfl, hl0, hm0, hn0, hN0, hw0⟩ := open_nums Tryd.underlying29 Tryd.underlying3 (by kernel_rfl) (hval 0 29 v0 rfl rfl) h0
    exact walk W hL A0 n0 cap0 zs0 hl0 hm0 hn0 hN0 hw0

theorem said : Rows.SubMaySaid :=
  OpenClaim.holds_of_cond 4 Tryd.f4 rfl rfl rfl rfl rfl rfl rfl ⟨rfl, rfl, rfl, rfl, rfl⟩ rfl rfl rfl rfl rfl (by kernel_rfl) Tryd.func4 (by kernel_rfl)
    (of_decide_eq_true (by kernel_rfl)) (by unfold Func.isWrapper; first | (rw [if_pos (by decide +kernel)]; kernel_rfl) | (rw [if_neg (by decide +kernel)]; exact ⟨rfl, rfl⟩))
    (fun os started H enc _ F => by rw [OpenClaim.pre_eq_preRow]; exact lifted os started H enc F)
theorem plain (f : FuncId) (fn : Func) (hf : Tryd.pinned.checked.prog.funcNamed "nightjar/nightjarlaw16.SubMay" = some f) (hfn : Tryd.pinned.checked.prog.funcs[f]? = some fn) :
    false = Tryd.pinned.checked.prog.looks [] ∧ ∀ (j : Nat) t, fn.params[j]? = some t → Tryd.pinned.checked.prog.wantsStandIn t = false := by
  obtain rfl : f = 4 := Option.some.inj ((show Tryd.prog.funcNamed "nightjar/nightjarlaw16.SubMay" = some 4 by kernel_rfl).symm.trans hf) |>.symm
  obtain rfl : fn = Tryd.f4 := (Option.some.inj (Tryd.func4.symm.trans hfn)).symm
  refine ⟨by kernel_rfl, fun j t ht => ?_⟩
  have hm : t ∈ Tryd.f4.params.toList := by simpa using Array.mem_of_getElem? ht
  have hall : (Tryd.f4.params.toList.all fun u => !Tryd.prog.wantsStandIn u) = true := by kernel_rfl
  exact (show Tryd.prog.wantsStandIn t = false by simpa using List.all_eq_true.1 hall t hm)

theorem proved : Rows.SubMayCardSaid :=
  Claim7.holds_tied_plain_at .later [] _ _ _ _ said (fun _ h => by cases h) (by kernel_rfl) (fun _ h => by cases h) subMay_row_tie rfl ⟨rfl, rfl⟩ (by kernel_rfl) rfl plain (by kernel_rfl)
#print axioms proved
end Go.Proofs.YtocibmjiailbgaaDoor.subMay
