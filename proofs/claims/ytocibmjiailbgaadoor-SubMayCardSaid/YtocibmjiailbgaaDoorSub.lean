/- Who may watch whom: what package sub's functions come to, one contract each, in worlds whose two tables read as the program lays them. -/
import Derived.Test.YtocibmjiailbgaaDoorCards
import Derived.Test.YtocibmjiailbgaaDoorTie
import Derived.Test.YtocibmjiailbgaaDoorLawLaid
import Derived.Test.YtocibmjiailbgaaDoorMem
import Derived.WalkKit
import Derived.ProofKit
import Derived.OpenShut
import Derived.Outline
namespace Go.Proofs.YtocibmjiailbgaaDoor
open Go.ChangeShapes Go.WideShapes Go.ChangeAt Go.RowKit

namespace Subs
/-- What a state becomes by an op, -1 where it may not be done. -/
def to (s o : Int) : Int :=
  if o = 1 then (if s = 0 ∨ s = 3 then 1 else -1) else if o = 2 then (if 1 ≤ s ∧ s ≤ 3 then 0 else -1) else if o = 3 then (if s = 1 then 2 else -1) else
  if o = 4 then (if s = 1 then 3 else -1) else if o = 5 then (if s = 2 then 0 else -1) else if o = 6 then (if s = 4 then -1 else 4) else if o = 7 then (if s = 4 then 0 else -1) else -1
def st (s o : Int) : Int := if s < 0 ∨ 4 < s ∨ o < 1 ∨ 7 < o then 0 else if to s o < 0 then 0 else to s o
def er (s o : Int) : Int := if s < 0 ∨ 4 < s ∨ o < 1 ∨ 7 < o then 1 else if to s o < 0 then 8 else 0
def name (s : Int) : ByteArray := if s = 0 then ⟨#[110, 111, 110, 101]⟩ else if s = 1 then ⟨#[97, 115, 107, 101, 100]⟩ else if s = 2 then ⟨#[109, 97, 121]⟩ else if s = 3 then ⟨#[100, 101, 110, 105, 101, 100]⟩ else if s = 4 then ⟨#[98, 108, 111, 99, 107, 101, 100]⟩ else ⟨#[]⟩
def rows : List (List Int) := [[1, -1, -1, -1, -1, 4, -1], [-1, 0, 2, 3, -1, 4, -1], [-1, 0, -1, -1, 0, 4, -1], [1, 0, -1, -1, -1, 4, -1], [-1, -1, -1, -1, -1, -1, 0]]
theorem zAt : ∀ i : Nat, i < 5 → ∀ j : Nat, j < 7 → (rows.getD i [])[j]? = some (to i ((j : Int) + 1)) := by decide
theorem rowAt {H : Type} (i : Nat) (hi : i < 5) : (rows.map (Lib.tabData (H := H) .i64))[i]? = some (Lib.tabData .i64 (rows.getD i [])) := by
  rw [List.getElem?_map]
  have : rows[i]? = some (rows.getD i []) := by revert hi; revert i; decide
  rw [this]
  rfl
theorem nameAt {H : Type} (i : Nat) (hi : i < 5) : ∃ s : List UInt8, ((Rows.laid_nightjar_sub_names (H := H)) = .agg [.lit (.string [110, 111, 110, 101]), .lit (.string [97, 115, 107, 101, 100]), .lit (.string [109, 97, 121]), .lit (.string [100, 101, 110, 105, 101, 100]), .lit (.string [98, 108, 111, 99, 107, 101, 100])]) ∧ [DataW.lit (H := H) (.string [110, 111, 110, 101]), .lit (.string [97, 115, 107, 101, 100]), .lit (.string [109, 97, 121]), .lit (.string [100, 101, 110, 105, 101, 100]), .lit (.string [98, 108, 111, 99, 107, 101, 100])][i]? = some (.lit (.string s)) ∧ (⟨s.toArray⟩ : ByteArray) = name i := by
  have h : i = 0 ∨ i = 1 ∨ i = 2 ∨ i = 3 ∨ i = 4 := by omega
  rcases h with rfl | rfl | rfl | rfl | rfl <;> exact ⟨_, rfl, rfl, rfl⟩

/-- The two tables read as laid. -/
def Tabs (w : World) : Prop := (∀ i : Nat, i < 5 → ∀ j : Nat, j < 7 → w.cell? ⟨0, i * 7 + j, none⟩ = some (.int .i64 (to i ((j : Int) + 1)))) ∧ (∀ i : Nat, i < 5 → w.cell? ⟨1, i, none⟩ = some (.string (name i))) ∧ 1 < w.heap.size
theorem Tabs.keep {w w' : World} (h : Tabs w) (hb : Below w.heap.size w w') : Tabs w' :=
  ⟨fun i hi j hj => (hb.cell (p := ⟨0, i * 7 + j, none⟩) (Nat.lt_of_succ_lt h.2.2)).trans (h.1 i hi j hj), fun i hi => (hb.cell (p := ⟨1, i, none⟩) h.2.2).trans (h.2.1 i hi), Nat.lt_of_lt_of_le h.2.2 hb.size⟩
theorem Tabs.drewN {w : World} (h : Tabs w) (n : Nat) : Tabs (w.drewN n) := h.keep (below_drewN (Below.refl _ _) n)

theorem gSteps : Tryd.prog.globalNamed "nightjar/sub.steps" = some 0 := by kernel_rfl
theorem gNames : Tryd.prog.globalNamed "nightjar/sub.names" = some 1 := by kernel_rfl
theorem tSteps : (Tryd.prog.globals[0]?).map (·.type) = some 32 := by kernel_rfl
theorem tNames : (Tryd.prog.globals[1]?).map (·.type) = some 33 := by kernel_rfl
theorem tabs_of_laid {W : World} (h : laidMetH Tryd.prog [("nightjar/sub.steps", Rows.laid_nightjar_sub_steps), ("nightjar/sub.names", Rows.laid_nightjar_sub_names)] W) : Tabs W := by
  rw [MakeChecks.laidMetH_plain _ _ _ (by kernel_rfl)] at h
  obtain ⟨ps, ⟨g0, t0, cs0, f0, p0, q0, hg0, ht0, hv0, hd0, ⟨g1, t1, cs1, f1, p1, q1, hg1, ht1, hv1, hd1, _, _⟩, _⟩, _, _⟩ := h
  obtain rfl := Option.some.inj (gSteps.symm.trans hg0)
  obtain rfl := Option.some.inj (gNames.symm.trans hg1)
  obtain rfl := Option.some.inj (tSteps.symm.trans ht0)
  obtain rfl := Option.some.inj (tNames.symm.trans ht1)
  have k0 := World.var?_cell hg0 hv0
  have k1 := World.var?_cell hg1 hv1
  refine ⟨fun i hi j hj => ?_, fun i hi => ?_, ?_⟩
  · rw [k0]
    have := num_of_rows (ds := rows.map (Lib.tabData .i64)) Tryd.underlying32 Tryd.underlying31 Tryd.underlying3 (by kernel_rfl) (by kernel_rfl) hd0 (rowAt i hi) (zAt i hi j hj)
    simpa using this
  · rw [k1]
    obtain ⟨s, e, h1, h2⟩ := nameAt (H := Unit) i hi
    rw [e] at hd1
    have := text_of_row Tryd.underlying33 Tryd.underlying9 (by kernel_rfl) hd1 h1
    rw [h2] at this
    simpa using this
  · have c := k1 0
    obtain ⟨s, e, h1, h2⟩ := nameAt (H := Unit) 0 (by decide)
    rw [e] at hd1
    have := text_of_row Tryd.underlying33 Tryd.underlying9 (by kernel_rfl) hd1 h1
    rw [Array.getElem?_toList, ← c] at this
    rcases Nat.lt_or_ge 1 W.heap.size with hlt | hge
    · exact hlt
    · rw [show W.cell? ⟨1, 0, none⟩ = none by simp [World.cell?, Array.getElem?_eq_none hge]] at this
      cases this
end Subs
open Subs

theorem isState_any (s : Int) (w : World) :
    Calls Tryd.prog 14 #[.int .i64 s] w fun e w' => e = .returned (.bool (decide (0 ≤ s ∧ s ≤ 4))) ∧ w = w' := by
  go_enter Tryd.func14, Tryd.ntmps14
  go_wp2
  all_goals (go_ret; exact ⟨ret_bool (by first | (simp [*]; done) | (rw [Bool.eq_iff_iff]; simp <;> omega)), rfl⟩)

theorem mine_any (o : Int) (w : World) :
    Calls Tryd.prog 10 #[.int .i64 o] w fun e w' => e = .returned (.bool (decide (o = 1 ∨ o = 2))) ∧ w = w' := by
  go_enter Tryd.func10, Tryd.ntmps10
  go_wp2
  all_goals (go_ret; exact ⟨ret_bool (by first | (simp [*]; done) | (rw [Bool.eq_iff_iff]; simp <;> omega)), rfl⟩)

theorem pair {a b c d : Int} (h : a = c) (h' : b = d) : Ending.returned (.tuple #[.int .i64 a, .int .i64 b]) = .returned (.tuple #[.int .i64 c, .int .i64 d]) := by rw [h, h']
theorem step_any (s o : Int) (w : World) (ht : Tabs w) :
    Calls Tryd.prog 8 #[.int .i64 s, .int .i64 o] w fun e w' => e = .returned (.tuple #[.int .i64 (st s o), .int .i64 (er s o)]) ∧ w = w' := by
  by_cases h : s < 0 ∨ 4 < s ∨ o < 1 ∨ 7 < o
  · have e1 : st s o = 0 := if_pos h
    have e2 : er s o = 1 := if_pos h
    rw [e1, e2]
    clear e1 e2 ht
    go_enter Tryd.func8, Tryd.ntmps8
    go_wp2_with (go_at_call 14; refine (isState_any _ _).mono ?_; rintro e w' ⟨rfl, rfl⟩)
    all_goals (go_ret2; first | exact ⟨rfl, rfl⟩ | (simp only [beq_iff_eq, beq_eq_false_iff_ne, ne_eq] at *; exact ⟨pair (by split <;> omega) (by split <;> omega), rfl⟩))
  · obtain ⟨i, hi, rfl⟩ : ∃ i : Nat, i < 5 ∧ s = i := ⟨s.toNat, by omega, by omega⟩
    obtain ⟨j, hj, rfl⟩ : ∃ j : Nat, j < 7 ∧ o = (j : Int) + 1 := ⟨(o - 1).toNat, by omega, by omega⟩
    have hc := ht.1 i hi j hj
    have e1 : st i ((j : Int) + 1) = if to i ((j : Int) + 1) < 0 then 0 else to i ((j : Int) + 1) := if_neg h
    have e2 : er i ((j : Int) + 1) = if to i ((j : Int) + 1) < 0 then 8 else 0 := if_neg h
    have e3 : -1 ≤ to i ((j : Int) + 1) := by unfold to; (repeat' split) <;> omega
    rw [e1, e2]
    generalize to i ((j : Int) + 1) = r at *
    clear e1 e2 ht h
    rcases (show r = -1 ∨ 0 ≤ r by omega) with rfl | h0
    · clear e3
      go_enter Tryd.func8, Tryd.ntmps8
      go_wp2_with (go_at_call 14; refine (isState_any _ _).mono ?_; rintro e w' ⟨rfl, rfl⟩)
      all_goals (go_ret2; exact ⟨rfl, rfl⟩)
    · have e4 : (r == -1) = false := beq_eq_false_iff_ne.2 (by omega)
      rw [if_neg (by omega), if_neg (by omega)]
      clear e3
      go_enter Tryd.func8, Tryd.ntmps8
      go_wp2_with (go_at_call 14; refine (isState_any _ _).mono ?_; rintro e w' ⟨rfl, rfl⟩)
      all_goals (go_ret2; exact ⟨rfl, rfl⟩)

theorem rmine_any (o : Int) (w : World) :
    Calls Tryd.prog 11 #[.int .i64 o] w fun e w' => e = .returned (.bool (decide (o = 1 ∨ o = 2))) ∧ w = w' := by
  go_enter Tryd.func11, Tryd.ntmps11
  go_wp2
  all_goals (go_ret; exact ⟨ret_bool (by first | (simp [*]; done) | (rw [Bool.eq_iff_iff]; simp <;> omega)), rfl⟩)

set_option maxHeartbeats 2000000 in
theorem rstep_any (s o : Int) (w : World) :
    Calls Tryd.prog 9 #[.int .i64 s, .int .i64 o] w fun e w' => e = .returned (.tuple #[.int .i64 (st s o), .int .i64 (er s o)]) ∧ w = w' := by
  by_cases h : s < 0 ∨ 4 < s ∨ o < 1 ∨ 7 < o
  · rw [show st s o = 0 from if_pos h, show er s o = 1 from if_pos h]
    go_enter Tryd.func9, Tryd.ntmps9
    go_wp2
    all_goals (go_ret2; exact ⟨rfl, rfl⟩)
  · have h1 : s = 0 ∨ s = 1 ∨ s = 2 ∨ s = 3 ∨ s = 4 := by omega
    have h2 : o = 1 ∨ o = 2 ∨ o = 3 ∨ o = 4 ∨ o = 5 ∨ o = 6 ∨ o = 7 := by omega
    clear h
    rcases h1 with rfl | rfl | rfl | rfl | rfl <;> rcases h2 with rfl | rfl | rfl | rfl | rfl | rfl | rfl
    all_goals
      go_enter Tryd.func9, Tryd.ntmps9
      go_wp2
      go_ret2
      exact ⟨rfl, rfl⟩

theorem named_any (s : Int) (w : World) (ht : Tabs w) :
    Calls Tryd.prog 12 #[.int .i64 s] w fun e w' => e = .returned (.string (name s)) ∧ w = w' := by
  by_cases h : 0 ≤ s ∧ s ≤ 4
  · obtain ⟨i, hi, rfl⟩ : ∃ i : Nat, i < 5 ∧ s = i := ⟨s.toNat, by omega, by omega⟩
    have hc := ht.2.1 i hi
    clear ht
    go_enter Tryd.func12, Tryd.ntmps12
    go_wp2_with (go_at_call 14; refine (isState_any _ _).mono ?_; rintro e w' ⟨rfl, rfl⟩)
    all_goals (go_ret; exact ⟨rfl, rfl⟩)
  · have e1 : name s = ⟨#[]⟩ := by unfold name; (repeat' split) <;> first | rfl | omega
    rw [e1]
    clear e1 ht
    go_enter Tryd.func12, Tryd.ntmps12
    go_wp2_with (go_at_call 14; refine (isState_any _ _).mono ?_; rintro e w' ⟨rfl, rfl⟩)
    all_goals (go_ret; exact ⟨rfl, rfl⟩)

theorem rnamed_any (s : Int) (w : World) :
    Calls Tryd.prog 13 #[.int .i64 s] w fun e w' => e = .returned (.string (name s)) ∧ Below w.heap.size w w' := by
  by_cases h : 0 ≤ s ∧ s ≤ 4
  · have h' : s = 0 ∨ s = 1 ∨ s = 2 ∨ s = 3 ∨ s = 4 := by omega
    rcases h' with rfl | rfl | rfl | rfl | rfl
    all_goals
      go_enter Tryd.func13, Tryd.ntmps13
      go_wp2
      all_goals (go_ret; exact ⟨rfl, by repeat (first | exact Below.refl _ _ | apply Below.drew | apply Below.alloc | exact Nat.le_refl _)⟩)
  · have e1 : name s = ⟨#[]⟩ := by unfold name; (repeat' split) <;> first | rfl | omega
    rw [e1]
    clear e1
    go_enter Tryd.func13, Tryd.ntmps13
    go_wp2
    all_goals (go_ret; exact ⟨rfl, by repeat (first | exact Below.refl _ _ | apply Below.drew | apply Below.alloc | exact Nat.le_refl _)⟩)

theorem small_any (w : World) (ht : Tabs w) :
    Calls Tryd.prog 7 #[] w fun e w' => e = .returned (.bool true) ∧ w = w' := by
  have n4 : (name 4).toList = [98, 108, 111, 99, 107, 101, 100] := by kernel_rfl
  have n5 : (name (-1)).toList.isEmpty = true := by kernel_rfl
  go_enter Tryd.func7, Tryd.ntmps7
  go_wp2_with (first
    | (go_at_call 8; refine (step_any _ _ _ ht).mono ?_; rintro e w' ⟨rfl, rfl⟩)
    | (go_at_call 10; refine (mine_any _ _).mono ?_; rintro e w' ⟨rfl, rfl⟩)
    | (go_at_call 12; refine (named_any _ _ ht).mono ?_; rintro e w' ⟨rfl, rfl⟩))
  go_ret
  exact ⟨rfl, rfl⟩
end Go.Proofs.YtocibmjiailbgaaDoor
