/- The mean; a small case. -/
import Derived.Test.YtefncobjndhhdaaSatb
namespace Go.Proofs.Ytefncobjndhhdaa
open Go.ChangeShapes Go.WideShapes Go.ChangeAt Go.RowKit
theorem mean_any (A : Option Addr) (n cap : Nat) (zs : List Int) (w : World) (hn : zs.length = n) (hbig : n ≤ 9223372036854775807) (hA : Ints w A zs) :
    Calls Try.prog 22 #[.slice A n cap] w fun e w' => e = .returned (.int .i64 (Sat.mean zs)) ∧ w = w' := by
  by_cases h0 : n = 0
  · subst h0
    have hm : Sat.mean zs = 0 := by unfold Sat.mean; rw [if_pos hn]
    have Hm := Lib.hid hm
    clear hm hn hA
    go_enter Try.func22, Try.ntmps22
    go_wp2
    go_ret
    exact ⟨ret_int Hm.out.symm, rfl⟩
  · have hm : Sat.mean zs = Sat.sum zs / (n : Int) := by unfold Sat.mean; rw [if_neg (by omega), hn]
    have Hm := Lib.hid hm
    have Hn := Lib.hid hn
    have HA := Lib.hid hA
    obtain ⟨h1, h2⟩ := Sat.sum_bd zs
    have h3 : 1 ≤ (n : Int) := by omega
    clear hm hn hA
    go_enter Try.func22, Try.ntmps22
    go_wp2_with (go_at_call 20; refine (sum_any _ _ _ _ _ Hn.out hbig HA.out).mono ?_; rintro e w' ⟨rfl, rfl⟩)
    go_ret
    exact ⟨ret_int Hm.out.symm, rfl⟩
theorem mean_nil (A : Option Addr) (cap : Nat) (w : World) :
    Calls Try.prog 22 #[.slice A 0 cap] w fun e w' => e = .returned (.int .i64 0) ∧ w = w' := by
  go_enter Try.func22, Try.ntmps22
  go_wp2
  go_ret
  exact ⟨rfl, rfl⟩
theorem Ints_new (w : World) (zs : List Int) (t : TypeId) (cs : Array Value) (g : Nat) (hg : g = w.heap.size) (hcs : cs = (zs.map (Value.int .i64)).toArray) : Ints (w.alloc (.cells cs t)) (some ⟨g, 0, none⟩) zs := by
  subst hg; subst hcs
  refine Or.inr ⟨_, _, rfl, fun k hk => ?_⟩
  have h1 : (w.alloc (.cells (zs.map (Value.int .i64)).toArray t)).heap[w.heap.size]? = some (.cells (zs.map (Value.int .i64)).toArray t) := (MapKept.heap_alloc w _).1
  rw [cell_of_row _ _ _ _ _ _ h1]
  simp [List.getD, hk]
theorem small_any (w : World) :
    Calls Try.prog 11 #[] w fun e w' => e = .returned (.bool true) ∧ Below w.heap.size w w' := by
  have e1 : Sat.clamp (-1) = 0 := by decide
  have e2 : Sat.clamp 9223372036854775807 = 1099511627776 := by decide
  have e3 : Sat.add 3 (-5) = 3 := by decide
  have e4 : Sat.add 1099511627776 1 = 1099511627776 := by decide
  have e5 : Sat.sub 3 5 = 0 := by decide
  have e6 : Sat.sub 9 5 = 4 := by decide
  have e7 : Sat.mul 6 7 = 42 := by decide
  have e8 : Sat.mul 1099511627776 2 = 1099511627776 := by decide
  have e9 : Sat.mul 0 9223372036854775807 = 0 := by decide
  have e10 : Sat.sum [1, -2, 3] = 4 := by decide
  have e11 : Sat.mean [3, 4] = 3 := by decide
  go_enter Try.func11, Try.ntmps11
  go_wp2_with (first
    | (go_at_call 12; refine (clamp_any _ _).mono ?_; rintro e w' ⟨rfl, rfl⟩)
    | (go_at_call 14; refine (add_any _ _ _).mono ?_; rintro e w' ⟨rfl, rfl⟩)
    | (go_at_call 16; refine (sub_any _ _ _).mono ?_; rintro e w' ⟨rfl, rfl⟩)
    | (go_at_call 18; refine (mul_any _ _ _).mono ?_; rintro e w' ⟨rfl, rfl⟩)
    | (go_at_call 20; with_reducible refine (sum_nil _ _ _).mono ?_; rintro e w' ⟨rfl, rfl⟩)
    | (go_at_call 22; with_reducible refine (mean_nil _ _ _).mono ?_; rintro e w' ⟨rfl, rfl⟩)
    | (go_at_call 20; refine (sum_any _ _ _ [1, -2, 3] _ rfl (by decide) (by exact Ints_new _ _ _ _ _ (by simp) rfl)).mono ?_; rintro e w' ⟨rfl, rfl⟩)
    | (go_at_call 22; refine (mean_any _ _ _ [3, 4] _ rfl (by decide) (by exact Ints_new _ _ _ _ _ (by simp) rfl)).mono ?_; rintro e w' ⟨rfl, rfl⟩)
    )
  go_ret
  exact ⟨rfl, ((Below.refl _ _).alloc (Nat.le_refl _) _).alloc (by simp) _⟩
end Go.Proofs.Ytefncobjndhhdaa
