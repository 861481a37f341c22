/- What the functions of package channel come to, but Tick. -/
import Derived.Test.YtiecebncnflpiaaChMath
import Derived.Test.YtiecebncnflpiaaSendUni2
import Derived.Test.YtiecebncnflpiaaRtTo
import Derived.Deep.RegionWith
namespace Go.Proofs.Ytiecebncnflpiaa
open Go.ChangeShapes Go.WideShapes Go.ChangeAt Go.RowKit Go.Shelf
attribute [-go_sem] run_eql_struct run_neq_struct

abbrev chT : TypeId := 28
abbrev rtT : TypeId := 26
abbrev chV (n : Int) (A : Option Addr) (k c : Nat) (ww cc s v r f : Int) (h : Bool) : Value := .agg #[.int .i64 n, .slice A k c, .int .i64 ww, .int .i64 cc, .int .i64 s, .int .i64 v, .int .i64 r, .int .i64 f, .bool h]
abbrev chO (n : Int) (A : Option Addr) (k c : Nat) (ww cc s v r f : Int) (h : Bool) : Obj := .cells #[.int .i64 n, .slice A k c, .int .i64 ww, .int .i64 cc, .int .i64 s, .int .i64 v, .int .i64 r, .int .i64 f, .bool h] chT
abbrev chZ : Obj := .cells #[.int .i64 0, .slice none 0 0, .int .i64 0, .int .i64 0, .int .i64 0, .int .i64 0, .int .i64 0, .int .i64 0, .bool false] chT
theorem zero_chan (W : World) : (zeroValue chT).run Try.prog W = .ok (.agg #[.int .i64 0, .slice none 0 0, .int .i64 0, .int .i64 0, .int .i64 0, .int .i64 0, .int .i64 0, .int .i64 0, .bool false]) W := by kernel_rfl

section
variable {n ww cc : Int} {l : List Fl} {n' ww' cc' : Int} {L : List Fl} {k k' c : Nat} {A : Option Addr} {w : World} {s v r f : Int} {h : Bool}
theorem chroom_to (hr : Sd.right ⟨n, l, ww, cc⟩ = true) (hn : l.length = k) (hN : Fls w A l) {x : Int} (hx : Sd.room ⟨n, l, ww, cc⟩ = x) :
    Calls Try.prog 15 #[chV n A k c ww cc s v r f h] w fun e w' => e = .returned (.int .i64 x) ∧ Below w.heap.size w w' := by
  have R := a_new w (chO n A k c ww cc s v r f h)
  have B0 := (Below.refl w.heap.size w).alloc (Nat.le_refl _) (chO n A k c ww cc s v r f h)
  have HR := Lib.hid hr
  have Hn := Lib.hid hn
  have HN := Lib.hid (Fls.below hN B0)
  have HX := Lib.hid hx
  have K := row_cells R
  clear hr hn hN hx R
  go_enter Try.func15, Try.ntmps15
  go_wp2_with fail
  refine (room_right HR.out Hn.out HN.out HX.out).mono ?_
  rintro e w1 ⟨rfl, hb⟩
  go_wp2_with fail
  go_ret
  exact ⟨rfl, B0.trans (hb.mono B0.size)⟩
theorem chidle_no (hk : k = 0) : Calls Try.prog 17 #[chV n A k c ww cc s v r f h] w fun e w' => e = .returned (.bool true) ∧ Below w.heap.size w w' := by
  subst hk
  have B0 := (Below.refl w.heap.size w).alloc (Nat.le_refl _) (chO n A 0 c ww cc s v r f h)
  have K := row_cells (a_new w (chO n A 0 c ww cc s v r f h))
  go_enter Try.func17, Try.ntmps17
  go_wp2
  go_ret
  exact ⟨rfl, B0⟩
theorem chidle_yes (hk : 0 < k) : Calls Try.prog 17 #[chV n A k c ww cc s v r f h] w fun e w' => e = .returned (.bool false) ∧ Below w.heap.size w w' := by
  have B0 := (Below.refl w.heap.size w).alloc (Nat.le_refl _) (chO n A k c ww cc s v r f h)
  have K := row_cells (a_new w (chO n A k c ww cc s v r f h))
  have q : ((k : Int) == 0) = false := by simp; omega
  go_enter Try.func17, Try.ntmps17
  go_wp2
  go_ret
  exact ⟨rfl, B0⟩
theorem chidle_to {x : Bool} (hx : decide (k = 0) = x) : Calls Try.prog 17 #[chV n A k c ww cc s v r f h] w fun e w' => e = .returned (.bool x) ∧ Below w.heap.size w w' := by
  by_cases hk : k = 0
  · rw [decide_eq_true hk] at hx; subst hx; exact chidle_no hk
  · rw [decide_eq_false hk] at hx; subst hx; exact chidle_yes (by omega)
theorem chright_to (hn : l.length = k) (hN : Fls w A l) (hk : k ≤ 9223372036854775807) {x : Bool} (hx : (Sd.right ⟨n, l, ww, cc⟩ && Rtt.right ⟨s, v, r, f, h⟩) = x) :
    Calls Try.prog 10 #[chV n A k c ww cc s v r f h] w fun e w' => e = .returned (.bool x) ∧ Below w.heap.size w w' := by
  have R := a_new w (chO n A k c ww cc s v r f h)
  have B0 := (Below.refl w.heap.size w).alloc (Nat.le_refl _) (chO n A k c ww cc s v r f h)
  have Hn := Lib.hid hn
  have HN := Lib.hid (Fls.below hN B0)
  obtain ⟨a, ha⟩ : ∃ a, Sd.right ⟨n, l, ww, cc⟩ = a := ⟨_, rfl⟩
  obtain ⟨b, hb⟩ : ∃ b, Rtt.right ⟨s, v, r, f, h⟩ = b := ⟨_, rfl⟩
  rw [ha, hb] at hx
  have HA := Lib.hid ha
  have HB := Lib.hid hb
  have K := row_cells R
  clear ha hb hn hN
  cases a
  · rw [Bool.false_and] at hx
    subst hx
    go_enter Try.func10, Try.ntmps10
    go_wp2_with fail
    refine (right_to _ n ww cc A k c l Hn.out HN.out hk HA.out).mono ?_
    rintro e w1 ⟨rfl, hb⟩
    go_wp2_with fail
    go_ret
    exact ⟨rfl, B0.trans (hb.mono B0.size)⟩
  · rw [Bool.true_and] at hx
    subst hx
    go_enter Try.func10, Try.ntmps10
    go_wp2_with fail
    refine (right_to _ n ww cc A k c l Hn.out HN.out hk HA.out).mono ?_
    rintro e w1 ⟨rfl, hb⟩
    have R := row_kept R hb (row_lt R)
    have B1 := B0.trans (hb.mono B0.size)
    clear K hb
    have K := row_cells R
    go_wp2_with fail
    refine (rt.right_any s v r f h w1).mono ?_
    rintro e w2 ⟨rfl, hb2⟩
    have HB1 := Lib.hid (B1.trans (hb2.mono B1.size))
    clear hb2 K R
    go_wp2_with fail
    go_ret
    exact ⟨ret_bool HB.out, HB1.out⟩
theorem rt_equal (s v r f : Int) (h : Bool) (s' v' r' f' : Int) (h' : Bool) (w : World) : (binOp .eql rtT (.agg #[.int .i64 s, .int .i64 v, .int .i64 r, .int .i64 f, .bool h]) (.agg #[.int .i64 s', .int .i64 v', .int .i64 r', .int .i64 f', .bool h'])).run Try.prog w = .ok (.bool (decide (s = s' ∧ v = v' ∧ r = r' ∧ f = f' ∧ h = h'))) w := by
  have u3 := Try.underlying3
  have a3 := Try.isAgg3
  have z3 := Try.sizeOf3
  have u4 := Try.underlying4
  have a4 := Try.isAgg4
  have z4 := Try.sizeOf4
  have hS : Try.prog.underlying rtT = some (.struct (Try.prog.fieldsOf rtT)) := by kernel_rfl
  have hp : Try.prog.stoodInHeld rtT = false := by kernel_rfl
  rw [run_eql_struct, show (10000 : Nat) = 9999 + 1 from rfl, run_equalIn_agg w 9999 rtT _ _ hS hp]
  simp only [Program.fieldsOf, Try.underlying26]
  go_simp
  by_cases h1 : s = s' <;> by_cases h2 : v = v' <;> by_cases h3 : r = r' <;> by_cases h4 : f = f' <;> by_cases h5 : h = h' <;> simp [h1, h2, h3, h4, h5]
end
end Go.Proofs.Ytiecebncnflpiaa
