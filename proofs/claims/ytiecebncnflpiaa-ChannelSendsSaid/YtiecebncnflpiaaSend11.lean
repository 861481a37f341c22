/- Package send: Same. -/
import Derived.Test.YtiecebncnflpiaaSend10
namespace Go.Proofs.Ytiecebncnflpiaa
open Go.ChangeShapes Go.WideShapes Go.ChangeAt Go.RowKit Go.Shelf
attribute [-go_sem] run_eql_struct run_neq_struct

set_option maxRecDepth 10000 in
set_option maxHeartbeats 1000000 in
theorem send_same (w : World) (n ww cc : Int) (A : Option Addr) (k c : Nat) (l : List Fl) (n' ww' cc' : Int) (B : Option Addr) (m d : Nat) (L : List Fl) (hn : l.length = k) (hm : L.length = m) (hN : Fls w A l) (hM : Fls w B L) (hk : k ≤ 1000000) {r : Bool} (hr : decide (n = n' ∧ ww = ww' ∧ cc = cc' ∧ l = L) = r) :
    Calls Try.prog 28 #[.agg #[.int .i64 n, .slice A k c, .int .i64 ww, .int .i64 cc], .agg #[.int .i64 n', .slice B m d, .int .i64 ww', .int .i64 cc']] w fun e w' => e = .returned (.bool r) ∧ Below w.heap.size w w' := by
  have HN := Lib.hid ((hN.alloc (.cells #[.int .i64 n, .slice A k c, .int .i64 ww, .int .i64 cc] seT)).alloc (.cells #[.int .i64 n', .slice B m d, .int .i64 ww', .int .i64 cc'] seT))
  have HM := Lib.hid ((hM.alloc (.cells #[.int .i64 n, .slice A k c, .int .i64 ww, .int .i64 cc] seT)).alloc (.cells #[.int .i64 n', .slice B m d, .int .i64 ww', .int .i64 cc'] seT))
  have hB : Below w.heap.size w ((w.alloc (.cells #[.int .i64 n, .slice A k c, .int .i64 ww, .int .i64 cc] seT)).alloc (.cells #[.int .i64 n', .slice B m d, .int .i64 ww', .int .i64 cc'] seT)) := ((Below.refl _ _).alloc (Nat.le_refl _) _).alloc (by simp) _
  have Hn := Lib.hid hn
  have Hm := Lib.hid hm
  clear hn hm hN hM
  by_cases h1 : n = n'
  · by_cases h2 : ww = ww'
    · by_cases h3 : cc = cc'
      · subst h1; subst h2; subst h3
        have hr2 : decide (l = L) = r := by rw [← hr]; simp
        have HR := Lib.hid hr2
        clear hr hr2
        go_enter Try.func28, Try.ntmps28
        go_wp2_with (first
          | (go_at_call 50; refine (equal_any _ A B k c m d l L Hn.out Hm.out HN.out HM.out hk).mono ?_; rintro e w2 ⟨rfl, hb⟩))
        go_ret
        exact ⟨ret_bool HR.out, hB.trans (hb.mono hB.size)⟩
      · obtain rfl : false = r := by rw [← hr]; simp [h3]
        subst h1; subst h2
        have e3 : (cc == cc') = false := beq_eq_false_iff_ne.2 h3
        clear hr
        go_enter Try.func28, Try.ntmps28
        go_wp2
        go_ret
        exact ⟨rfl, hB⟩
    · obtain rfl : false = r := by rw [← hr]; simp [h2]
      subst h1
      have e2 : (ww == ww') = false := beq_eq_false_iff_ne.2 h2
      clear hr
      go_enter Try.func28, Try.ntmps28
      go_wp2
      go_ret
      exact ⟨rfl, hB⟩
  · obtain rfl : false = r := by rw [← hr]; simp [h1]
    have e1 : (n == n') = false := beq_eq_false_iff_ne.2 h1
    clear hr
    go_enter Try.func28, Try.ntmps28
    go_wp2
    go_ret
    exact ⟨rfl, hB⟩
end Go.Proofs.Ytiecebncnflpiaa
