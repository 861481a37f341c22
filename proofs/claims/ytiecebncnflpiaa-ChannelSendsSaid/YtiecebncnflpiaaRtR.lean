/- What the functions of package rtt come to, one contract each. -/
import Derived.Test.YtiecebncnflpiaaRows
import Derived.Test.YtiecebncnflpiaaRttMath
import Derived.Test.YtiecebncnflpiaaMem
import Derived.Test.YtiecebncnflpiaaFloatMath
import Derived.Outline
import Derived.Lib.Hide
import Derived.WalkLawsBesides
import Derived.Deep.QuietTactic
import Derived.BigQuiet
namespace Go.Proofs.Ytiecebncnflpiaa.rt
open Go.ChangeShapes Go.WideShapes Go.ChangeAt Go.RowKit

def _root_.Go.Proofs.Ytiecebncnflpiaa.Rtt.val (e : Rtt) : Value := .agg #[.int .i64 e.s, .int .i64 e.v, .int .i64 e.rto, .int .i64 e.fails, .bool e.has]

theorem within_any (n lo hi : Int) (w : World) :
    Calls Try.prog 49 #[.int .i64 n, .int .i64 lo, .int .i64 hi] w fun e w' => e = .returned (.bool (Rtt.win n lo hi)) ∧ w = w' := by
  by_cases h1 : lo ≤ n
  · by_cases h2 : n ≤ hi
    · have H := Lib.hid (show Rtt.win n lo hi = true from decide_eq_true ⟨h1, h2⟩)
      go_enter Try.func49, Try.ntmps49
      go_wp2
      go_ret
      exact ⟨ret_bool H.out.symm, rfl⟩
    · have H := Lib.hid (show Rtt.win n lo hi = false from decide_eq_false (by omega))
      have h3 : decide (n ≤ hi) = false := decide_eq_false h2
      go_enter Try.func49, Try.ntmps49
      go_wp2
      go_ret
      exact ⟨ret_bool H.out.symm, rfl⟩
  · have H := Lib.hid (show Rtt.win n lo hi = false from decide_eq_false (by omega))
    have h3 : decide (lo ≤ n) = false := decide_eq_false h1
    go_enter Try.func49, Try.ntmps49
    go_wp2
    go_ret
    exact ⟨ret_bool H.out.symm, rfl⟩

theorem start_any (w : World) : Calls Try.prog 47 #[] w fun e w' => e = .returned (.agg #[.int .i64 0, .int .i64 0, .int .i64 8, .int .i64 0, .bool false]) ∧ Below w.heap.size w w' := by
  go_enter Try.func47, Try.ntmps47
  go_wp2
  exact bodyPost_ret (v := .agg #[.int .i64 0, .int .i64 0, .int .i64 8, .int .i64 0, .bool false]) (by simp [results, Try.results47, go_sem]) rfl ⟨rfl, (Below.refl _ _).alloc (Nat.le_refl _) _⟩

theorem right_any (s v rto f : Int) (has : Bool) (w : World) :
    Calls Try.prog 25 #[.agg #[.int .i64 s, .int .i64 v, .int .i64 rto, .int .i64 f, .bool has]] w fun e w' => e = .returned (.bool (Rtt.right ⟨s, v, rto, f, has⟩)) ∧ Below w.heap.size w w' := by
  go_enter Try.func25, Try.ntmps25
  go_wp2_with (first
    | (go_at_call 49; refine (within_any _ _ _ _).mono ?_; rintro e w' ⟨rfl, rfl⟩)
    )
  all_goals (go_ret; exact ⟨ret_bool (by simp_all [Rtt.right]), (Below.refl _ _).alloc (Nat.le_refl _) _⟩)

theorem righted_any (s v rto f : Int) (has : Bool) (w : World) :
    Calls Try.prog 64 #[.agg #[.int .i64 s, .int .i64 v, .int .i64 rto, .int .i64 f, .bool has]] w fun e w' => e = .returned (Rtt.or ⟨s, v, rto, f, has⟩).val ∧ Below w.heap.size w w' := by
  by_cases h : Rtt.right ⟨s, v, rto, f, has⟩ = true
  · have H := Lib.hid (Rtt.or_of _ h)
    go_enter Try.func64, Try.ntmps64
    go_wp2_with (first
      | (go_at_call 25; refine (right_any _ _ _ _ _ _).mono ?_; rintro e w' ⟨rfl, hb⟩; obtain ⟨hc, hf⟩ := bcell hb; have hz : w.heap.size + 1 < w'.heap.size := by (have := hb.size; simp at this; omega))
      )
    have hb0 : Below w.heap.size w w' := (((Below.refl _ _).alloc (Nat.le_refl _) _).alloc (by simp) _).trans (hb.mono (by simp; omega))
    refine bodyPost_ret (v := .agg #[.int .i64 s, .int .i64 v, .int .i64 rto, .int .i64 f, .bool has]) ?_ rfl ⟨by rw [H.out]; rfl, ?_⟩
    · simp [results, Try.results64, go_sem, hc]
    · repeat (refine below_set ?_ (by omega))
      exact hb0
  · have h2 : Rtt.right ⟨s, v, rto, f, has⟩ = false := by simpa using h
    have H := Lib.hid (Rtt.or_not _ h2)
    clear h
    go_enter Try.func64, Try.ntmps64
    go_wp2_with (first
      | (go_at_call 25; refine (right_any _ _ _ _ _ _).mono ?_; rintro e w' ⟨rfl, hb⟩; have hb0 : Below w.heap.size w w' := (((Below.refl _ _).alloc (Nat.le_refl _) _).alloc (by simp) _).trans (hb.mono (by simp; omega)); obtain ⟨hc, hf⟩ := bcell hb; have hz : w.heap.size + 1 < w'.heap.size := by (have := hb.size; simp at this; omega))
      | (go_at_call 47; refine (start_any _).mono ?_; rintro e w2 ⟨rfl, hb2⟩; have hb3 := hb0.trans (hb2.mono hb0.size); obtain ⟨hc2, hf2⟩ := bcell hb2)
      )
    refine bodyPost_ret (v := .agg #[.int .i64 0, .int .i64 0, .int .i64 8, .int .i64 0, .bool false]) ?_ rfl ⟨by rw [H.out]; rfl, ?_⟩
    · simp [results, Try.results64, go_sem, hc2, hc, hz]
    · repeat (refine below_set ?_ (by omega))
      exact hb3

/-- 'righted', with what it comes to written out. -/
theorem righted_to {s v rto f : Int} {has : Bool} {s' v' rto' f' : Int} {has' : Bool} (h : Rtt.or ⟨s, v, rto, f, has⟩ = ⟨s', v', rto', f', has'⟩) (w : World) :
    Calls Try.prog 64 #[.agg #[.int .i64 s, .int .i64 v, .int .i64 rto, .int .i64 f, .bool has]] w fun e w' => e = .returned (.agg #[.int .i64 s', .int .i64 v', .int .i64 rto', .int .i64 f', .bool has']) ∧ Below w.heap.size w w' := by
  have := righted_any s v rto f has w
  rw [h] at this
  exact this

theorem backoff_any (s v rto f : Int) (has : Bool) (w : World) :
    Calls Try.prog 44 #[.agg #[.int .i64 s, .int .i64 v, .int .i64 rto, .int .i64 f, .bool has]] w fun e w' => e = .returned (Rtt.backoff ⟨s, v, rto, f, has⟩).val ∧ Below w.heap.size w w' := by
  have hok := Rtt.or_ok ⟨s, v, rto, f, has⟩
  generalize hx : Rtt.or ⟨s, v, rto, f, has⟩ = x at hok
  have Hx := Lib.hid hx
  obtain ⟨s', v', rto', f', has'⟩ := x
  have HV : Hid ((Rtt.backoff ⟨s, v, rto, f, has⟩).val = .agg #[.int .i64 s', .int .i64 v', .int .i64 (min (2 * rto') 64), .int .i64 (min (f' + 1) 100), .bool has']) := Lib.hid (by unfold Rtt.backoff; rw [hx]; rfl)
  clear hx
  obtain ⟨a1, a2, a3, a4, a5, a6, a7, a8, -⟩ := hok
  simp only at a1 a2 a3 a4 a5 a6 a7 a8
  go_enter Try.func44, Try.ntmps44
  go_wp2_with fail
  refine (righted_to Hx.out _).mono ?_
  rintro e w' ⟨rfl, hb⟩
  obtain ⟨b1, b2, hz, hb0⟩ := two_blocks hb
  obtain ⟨s0, s1, c1, f1, c2, f2, s2, s3, c3, f3, z1, c0, f0, c02, f02⟩ := rows2 b1 b2 (by omega)
  clear hb b1 b2
  go_wp2
  all_goals
    refine bodyPost_ret (v := .agg #[.int .i64 s', .int .i64 v', .int .i64 (min (2 * rto') 64), .int .i64 (min (f' + 1) 100), .bool has']) ?_ rfl ⟨by rw [HV.out], ?_⟩
    · simp [results, Try.results44, go_sem, c3]
      omega
    · exact setRow_below (setRow_below hb0 (Nat.le_refl _)) (by omega)

end Go.Proofs.Ytiecebncnflpiaa.rt
