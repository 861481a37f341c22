/- Whether two flights are the same, two notes: the language's '==' and '!='. -/
import Derived.Test.YtiecebncnflpiaaSend9
import Derived.Laws.StructEq
namespace Go.Proofs.Ytiecebncnflpiaa
open Go.ChangeShapes Go.WideShapes Go.ChangeAt Go.RowKit Go.Shelf

theorem note_equal (u v s x u' v' s' x' : Int) (w : World) (d : Nat) : (Op.equalIn (d + 2) noT (.agg #[.int .i64 u, .int .i64 v, .int .i64 s, .int .i64 x]) (.agg #[.int .i64 u', .int .i64 v', .int .i64 s', .int .i64 x'])).run Try.prog w = .ok (decide (u = u' ∧ v = v' ∧ s = s' ∧ x = x')) w := by
  have u3 := Try.underlying3
  have a3 := Try.isAgg3
  have z3 := Try.sizeOf3
  have hS : Try.prog.underlying noT = some (.struct (Try.prog.fieldsOf noT)) := by kernel_rfl
  have hp : Try.prog.stoodInHeld noT = false := by kernel_rfl
  rw [show d + 2 = (d + 1) + 1 from rfl, run_equalIn_agg w (d + 1) noT _ _ hS hp]
  simp only [Program.fieldsOf, Try.underlying34]
  go_simp
  by_cases h1 : u = u' <;> by_cases h2 : v = v' <;> by_cases h3 : s = s' <;> by_cases h4 : x = x' <;> simp [h1, h2, h3, h4]
theorem fl_equal (q u v s x a t q' u' v' s' x' a' t' : Int) (w : World) (d : Nat) : (Op.equalIn (d + 3) flT (.agg #[.int .i64 q, .int .i64 u, .int .i64 v, .int .i64 s, .int .i64 x, .int .i64 a, .int .i64 t]) (.agg #[.int .i64 q', .int .i64 u', .int .i64 v', .int .i64 s', .int .i64 x', .int .i64 a', .int .i64 t'])).run Try.prog w = .ok (decide ((⟨q, u, v, s, x, a, t⟩ : Fl) = ⟨q', u', v', s', x', a', t'⟩)) w := by
  have u3 := Try.underlying3
  have a3 := Try.isAgg3
  have z3 := Try.sizeOf3
  have a4 := Try.isAgg34
  have z4 := Try.sizeOf34
  have hS : Try.prog.underlying flT = some (.struct (Try.prog.fieldsOf flT)) := by kernel_rfl
  have hp : Try.prog.stoodInHeld flT = false := by kernel_rfl
  have hN := note_equal u v s x u' v' s' x' w d
  rw [show d + 3 = (d + 2) + 1 from rfl, run_equalIn_agg w (d + 2) flT _ _ hS hp]
  simp only [Program.fieldsOf, Try.underlying42]
  go_simp
  clear hN
  repeat' split
  all_goals simp [*]
theorem fl_eql (f g : Fl) (w : World) : (binOp .eql flT f.val g.val).run Try.prog w = .ok (.bool (decide (f = g))) w := by
  obtain ⟨q, u, v, s, x, a, t⟩ := f
  obtain ⟨q', u', v', s', x', a', t'⟩ := g
  rw [run_eql_struct, show (10000 : Nat) = 9997 + 3 from rfl, fl_equal]
  rfl
theorem fl_neq (f g : Fl) (w : World) : (binOp .neq flT f.val g.val).run Try.prog w = .ok (.bool (!decide (f = g))) w := by
  obtain ⟨q, u, v, s, x, a, t⟩ := f
  obtain ⟨q', u', v', s', x', a', t'⟩ := g
  rw [run_neq_struct, show (10000 : Nat) = 9997 + 3 from rfl, fl_equal]
  rfl
theorem no_eql (u v s x u' v' s' x' : Int) (w : World) : (binOp .eql noT (noteV u v s x) (noteV u' v' s' x')).run Try.prog w = .ok (.bool (decide (u = u' ∧ v = v' ∧ s = s' ∧ x = x'))) w := by
  rw [run_eql_struct, show (10000 : Nat) = 9998 + 2 from rfl, note_equal]
  rfl
theorem no_neq (u v s x u' v' s' x' : Int) (w : World) : (binOp .neq noT (noteV u v s x) (noteV u' v' s' x')).run Try.prog w = .ok (.bool (!decide (u = u' ∧ v = v' ∧ s = s' ∧ x = x'))) w := by
  rw [run_neq_struct, show (10000 : Nat) = 9998 + 2 from rfl, note_equal]
  rfl
attribute [-go_sem] run_eql_struct run_neq_struct
theorem fls_ext {l k : List Fl} (h : l.length = k.length) (hk : ∀ j, j < l.length → l.getD j .zero = k.getD j .zero) : l = k := by
  apply List.ext_getElem h
  intro i h1 h2
  have := hk i h1
  simpa [List.getD, h1, h2] using this

set_option maxHeartbeats 1000000 in
theorem equal_any (w : World) (A B : Option Addr) (n c m d : Nat) (l k : List Fl) (hn : l.length = n) (hm : k.length = m) (hN : Fls w A l) (hM : Fls w B k) (hlen : n ≤ 1000000) :
    Calls Try.prog 50 #[.slice A n c, .slice B m d] w fun e w' => e = .returned (.bool (decide (l = k))) ∧ Below w.heap.size w w' := by
  by_cases hnm : n = m
  · subst hnm
    have Hn := Lib.hid hn
    have Hm := Lib.hid hm
    have HN := Lib.hid hN
    have HM := Lib.hid hM
    clear hn hm hN hM
    go_enter Try.func50, Try.ntmps50
    go_wp2
    go_loopw [13] (fun i wr => ∃ t : Nat, t ≤ n ∧ i = .int .i64 t ∧ Below w.heap.size w wr ∧ ∀ j, j < t → l.getD j .zero = k.getD j .zero) (fun i _ => n - (intOf i).toNat)
    case atStart => exact ⟨0, Nat.zero_le _, rfl, Below.refl _ _, fun j hj => absurd hj (by omega)⟩
    case round =>
      obtain ⟨t, ht, rfl, hB, hall⟩ := hrel
      by_cases htn : t < n
      · obtain ⟨b, off, rfl, hb, c0, c1, c2, c3, c4, c5, c6⟩ := (HN.out.below hB).at (i := t) (by rw [Hn.out]; exact htn)
        obtain ⟨b2, off2, rfl, hb2, d0, d1, d2, d3, d4, d5, d6⟩ := (HM.out.below hB).at (i := t) (by rw [Hm.out]; exact htn)
        have Hall := Lib.hid (fun (h : l.getD t .zero = k.getD t .zero) => show ∀ j, j < t + 1 → l.getD j .zero = k.getD j .zero from fun j hj => by
          by_cases hjt : j = t
          · subst hjt; exact h
          · exact hall j (by omega))
        have Hne := Lib.hid (fun (h : l.getD t .zero ≠ k.getD t .zero) => show decide (l = k) = false from decide_eq_false fun hlk => h (by rw [hlk]))
        generalize l.getD t .zero = p at c0 c1 c2 c3 c4 c5 c6 Hall Hne
        generalize k.getD t .zero = q at d0 d1 d2 d3 d4 d5 d6 Hall Hne
        have q1 : (t : Int) < (n : Int) := by omega
        have q0 : (0 : Int) ≤ (t : Int) := by omega
        have hne := fl_neq p q
        clear hall
        obtain ⟨p0, p1, p2, p3, p4, p5, p6⟩ := p
        obtain ⟨r0, r1, r2, r3, r4, r5, r6⟩ := q
        dsimp only at c0 c1 c2 c3 c4 c5 c6 d0 d1 d2 d3 d4 d5 d6 hne
        by_cases e : (⟨p0, p1, p2, p3, p4, p5, p6⟩ : Fl) = ⟨r0, r1, r2, r3, r4, r5, r6⟩
        · rw [decide_eq_true e] at hne
          have Hall2 := Lib.hid (Hall.out e)
          clear e Hall Hne
          go_wp2
          go_quiet (fail)
          go_wp2
          go_roundw
          case rel => exact ⟨t + 1, by omega, by go_num, below_drewN hB _, Hall2.out⟩
          case measure => simp [intOf]; omega
        · rw [decide_eq_false e] at hne
          have Hne2 := Lib.hid (Hne.out e)
          clear e Hall Hne
          go_wp2
          go_quiet (fail)
          go_wp2
          go_ret
          exact ⟨ret_bool Hne2.out.symm, below_drewN hB _⟩
      · obtain rfl : t = n := by omega
        have e : l = k := fls_ext (by rw [Hn.out, Hm.out]) (by rw [Hn.out]; exact hall)
        clear hall
        go_wp2
        go_ret
        exact ⟨ret_bool (by simp [e]), hB⟩
  · have e : decide (l = k) = false := decide_eq_false fun h => hnm (by rw [← hn, ← hm, h])
    rw [e]
    have hne : (n : Int) ≠ (m : Int) := by omega
    have hne' : ((n : Int) != (m : Int)) = true := by simpa using hne
    clear e hn hm hN hM
    go_enter Try.func50, Try.ntmps50
    go_wp2
    go_ret
    exact ⟨rfl, Below.refl _ _⟩
end Go.Proofs.Ytiecebncnflpiaa
