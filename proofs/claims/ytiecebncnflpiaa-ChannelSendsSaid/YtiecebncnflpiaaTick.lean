/- Package channel: Tick. -/
import Derived.Test.YtiecebncnflpiaaChan3
namespace Go.Proofs.Ytiecebncnflpiaa
open Go.ChangeShapes Go.WideShapes Go.ChangeAt Go.RowKit Go.Shelf
attribute [-go_sem] run_eql_struct run_neq_struct

theorem ticks_snoc (now : Int) : ∀ (qs : List Int) (q : Int) (s : Sd) (a : List Fl), Sd.ticks now (qs ++ [q]) s a = ((Sd.resend (Sd.ticks now qs s a).1 q now).1, (Sd.ticks now qs s a).2 ++ [(Sd.resend (Sd.ticks now qs s a).1 q now).2.1])
  | [], q, s, a => rfl
  | x :: r, q, s, a => by
    rw [List.cons_append, Sd.ticks, ticks_snoc now r q]
    rfl
theorem OwnR.setRow_ne {base m n c g : Nat} {w : World} {A : Option Addr} {E t : TypeId} {cs : Array Value} {zs : List Int} (h : OwnR m E base w A n c zs) (hg : ∀ a, A = some a → a.block ≠ g) : OwnR m E base (_root_.Go.Proofs.Ytiecebncnflpiaa.setRow w g t cs) A n c zs := by
  refine ⟨⟨h.1.1, ?_⟩, by rw [setRow_size]; exact h.2⟩
  rcases h.1.2 with h1 | ⟨b, cap, cur, hv, hb, hh, r⟩
  · exact Or.inl h1
  · refine Or.inr ⟨b, cap, cur, hv, hb, (setRow_far ?_).trans hh, r⟩
    injection hv with hv _ _
    have := hg _ hv
    exact this
theorem OwnR.grown {base m n c : Nat} {w w' : World} {A : Option Addr} {E : TypeId} {zs : List Int} {o : Option Nat} (h : OwnR m E base w A n c zs) (hG : w.grownBy w' o) (ho : ∀ a, A = some a → some a.block ≠ o) : OwnR m E base w' A n c zs := by
  refine ⟨⟨h.1.1, ?_⟩, Nat.le_trans h.2 hG.size⟩
  rcases h.1.2 with h1 | ⟨b, cap, cur, hv, hb, hh, r⟩
  · exact Or.inl h1
  · injection hv with hv _ hc
    exact Or.inr ⟨b, cap, cur, by rw [hv, hc], hb, (hG.block b (row_lt hh) (ho _ hv)).trans hh, r⟩
abbrev flZ : Obj := .cells #[.int .i64 0, .int .i64 0, .int .i64 0, .int .i64 0, .int .i64 0, .int .i64 0, .int .i64 0] flT
section
variable {n ww cc : Int} {l : List Fl} {n' ww' cc' : Int} {L : List Fl} {k k' c c2 : Nat} {A A2 : Option Addr} {w : World} {s v r f s' v' r' f' : Int} {h h' : Bool}
set_option maxHeartbeats 2000000 in
theorem tick_none (hr : Sd.right ⟨n, l, ww, cc⟩ = true) (h64 : 0 ≤ r ∧ r ≤ 1099511627776) (hn : l.length = k) (hN : Fls w A l) {now most : Int} (hd : Sd.due l now r = [] ∨ most < 1) :
    Calls Try.prog 21 #[chV n A k c ww cc s v r f h, .int .i64 now, .int .i64 most] w fun e w' => ∃ A' c', e = .returned (.tuple #[chV n A' k c' ww cc s v r f h, .slice none 0 0]) ∧ OwnF w.heap.size w' A' k c' l ∧ Below w.heap.size w w' := by
  have zc := zero_chan
  have R3 := a_lift (p := chZ) (a_new w (chO n A k c ww cc s v r f h))
  have R6 := a_new2 w (chO n A k c ww cc s v r f h) chZ
  have B0 := below_alloc2 w (chO n A k c ww cc s v r f h) chZ
  obtain ⟨h1, h2, h3, h4, h5⟩ := right_bd hr
  have h8 : k ≤ 8 := by rw [← hn]; exact h4
  have HR := Lib.hid hr
  have Hn := Lib.hid hn
  have HN := Lib.hid (Fls.below hN B0)
  obtain ⟨ds, hds⟩ : ∃ ds, Sd.due l now r = ds := ⟨_, rfl⟩
  rw [hds] at hd
  have HD := Lib.hid hds
  have K3 := row_cells R3
  clear hr hn hN hds h5 h4
  have hcase : (ds.length = 0) ∨ (0 < ds.length ∧ most < 1) := by
    rcases hd with rfl | h
    · exact Or.inl rfl
    · rcases Nat.eq_zero_or_pos ds.length with h0 | h0
      · exact Or.inl h0
      · exact Or.inr ⟨h0, h⟩
  clear hd
  rcases hcase with h0 | ⟨h0, h1m⟩
  all_goals
    have q0 : ((ds.length : Int) == 0) = decide (ds.length = 0) := by rw [Bool.eq_iff_iff]; simp
    first
      | (have h0' : ((ds.length : Int) == 0) = true := by (rw [h0]; rfl))
      | (have h0' : ((ds.length : Int) == 0) = false := by (rw [q0]; exact decide_eq_false (by omega)))
    clear q0
    go_enter Try.func21, Try.ntmps21
    go_wp2_with fail
    refine (due_right HR.out Hn.out HN.out h64 HD.out).mono ?_
    rintro e w1 ⟨AD, cD, rfl, -, hb⟩
    have R3 := row_kept R3 hb (row_lt R3)
    have R6 := row_kept R6 hb (row_lt R6)
    have B1 := B0.trans (hb.mono B0.size)
    have N1 := HN.out.below hb
    clear hb K3
    have K3 := row_cells R3
    go_wp2_with fail
    refine (clone_any _ A k c l Hn.out N1 (by omega)).mono ?_
    rintro e w2 ⟨A2, c2, rfl, hO, hb⟩
    have hl1 := row_lt R6
    have hz := B1.size
    have R3 := row_kept R3 hb (row_lt R3)
    have R6 := row_kept R6 hb (row_lt R6)
    have HB := Lib.hid (B1.trans (hb.mono B1.size))
    have HO := Lib.hid (show OwnF (w.heap.size + 2) w2 A2 k c2 l from OwnR.lower hO (by omega))
    clear hb K3 hO B1 N1
    obtain ⟨s0, s1, x1, f1, x2, f2, s2, s3, x3, f3, y1, x0, f0, x02, f02⟩ := rows2 R3 R6 (by omega)
    clear R3 R6
    go_wp2
    refine bodyPost_ret (v := .tuple #[chV n A2 k c2 ww cc s v r f h, .slice none 0 0]) ?_ rfl ⟨_, _, rfl, ?_, ?_⟩
    · simp [results, Try.results21, go_sem, x3]
    · exact OwnR.lower (OwnR.setRow (OwnR.setRow HO.out (by omega)) (by omega)) (by omega)
    · exact setRow_below (setRow_below HB.out (by omega)) (by omega)
end
end Go.Proofs.Ytiecebncnflpiaa
