/- Package channel: Same, Start, Void, Push, Ack. -/
import Derived.Test.YtiecebncnflpiaaChan
namespace Go.Proofs.Ytiecebncnflpiaa
open Go.ChangeShapes Go.WideShapes Go.ChangeAt Go.RowKit Go.Shelf
attribute [-go_sem] run_eql_struct run_neq_struct

theorem chstart_any (w : World) : Calls Try.prog 23 #[] w fun e w' => e = .returned (chV 1 none 0 0 1 0 0 0 8 0 false) ∧ Below w.heap.size w w' := by
  have zc := zero_chan
  have R := a_new w chZ
  have B0 := (Below.refl w.heap.size w).alloc (Nat.le_refl _) chZ
  go_enter Try.func23, Try.ntmps23
  go_wp2_with fail
  refine (start_any _).mono ?_
  rintro e w1 ⟨rfl, hb⟩
  have R := row_kept R hb (row_lt R)
  have B0 := B0.trans (hb.mono B0.size)
  clear hb
  go_wp2_with fail
  refine (rt.start_any _).mono ?_
  rintro e w2 ⟨rfl, hb⟩
  have R := row_kept R hb (row_lt R)
  have B0 := B0.trans (hb.mono B0.size)
  clear hb
  obtain ⟨s0, s1, x0, x1, f0, f1, sz⟩ := rows1 R
  have HB := Lib.hid (setRow_below (g := w.heap.size) (t := chT) (cs := #[.int .i64 1, .slice none 0 0, .int .i64 1, .int .i64 0, .int .i64 0, .int .i64 0, .int .i64 8, .int .i64 0, .bool false]) B0 (Nat.le_refl _))
  clear B0 R
  go_wp2
  refine bodyPost_ret (v := chV 1 none 0 0 1 0 0 0 8 0 false) ?_ rfl ⟨rfl, HB.out⟩
  simp [results, Try.results23, go_sem, x1]

section
variable {n ww cc : Int} {l : List Fl} {n' ww' cc' : Int} {L : List Fl} {k k' c c2 : Nat} {A A2 : Option Addr} {w : World} {s v r f s' v' r' f' : Int} {h h' : Bool}
theorem chsame_to (hn : l.length = k) (hm : L.length = k') (hN : Fls w A l) (hM : Fls w A2 L) (hk : k ≤ 1000000) {x : Bool} (hx : decide ((s = s' ∧ v = v' ∧ r = r' ∧ f = f' ∧ h = h') ∧ n = n' ∧ ww = ww' ∧ cc = cc' ∧ l = L) = x) :
    Calls Try.prog 12 #[chV n A k c ww cc s v r f h, chV n' A2 k' c2 ww' cc' s' v' r' f' h'] w fun e w' => e = .returned (.bool x) ∧ Below w.heap.size w w' := by
  have R2 := a_lift (p := chO n' A2 k' c2 ww' cc' s' v' r' f' h') (a_new w (chO n A k c ww cc s v r f h))
  have R3 := a_new2 w (chO n A k c ww cc s v r f h) (chO n' A2 k' c2 ww' cc' s' v' r' f' h')
  have B0 := below_alloc2 w (chO n A k c ww cc s v r f h) (chO n' A2 k' c2 ww' cc' s' v' r' f' h')
  have Hn := Lib.hid hn
  have Hm := Lib.hid hm
  have HN := Lib.hid (Fls.below hN B0)
  have HM := Lib.hid (Fls.below hM B0)
  have K2 := row_cells R2
  have K3 := row_cells R3
  have heq := rt_equal s v r f h s' v' r' f' h'
  clear hn hm hN hM R2 R3
  by_cases he : s = s' ∧ v = v' ∧ r = r' ∧ f = f' ∧ h = h'
  · rw [decide_eq_true he] at heq
    have hx2 : decide (n = n' ∧ ww = ww' ∧ cc = cc' ∧ l = L) = x := by rw [← hx]; simp [he]
    have HX := Lib.hid hx2
    clear hx hx2 he
    go_enter Try.func12, Try.ntmps12
    go_wp2_with fail
    refine (send_same _ n ww cc A k c l n' ww' cc' A2 k' c2 L Hn.out Hm.out HN.out HM.out hk HX.out).mono ?_
    rintro e w1 ⟨rfl, hb⟩
    go_wp2_with fail
    go_ret
    exact ⟨rfl, B0.trans (hb.mono B0.size)⟩
  · rw [decide_eq_false he] at heq
    obtain rfl : false = x := by rw [← hx]; exact (decide_eq_false (fun hh => he hh.1)).symm
    clear hx he
    go_enter Try.func12, Try.ntmps12
    go_wp2
    go_ret
    exact ⟨rfl, B0⟩

set_option maxHeartbeats 1000000 in
theorem chvoid_to (hr : Sd.right ⟨n, l, ww, cc⟩ = true) (hn : l.length = k) (hN : Fls w A l) {user : Int} (hp : Sd.void ⟨n, l, ww, cc⟩ user = ⟨n', L, ww', cc'⟩) :
    Calls Try.prog 22 #[chV n A k c ww cc s v r f h, .int .i64 user] w fun e w' => ∃ A' c', e = .returned (chV n' A' k c' ww' cc' s v r f h) ∧ OwnF w.heap.size w' A' k c' L ∧ Below w.heap.size w w' := by
  have zc := zero_chan
  have R2 := a_lift (p := chZ) (a_new w (chO n A k c ww cc s v r f h))
  have R4 := a_new2 w (chO n A k c ww cc s v r f h) chZ
  have B0 := below_alloc2 w (chO n A k c ww cc s v r f h) chZ
  obtain ⟨V, hV⟩ : ∃ V, (w.alloc (chO n A k c ww cc s v r f h)).alloc chZ = V := ⟨_, rfl⟩
  rw [hV] at R2 R4 B0
  have HR := Lib.hid hr
  have Hn := Lib.hid hn
  have HN := Lib.hid (Fls.below hN B0)
  have HP := Lib.hid hp
  have HB := Lib.hid B0
  have K2 := row_cells R2
  have l2 := row_lt R2
  have l4 := row_lt R4
  have HRR := Lib.hid (And.intro R2 R4)
  clear hr hn hN hp R2 R4 B0
  go_enter Try.func22, Try.ntmps22
  go_wp2_with fail
  go_region_with (go_at_call 45; refine (void_to HR.out Hn.out (Nums.drew HN.out) HP.out).mono ?_; rintro e w3 ⟨A3, c3, rfl, hO, hb⟩; have R2' := row_kept (w := V.drew) HRR.out.1 hb l2; have R4' := row_kept (w := V.drew) HRR.out.2 hb l4; have K2' := row_cells R2'; obtain ⟨s0, s1, x0, x1, f0, f1, sz⟩ := rows1 R4'; have HO := Lib.hid (show OwnF V.heap.size w3 A3 k c3 L from hO); have HB3 := Lib.hid (show Below V.heap.size V w3 from ⟨hb.os, hb.tape, hb.output, hb.size, hb.block⟩); clear hO hb R2' R4')
  all_goals
    go_wp2
    refine bodyPost_ret (v := chV n' A3 k c3 ww' cc' s v r f h) ?_ rfl ⟨_, _, rfl, ?_, ?_⟩
    · simp [results, Try.results22, go_sem, x1]
    · exact OwnR.lower (OwnR.setRow HO.out l4) HB.out.size
    · exact setRow_below (HB.out.trans (HB3.out.mono HB.out.size)) (Nat.le_succ _)
end
end Go.Proofs.Ytiecebncnflpiaa
