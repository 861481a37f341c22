/- Package channel: Push, Ack. -/
import Derived.Test.YtiecebncnflpiaaChan2
namespace Go.Proofs.Ytiecebncnflpiaa
open Go.ChangeShapes Go.WideShapes Go.ChangeAt Go.RowKit Go.Shelf
attribute [-go_sem] run_eql_struct run_neq_struct
section
variable {n ww cc : Int} {l : List Fl} {n' ww' cc' : Int} {L : List Fl} {k k' c c2 : Nat} {A A2 : Option Addr} {w : World} {s v r f s' v' r' f' : Int} {h h' : Bool}
set_option maxHeartbeats 2000000 in
theorem chpush_to (hr : Sd.right ⟨n, l, ww, cc⟩ = true) (hn : l.length = k) (hN : Fls w A l) {a b d e now : Int} {g : Fl} {ok : Bool} (hp : Sd.push ⟨n, l, ww, cc⟩ a b d e now = (⟨n', L, ww', cc'⟩, g, ok)) (hk : L.length = k') :
    Calls Try.prog 19 #[chV n A k c ww cc s v r f h, noteV a b d e, .int .i64 now] w fun e w' => ∃ A' c', e = .returned (.tuple #[chV n' A' k' c' ww' cc' s v r f h, Fl.val g, .bool ok]) ∧ OwnF w.heap.size w' A' k' c' L ∧ Below w.heap.size w w' := by
  have zc := zero_chan
  have z1 := zero_fl
  obtain ⟨gq, gu, gv, gs, gc, ga, gt⟩ := g
  obtain ⟨V, hV, R3, R4, R6, R7, BV, SV⟩ := four_rows w #[.int .i64 n, .slice A k c, .int .i64 ww, .int .i64 cc, .int .i64 s, .int .i64 v, .int .i64 r, .int .i64 f, .bool h] #[.int .i64 a, .int .i64 b, .int .i64 d, .int .i64 e] #[.int .i64 0, .slice none 0 0, .int .i64 0, .int .i64 0, .int .i64 0, .int .i64 0, .int .i64 0, .int .i64 0, .bool false] #[.int .i64 0, .int .i64 0, .int .i64 0, .int .i64 0, .int .i64 0, .int .i64 0, .int .i64 0] chT noT chT flT
  have HR := Lib.hid hr
  have Hn := Lib.hid hn
  have HN := Lib.hid (Fls.below hN BV)
  have HP := Lib.hid hp
  have Hk := Lib.hid hk
  have K3 := row_cells R3
  have K4 := row_cells R4
  clear hr hn hN hp hk
  go_enter Try.func19, Try.ntmps19
  go_wp2_with fail
  refine (push_to HR.out Hn.out HN.out HP.out Hk.out).mono ?_
  rintro e w5 ⟨A5, c5, rfl, hO, hb⟩
  have R3 := alloc2 (row_kept R3 hb (by omega)) (seO n' A5 k' c5 ww' cc') (flO gq gu gv gs gc ga gt)
  have R6 := alloc2 (row_kept R6 hb (by omega)) (seO n' A5 k' c5 ww' cc') (flO gq gu gv gs gc ga gt)
  have R7 := alloc2 (row_kept R7 hb (by omega)) (seO n' A5 k' c5 ww' cc') (flO gq gu gv gs gc ga gt)
  have R9 := a_lift (p := flO gq gu gv gs gc ga gt) (a_new w5 (seO n' A5 k' c5 ww' cc'))
  have R10 := a_new2 w5 (seO n' A5 k' c5 ww' cc') (flO gq gu gv gs gc ga gt)
  have S5 : w.heap.size + 4 ≤ w5.heap.size := by have := hb.size; omega
  have HO := Lib.hid (show OwnF (w.heap.size + 4) _ A5 k' c5 L from OwnR.lower (OwnR.alloc (OwnR.alloc hO (seO n' A5 k' c5 ww' cc')) (flO gq gu gv gs gc ga gt)) (by omega))
  have HB := Lib.hid ((BV.trans (hb.mono BV.size)).trans ((below_alloc2 w5 (seO n' A5 k' c5 ww' cc') (flO gq gu gv gs gc ga gt)).mono (BV.trans (hb.mono BV.size)).size))
  clear K3 K4 hb hO
  have K3 := row_cells R3
  have K9 := row_cells R9
  obtain ⟨s0, s1, x1, f1, x2, f2, s2, s3, x3, f3, y1, x0, f0, x02, f02⟩ := rows2 R6 R7 (by omega)
  obtain ⟨n1, n2⟩ := far_cells (g := w.heap.size + 2) (t := chT) R10 (by omega)
  have cF : ∀ (X : World) (_ : X.heap[w.heap.size + 2]? = some chZ) ds es i, (setRow (setRow X (w.heap.size + 2) chT ds) (w.heap.size + 3) flT es).cell? ⟨w.heap.size + 2, i, none⟩ = ds[i]? := fun X hX ds es i => cell_of_row _ _ _ _ _ _ ((setRow_far (by omega)).trans (setRow_row (row_lt hX)))
  have cF := cF _ R6
  clear R3 R6 R7 R9 R10
  go_wp2_with fail
  go_region
  all_goals
    go_wp2
    refine bodyPost_ret (v := .tuple #[chV n' A5 k' c5 ww' cc' s v r f h, Fl.val ⟨gq, gu, gv, gs, gc, ga, gt⟩, .bool ok]) ?_ rfl ⟨_, _, rfl, ?_, ?_⟩
    · simp [results, Try.results19, go_sem, x3, cF]
    · exact OwnR.lower (OwnR.setRow (OwnR.setRow (OwnR.drewN HO.out 1) (by omega)) (by omega)) (by omega)
    · exact setRow_below (setRow_below (below_drewN HB.out 1) (by omega)) (by omega)

set_option maxHeartbeats 2000000 in
theorem chack_to (hr : Sd.right ⟨n, l, ww, cc⟩ = true) (hn : l.length = k) (hN : Fls w A l) {ack sack now : Int} (hnow : 0 ≤ now ∧ now ≤ 1099511627776) {tk : Int} (hp : Sd.acked ⟨n, l, ww, cc⟩ ack sack now = (⟨n', L, ww', cc'⟩, tk)) (hk : L.length = k') (ht : (if tk = -1 then (⟨s, v, r, f, h⟩ : Rtt) else Rtt.sample ⟨s, v, r, f, h⟩ tk) = ⟨s', v', r', f', h'⟩) :
    Calls Try.prog 20 #[chV n A k c ww cc s v r f h, .int .i64 ack, .int .i64 sack, .int .i64 now] w fun e w' => ∃ A' c', e = .returned (chV n' A' k' c' ww' cc' s' v' r' f' h') ∧ OwnF w.heap.size w' A' k' c' L ∧ Below w.heap.size w w' := by
  have zc := zero_chan
  have R4 := a_lift (p := chZ) (a_new w (chO n A k c ww cc s v r f h))
  have R8 := a_new2 w (chO n A k c ww cc s v r f h) chZ
  have B0 := below_alloc2 w (chO n A k c ww cc s v r f h) chZ
  have HR := Lib.hid hr
  have Hn := Lib.hid hn
  have HN := Lib.hid (Fls.below hN B0)
  have HP := Lib.hid hp
  have Hk := Lib.hid hk
  have HW := Lib.hid hnow
  have K4 := row_cells R4
  clear hr hn hN hp hk hnow
  by_cases h1 : tk = -1
  · rw [if_pos h1] at ht
    simp only [Rtt.mk.injEq] at ht
    obtain ⟨rfl, rfl, rfl, rfl, rfl⟩ := ht
    subst h1
    go_enter Try.func20, Try.ntmps20
    go_wp2_with fail
    refine (acked_to HR.out Hn.out HN.out HW.out HP.out Hk.out).mono ?_
    rintro e w5 ⟨A5, c5, rfl, hO, hb⟩
    have l8 := row_lt R8
    have R4 := a_lift (p := seO n' A5 k' c5 ww' cc') (row_kept R4 hb (row_lt R4))
    have R8 := a_lift (p := seO n' A5 k' c5 ww' cc') (row_kept R8 hb (row_lt R8))
    have R9 := a_new w5 (seO n' A5 k' c5 ww' cc')
    have HO := Lib.hid (show OwnF _ _ A5 k' c5 L from OwnR.alloc hO (seO n' A5 k' c5 ww' cc'))
    have B1 := (B0.trans (hb.mono B0.size))
    have HB := Lib.hid (B1.alloc B1.size (seO n' A5 k' c5 ww' cc'))
    clear K4 hb hO B1
    have K4 := row_cells R4
    have K9 := row_cells R9
    obtain ⟨s0, s1, x0, x1, f0, f1, sz⟩ := rows1 R8
    clear R4 R8 R9
    go_wp2
    refine bodyPost_ret (v := chV n' A5 k' c5 ww' cc' s v r f h) ?_ rfl ⟨_, _, rfl, ?_, ?_⟩
    · simp [results, Try.results20, go_sem, x1]
    · exact OwnR.lower (OwnR.setRow HO.out l8) B0.size
    · exact setRow_below HB.out (Nat.le_succ _)
  · rw [if_neg h1] at ht
    have HT := Lib.hid ht
    have h1' : (tk == -1) = false := by simpa using h1
    clear ht
    go_enter Try.func20, Try.ntmps20
    go_wp2_with fail
    refine (acked_to HR.out Hn.out HN.out HW.out HP.out Hk.out).mono ?_
    rintro e w5 ⟨A5, c5, rfl, hO, hb⟩
    have l8 := row_lt R8
    have R4 := a_lift (p := seO n' A5 k' c5 ww' cc') (row_kept R4 hb (row_lt R4))
    have R8 := a_lift (p := seO n' A5 k' c5 ww' cc') (row_kept R8 hb (row_lt R8))
    have R9 := a_new w5 (seO n' A5 k' c5 ww' cc')
    have HO := Lib.hid (show OwnF _ _ A5 k' c5 L from OwnR.alloc hO (seO n' A5 k' c5 ww' cc'))
    have B1 := (B0.trans (hb.mono B0.size))
    have HB := Lib.hid (B1.alloc B1.size (seO n' A5 k' c5 ww' cc'))
    have hz := hb.size
    clear K4 hb hO B1
    obtain ⟨V, hV⟩ : ∃ V, w5.alloc (seO n' A5 k' c5 ww' cc') = V := ⟨_, rfl⟩
    have hzV : w5.heap.size ≤ V.heap.size := by rw [← hV]; simp
    rw [hV] at R4 R8 R9 HO HB
    have K4 := row_cells R4
    have K9 := row_cells R9
    have l4' := row_lt R4
    have l8' := row_lt R8
    have l9' := row_lt R9
    have HRR := Lib.hid (And.intro R4 (And.intro R8 R9))
    clear R4 R8 R9
    go_wp2_with fail
    go_region_with (go_at_call 39; refine (rt.sample_to HT.out _).mono ?_; rintro e w6 ⟨rfl, hb⟩; have R4' := row_kept (w := V.drew) HRR.out.1 hb l4'; have R8' := row_kept (w := V.drew) HRR.out.2.1 hb l8'; have R9' := row_kept (w := V.drew) HRR.out.2.2 hb l9'; have K4' := row_cells R4'; have K9' := row_cells R9'; obtain ⟨s0, s1, x0, x1, f0, f1, sz⟩ := rows1 R8'; have HB3 := Lib.hid (show Below V.heap.size V w6 from ⟨hb.os, hb.tape, hb.output, hb.size, hb.block⟩); clear hb R4' R8' R9')
    all_goals
      go_wp2
      refine bodyPost_ret (v := chV n' A5 k' c5 ww' cc' s' v' r' f' h') ?_ rfl ⟨_, _, rfl, ?_, ?_⟩
      · simp [results, Try.results20, go_sem, x1]
      · exact OwnR.lower (OwnR.setRow (OwnR.below HO.out HB3.out) l8) B0.size
      · exact setRow_below (HB.out.trans (HB3.out.mono HB.out.size)) (Nat.le_succ _)
end
end Go.Proofs.Ytiecebncnflpiaa
