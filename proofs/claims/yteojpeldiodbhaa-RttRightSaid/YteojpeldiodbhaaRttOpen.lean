/- An Rtt that comes in; the contracts with what they come to written out; a small case. -/
import Derived.Test.YteojpeldiodbhaaRttS
import Derived.Test.YteojpeldiodbhaaRttRef
import Derived.Test.YteojpeldiodbhaaMem2
import Derived.Lib.SmallJoins
import Derived.Deep.RegionWith
namespace Go.Proofs.Yteojpeldiodbhaa
open Go.ChangeShapes Go.WideShapes Go.ChangeAt Go.RowKit Go.Joins Go.Deep
section
variable {H : Type} {enc : TypeId × Value → H} {P : Program} {w : World} {base : Nat} {spare : Nat → Bool} {held : Bool}
theorem open_agg5 {r : Reach} {b0 : Nat} {t : TypeId} {f0 f1 f2 f3 f4 : Field} {v : Value} {d : DataW H} {p : List MemPlace} (hs : P.underlying t = some (.struct #[f0, f1, f2, f3, f4])) (hone : oneCellFields P #[f0, f1, f2, f3, f4] = true) (hC : P.cellsOf t = 5)
    (hv : Value.okWide P w r b0 t v) (h : DataW.Trod enc P w base spare held t v d p) :
    ∃ (v0 v1 v2 v3 v4 : Value) (y0 y1 y2 y3 y4 : DataW H × List MemPlace) (n : Nat), v = .agg #[v0, v1, v2, v3, v4] ∧ d = .agg [y0.1, y1.1, y2.1, y3.1, y4.1] ∧ p = y0.2 ++ (y1.2 ++ (y2.2 ++ (y3.2 ++ y4.2))) ∧
      DataW.trod enc P w base spare held n f0.type [v0] = some y0 ∧ DataW.trod enc P w base spare held n f1.type [v1] = some y1 ∧ DataW.trod enc P w base spare held n f2.type [v2] = some y2 ∧ DataW.trod enc P w base spare held n f3.type [v3] = some y3 ∧ DataW.trod enc P w base spare held n f4.type [v4] = some y4 := by
  obtain ⟨cs, rfl, hsz⟩ := okWide_struct hs hv
  obtain ⟨l⟩ := cs
  match l, hsz.trans hC with
  | [c0, c1, c2, c3, c4], _ =>
    obtain ⟨fuel, hf⟩ := h
    obtain ⟨xs, n, _, hx, _, hlen, hg⟩ := DataW.trod_struct hs hf
    obtain ⟨o0, k0⟩ := hone_of hone 0 f0 rfl
    obtain ⟨o1, k1⟩ := hone_of hone 1 f1 rfl
    obtain ⟨o2, k2⟩ := hone_of hone 2 f2 rfl
    obtain ⟨o3, k3⟩ := hone_of hone 3 f3 rfl
    obtain ⟨o4, k4⟩ := hone_of hone 4 f4 rfl
    match xs, hlen with
    | [y0, y1, y2, y3, y4], _ =>
      simp only [Prod.mk.injEq] at hx
      exact ⟨c0, c1, c2, c3, c4, y0, y1, y2, y3, y4, n, rfl, by simpa using hx.1, by simpa using hx.2, by simpa [Value.cells, o0, k0] using hg 0 f0 rfl, by simpa [Value.cells, o1, k1] using hg 1 f1 rfl, by simpa [Value.cells, o2, k2] using hg 2 f2 rfl, by simpa [Value.cells, o3, k3] using hg 3 f3 rfl, by simpa [Value.cells, o4, k4] using hg 4 f4 rfl⟩
end

theorem open_rtt {H : Type} {enc : TypeId × Value → H} {W : World} {base : Nat} {v : Value} {d : DataW H} {p : List MemPlace}
    (hv : Value.okWide Try.prog W .any base 23 v) (h : DataW.Trod enc Try.prog W 0 (fun _ => true) true 23 v d p) :
    ∃ (s v' rto f : Int) (has : Bool), v = .agg #[.int .i64 s, .int .i64 v', .int .i64 rto, .int .i64 f, .bool has] ∧
      (Lit.int .i64 s).wf = true ∧ (Lit.int .i64 v').wf = true ∧ (Lit.int .i64 rto).wf = true ∧ (Lit.int .i64 f).wf = true := by
  obtain ⟨v0, v1, v2, v3, v4, y0, y1, y2, y3, y4, n, rfl, -, -, t0, t1, t2, t3, t4⟩ := open_agg5 Try.underlying23 (by kernel_rfl) (by kernel_rfl) hv h
  obtain ⟨s, e0, -, w0⟩ := DataW.trod_int Try.underlying3 t0
  obtain ⟨v', e1, -, w1⟩ := DataW.trod_int Try.underlying3 t1
  obtain ⟨rto, e2, -, w2⟩ := DataW.trod_int Try.underlying3 t2
  obtain ⟨f, e3, -, w3⟩ := DataW.trod_int Try.underlying3 t3
  obtain ⟨has, e4, -⟩ := DataW.trod_bool Try.underlying4 t4
  simp only [List.cons.injEq, and_true] at e0 e1 e2 e3 e4
  subst e0; subst e1; subst e2; subst e3; subst e4
  exact ⟨s, v', rto, f, has, rfl, w0, w1, w2, w3⟩

theorem sample_to {s v rto f : Int} {has : Bool} {r : Int} {s' v' rto' f' : Int} {has' : Bool} (h : Rtt.sample ⟨s, v, rto, f, has⟩ r = ⟨s', v', rto', f', has'⟩) (w : World) :
    Calls Try.prog 13 #[.agg #[.int .i64 s, .int .i64 v, .int .i64 rto, .int .i64 f, .bool has], .int .i64 r] w fun e w' => e = .returned (.agg #[.int .i64 s', .int .i64 v', .int .i64 rto', .int .i64 f', .bool has']) ∧ Below w.heap.size w w' := by
  have := sample_any s v rto f has r w
  rw [h] at this
  exact this
theorem rsample_to {s v rto f : Int} {has : Bool} {r : Int} {s' v' rto' f' : Int} {has' : Bool} (h : Rtt.sample ⟨s, v, rto, f, has⟩ r = ⟨s', v', rto', f', has'⟩) (w : World) :
    Calls Try.prog 14 #[.agg #[.int .i64 s, .int .i64 v, .int .i64 rto, .int .i64 f, .bool has], .int .i64 r] w fun e w' => e = .returned (.agg #[.int .i64 s', .int .i64 v', .int .i64 rto', .int .i64 f', .bool has']) ∧ Below w.heap.size w w' := by
  have := rsample_any s v rto f has r w
  rw [h] at this
  exact this
theorem backoff_to {s v rto f : Int} {has : Bool} {s' v' rto' f' : Int} {has' : Bool} (h : Rtt.backoff ⟨s, v, rto, f, has⟩ = ⟨s', v', rto', f', has'⟩) (w : World) :
    Calls Try.prog 15 #[.agg #[.int .i64 s, .int .i64 v, .int .i64 rto, .int .i64 f, .bool has]] w fun e w' => e = .returned (.agg #[.int .i64 s', .int .i64 v', .int .i64 rto', .int .i64 f', .bool has']) ∧ Below w.heap.size w w' := by
  have := backoff_any s v rto f has w
  rw [h] at this
  exact this
theorem rbackoff_to {s v rto f : Int} {has : Bool} {s' v' rto' f' : Int} {has' : Bool} (h : Rtt.backoff ⟨s, v, rto, f, has⟩ = ⟨s', v', rto', f', has'⟩) (w : World) :
    Calls Try.prog 16 #[.agg #[.int .i64 s, .int .i64 v, .int .i64 rto, .int .i64 f, .bool has]] w fun e w' => e = .returned (.agg #[.int .i64 s', .int .i64 v', .int .i64 rto', .int .i64 f', .bool has']) ∧ Below w.heap.size w w' := by
  have := rbackoff_any s v rto f has w
  rw [h] at this
  exact this

set_option maxHeartbeats 400000 in
theorem small_any (w : World) : Calls Try.prog 10 #[] w fun e w' => e = .returned (.bool true) ∧ Below w.heap.size w w' := by
  have e1 : Rtt.sample ⟨0, 0, 8, 0, false⟩ 10 = ⟨80, 20, 30, 0, true⟩ := by rfl
  have e2 : Rtt.sample ⟨80, 20, 30, 0, true⟩ 18 = ⟨88, 23, 34, 0, true⟩ := by rfl
  have e3 : Rtt.backoff ⟨80, 20, 30, 0, true⟩ = ⟨80, 20, 60, 1, true⟩ := by rfl
  have e4 : Rtt.backoff ⟨0, 0, 0, 0, false⟩ = ⟨0, 0, 16, 1, false⟩ := by rfl
  have E1 := Lib.hid e1
  have E2 := Lib.hid e2
  have E3 := Lib.hid e3
  have E4 := Lib.hid e4
  clear e1 e2 e3 e4
  have r1 : Rtt.right ⟨0, 0, 8, 0, false⟩ = true := by rfl
  have r2 : Rtt.right ⟨0, 0, 0, 0, false⟩ = false := by rfl
  go_enter Try.func10, Try.ntmps10
  go_wp2_with fail
  refine (start_any _).mono ?_
  rintro e w1 ⟨rfl, hb1⟩
  go_wp2_with fail
  refine (sample_to E1.out _).mono ?_
  rintro e w2 ⟨rfl, hb2⟩
  obtain ⟨R1, z1, b2⟩ := new_kept hb2
  have k1 := row_cells R1
  go_wp2_with fail
  refine (sample_to E2.out _).mono ?_
  rintro e w3 ⟨rfl, hb3⟩
  obtain ⟨R2, z2, b3⟩ := new_kept hb3
  have R1' := row_kept R1 b3 z1
  have k2 := row_cells R2
  have k1' := row_cells R1'
  have z1' := lt_kept z1 b3
  clear k1
  go_wp2_with fail
  refine (right_any _ _ _ _ _ _).mono ?_
  rintro e w4 ⟨rfl, hb4⟩
  obtain ⟨R3, z3, b4⟩ := new_kept hb4
  have K1 := row_cells (row_kept R1' b4 z1')
  have K2 := row_cells (row_kept R2 b4 z2)
  have K3 := row_cells R3
  have B4 : Below w.heap.size w w4 := hb1.trans ((b2.mono hb1.size).trans ((b3.mono (by have := hb1.size; have := b2.size; omega)).trans (b4.mono (by have := hb1.size; have := b2.size; have := b3.size; omega))))
  have y1 : w1.heap.size < w4.heap.size := lt_kept z1' b4
  have y2 : w2.heap.size < w4.heap.size := lt_kept z2 b4
  clear hb1 hb2 hb3 hb4 b2 b3 b4 R1 R1' R2 R3 k1' k2
  go_wp2_with fail
  refine (right_any _ _ _ _ _ _).mono ?_
  rintro e w5 ⟨rfl, hb5⟩
  have L1 := cells_kept K1 hb5 y1
  have L2 := cells_kept K2 hb5 y2
  have L3 := cells_kept K3 hb5 z3
  have B5 := B4.trans (hb5.mono B4.size)
  clear K1 K2 K3
  go_wp2_with fail
  refine (backoff_to E3.out _).mono ?_
  rintro e w6 ⟨rfl, hb6⟩
  have B6 := B5.trans (hb6.mono B5.size)
  go_wp2_with fail
  refine (backoff_to E4.out _).mono ?_
  rintro e w7 ⟨rfl, hb7⟩
  have B7 := B6.trans (hb7.mono B6.size)
  go_wp2_with fail
  go_ret
  exact ⟨rfl, B7⟩
end Go.Proofs.Yteojpeldiodbhaa
