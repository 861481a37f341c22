/- RttBackoffs holds for any Rtt and however many: each failure doubles the wait, up to 64. No condition. -/
import Derived.Test.YteojpeldiodbhaaRttOpen
import Derived.Test.YteojpeldiodbhaaRttMath2
namespace Go.Proofs.Yteojpeldiodbhaa.rttBackoffs
open Go.ChangeShapes Go.WideShapes Go.ChangeAt Go.RowKit

def cells (x : Rtt) : Array Value := #[.int .i64 x.s, .int .i64 x.v, .int .i64 x.rto, .int .i64 x.fails, .bool x.has]
def At (w : World) (g : Nat) (x e : Rtt) (wr : World) : Prop := wr.heap[g]? = some (.cells (cells x) 23) ∧ wr.heap[w.heap.size]? = some (.cells (cells e) 23) ∧ w.heap.size < g ∧ Below w.heap.size w wr

set_option maxHeartbeats 1000000 in
theorem walk (w : World) (s v rto f : Int) (has : Bool) (ws : (Lit.int .i64 s).wf = true) (wv : (Lit.int .i64 v).wf = true) (wr : (Lit.int .i64 rto).wf = true) (wf : (Lit.int .i64 f).wf = true) (n : Int) (wn : (Lit.int .i64 n).wf = true) :
    Calls Try.prog 9 #[.agg #[.int .i64 s, .int .i64 v, .int .i64 rto, .int .i64 f, .bool has], .int .i64 n] w fun e w' => e = .returned (.bool true) ∧ Below w.heap.size w w' := by
  clear ws wv wr wf wn
  by_cases hr : Rtt.right ⟨s, v, rto, f, has⟩ = true
  · by_cases h : n < 0 ∨ 200 < n
    · rcases h with h | h
      all_goals
        go_enter Try.func9, Try.ntmps9
        go_wp2_with fail
        refine (small_any _).mono ?_
        rintro e' w1 ⟨rfl, hb1⟩
        obtain ⟨R1, z1, b1⟩ := new_kept hb1
        have K1 := row_cells R1
        clear hb1
        go_wp2_with (first
          | (go_at_call 11; refine (right_any _ _ _ _ _ _).mono ?_; rintro e w2 ⟨rfl, hb2⟩)
          )
        all_goals (first | (go_ret; exact ⟨rfl, b1.trans (hb2.mono b1.size)⟩) | (exfalso; omega))
    · have g1 : 0 ≤ n := by omega
      have g2 : n ≤ 200 := by omega
      clear h
      have ho := (Rtt.right_iff _).1 hr
      obtain ⟨m, rfl⟩ := Int.eq_ofNat_of_zero_le g1
      have HO := Lib.hid ho
      obtain ⟨a1, a2, a3, a4, a5, a6, a7, a8, -⟩ := ho
      simp only at a1 a2 a3 a4 a5 a6 a7 a8
      have HW := Lib.hid (Rtt.wants_bd rto a5 a6)
      go_enter Try.func9, Try.ntmps9
      go_wp2_with fail
      refine (small_any _).mono ?_
      rintro e' w1 ⟨rfl, hb1⟩
      obtain ⟨R1, z1, b1⟩ := new_kept hb1
      have K1 := row_cells R1
      clear hb1
      go_wp2_with fail
      refine (right_any _ _ _ _ _ _).mono ?_
      rintro e w2 ⟨rfl, hb2⟩
      have K2 := cells_kept K1 hb2 z1
      have R2 := row_kept R1 hb2 z1
      have z2 := lt_kept z1 hb2
      have b2 := b1.trans (hb2.mono b1.size)
      clear K1 R1 hb2 b1
      go_wp2_with fail
      go_loopw [7, 8] (fun q i wr => ∃ (k : Nat), k ≤ m ∧ i = .int .i64 k ∧ q = .int .i64 (Rtt.wants rto k) ∧ At w w2.heap.size (Rtt.backs ⟨s, v, rto, f, has⟩ k) ⟨s, v, rto, f, has⟩ wr) (fun _ i _ => m - (intOf i).toNat)
      case atStart => exact ⟨0, Nat.zero_le _, rfl, rfl, (MapKept.heap_alloc _ _).1, by rw [Below.heap_alloc _ _ _ z2]; exact R2, z2, b2.alloc b2.size _⟩
      case round =>
        obtain ⟨k, hk, rfl, rfl, hA⟩ := hrel
        clear K2 R2 b2
        by_cases hkm : k < m
        · have Hy := Lib.hid (show Rtt.backoff (Rtt.backs ⟨s, v, rto, f, has⟩ k) = Rtt.backs ⟨s, v, rto, f, has⟩ (k + 1) from rfl)
          have HA := Lib.hid hA
          clear hA
          have HWn := Lib.hid (show Rtt.wants rto (k + 1) = min (2 * Rtt.wants rto k) 64 from rfl)
          obtain ⟨u1, u2⟩ := HW.out k
          generalize Rtt.wants rto k = q at u1 u2 HWn
          generalize Rtt.backs ⟨s, v, rto, f, has⟩ k = x at HA Hy
          generalize hy : Rtt.backs ⟨s, v, rto, f, has⟩ (k + 1) = y at Hy
          have Hyy := Lib.hid hy
          clear hy
          obtain ⟨x1, x2, x3, x4, x5⟩ := x
          obtain ⟨y1, y2, y3, y4, y5⟩ := y
          obtain ⟨R, R0, hg, B⟩ := HA.out
          unfold cells at R
          have hlt := row_lt R
          have hl0 := row_lt R0
          have K := row_cells R
          go_wp2_with (first
            | (go_at_call 15; refine (backoff_to Hy.out _).mono ?_; rintro e w3 ⟨rfl, hb3⟩; have R3 := row_kept R hb3 hlt; have R03 := row_kept R0 hb3 hl0; obtain ⟨s0, s1, c0, c1, f0, f1, z1⟩ := rows1 R3)
            )
          all_goals
            go_roundw
            case rel => exact ⟨k + 1, by omega, by go_num, by rw [HWn.out]; go_num, by rw [Hyy.out]; exact ⟨row_written R3, (setRow_far (by omega)).trans R03, hg, setRow_below (B.trans (hb3.mono B.size)) (by omega)⟩⟩
            case measure => simp [intOf]; omega
        · obtain rfl : k = m := by omega
          have e1 := Rtt.backs_rto _ HO.out k
          obtain ⟨e2, e3, e4, e5⟩ := Rtt.backs_same _ HO.out k
          generalize Rtt.backs ⟨s, v, rto, f, has⟩ k = x at e1 e2 e3 e4 e5 hA
          obtain ⟨x1, x2, x3, x4, x5⟩ := x
          simp only at e1 e2 e3 e4 e5
          subst e1; subst e2; subst e3; subst e4
          obtain ⟨R, R0, hg, B⟩ := hA
          unfold cells at R R0
          have K := row_cells R
          have K0 := row_cells R0
          clear hk hkm
          by_cases c1 : 100 < f + k
          · obtain rfl : x4 = 100 := by omega
            clear e5
            go_wp2
            go_ret
            exact ⟨rfl, B⟩
          · obtain rfl : x4 = f + k := by omega
            clear e5
            go_wp2
            go_ret
            exact ⟨rfl, B⟩
  · have hr2 : Rtt.right ⟨s, v, rto, f, has⟩ = false := by simpa using hr
    clear hr
    go_enter Try.func9, Try.ntmps9
    go_wp2_with fail
    refine (small_any _).mono ?_
    rintro e' w1 ⟨rfl, hb1⟩
    obtain ⟨R1, z1, b1⟩ := new_kept hb1
    have K1 := row_cells R1
    clear hb1
    go_wp2_with (first
      | (go_at_call 11; refine (right_any _ _ _ _ _ _).mono ?_; rintro e w2 ⟨rfl, hb2⟩)
      )
    go_ret
    exact ⟨rfl, b1.trans (hb2.mono b1.size)⟩

theorem own : ownKnob Try.prog.godebug = none := by kernel_rfl
theorem laid : laidOutB Try.prog = true := by kernel_rfl

set_option maxRecDepth 100000 in
theorem lifted (os : Os) (started : os.Started) (H : Type) (enc : TypeId × Value → H) :
    ReturnsInHanded {} Try.checked os 9 .any (Rows.rttBackoffsSpec.pre6 enc Try.prog Try.f9 Rows.rttBackoffsRow.domain false) (Rows.rttBackoffsSpec.post enc Try.prog Try.f9 false true false false) := by
  refine law_lifted (C := Try.checked) (B := 4) own started (by kernel_rfl) Try.func9
    (ChangeSpec.witness6 (enc := enc) (C := Try.checked) false ⟨#[], #[.agg #[.int .i64 0, .int .i64 0, .int .i64 0, .int .i64 0, .bool false], .int .i64 0], []⟩ 8 (by kernel_rfl) (by kernel_rfl) (by kernel_rfl) (by kernel_rfl))
    rfl rfl Try.underlying4 laid (of_decide_eq_true (by kernel_rfl)) ?_ ?_
  · intro ds hl
    rw [Try.params9] at hl
    match ds, hl with
    | [d0, d1], _ => rfl
  · intro W base args ds ps hval hA hlt hz
    rw [Try.params9] at hA hval
    obtain ⟨v0, vs0, d0, ds0, p0, q0, hargs, rfl, rfl, h0, r0⟩ := trodAll_cons hA
    obtain ⟨v1, vs1, d1, ds1, p1, q1, rfl, rfl, rfl, h1, r1⟩ := trodAll_cons r0
    obtain ⟨rfl, rfl, rfl⟩ := trodAll_nil r1
    obtain rfl : args = #[v0, v1] := by cases args; simp_all
    obtain ⟨s0, v'0, rto0, f0, has0, rfl, ws0, wv0, wr0, wf0⟩ := open_rtt (hval 0 23 v0 rfl rfl) h0
    obtain ⟨a1, rfl, rfl, rfl, w1⟩ := open_int Try.underlying3 (hval 1 3 v1 rfl rfl) h1
    exact walk W s0 v'0 rto0 f0 has0 ws0 wv0 wr0 wf0 a1 w1

theorem over : Rows.rttBackoffsRow.holds Try.pinned (OpenSpec.ofChange Rows.rttBackoffsSpec) :=
  OpenClaim.holds_of_wide 9 Try.f9 rfl rfl rfl rfl rfl rfl rfl ⟨rfl, rfl, rfl, rfl, rfl⟩ rfl rfl rfl rfl rfl (by kernel_rfl) Try.func9 (by kernel_rfl)
    (of_decide_eq_true (by kernel_rfl)) (by unfold Func.isWrapper; first | (rw [if_pos (by decide +kernel)]; kernel_rfl) | (rw [if_neg (by decide +kernel)]; exact ⟨rfl, rfl⟩))
    (fun os started H enc _ => lifted os started H enc)

theorem proved : Rows.RttBackoffsSaid := over
#print axioms proved
end Go.Proofs.Yteojpeldiodbhaa.rttBackoffs
