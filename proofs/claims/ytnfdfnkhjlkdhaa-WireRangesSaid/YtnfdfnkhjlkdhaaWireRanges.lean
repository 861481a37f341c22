/- WireRanges holds for any number: numbers of packets may be from their least to their greatest, and no further. No condition. -/
import Derived.Test.YtnfdfnkhjlkdhaaWireLaw
namespace Go.Proofs.Ytnfdfnkhjlkdhaa.wireRanges
open Go.ChangeShapes Go.WideShapes Go.ChangeAt Go.RowKit

def rp1 (n : Int) : Pk := ⟨[1, 0, 0, 0, 0, 0, 0, 0, 0, 0, n, 0], List.replicate 16 0, List.replicate 8 0⟩
theorem rp1_wf (n : Int) : (rp1 n).Wf := ⟨rfl, rfl, rfl⟩
theorem rp1_set (n : Int) : ((pcs pk0).set 0 (.int .i64 1)).set 10 (.int .i64 n) = pcs (rp1 n) := by rfl
theorem rp1_right (n : Int) : (rp1 n).right = (decide (0 ≤ n) && decide (n ≤ 1073741824)) := by
  have hk : (rp1 n).kind = 1 := rfl
  unfold Pk.right Pk.copied Pk.nobody
  rw [hk]
  simp [held, rp1, pkBare, Pt5.fits, Pt5.copy, ptNonce]
def rp2 (n : Int) : Pk := ⟨[5, n, 1, 0, 0, 0, 0, 0, 0, 0, 0, 0], List.replicate 16 0, List.replicate 8 0⟩
theorem rp2_wf (n : Int) : (rp2 n).Wf := ⟨rfl, rfl, rfl⟩
theorem rp2_set (n : Int) : (((pcs pk0).set 0 (.int .i64 5)).set 1 (.int .i64 n)).set 2 (.int .i64 1) = pcs (rp2 n) := by rfl
theorem rp2_right (n : Int) : (rp2 n).right = (decide (1 ≤ n) && decide (n ≤ 1073741824)) := by
  have hk : (rp2 n).kind = 5 := rfl
  unfold Pk.right Pk.copied Pk.nobody
  rw [hk]
  simp [held, rp2, pkBare, Pt5.fits, Pt5.copy, ptSession, ptSeq, ptTag]
def rp3 (n : Int) : Pk := ⟨[5, 1, n, 0, 0, 0, 0, 0, 0, 0, 0, 0], List.replicate 16 0, List.replicate 8 0⟩
theorem rp3_wf (n : Int) : (rp3 n).Wf := ⟨rfl, rfl, rfl⟩
theorem rp3_set (n : Int) : (((pcs pk0).set 0 (.int .i64 5)).set 1 (.int .i64 1)).set 2 (.int .i64 n) = pcs (rp3 n) := by rfl
theorem rp3_right (n : Int) : (rp3 n).right = (decide (1 ≤ n) && decide (n ≤ 1073741824)) := by
  have hk : (rp3 n).kind = 5 := rfl
  unfold Pk.right Pk.copied Pk.nobody
  rw [hk]
  simp [held, rp3, pkBare, Pt5.fits, Pt5.copy, ptSession, ptSeq, ptTag]
def rp4 (n : Int) : Pk := ⟨[6, 1, 1, 0, 0, n, 0, 0, 0, 0, 0, 0], List.replicate 16 0, List.replicate 8 0⟩
theorem rp4_wf (n : Int) : (rp4 n).Wf := ⟨rfl, rfl, rfl⟩
theorem rp4_set (n : Int) : ((((pcs pk0).set 0 (.int .i64 6)).set 1 (.int .i64 1)).set 2 (.int .i64 1)).set 5 (.int .i64 n) = pcs (rp4 n) := by rfl
theorem rp4_right (n : Int) : (rp4 n).right = (decide (1 ≤ n) && decide (n ≤ 3)) := by
  have hk : (rp4 n).kind = 6 := rfl
  unfold Pk.right Pk.copied Pk.nobody
  rw [hk]
  simp [held, rp4, pkBare, Pt5.fits, Pt5.copy, ptSession, ptSeq, ptStatus, ptTag]
def rp5 (n : Int) : Pk := ⟨[7, 1, 1, 1, n, 0, 0, 0, 0, 0, 0, 0], List.replicate 16 0, List.replicate 8 0⟩
theorem rp5_wf (n : Int) : (rp5 n).Wf := ⟨rfl, rfl, rfl⟩
theorem rp5_set (n : Int) : (((((pcs pk0).set 0 (.int .i64 7)).set 1 (.int .i64 1)).set 2 (.int .i64 1)).set 4 (.int .i64 n)).set 3 (.int .i64 1) = pcs (rp5 n) := by rfl
theorem rp5_right (n : Int) : (rp5 n).right = (decide (1 ≤ n) && decide (n ≤ 7)) := by
  have hk : (rp5 n).kind = 7 := rfl
  unfold Pk.right Pk.copied Pk.nobody
  rw [hk]
  simp [held, rp5, pkBare, Pt5.fits, Pt5.copy, ptSession, ptSeq, ptOp, ptUser, ptTag]
def rp6 (n : Int) : Pk := ⟨[7, 1, 1, n, 1, 0, 0, 0, 0, 0, 0, 0], List.replicate 16 0, List.replicate 8 0⟩
theorem rp6_wf (n : Int) : (rp6 n).Wf := ⟨rfl, rfl, rfl⟩
theorem rp6_set (n : Int) : (((((pcs pk0).set 0 (.int .i64 7)).set 1 (.int .i64 1)).set 2 (.int .i64 1)).set 4 (.int .i64 1)).set 3 (.int .i64 n) = pcs (rp6 n) := by rfl
theorem rp6_right (n : Int) : (rp6 n).right = (decide (1 ≤ n) && decide (n ≤ 16)) := by
  have hk : (rp6 n).kind = 7 := rfl
  unfold Pk.right Pk.copied Pk.nobody
  rw [hk]
  simp [held, rp6, pkBare, Pt5.fits, Pt5.copy, ptSession, ptSeq, ptOp, ptUser, ptTag]
def rp7 (n : Int) : Pk := ⟨[8, 1, 1, n, 0, 0, 0, 0, 0, 0, 0, 0], List.replicate 16 0, List.replicate 8 0⟩
theorem rp7_wf (n : Int) : (rp7 n).Wf := ⟨rfl, rfl, rfl⟩
theorem rp7_set (n : Int) : ((((pcs pk0).set 0 (.int .i64 8)).set 1 (.int .i64 1)).set 2 (.int .i64 1)).set 3 (.int .i64 n) = pcs (rp7 n) := by rfl
theorem rp7_right (n : Int) : (rp7 n).right = (decide (0 ≤ n) && decide (n ≤ 16)) := by
  have hk : (rp7 n).kind = 8 := rfl
  unfold Pk.right Pk.copied Pk.nobody
  rw [hk]
  simp [held, rp7, pkBare, Pt5.fits, Pt5.copy, ptSession, ptSeq, ptUser, ptVersion, ptStatus, ptCount, ptTag]
def rp8 (n : Int) : Pk := ⟨[8, 1, 1, 1, 0, 0, n, 0, 0, 0, 0, 0], List.replicate 16 0, List.replicate 8 0⟩
theorem rp8_wf (n : Int) : (rp8 n).Wf := ⟨rfl, rfl, rfl⟩
theorem rp8_set (n : Int) : (((((pcs pk0).set 0 (.int .i64 8)).set 1 (.int .i64 1)).set 2 (.int .i64 1)).set 3 (.int .i64 1)).set 6 (.int .i64 n) = pcs (rp8 n) := by rfl
theorem rp8_right (n : Int) : (rp8 n).right = (decide (0 ≤ n) && decide (n ≤ 4)) := by
  have hk : (rp8 n).kind = 8 := rfl
  unfold Pk.right Pk.copied Pk.nobody
  rw [hk]
  simp [held, rp8, pkBare, Pt5.fits, Pt5.copy, ptSession, ptSeq, ptUser, ptVersion, ptStatus, ptCount, ptTag]
def rp9 (n : Int) : Pk := ⟨[9, 1, 0, 0, 0, 0, 0, 0, 0, n, 0, 0], List.replicate 16 0, List.replicate 8 0⟩
theorem rp9_wf (n : Int) : (rp9 n).Wf := ⟨rfl, rfl, rfl⟩
theorem rp9_set (n : Int) : (((pcs pk0).set 0 (.int .i64 9)).set 1 (.int .i64 1)).set 9 (.int .i64 n) = pcs (rp9 n) := by rfl
theorem rp9_right (n : Int) : (rp9 n).right = (decide (0 ≤ n) && decide (n ≤ 255)) := by
  have hk : (rp9 n).kind = 9 := rfl
  unfold Pk.right Pk.copied Pk.nobody
  rw [hk]
  simp [held, rp9, pkBare, Pt5.fits, Pt5.copy, ptSession, ptAck, ptSack, ptTag]
def rp10 (n : Int) : Pk := ⟨[12, 0, 0, 0, n, 0, 0, 0, 0, 0, 0, 0], List.replicate 16 0, List.replicate 8 0⟩
theorem rp10_wf (n : Int) : (rp10 n).Wf := ⟨rfl, rfl, rfl⟩
theorem rp10_set (n : Int) : ((pcs pk0).set 0 (.int .i64 12)).set 4 (.int .i64 n) = pcs (rp10 n) := by rfl
theorem rp10_right (n : Int) : (rp10 n).right = (decide (0 ≤ n) && decide (n ≤ 15)) := by
  have hk : (rp10 n).kind = 12 := rfl
  unfold Pk.right Pk.copied Pk.nobody
  rw [hk]
  simp [held, rp10, pkBare, Pt5.fits, Pt5.copy, ptNonce, ptOp]
def rp11 (n : Int) : Pk := ⟨[1, 0, 0, 0, 0, 0, 0, 0, n, 0, 0, 0], List.replicate 16 0, List.replicate 8 0⟩
theorem rp11_wf (n : Int) : (rp11 n).Wf := ⟨rfl, rfl, rfl⟩
theorem rp11_set (n : Int) : ((pcs pk0).set 0 (.int .i64 1)).set 8 (.int .i64 n) = pcs (rp11 n) := by rfl
theorem rp11_right (n : Int) : (rp11 n).right = decide (n = 0) := by
  have hk : (rp11 n).kind = 1 := rfl
  unfold Pk.right Pk.copied Pk.nobody
  rw [hk]
  simp [held, rp11, pkBare, Pt5.fits, Pt5.copy, ptNonce]
set_option maxRecDepth 100000 in
set_option maxHeartbeats 16000000 in
theorem neg (w : World) (n : Int) (h1 : n < 0) :
    Calls Try.prog 9 #[.int .i64 n] w fun e w' => e = .returned (.bool true) ∧ Below w.heap.size w w' := by
  have zpk := zero_pk
  have e1 := rp1_set n
  have e2 := rp2_set n
  have e3 := rp3_set n
  have e4 := rp4_set n
  have e5 := rp5_set n
  have e6 := rp6_set n
  have e7 := rp7_set n
  have e8 := rp8_set n
  have e9 := rp9_set n
  have e10 := rp10_set n
  have e11 := rp11_set n
  have z1 : decide (n = 0) = false := decide_eq_false (by omega)
  have z2 : (n != 0) = true := bne_iff_ne.2 (by omega)
  go_enter Try.func9, Try.ntmps9
  go_wp2_with fail
  refine (small_any _).mono ?_
  rintro e w1 ⟨rfl, B⟩
  go_wp2_with (first
      | (go_at_call 15; with_reducible refine (right_any (rp1 n) (rp1_wf n) _).mono ?_; rintro e w' ⟨rfl, hb⟩; rw [rp1_right]; have B := B.trans (hb.mono B.size); clear hb)
      | (go_at_call 15; with_reducible refine (right_any (rp2 n) (rp2_wf n) _).mono ?_; rintro e w' ⟨rfl, hb⟩; rw [rp2_right]; have B := B.trans (hb.mono B.size); clear hb)
      | (go_at_call 15; with_reducible refine (right_any (rp3 n) (rp3_wf n) _).mono ?_; rintro e w' ⟨rfl, hb⟩; rw [rp3_right]; have B := B.trans (hb.mono B.size); clear hb)
      | (go_at_call 15; with_reducible refine (right_any (rp4 n) (rp4_wf n) _).mono ?_; rintro e w' ⟨rfl, hb⟩; rw [rp4_right]; have B := B.trans (hb.mono B.size); clear hb)
      | (go_at_call 15; with_reducible refine (right_any (rp5 n) (rp5_wf n) _).mono ?_; rintro e w' ⟨rfl, hb⟩; rw [rp5_right]; have B := B.trans (hb.mono B.size); clear hb)
      | (go_at_call 15; with_reducible refine (right_any (rp6 n) (rp6_wf n) _).mono ?_; rintro e w' ⟨rfl, hb⟩; rw [rp6_right]; have B := B.trans (hb.mono B.size); clear hb)
      | (go_at_call 15; with_reducible refine (right_any (rp7 n) (rp7_wf n) _).mono ?_; rintro e w' ⟨rfl, hb⟩; rw [rp7_right]; have B := B.trans (hb.mono B.size); clear hb)
      | (go_at_call 15; with_reducible refine (right_any (rp8 n) (rp8_wf n) _).mono ?_; rintro e w' ⟨rfl, hb⟩; rw [rp8_right]; have B := B.trans (hb.mono B.size); clear hb)
      | (go_at_call 15; with_reducible refine (right_any (rp9 n) (rp9_wf n) _).mono ?_; rintro e w' ⟨rfl, hb⟩; rw [rp9_right]; have B := B.trans (hb.mono B.size); clear hb)
      | (go_at_call 15; with_reducible refine (right_any (rp10 n) (rp10_wf n) _).mono ?_; rintro e w' ⟨rfl, hb⟩; rw [rp10_right]; have B := B.trans (hb.mono B.size); clear hb)
      | (go_at_call 15; with_reducible refine (right_any (rp11 n) (rp11_wf n) _).mono ?_; rintro e w' ⟨rfl, hb⟩; rw [rp11_right]; have B := B.trans (hb.mono B.size); clear hb)
      )
  go_ret
  exact ⟨rfl, B⟩
set_option maxRecDepth 100000 in
set_option maxHeartbeats 16000000 in
theorem zero (w : World) :
    Calls Try.prog 9 #[.int .i64 0] w fun e w' => e = .returned (.bool true) ∧ Below w.heap.size w w' := by
  have zpk := zero_pk
  have e1 := rp1_set 0
  have e2 := rp2_set 0
  have e3 := rp3_set 0
  have e4 := rp4_set 0
  have e5 := rp5_set 0
  have e6 := rp6_set 0
  have e7 := rp7_set 0
  have e8 := rp8_set 0
  have e9 := rp9_set 0
  have e10 := rp10_set 0
  have e11 := rp11_set 0
  go_enter Try.func9, Try.ntmps9
  go_wp2_with fail
  refine (small_any _).mono ?_
  rintro e w1 ⟨rfl, B⟩
  go_wp2_with (first
      | (go_at_call 15; with_reducible refine (right_any (rp1 0) (rp1_wf 0) _).mono ?_; rintro e w' ⟨rfl, hb⟩; rw [rp1_right]; have B := B.trans (hb.mono B.size); clear hb)
      | (go_at_call 15; with_reducible refine (right_any (rp2 0) (rp2_wf 0) _).mono ?_; rintro e w' ⟨rfl, hb⟩; rw [rp2_right]; have B := B.trans (hb.mono B.size); clear hb)
      | (go_at_call 15; with_reducible refine (right_any (rp3 0) (rp3_wf 0) _).mono ?_; rintro e w' ⟨rfl, hb⟩; rw [rp3_right]; have B := B.trans (hb.mono B.size); clear hb)
      | (go_at_call 15; with_reducible refine (right_any (rp4 0) (rp4_wf 0) _).mono ?_; rintro e w' ⟨rfl, hb⟩; rw [rp4_right]; have B := B.trans (hb.mono B.size); clear hb)
      | (go_at_call 15; with_reducible refine (right_any (rp5 0) (rp5_wf 0) _).mono ?_; rintro e w' ⟨rfl, hb⟩; rw [rp5_right]; have B := B.trans (hb.mono B.size); clear hb)
      | (go_at_call 15; with_reducible refine (right_any (rp6 0) (rp6_wf 0) _).mono ?_; rintro e w' ⟨rfl, hb⟩; rw [rp6_right]; have B := B.trans (hb.mono B.size); clear hb)
      | (go_at_call 15; with_reducible refine (right_any (rp7 0) (rp7_wf 0) _).mono ?_; rintro e w' ⟨rfl, hb⟩; rw [rp7_right]; have B := B.trans (hb.mono B.size); clear hb)
      | (go_at_call 15; with_reducible refine (right_any (rp8 0) (rp8_wf 0) _).mono ?_; rintro e w' ⟨rfl, hb⟩; rw [rp8_right]; have B := B.trans (hb.mono B.size); clear hb)
      | (go_at_call 15; with_reducible refine (right_any (rp9 0) (rp9_wf 0) _).mono ?_; rintro e w' ⟨rfl, hb⟩; rw [rp9_right]; have B := B.trans (hb.mono B.size); clear hb)
      | (go_at_call 15; with_reducible refine (right_any (rp10 0) (rp10_wf 0) _).mono ?_; rintro e w' ⟨rfl, hb⟩; rw [rp10_right]; have B := B.trans (hb.mono B.size); clear hb)
      | (go_at_call 15; with_reducible refine (right_any (rp11 0) (rp11_wf 0) _).mono ?_; rintro e w' ⟨rfl, hb⟩; rw [rp11_right]; have B := B.trans (hb.mono B.size); clear hb)
      )
  go_ret
  exact ⟨rfl, B⟩
set_option maxRecDepth 100000 in
set_option maxHeartbeats 16000000 in
theorem pos (w : World) (n : Int) (h1 : 1 ≤ n) :
    Calls Try.prog 9 #[.int .i64 n] w fun e w' => e = .returned (.bool true) ∧ Below w.heap.size w w' := by
  have zpk := zero_pk
  have e1 := rp1_set n
  have e2 := rp2_set n
  have e3 := rp3_set n
  have e4 := rp4_set n
  have e5 := rp5_set n
  have e6 := rp6_set n
  have e7 := rp7_set n
  have e8 := rp8_set n
  have e9 := rp9_set n
  have e10 := rp10_set n
  have e11 := rp11_set n
  have z1 : decide (n = 0) = false := decide_eq_false (by omega)
  have z2 : (n != 0) = true := bne_iff_ne.2 (by omega)
  have h0 : 0 ≤ n := by omega
  go_enter Try.func9, Try.ntmps9
  go_wp2_with fail
  refine (small_any _).mono ?_
  rintro e w1 ⟨rfl, B⟩
  go_wp2_with (first
      | (go_at_call 15; with_reducible refine (right_any (rp1 n) (rp1_wf n) _).mono ?_; rintro e w' ⟨rfl, hb⟩; rw [rp1_right]; have B := B.trans (hb.mono B.size); clear hb)
      | (go_at_call 15; with_reducible refine (right_any (rp2 n) (rp2_wf n) _).mono ?_; rintro e w' ⟨rfl, hb⟩; rw [rp2_right]; have B := B.trans (hb.mono B.size); clear hb)
      | (go_at_call 15; with_reducible refine (right_any (rp3 n) (rp3_wf n) _).mono ?_; rintro e w' ⟨rfl, hb⟩; rw [rp3_right]; have B := B.trans (hb.mono B.size); clear hb)
      | (go_at_call 15; with_reducible refine (right_any (rp4 n) (rp4_wf n) _).mono ?_; rintro e w' ⟨rfl, hb⟩; rw [rp4_right]; have B := B.trans (hb.mono B.size); clear hb)
      | (go_at_call 15; with_reducible refine (right_any (rp5 n) (rp5_wf n) _).mono ?_; rintro e w' ⟨rfl, hb⟩; rw [rp5_right]; have B := B.trans (hb.mono B.size); clear hb)
      | (go_at_call 15; with_reducible refine (right_any (rp6 n) (rp6_wf n) _).mono ?_; rintro e w' ⟨rfl, hb⟩; rw [rp6_right]; have B := B.trans (hb.mono B.size); clear hb)
      | (go_at_call 15; with_reducible refine (right_any (rp7 n) (rp7_wf n) _).mono ?_; rintro e w' ⟨rfl, hb⟩; rw [rp7_right]; have B := B.trans (hb.mono B.size); clear hb)
      | (go_at_call 15; with_reducible refine (right_any (rp8 n) (rp8_wf n) _).mono ?_; rintro e w' ⟨rfl, hb⟩; rw [rp8_right]; have B := B.trans (hb.mono B.size); clear hb)
      | (go_at_call 15; with_reducible refine (right_any (rp9 n) (rp9_wf n) _).mono ?_; rintro e w' ⟨rfl, hb⟩; rw [rp9_right]; have B := B.trans (hb.mono B.size); clear hb)
      | (go_at_call 15; with_reducible refine (right_any (rp10 n) (rp10_wf n) _).mono ?_; rintro e w' ⟨rfl, hb⟩; rw [rp10_right]; have B := B.trans (hb.mono B.size); clear hb)
      | (go_at_call 15; with_reducible refine (right_any (rp11 n) (rp11_wf n) _).mono ?_; rintro e w' ⟨rfl, hb⟩; rw [rp11_right]; have B := B.trans (hb.mono B.size); clear hb)
      )
  go_ret
  exact ⟨rfl, B⟩
theorem walk (w : World) (n : Int) (wn : (Lit.int .i64 n).wf = true) :
    Calls Try.prog 9 #[.int .i64 n] w fun e w' => e = .returned (.bool true) ∧ Below w.heap.size w w' := by
  have hcase : n < 0 ∨ n = 0 ∨ 1 ≤ n := by omega
  rcases hcase with h | rfl | h
  · exact neg w n h
  · exact zero w
  · exact pos w n h
theorem own : ownKnob Try.prog.godebug = none := by kernel_rfl
theorem laid : laidOutB Try.prog = true := by kernel_rfl

set_option maxRecDepth 100000 in
theorem lifted (os : Os) (started : os.Started) (H : Type) (enc : TypeId × Value → H) :
    ReturnsInHanded {} Try.checked os 9 .any (Rows.wireRangesSpec.pre6 enc Try.prog Try.f9 Rows.wireRangesRow.domain false) (Rows.wireRangesSpec.post enc Try.prog Try.f9 false true false false) := by
  refine law_lifted (C := Try.checked) (B := 4) own started (by kernel_rfl) Try.func9
    (ChangeSpec.witness6 (enc := enc) (C := Try.checked) false ⟨#[], #[.int .i64 0], []⟩ 8 (by kernel_rfl) (by kernel_rfl) (by kernel_rfl) (by kernel_rfl))
    rfl rfl Try.underlying4 laid (of_decide_eq_true (by kernel_rfl)) ?_ ?_
  · intro ds hl
    rw [Try.params9] at hl
    match ds, hl with
    | [d0], _ => rfl
  · intro W base args ds ps hval hA hlt hz
    rw [Try.params9] at hA hval
    obtain ⟨v0, vs0, d0, ds0, p0, q0, hargs, rfl, rfl, h0, r0⟩ := trodAll_cons hA
    obtain ⟨rfl, rfl, rfl⟩ := trodAll_nil r0
    obtain rfl : args = #[v0] := by cases args; simp_all
    obtain ⟨a0, rfl, rfl, rfl, w0⟩ := open_int Try.underlying3 (hval 0 3 v0 rfl rfl) h0
    exact walk W a0 w0

theorem over : Rows.wireRangesRow.holds Try.pinned (OpenSpec.ofChange Rows.wireRangesSpec) :=
  OpenClaim.holds_of_wide 9 Try.f9 rfl rfl rfl rfl rfl rfl rfl ⟨rfl, rfl, rfl, rfl, rfl⟩ rfl rfl rfl rfl rfl (by kernel_rfl) Try.func9 (by kernel_rfl)
    (of_decide_eq_true (by kernel_rfl)) (by unfold Func.isWrapper; first | (rw [if_pos (by decide +kernel)]; kernel_rfl) | (rw [if_neg (by decide +kernel)]; exact ⟨rfl, rfl⟩))
    (fun os started H enc _ => lifted os started H enc)

theorem proved : Rows.WireRangesSaid := over
#print axioms proved
end Go.Proofs.Ytnfdfnkhjlkdhaa.wireRanges
