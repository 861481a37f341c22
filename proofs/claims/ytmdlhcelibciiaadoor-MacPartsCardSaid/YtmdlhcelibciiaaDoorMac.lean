/- What package mac's functions come to. -/
import Derived.Test.YtmdlhcelibciiaaDoorDigTo
import Derived.Test.YtmdlhcelibciiaaDoorMacMath
namespace Go.Proofs.YtmdlhcelibciiaaDoor
open Go.ChangeShapes Go.WideShapes Go.ChangeAt Go.RowKit
abbrev b64T : TypeId := 34
theorem info_b64 : (Tryd.prog.info? b64T).map (·.size) = some 64 := by kernel_rfl
def z64 : List Int := List.replicate 64 0
theorem zero_b64 (W : World) : (zeroValue b64T).run Tryd.prog W = .ok (.agg (nrow .u8 z64).toArray) W := by kernel_rfl
theorem index64 (W : World) (l : List Int) (k : Nat) (hl : l.length = 64) (hk : k < 64) : (Instr.index b64T (.agg (nrow .u8 l).toArray) (.int .i64 (k : Int))).run Tryd.prog W = .ok (.int .u8 (l.getD k 0)) W := by
  have hp := part_int (P := Tryd.prog) Tryd.underlying5 W l k (by rw [hl]; exact hk)
  have hz : (sizeOf 5).run Tryd.prog W = .ok 1 W := by kernel_rfl
  unfold Instr.index
  simp only [asIntOf, Sem.run_bind, Sem.run_pure, Result.andThen_ok, run_underlying Tryd.underlying34]
  rw [if_pos ⟨by omega, by omega⟩]
  simp only [Sem.run_bind, hz, Result.andThen_ok, Int.toNat_natCast, hp]
theorem make64 (W : World) : (Instr.makeSlice 22 (.int .i64 64) (.int .i64 64)).run Tryd.prog W = .ok (.slice (some ⟨W.heap.size, 0, none⟩) 64 64) (W.alloc (.cells (ncs .u8 z64) 5)) := by
  obtain ⟨i0, hi, hz0, hz1, hz2⟩ := info_parts infoB
  have := run_make (P := Tryd.prog) W 22 5 i0 _ Tryd.underlying22 hi hz0 .i64 .i64 64 64 (by omega) (Int.le_refl _) (by rw [hz2]; omega) (by omega)
  rw [hz1, Nat.mul_one, show (Value.int .u8 0).cells = #[.int .u8 0] from rfl, made_zero] at this
  exact this
set_option maxRecDepth 100000 in
set_option maxHeartbeats 1000000 in
theorem masked_any (l : List Int) (hl : l.length = 64) (m : Int) (w : World) :
    Calls Tryd.prog 15 #[.agg (nrow .u8 l).toArray, .int .u8 m] w fun e w' => e = .returned (.slice (some ⟨w.heap.size + 1, 0, none⟩) 64 64) ∧ w'.heap[w.heap.size + 1]? = some (.cells (nrow .u8 (Mac.mask l m)).toArray 5) ∧ Below w.heap.size w w' := by
  have Hl := Lib.hid hl
  have HL := Lib.hid (show (nrow .u8 l).length = 64 by rw [nrow_len]; exact hl)
  have mk := make64
  clear hl
  obtain ⟨f0, f1, f2⟩ := two_new (w := w) _ (rfl : (w.alloc (.cells (nrow .u8 l).toArray b64T)).alloc (.cells (ncs .u8 z64) 5) = _)
  have F := Lib.hid (And.intro f0 (And.intro f1 f2))
  clear f0 f1 f2
  go_enter Tryd.func15, Tryd.ntmps15
  go_wp2_with (first
    | ((with_reducible refine wpl_arr Tryd.underlying34 info_b64 ?_ (.tmp 2) ?_ w.heap.size (nrow .u8 l) HL.out ?_ F.out.1 ?_); (rfl); (rfl); (rfl))
    )
  have R0 := F.out.2.1
  have B0 := F.out.2.2
  generalize (w.alloc (.cells (nrow .u8 l).toArray b64T)).alloc (.cells (ncs .u8 z64) 5) = W0 at R0 B0 ⊢
  clear F mk
  go_loopw [10] (fun i wr => ∃ k : Nat, k ≤ 64 ∧ i = .int .i64 k ∧ wr.heap[w.heap.size + 1]? = some (.cells (ncs .u8 (Sha.filled (Mac.mask l m) k 64)) 5) ∧ Below w.heap.size w wr) (fun i _ => 64 - (intOf i).toNat)
  case atStart => exact ⟨0, by omega, rfl, R0, B0⟩
  case round =>
    obtain ⟨k, hk, rfl, R, hB⟩ := hrel
    clear R0 B0
    by_cases hlt : k < 64
    · have q1 : (k : Int) < 64 := by omega
      have q0 : (0 : Int) ≤ (k : Int) := by omega
      have hlm : (Mac.mask l m).length = 64 := by rw [Mac.len_mask]; exact Hl.out
      have HE := Lib.hid (show ncs .u8 (Sha.filled (Mac.mask l m) (k + 1) 64) = (ncs .u8 (Sha.filled (Mac.mask l m) k 64)).setIfInBounds k (.int .u8 (bits .xor .u8 (l.getD k 0) m)) by
        rw [ncs_set, ← Sha.filled_set _ _ _ (by rw [hlm]; exact hlt) hlt, Mac.mask_at l m k (by rw [Hl.out]; exact hlt)]; rfl)
      have M0 := ncs_at .u8 (Sha.filled (Mac.mask l m) k 64) k (by rw [Sha.len_filled _ _ _ (by rw [hlm]; omega) (by omega)]; exact hlt)
      have M1 := fun W => index64 W l k Hl.out hlt
      generalize (Sha.filled (Mac.mask l m) k 64).getD k 0 = y at M0
      generalize ncs .u8 (Sha.filled (Mac.mask l m) k 64) = L at R M0 HE
      generalize l.getD k 0 = x at M1 HE
      obtain ⟨s0, s1, d0, d1, f0, f1, z1⟩ := rows1 R
      clear hlm
      go_wp2
      go_roundw
      case rel =>
        refine ⟨k + 1, by omega, by go_num, ?_, setRow_below hB (by omega)⟩
        rw [HE.out]
        exact row_written R
      case measure => simp [intOf]; omega
    · obtain rfl : k = 64 := by omega
      rw [Sha.filled_all _ _ (by rw [Mac.len_mask]; exact Hl.out)] at R
      rw [show ((64 : Nat) : Int) = 64 from rfl]
      go_wp2
      go_ret
      exact ⟨rfl, R, hB⟩
end Go.Proofs.YtmdlhcelibciiaaDoor
