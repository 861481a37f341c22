/- The digest's words as bytes. -/
import Derived.Test.YtlimcaajpoeoaaaDoorDig2
namespace Go.Proofs.YtlimcaajpoeoaaaDoor
open Go.ChangeShapes Go.WideShapes Go.ChangeAt Go.RowKit
abbrev b32T : TypeId := 24
theorem zero_b32 (W : World) : (zeroValue b32T).run Tryd.prog W = .ok (.agg (ncs .u8 (List.replicate 32 0))) W := by kernel_rfl
theorem info_b32 : (Tryd.prog.info? b32T).map (·.size) = some 32 := by kernel_rfl
theorem three_new {w : World} {c0 c1 c2 : Array Value} {t0 t1 t2 : TypeId} (W : World) (hW : W = ((w.alloc (.cells c0 t0)).alloc (.cells c1 t1)).alloc (.cells c2 t2)) :
    W.heap[w.heap.size]? = some (.cells c0 t0) ∧ W.heap[w.heap.size + 1]? = some (.cells c1 t1) ∧ W.heap[w.heap.size + 1 + 1]? = some (.cells c2 t2) ∧ Below w.heap.size w W := by
  subst hW
  have a0 : (w.alloc (.cells c0 t0)).heap.size = w.heap.size + 1 := by simp
  have a1 : ((w.alloc (.cells c0 t0)).alloc (.cells c1 t1)).heap.size = w.heap.size + 1 + 1 := by simp
  have b0 := (MapKept.heap_alloc w (.cells c0 t0)).1
  have b1 := (MapKept.heap_alloc (w.alloc (.cells c0 t0)) (.cells c1 t1)).1
  have b2 := (MapKept.heap_alloc ((w.alloc (.cells c0 t0)).alloc (.cells c1 t1)) (.cells c2 t2)).1
  rw [a0] at b1
  rw [a1] at b2
  refine ⟨?_, ?_, b2, ((((Below.refl _ _).alloc (Nat.le_refl _) _).alloc (by simp) _).alloc (by simp; omega) _)⟩
  · rw [Below.heap_alloc _ _ _ (by omega), Below.heap_alloc _ _ _ (by omega)]; exact b0
  · rw [Below.heap_alloc _ _ _ (by omega)]; exact b1

set_option maxRecDepth 100000 in
set_option maxHeartbeats 2000000 in
theorem laid_any (s : Sha.St) (w : World) :
    Calls Tryd.prog 12 #[.agg (Sha.cs s)] w fun e w' => e = .returned (.agg (ncs .u8 (Sha.lay s))) ∧ Below w.heap.size w w' := by
  have z0 := zero_b32
  unfold Sha.cs
  go_enter Tryd.func12, Tryd.ntmps12
  go_wp2
  go_loopw [5] (fun i wr => ∃ n : Nat, n ≤ 32 ∧ i = .int .i64 n ∧ wr.heap[w.heap.size]? = some (.cells (Sha.cs s) h8T) ∧ wr.heap[w.heap.size + 1]? = some (.cells (ncs .u8 (List.replicate 32 0)) b32T) ∧ wr.heap[w.heap.size + 1 + 1]? = some (.cells (ncs .u8 (Sha.filled (Sha.lay s) n 32)) b32T) ∧ Below w.heap.size w wr) (fun i _ => 32 - (intOf i).toNat)
  case atStart =>
    obtain ⟨f0, f1, f2, f3⟩ := three_new (w := w) _ rfl
    exact ⟨0, by omega, rfl, f0, f1, f2, f3⟩
  case round =>
    obtain ⟨n, hn, rfl, R0, R1, R2, hB⟩ := hrel
    by_cases hlt : n < 32
    · obtain ⟨q, r, hq, hr, hqr⟩ : ∃ q r : Nat, q < 8 ∧ r < 4 ∧ n = 4 * q + r := ⟨n / 4, n % 4, by omega, by omega, by omega⟩
      have q1 : (n : Int) < 32 := by omega
      have q0 : (0 : Int) ≤ (n : Int) := by omega
      have hd : (n : Int) / 4 = (q : Int) := by omega
      have hq1 : (q : Int) < 8 := by omega
      have hq0 : (0 : Int) ≤ (q : Int) := by omega
      have hat := Sha.lay_at s q r hq hr
      rw [← hqr] at hat
      have Hat := Lib.hid hat
      have Hset := Lib.hid (Sha.filled_set (Sha.lay s) n 32 (by rw [Sha.len_lay]; exact hlt) hlt)
      have Hnset := Lib.hid (ncs_set .u8 (Sha.filled (Sha.lay s) n 32) n ((Sha.lay s).getD n 0))
      have M0 := ncs_at .u8 (Sha.filled (Sha.lay s) n 32) n (by rw [Sha.len_filled _ _ _ (by rw [Sha.len_lay]; omega) (by omega)]; exact hlt)
      have C0 := (row_cells R0 q).trans (Sha.cs_at s q hq)
      have hr4 : (r = 0 ∧ (n : Int) % 4 = 0) ∨ (r = 1 ∧ (n : Int) % 4 = 1) ∨ (r = 2 ∧ (n : Int) % 4 = 2) ∨ (r = 3 ∧ (n : Int) % 4 = 3) := by omega
      generalize (Sha.filled (Sha.lay s) n 32).getD n 0 = y at M0
      generalize hL : ncs .u8 (Sha.filled (Sha.lay s) n 32) = L at R2 M0 Hnset
      generalize Sha.wordAt s q = x at C0 Hat
      have hx0 := Sha.u_lo x
      have hx1 := Sha.u_hi x
      have S24 : ∀ x : Sha.W, Sha.u x / (16777216 : Int) = Sha.u (x >>> (24 : Nat)) := fun x => Sha.u_shr x 24
      have S16 : ∀ x : Sha.W, Sha.u x / (65536 : Int) = Sha.u (x >>> (16 : Nat)) := fun x => Sha.u_shr x 16
      have S8 : ∀ x : Sha.W, Sha.u x / (256 : Int) = Sha.u (x >>> (8 : Nat)) := fun x => Sha.u_shr x 8
      obtain ⟨s0, s1, d0, d1, f0, f1, z1⟩ := rows1 R2
      clear hL hat
      rcases hr4 with ⟨rfl, hm⟩ | ⟨rfl, hm⟩ | ⟨rfl, hm⟩ | ⟨rfl, hm⟩
      all_goals
        clear hqr
        go_wp2
        go_roundw
        case rel =>
          refine ⟨n + 1, by omega, by go_num, (setRow_far (by omega)).trans R0, (setRow_far (by omega)).trans R1, ?_, setRow_below hB (by omega)⟩
          rw [← Hset.out, ← Hnset.out, Hat.out]
          exact row_written R2
        case measure => simp [intOf]; omega
    · obtain rfl : n = 32 := by omega
      rw [show ((32 : Nat) : Int) = 32 from rfl]
      rw [Sha.filled_all _ _ (Sha.len_lay s)] at R2
      have Hl := Lib.hid (show (nrow .u8 (Sha.lay s)).length = 32 by rw [nrow_len]; exact Sha.len_lay s)
      have HO := Lib.hid (nrow_one .u8 (Sha.lay s))
      have R2' : wr.heap[w.heap.size + 1 + 1]? = some (.cells (nrow .u8 (Sha.lay s)).toArray b32T) := R2
      have R1' : wr.heap[w.heap.size + 1]? = some (.cells (nrow .u8 (List.replicate 32 0)).toArray b32T) := R1
      clear R1 R2
      go_wp2_with (first
        | ((with_reducible refine wpl_arr Tryd.underlying24 info_b32 ?_ (.tmp 3) ?_ (w.heap.size + 1 + 1) (nrow .u8 (Sha.lay s)) Hl.out ?_ R2' ?_); (rfl); (rfl); (rfl))
        | ((with_reducible refine wpl_arr_store info_b32 ?_ (.tmp 2) (.tmp 21) ?_ (w.heap.size + 1) (nrow .u8 (Sha.lay s)) (nrow .u8 (List.replicate 32 0)) Hl.out ?_ HO.out ?_ ?_ R1' ?_); (rfl); (rfl); (rfl); (rfl); (rfl))
        )
      exact bodyPost_ret (arr_results Tryd.underlying24 info_b32 Tryd.results12 Hl.out rfl (row_written R1')) rfl ⟨rfl, setRow_below hB (by omega)⟩
end Go.Proofs.YtlimcaajpoeoaaaDoor
