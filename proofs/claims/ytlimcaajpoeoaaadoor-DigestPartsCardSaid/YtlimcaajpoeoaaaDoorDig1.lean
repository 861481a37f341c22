/- A block of the digest: mixed. -/
import Derived.Test.YtlimcaajpoeoaaaDoorDig0
import Derived.Test.YtlimcaajpoeoaaaDoorTail
import Derived.Laws.CopyOwn
import Derived.Laws.ResultCell
namespace Go.Proofs.YtlimcaajpoeoaaaDoor
open Go.ChangeShapes Go.WideShapes Go.ChangeAt Go.RowKit
namespace Sha
def cell (x : W) : Value := .int .u32 (u x)
def cs (s : St) : Array Value := #[.int .u32 (u s.a), .int .u32 (u s.b), .int .u32 (u s.c), .int .u32 (u s.d), .int .u32 (u s.e), .int .u32 (u s.f), .int .u32 (u s.g), .int .u32 (u s.h)]
def wcs (l : List W) : Array Value := (l.map cell).toArray
/-- h with its first n words mixed. -/
def mx (s t : St) (n : Nat) : Array Value := #[.int .u32 (u (if 0 < n then s.a + t.a else s.a)), .int .u32 (u (if 1 < n then s.b + t.b else s.b)), .int .u32 (u (if 2 < n then s.c + t.c else s.c)), .int .u32 (u (if 3 < n then s.d + t.d else s.d)), .int .u32 (u (if 4 < n then s.e + t.e else s.e)), .int .u32 (u (if 5 < n then s.f + t.f else s.f)), .int .u32 (u (if 6 < n then s.g + t.g else s.g)), .int .u32 (u (if 7 < n then s.h + t.h else s.h))]
theorem eight {n : Nat} (h : n < 8) : n = 0 ∨ n = 1 ∨ n = 2 ∨ n = 3 ∨ n = 4 ∨ n = 5 ∨ n = 6 ∨ n = 7 := by omega
theorem mx_at (s t : St) (n : Nat) (h : n < 8) : (mx s t n)[n]? = some (.int .u32 (u (wordAt s n))) := by
  rcases eight h with rfl | rfl | rfl | rfl | rfl | rfl | rfl | rfl <;> rfl
theorem cs_at (s : St) (n : Nat) (h : n < 8) : (cs s)[n]? = some (.int .u32 (u (wordAt s n))) := by
  rcases eight h with rfl | rfl | rfl | rfl | rfl | rfl | rfl | rfl <;> rfl
theorem mx_set (s t : St) (n : Nat) (h : n < 8) : (mx s t n).setIfInBounds n (.int .u32 (u (wordAt s n + wordAt t n))) = mx s t (n + 1) := by
  rcases eight h with rfl | rfl | rfl | rfl | rfl | rfl | rfl | rfl <;> rfl
theorem mx_zero (s t : St) : mx s t 0 = cs s := rfl
theorem mx_eight (s t : St) : mx s t 8 = cs (plus s t) := rfl
theorem wcs_at (l : List W) (k : Nat) (h : k < l.length) : (wcs l)[k]? = some (.int .u32 (u (l.getD k 0))) := by
  unfold wcs
  rw [List.getElem?_toArray, List.getElem?_map]
  simp [List.getD, h, cell]
theorem wcs_size (l : List W) : (wcs l).size = l.length := by simp [wcs]
end Sha
abbrev h8T : TypeId := 33
abbrev w64T : TypeId := 35
/-- The constants read as the program lays them. -/
def Kt (w : World) : Prop := (∀ i : Nat, i < 64 → w.cell? ⟨0, i, none⟩ = some (.int .u32 (Sha.u (Sha.K.getD i 0)))) ∧ 0 < w.heap.size
theorem Kt.keep {B : Nat} {w w' : World} (h : Kt w) (hb : Below B w w') (hB : 0 < B) : Kt w' :=
  ⟨fun i hi => (hb.cell (p := ⟨0, i, none⟩) hB).trans (h.1 i hi), Nat.lt_of_lt_of_le h.2 hb.size⟩
theorem zero_h8 (W : World) : (zeroValue h8T).run Tryd.prog W = .ok (.agg #[.int .u32 0, .int .u32 0, .int .u32 0, .int .u32 0, .int .u32 0, .int .u32 0, .int .u32 0, .int .u32 0]) W := by kernel_rfl

theorem src_of_row {w : World} {g : Nat} {t : TypeId} {part rest : List Value} (h : w.heap[g]? = some (.cells (part ++ rest).toArray t)) : ∀ j v, part[j]? = some v → w.cell? (Addr.add ⟨g, 0, none⟩ j) = some v := by
  intro j v hv
  rw [add_plain, Nat.zero_add, cell_of_row _ _ _ _ _ _ h, List.getElem?_toArray]
  have hj : j < part.length := (List.getElem?_eq_some_iff.1 hv).1
  rw [List.getElem?_append_left hj]
  exact hv
theorem four_blocks {w : World} {c0 c1 c2 c3 : Array Value} {t0 t1 t2 t3 : TypeId} (W : World) (hW : W = (((w.alloc (.cells c0 t0)).alloc (.cells c1 t1)).alloc (.cells c2 t2)).alloc (.cells c3 t3)) :
    W.heap[w.heap.size]? = some (.cells c0 t0) ∧ W.heap[w.heap.size + 1]? = some (.cells c1 t1) ∧ W.heap[w.heap.size + 1 + 1]? = some (.cells c2 t2) ∧ W.heap[w.heap.size + 1 + 1 + 1]? = some (.cells c3 t3) ∧ W.heap.size = w.heap.size + 4 ∧ Below w.heap.size w W := by
  subst hW
  have a0 : (w.alloc (.cells c0 t0)).heap.size = w.heap.size + 1 := by simp
  have a1 : ((w.alloc (.cells c0 t0)).alloc (.cells c1 t1)).heap.size = w.heap.size + 1 + 1 := by simp
  have a2 : (((w.alloc (.cells c0 t0)).alloc (.cells c1 t1)).alloc (.cells c2 t2)).heap.size = w.heap.size + 1 + 1 + 1 := by simp
  have b0 := (MapKept.heap_alloc w (.cells c0 t0)).1
  have b1 := (MapKept.heap_alloc (w.alloc (.cells c0 t0)) (.cells c1 t1)).1
  have b2 := (MapKept.heap_alloc ((w.alloc (.cells c0 t0)).alloc (.cells c1 t1)) (.cells c2 t2)).1
  have b3 := (MapKept.heap_alloc (((w.alloc (.cells c0 t0)).alloc (.cells c1 t1)).alloc (.cells c2 t2)) (.cells c3 t3)).1
  rw [a0] at b1
  rw [a1] at b2
  rw [a2] at b3
  refine ⟨?_, ?_, ?_, b3, by simp, (((((Below.refl _ _).alloc (Nat.le_refl _) _).alloc (by simp) _).alloc (by simp; omega) _).alloc (by simp; omega) _)⟩
  · rw [Below.heap_alloc _ _ _ (by omega), Below.heap_alloc _ _ _ (by omega), Below.heap_alloc _ _ _ (by omega)]; exact b0
  · rw [Below.heap_alloc _ _ _ (by omega), Below.heap_alloc _ _ _ (by omega)]; exact b1
  · rw [Below.heap_alloc _ _ _ (by omega)]; exact b2

set_option maxRecDepth 100000 in
set_option maxHeartbeats 2000000 in
theorem mixed_any (s : Sha.St) (ws : List Sha.W) (hws : ws.length = 64) (w : World) (ht : Kt w) :
    Calls Tryd.prog 10 #[.agg (Sha.cs s), .agg (Sha.wcs ws)] w fun e w' => e = .returned (.agg (Sha.cs (Sha.plus s (Sha.after ws s 64)))) ∧ Below w.heap.size w w' := by
  have Hws := Lib.hid hws
  have HT := Lib.hid ht
  have z0 := zero_h8
  clear hws ht
  unfold Sha.cs
  go_enter Tryd.func10, Tryd.ntmps10
  go_wp2
  go_loopw [17] (fun i wr => ∃ k : Nat, k ≤ 64 ∧ i = .int .i64 k ∧ wr.heap[w.heap.size]? = some (.cells (Sha.cs s) h8T) ∧ wr.heap[w.heap.size + 1]? = some (.cells (Sha.wcs ws) w64T) ∧ wr.heap[w.heap.size + 1 + 1]? = some (.cells #[.int .u32 0, .int .u32 0, .int .u32 0, .int .u32 0, .int .u32 0, .int .u32 0, .int .u32 0, .int .u32 0] h8T) ∧ wr.heap[w.heap.size + 1 + 1 + 1]? = some (.cells (Sha.cs (Sha.after ws s k)) h8T) ∧ Below w.heap.size w wr) (fun i _ => 64 - (intOf i).toNat)
  case atStart =>
    obtain ⟨f0, f1, f2, f3, f4, f5⟩ := four_blocks (w := w) _ rfl
    exact ⟨0, by omega, rfl, f0, f1, f2, f3, f5⟩
  case round =>
    obtain ⟨k, hk, rfl, R0, R1, R2, R3, hB⟩ := hrel
    by_cases hlt : k < 64
    · have Hs := Lib.hid (show Sha.after ws s (k + 1) = Sha.step (Sha.after ws s k) (Sha.K.getD k 0) (ws.getD k 0) from rfl)
      generalize Sha.after ws s k = S at Hs R3
      generalize hK : Sha.K.getD k 0 = K at Hs
      generalize hW : ws.getD k 0 = V at Hs
      have q1 : (k : Int) < 64 := by omega
      have q0 : (0 : Int) ≤ (k : Int) := by omega
      have KT := (HT.out.keep hB HT.out.2).1 k hlt
      rw [hK] at KT
      have WT := (row_cells R1 k).trans (Sha.wcs_at ws k (by rw [Hws.out]; exact hlt))
      rw [hW] at WT
      clear hK hW
      have C0 : wr.cell? ⟨w.heap.size + 1 + 1 + 1, 0, none⟩ = some (.int .u32 (Sha.u S.a)) := row_cells R3 0
      have C1 : wr.cell? ⟨w.heap.size + 1 + 1 + 1, 1, none⟩ = some (.int .u32 (Sha.u S.b)) := row_cells R3 1
      have C2 : wr.cell? ⟨w.heap.size + 1 + 1 + 1, 2, none⟩ = some (.int .u32 (Sha.u S.c)) := row_cells R3 2
      have C3 : wr.cell? ⟨w.heap.size + 1 + 1 + 1, 3, none⟩ = some (.int .u32 (Sha.u S.d)) := row_cells R3 3
      have C4 : wr.cell? ⟨w.heap.size + 1 + 1 + 1, 4, none⟩ = some (.int .u32 (Sha.u S.e)) := row_cells R3 4
      have C5 : wr.cell? ⟨w.heap.size + 1 + 1 + 1, 5, none⟩ = some (.int .u32 (Sha.u S.f)) := row_cells R3 5
      have C6 : wr.cell? ⟨w.heap.size + 1 + 1 + 1, 6, none⟩ = some (.int .u32 (Sha.u S.g)) := row_cells R3 6
      have C7 : wr.cell? ⟨w.heap.size + 1 + 1 + 1, 7, none⟩ = some (.int .u32 (Sha.u S.h)) := row_cells R3 7
      have A := Sha.add_u
      have X := Sha.u_xor
      have N := Sha.u_not
      have D := Sha.u_and
      have sg : IntKind.u32.signed = false := rfl
      go_wp2_with fail
      go_quiet (fail)
      have R0' : (wr.drewN nq).heap[w.heap.size]? = some (.cells (Sha.cs s) h8T) := R0
      have R1' : (wr.drewN nq).heap[w.heap.size + 1]? = some (.cells (Sha.wcs ws) w64T) := R1
      have R2' : (wr.drewN nq).heap[w.heap.size + 1 + 1]? = some (.cells #[.int .u32 0, .int .u32 0, .int .u32 0, .int .u32 0, .int .u32 0, .int .u32 0, .int .u32 0, .int .u32 0] h8T) := R2
      have R3' : (wr.drewN nq).heap[w.heap.size + 1 + 1 + 1]? = some (.cells (Sha.cs S) h8T) := R3
      have hB' := below_drewN hB nq
      have KT' : (wr.drewN nq).cell? ⟨0, k, none⟩ = some (.int .u32 (Sha.u K)) := KT
      have WT' : (wr.drewN nq).cell? ⟨w.heap.size + 1, k, none⟩ = some (.int .u32 (Sha.u V)) := WT
      have C7' : (wr.drewN nq).cell? ⟨w.heap.size + 1 + 1 + 1, 7, none⟩ = some (.int .u32 (Sha.u S.h)) := C7
      obtain ⟨W1, hW1⟩ : ∃ W1, W1 = wr.drewN nq := ⟨_, rfl⟩
      rw [← hW1] at R0' R1' R2' R3' hB' KT' WT' C7' ⊢
      clear hW1 R0 R1 R2 R3 hB KT WT C0 C1 C2 C3 C4 C5 C6 C7
      go_wp2_with fail
      go_quiet ((go_at_call 15; exact quiet_left (right_any _ _ rfl _)))
      go_wp2_with (go_at_call 15; refine (right_any _ _ rfl _).mono ?_; rintro e w' ⟨rfl, rfl⟩)
      refine region_tail 2 (by kernel_rfl) (by kernel_rfl) ?_
      simp only [List.take_succ_cons, List.take_zero, List.drop_succ_cons, List.drop_zero]
      repeat (quiet_step (fail))
      refine wpQuiet_nil ?_
      intro m
      have R0'' : ((W1.drewN nq).drewN m).heap[w.heap.size]? = some (.cells (Sha.cs s) h8T) := R0'
      have R1'' : ((W1.drewN nq).drewN m).heap[w.heap.size + 1]? = some (.cells (Sha.wcs ws) w64T) := R1'
      have R2'' : ((W1.drewN nq).drewN m).heap[w.heap.size + 1 + 1]? = some (.cells #[.int .u32 0, .int .u32 0, .int .u32 0, .int .u32 0, .int .u32 0, .int .u32 0, .int .u32 0, .int .u32 0] h8T) := R2'
      have R3'' : ((W1.drewN nq).drewN m).heap[w.heap.size + 1 + 1 + 1]? = some (.cells [Value.int .u32 (Sha.u S.a), .int .u32 (Sha.u S.b), .int .u32 (Sha.u S.c), .int .u32 (Sha.u S.d), .int .u32 (Sha.u S.e), .int .u32 (Sha.u S.f), .int .u32 (Sha.u S.g), .int .u32 (Sha.u S.h)].toArray h8T) := R3'
      have hB'' := below_drewN (below_drewN hB' nq) m
      obtain ⟨W2, hW2⟩ : ∃ W2, W2 = (W1.drewN nq).drewN m := ⟨_, rfl⟩
      rw [← hW2] at R0'' R1'' R2'' R3'' hB'' ⊢
      clear hW2 R0' R1' R2' R3' hB' KT' WT' C7'
      refine wpList_copy_splice rfl (.tmp 80) (.tmp 81) _ _ rfl 32 (by kernel_rfl) (by kernel_rfl) _ _ _ _ _ _ rfl rfl (w.heap.size + 1 + 1 + 1) 1 _ h8T R3'' [Value.int .u32 (Sha.u S.a), .int .u32 (Sha.u S.b), .int .u32 (Sha.u S.c), .int .u32 (Sha.u S.d), .int .u32 (Sha.u S.e), .int .u32 (Sha.u S.f), .int .u32 (Sha.u S.g)] rfl (fun _ => ⟨rfl, _, rfl, src_of_row (rest := [.int .u32 (Sha.u S.h)]) R3''⟩) (Nat.le_refl 8) (by
        intro v hv
        simp only [List.mem_cons, List.not_mem_nil, or_false] at hv
        rcases hv with rfl | rfl | rfl | rfl | rfl | rfl | rfl <;> rfl) (w.heap.size + 1 + 1 + 1) W2 (Below.refl _ _) (Nat.le_refl _) ?_
      intro W3 HG3 hB3
      have R3 : W3.heap[w.heap.size + 1 + 1 + 1]? = some (.cells #[.int .u32 (Sha.u S.a), .int .u32 (Sha.u S.a), .int .u32 (Sha.u S.b), .int .u32 (Sha.u S.c), .int .u32 (Sha.u S.d), .int .u32 (Sha.u S.e), .int .u32 (Sha.u S.f), .int .u32 (Sha.u S.g)] h8T) := HG3.out
      have R0 := row_kept R0'' hB3 (by omega)
      have R1 := row_kept R1'' hB3 (by omega)
      have R2 := row_kept R2'' hB3 (by omega)
      have hB := hB''.trans (hB3.mono (by omega))
      clear HG3 hB3 R0'' R1'' R2'' R3'' hB''
      obtain ⟨f0, f1, d0, d1, g0, g1, z1⟩ := rows1 R3
      go_wp2
      go_roundw
      case rel =>
        refine ⟨k + 1, by omega, by go_num, (setRow_far (by omega)).trans R0, (setRow_far (by omega)).trans R1, (setRow_far (by omega)).trans R2, ?_, setRow_below hB (by omega)⟩
        rw [Hs.out]
        exact row_written R3
      case measure => simp [intOf]; omega
    · obtain rfl : k = 64 := by omega
      generalize hS : Sha.after ws s 64 = S at R3
      have HS := Lib.hid hS
      clear hS
      have A := Sha.add_u
      rw [show ((64 : Nat) : Int) = 64 from rfl]
      go_wp2
      go_loopw [93] (fun i wr => ∃ n : Nat, n ≤ 8 ∧ i = .int .i64 n ∧ wr.heap[w.heap.size]? = some (.cells (Sha.mx s S n) h8T) ∧ wr.heap[w.heap.size + 1 + 1]? = some (.cells #[.int .u32 0, .int .u32 0, .int .u32 0, .int .u32 0, .int .u32 0, .int .u32 0, .int .u32 0, .int .u32 0] h8T) ∧ wr.heap[w.heap.size + 1 + 1 + 1]? = some (.cells (Sha.cs S) h8T) ∧ Below w.heap.size w wr) (fun i _ => 8 - (intOf i).toNat)
      case atStart => exact ⟨0, by omega, rfl, R0, R2, R3, hB⟩
      case round =>
        obtain ⟨n, hn8, rfl, R0', R2', R3', hB'⟩ := hrel
        clear R0 R1 R2 R3 hB
        by_cases hlt : n < 8
        · have q1 : (n : Int) < 8 := by omega
          have q0 : (0 : Int) ≤ (n : Int) := by omega
          have C0 := (row_cells R0' n).trans (Sha.mx_at s S n hlt)
          have C3 := (row_cells R3' n).trans (Sha.cs_at S n hlt)
          have Hm := Lib.hid (Sha.mx_set s S n hlt)
          have M0 := Sha.mx_at s S n hlt
          generalize Sha.wordAt s n = x at C0 Hm M0
          generalize Sha.wordAt S n = y at C3 Hm
          go_wp2_with fail
          refine region_tail 8 (by kernel_rfl) (by kernel_rfl) ?_
          simp only [List.take_succ_cons, List.take_zero, List.drop_succ_cons, List.drop_zero]
          repeat (quiet_step (fail))
          with_reducible refine wpQuiet_nil ?_
          intro m
          have R0 : (wr.drewN m).heap[w.heap.size]? = some (.cells (Sha.mx s S n) h8T) := R0'
          have R2 : (wr.drewN m).heap[w.heap.size + 1 + 1]? = some (.cells #[.int .u32 0, .int .u32 0, .int .u32 0, .int .u32 0, .int .u32 0, .int .u32 0, .int .u32 0, .int .u32 0] h8T) := R2'
          have R3 : (wr.drewN m).heap[w.heap.size + 1 + 1 + 1]? = some (.cells (Sha.cs S) h8T) := R3'
          have hB := below_drewN hB' m
          obtain ⟨s0, s1, d0, d1, f0, f1, z1⟩ := rows1 R0
          clear R0' R2' R3' hB' C0 C3
          go_wp2
          go_roundw
          case rel =>
            refine ⟨n + 1, by omega, by go_num, ?_, (setRow_far (by omega)).trans R2, (setRow_far (by omega)).trans R3, setRow_below hB (by omega)⟩
            rw [← Hm.out]
            exact row_written R0
          case measure => simp [intOf]; omega
        · obtain rfl : n = 8 := by omega
          rw [Sha.mx_eight] at R0'
          generalize hP : Sha.plus s S = T at R0'
          have HP := Lib.hid hP
          clear hP
          have D0 : wr.cell? ⟨w.heap.size, 0, none⟩ = some (.int .u32 (Sha.u T.a)) := row_cells R0' 0
          have D1 : wr.cell? ⟨w.heap.size, 1, none⟩ = some (.int .u32 (Sha.u T.b)) := row_cells R0' 1
          have D2 : wr.cell? ⟨w.heap.size, 2, none⟩ = some (.int .u32 (Sha.u T.c)) := row_cells R0' 2
          have D3 : wr.cell? ⟨w.heap.size, 3, none⟩ = some (.int .u32 (Sha.u T.d)) := row_cells R0' 3
          have D4 : wr.cell? ⟨w.heap.size, 4, none⟩ = some (.int .u32 (Sha.u T.e)) := row_cells R0' 4
          have D5 : wr.cell? ⟨w.heap.size, 5, none⟩ = some (.int .u32 (Sha.u T.f)) := row_cells R0' 5
          have D6 : wr.cell? ⟨w.heap.size, 6, none⟩ = some (.int .u32 (Sha.u T.g)) := row_cells R0' 6
          have D7 : wr.cell? ⟨w.heap.size, 7, none⟩ = some (.int .u32 (Sha.u T.h)) := row_cells R0' 7
          obtain ⟨s0, s1, d0, d1, f0, f1, z1⟩ := rows1 R2'
          rw [show ((8 : Nat) : Int) = 8 from rfl]
          go_wp2
          refine bodyPost_ret (v := .agg (Sha.cs T)) (by simp [results, Tryd.results10, go_sem, d1, Sha.cs]) rfl ⟨by rw [HS.out, HP.out]; rfl, setRow_below hB' (by omega)⟩
end Go.Proofs.YtlimcaajpoeoaaaDoor
