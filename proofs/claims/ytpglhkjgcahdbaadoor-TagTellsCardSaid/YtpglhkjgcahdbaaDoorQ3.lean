/- Texts of this proof, merged: Dig1, Arr, Dig2. -/
import Derived.Test.YtpglhkjgcahdbaaDoorQ2
import Derived.Laws.CopyOwn
import Derived.Laws.ResultCell
import Derived.Deep.MidRow
import Derived.Deep.WholeRow
import Derived.BigQuiet
/- A block of the digest: mixed. -/
namespace Go.Proofs.YtpglhkjgcahdbaaDoor
open Go.ChangeShapes Go.WideShapes Go.ChangeAt Go.RowKit
namespace Sha
def cell (x : W) : Value := .int .u32 (u x)
def cs (s : St) : Array Value := #[.int .u32 (u s.a), .int .u32 (u s.b), .int .u32 (u s.c), .int .u32 (u s.d), .int .u32 (u s.e), .int .u32 (u s.f), .int .u32 (u s.g), .int .u32 (u s.h)]
def wcs (l : List W) : Array Value := (l.map cell).toArray
/-- h with its first n words mixed. -/
def mx (s t : St) (n : Nat) : Array Value := #[.int .u32 (u (if 0 < n then s.a + t.a else s.a)), .int .u32 (u (if 1 < n then s.b + t.b else s.b)), .int .u32 (u (if 2 < n then s.c + t.c else s.c)), .int .u32 (u (if 3 < n then s.d + t.d else s.d)), .int .u32 (u (if 4 < n then s.e + t.e else s.e)), .int .u32 (u (if 5 < n then s.f + t.f else s.f)), .int .u32 (u (if 6 < n then s.g + t.g else s.g)), .int .u32 (u (if 7 < n then s.h + t.h else s.h))]
theorem eight {n : Nat} (h : n < 8) : n = 0 ∨ n = 1 ∨ n = 2 ∨ n = 3 ∨ n = 4 ∨ n = 5 ∨ n = 6 ∨ n = 7 := by omega
theorem mx_at (s t : St) (n : Nat) (h : n < 8) : (mx s t n)[n]? = some (.int .u32 (u (wordAt s n))) := by
  rcases eight h with rfl | rfl | rfl | rfl | rfl | rfl | rfl | rfl <;> rfl
theorem cs_at (s : St) (n : Nat) (h : n < 8) : (cs s)[n]? = some (.int .u32 (u (wordAt s n))) := by
  rcases eight h with rfl | rfl | rfl | rfl | rfl | rfl | rfl | rfl <;> rfl
theorem mx_set (s t : St) (n : Nat) (h : n < 8) : (mx s t n).setIfInBounds n (.int .u32 (u (wordAt s n + wordAt t n))) = mx s t (n + 1) := by
  rcases eight h with rfl | rfl | rfl | rfl | rfl | rfl | rfl | rfl <;> rfl
theorem mx_zero (s t : St) : mx s t 0 = cs s := rfl
theorem mx_eight (s t : St) : mx s t 8 = cs (plus s t) := rfl
theorem wcs_at (l : List W) (k : Nat) (h : k < l.length) : (wcs l)[k]? = some (.int .u32 (u (l.getD k 0))) := by
  unfold wcs
  rw [List.getElem?_toArray, List.getElem?_map]
  simp [List.getD, h, cell]
theorem wcs_size (l : List W) : (wcs l).size = l.length := by simp [wcs]
end Sha
abbrev h8T : TypeId := 75
abbrev w64T : TypeId := 77
/-- The constants read as the program lays them. -/
def Kt (w : World) : Prop := (∀ i : Nat, i < 64 → w.cell? ⟨0, i, none⟩ = some (.int .u32 (Sha.u (Sha.K.getD i 0)))) ∧ 0 < w.heap.size
theorem Kt.keep {B : Nat} {w w' : World} (h : Kt w) (hb : Below B w w') (hB : 0 < B) : Kt w' :=
  ⟨fun i hi => (hb.cell (p := ⟨0, i, none⟩) hB).trans (h.1 i hi), Nat.lt_of_lt_of_le h.2 hb.size⟩
theorem zero_h8 (W : World) : (zeroValue h8T).run Tryd.prog W = .ok (.agg #[.int .u32 0, .int .u32 0, .int .u32 0, .int .u32 0, .int .u32 0, .int .u32 0, .int .u32 0, .int .u32 0]) W := by kernel_rfl

theorem src_of_row {w : World} {g : Nat} {t : TypeId} {part rest : List Value} (h : w.heap[g]? = some (.cells (part ++ rest).toArray t)) : ∀ j v, part[j]? = some v → w.cell? (Addr.add ⟨g, 0, none⟩ j) = some v := by
  intro j v hv
  rw [add_plain, Nat.zero_add, cell_of_row _ _ _ _ _ _ h, List.getElem?_toArray]
  have hj : j < part.length := (List.getElem?_eq_some_iff.1 hv).1
  rw [List.getElem?_append_left hj]
  exact hv
theorem four_blocks {w : World} {c0 c1 c2 c3 : Array Value} {t0 t1 t2 t3 : TypeId} (W : World) (hW : W = (((w.alloc (.cells c0 t0)).alloc (.cells c1 t1)).alloc (.cells c2 t2)).alloc (.cells c3 t3)) :
    W.heap[w.heap.size]? = some (.cells c0 t0) ∧ W.heap[w.heap.size + 1]? = some (.cells c1 t1) ∧ W.heap[w.heap.size + 1 + 1]? = some (.cells c2 t2) ∧ W.heap[w.heap.size + 1 + 1 + 1]? = some (.cells c3 t3) ∧ W.heap.size = w.heap.size + 4 ∧ Below w.heap.size w W := by
  subst hW
  have a0 : (w.alloc (.cells c0 t0)).heap.size = w.heap.size + 1 := by simp
  have a1 : ((w.alloc (.cells c0 t0)).alloc (.cells c1 t1)).heap.size = w.heap.size + 1 + 1 := by simp
  have a2 : (((w.alloc (.cells c0 t0)).alloc (.cells c1 t1)).alloc (.cells c2 t2)).heap.size = w.heap.size + 1 + 1 + 1 := by simp
  have b0 := (MapKept.heap_alloc w (.cells c0 t0)).1
  have b1 := (MapKept.heap_alloc (w.alloc (.cells c0 t0)) (.cells c1 t1)).1
  have b2 := (MapKept.heap_alloc ((w.alloc (.cells c0 t0)).alloc (.cells c1 t1)) (.cells c2 t2)).1
  have b3 := (MapKept.heap_alloc (((w.alloc (.cells c0 t0)).alloc (.cells c1 t1)).alloc (.cells c2 t2)) (.cells c3 t3)).1
  rw [a0] at b1
  rw [a1] at b2
  rw [a2] at b3
  refine ⟨?_, ?_, ?_, b3, by simp, (((((Below.refl _ _).alloc (Nat.le_refl _) _).alloc (by simp) _).alloc (by simp; omega) _).alloc (by simp; omega) _)⟩
  · rw [Below.heap_alloc _ _ _ (by omega), Below.heap_alloc _ _ _ (by omega), Below.heap_alloc _ _ _ (by omega)]; exact b0
  · rw [Below.heap_alloc _ _ _ (by omega), Below.heap_alloc _ _ _ (by omega)]; exact b1
  · rw [Below.heap_alloc _ _ _ (by omega)]; exact b2

set_option maxRecDepth 100000 in
set_option maxHeartbeats 2000000 in
theorem mixed_any (s : Sha.St) (ws : List Sha.W) (hws : ws.length = 64) (w : World) (ht : Kt w) :
    Calls Tryd.prog 54 #[.agg (Sha.cs s), .agg (Sha.wcs ws)] w fun e w' => e = .returned (.agg (Sha.cs (Sha.plus s (Sha.after ws s 64)))) ∧ Below w.heap.size w w' := by
  have Hws := Lib.hid hws
  have HT := Lib.hid ht
  have z0 := zero_h8
  clear hws ht
  unfold Sha.cs
  go_enter Tryd.func54, Tryd.ntmps54
  go_wp2
  go_loopw [17] (fun i wr => ∃ k : Nat, k ≤ 64 ∧ i = .int .i64 k ∧ wr.heap[w.heap.size]? = some (.cells (Sha.cs s) h8T) ∧ wr.heap[w.heap.size + 1]? = some (.cells (Sha.wcs ws) w64T) ∧ wr.heap[w.heap.size + 1 + 1]? = some (.cells #[.int .u32 0, .int .u32 0, .int .u32 0, .int .u32 0, .int .u32 0, .int .u32 0, .int .u32 0, .int .u32 0] h8T) ∧ wr.heap[w.heap.size + 1 + 1 + 1]? = some (.cells (Sha.cs (Sha.after ws s k)) h8T) ∧ Below w.heap.size w wr) (fun i _ => 64 - (intOf i).toNat)
  case atStart =>
    obtain ⟨f0, f1, f2, f3, f4, f5⟩ := four_blocks (w := w) _ rfl
    exact ⟨0, by omega, rfl, f0, f1, f2, f3, f5⟩
  case round =>
    obtain ⟨k, hk, rfl, R0, R1, R2, R3, hB⟩ := hrel
    by_cases hlt : k < 64
    · have Hs := Lib.hid (show Sha.after ws s (k + 1) = Sha.step (Sha.after ws s k) (Sha.K.getD k 0) (ws.getD k 0) from rfl)
      generalize Sha.after ws s k = S at Hs R3
      generalize hK : Sha.K.getD k 0 = K at Hs
      generalize hW : ws.getD k 0 = V at Hs
      have q1 : (k : Int) < 64 := by omega
      have q0 : (0 : Int) ≤ (k : Int) := by omega
      have KT := (HT.out.keep hB HT.out.2).1 k hlt
      rw [hK] at KT
      have WT := (row_cells R1 k).trans (Sha.wcs_at ws k (by rw [Hws.out]; exact hlt))
      rw [hW] at WT
      clear hK hW
      have C0 : wr.cell? ⟨w.heap.size + 1 + 1 + 1, 0, none⟩ = some (.int .u32 (Sha.u S.a)) := row_cells R3 0
      have C1 : wr.cell? ⟨w.heap.size + 1 + 1 + 1, 1, none⟩ = some (.int .u32 (Sha.u S.b)) := row_cells R3 1
      have C2 : wr.cell? ⟨w.heap.size + 1 + 1 + 1, 2, none⟩ = some (.int .u32 (Sha.u S.c)) := row_cells R3 2
      have C3 : wr.cell? ⟨w.heap.size + 1 + 1 + 1, 3, none⟩ = some (.int .u32 (Sha.u S.d)) := row_cells R3 3
      have C4 : wr.cell? ⟨w.heap.size + 1 + 1 + 1, 4, none⟩ = some (.int .u32 (Sha.u S.e)) := row_cells R3 4
      have C5 : wr.cell? ⟨w.heap.size + 1 + 1 + 1, 5, none⟩ = some (.int .u32 (Sha.u S.f)) := row_cells R3 5
      have C6 : wr.cell? ⟨w.heap.size + 1 + 1 + 1, 6, none⟩ = some (.int .u32 (Sha.u S.g)) := row_cells R3 6
      have C7 : wr.cell? ⟨w.heap.size + 1 + 1 + 1, 7, none⟩ = some (.int .u32 (Sha.u S.h)) := row_cells R3 7
      have A := Sha.add_u
      have X := Sha.u_xor
      have N := Sha.u_not
      have D := Sha.u_and
      have sg : IntKind.u32.signed = false := rfl
      go_wp2_with fail
      go_quiet (fail)
      have R0' : (wr.drewN nq).heap[w.heap.size]? = some (.cells (Sha.cs s) h8T) := R0
      have R1' : (wr.drewN nq).heap[w.heap.size + 1]? = some (.cells (Sha.wcs ws) w64T) := R1
      have R2' : (wr.drewN nq).heap[w.heap.size + 1 + 1]? = some (.cells #[.int .u32 0, .int .u32 0, .int .u32 0, .int .u32 0, .int .u32 0, .int .u32 0, .int .u32 0, .int .u32 0] h8T) := R2
      have R3' : (wr.drewN nq).heap[w.heap.size + 1 + 1 + 1]? = some (.cells (Sha.cs S) h8T) := R3
      have hB' := below_drewN hB nq
      have KT' : (wr.drewN nq).cell? ⟨0, k, none⟩ = some (.int .u32 (Sha.u K)) := KT
      have WT' : (wr.drewN nq).cell? ⟨w.heap.size + 1, k, none⟩ = some (.int .u32 (Sha.u V)) := WT
      have C7' : (wr.drewN nq).cell? ⟨w.heap.size + 1 + 1 + 1, 7, none⟩ = some (.int .u32 (Sha.u S.h)) := C7
      obtain ⟨W1, hW1⟩ : ∃ W1, W1 = wr.drewN nq := ⟨_, rfl⟩
      rw [← hW1] at R0' R1' R2' R3' hB' KT' WT' C7' ⊢
      clear hW1 R0 R1 R2 R3 hB KT WT C0 C1 C2 C3 C4 C5 C6 C7
      go_wp2_with fail
      go_quiet ((go_at_call 76; exact quiet_left (right_any _ _ rfl _)))
      go_wp2_with (go_at_call 76; refine (right_any _ _ rfl _).mono ?_; rintro e w' ⟨rfl, rfl⟩)
      refine region_tail 2 (by kernel_rfl) (by kernel_rfl) ?_
      simp only [List.take_succ_cons, List.take_zero, List.drop_succ_cons, List.drop_zero]
      repeat (quiet_step (fail))
      refine wpQuiet_nil ?_
      intro m
      have R0'' : ((W1.drewN nq).drewN m).heap[w.heap.size]? = some (.cells (Sha.cs s) h8T) := R0'
      have R1'' : ((W1.drewN nq).drewN m).heap[w.heap.size + 1]? = some (.cells (Sha.wcs ws) w64T) := R1'
      have R2'' : ((W1.drewN nq).drewN m).heap[w.heap.size + 1 + 1]? = some (.cells #[.int .u32 0, .int .u32 0, .int .u32 0, .int .u32 0, .int .u32 0, .int .u32 0, .int .u32 0, .int .u32 0] h8T) := R2'
      have R3'' : ((W1.drewN nq).drewN m).heap[w.heap.size + 1 + 1 + 1]? = some (.cells [Value.int .u32 (Sha.u S.a), .int .u32 (Sha.u S.b), .int .u32 (Sha.u S.c), .int .u32 (Sha.u S.d), .int .u32 (Sha.u S.e), .int .u32 (Sha.u S.f), .int .u32 (Sha.u S.g), .int .u32 (Sha.u S.h)].toArray h8T) := R3'
      have hB'' := below_drewN (below_drewN hB' nq) m
      obtain ⟨W2, hW2⟩ : ∃ W2, W2 = (W1.drewN nq).drewN m := ⟨_, rfl⟩
      rw [← hW2] at R0'' R1'' R2'' R3'' hB'' ⊢
      clear hW2 R0' R1' R2' R3' hB' KT' WT' C7'
      refine wpList_copy_splice rfl (.tmp 80) (.tmp 81) _ _ rfl 74 (by kernel_rfl) (by kernel_rfl) _ _ _ _ _ _ rfl rfl (w.heap.size + 1 + 1 + 1) 1 _ h8T R3'' [Value.int .u32 (Sha.u S.a), .int .u32 (Sha.u S.b), .int .u32 (Sha.u S.c), .int .u32 (Sha.u S.d), .int .u32 (Sha.u S.e), .int .u32 (Sha.u S.f), .int .u32 (Sha.u S.g)] rfl (fun _ => ⟨rfl, _, rfl, src_of_row (rest := [.int .u32 (Sha.u S.h)]) R3''⟩) (Nat.le_refl 8) (by
        intro v hv
        simp only [List.mem_cons, List.not_mem_nil, or_false] at hv
        rcases hv with rfl | rfl | rfl | rfl | rfl | rfl | rfl <;> rfl) (w.heap.size + 1 + 1 + 1) W2 (Below.refl _ _) (Nat.le_refl _) ?_
      intro W3 HG3 hB3
      have R3 : W3.heap[w.heap.size + 1 + 1 + 1]? = some (.cells #[.int .u32 (Sha.u S.a), .int .u32 (Sha.u S.a), .int .u32 (Sha.u S.b), .int .u32 (Sha.u S.c), .int .u32 (Sha.u S.d), .int .u32 (Sha.u S.e), .int .u32 (Sha.u S.f), .int .u32 (Sha.u S.g)] h8T) := HG3.out
      have R0 := row_kept R0'' hB3 (by omega)
      have R1 := row_kept R1'' hB3 (by omega)
      have R2 := row_kept R2'' hB3 (by omega)
      have hB := hB''.trans (hB3.mono (by omega))
      clear HG3 hB3 R0'' R1'' R2'' R3'' hB''
      obtain ⟨f0, f1, d0, d1, g0, g1, z1⟩ := rows1 R3
      go_wp2
      go_roundw
      case rel =>
        refine ⟨k + 1, by omega, by go_num, (setRow_far (by omega)).trans R0, (setRow_far (by omega)).trans R1, (setRow_far (by omega)).trans R2, ?_, setRow_below hB (by omega)⟩
        rw [Hs.out]
        exact row_written R3
      case measure => simp [intOf]; omega
    · obtain rfl : k = 64 := by omega
      generalize hS : Sha.after ws s 64 = S at R3
      have HS := Lib.hid hS
      clear hS
      have A := Sha.add_u
      rw [show ((64 : Nat) : Int) = 64 from rfl]
      go_wp2
      go_loopw [93] (fun i wr => ∃ n : Nat, n ≤ 8 ∧ i = .int .i64 n ∧ wr.heap[w.heap.size]? = some (.cells (Sha.mx s S n) h8T) ∧ wr.heap[w.heap.size + 1 + 1]? = some (.cells #[.int .u32 0, .int .u32 0, .int .u32 0, .int .u32 0, .int .u32 0, .int .u32 0, .int .u32 0, .int .u32 0] h8T) ∧ wr.heap[w.heap.size + 1 + 1 + 1]? = some (.cells (Sha.cs S) h8T) ∧ Below w.heap.size w wr) (fun i _ => 8 - (intOf i).toNat)
      case atStart => exact ⟨0, by omega, rfl, R0, R2, R3, hB⟩
      case round =>
        obtain ⟨n, hn8, rfl, R0', R2', R3', hB'⟩ := hrel
        clear R0 R1 R2 R3 hB
        by_cases hlt : n < 8
        · have q1 : (n : Int) < 8 := by omega
          have q0 : (0 : Int) ≤ (n : Int) := by omega
          have C0 := (row_cells R0' n).trans (Sha.mx_at s S n hlt)
          have C3 := (row_cells R3' n).trans (Sha.cs_at S n hlt)
          have Hm := Lib.hid (Sha.mx_set s S n hlt)
          have M0 := Sha.mx_at s S n hlt
          generalize Sha.wordAt s n = x at C0 Hm M0
          generalize Sha.wordAt S n = y at C3 Hm
          go_wp2_with fail
          refine region_tail 8 (by kernel_rfl) (by kernel_rfl) ?_
          simp only [List.take_succ_cons, List.take_zero, List.drop_succ_cons, List.drop_zero]
          repeat (quiet_step (fail))
          with_reducible refine wpQuiet_nil ?_
          intro m
          have R0 : (wr.drewN m).heap[w.heap.size]? = some (.cells (Sha.mx s S n) h8T) := R0'
          have R2 : (wr.drewN m).heap[w.heap.size + 1 + 1]? = some (.cells #[.int .u32 0, .int .u32 0, .int .u32 0, .int .u32 0, .int .u32 0, .int .u32 0, .int .u32 0, .int .u32 0] h8T) := R2'
          have R3 : (wr.drewN m).heap[w.heap.size + 1 + 1 + 1]? = some (.cells (Sha.cs S) h8T) := R3'
          have hB := below_drewN hB' m
          obtain ⟨s0, s1, d0, d1, f0, f1, z1⟩ := rows1 R0
          clear R0' R2' R3' hB' C0 C3
          go_wp2
          go_roundw
          case rel =>
            refine ⟨n + 1, by omega, by go_num, ?_, (setRow_far (by omega)).trans R2, (setRow_far (by omega)).trans R3, setRow_below hB (by omega)⟩
            rw [← Hm.out]
            exact row_written R0
          case measure => simp [intOf]; omega
        · obtain rfl : n = 8 := by omega
          rw [Sha.mx_eight] at R0'
          generalize hP : Sha.plus s S = T at R0'
          have HP := Lib.hid hP
          clear hP
          have D0 : wr.cell? ⟨w.heap.size, 0, none⟩ = some (.int .u32 (Sha.u T.a)) := row_cells R0' 0
          have D1 : wr.cell? ⟨w.heap.size, 1, none⟩ = some (.int .u32 (Sha.u T.b)) := row_cells R0' 1
          have D2 : wr.cell? ⟨w.heap.size, 2, none⟩ = some (.int .u32 (Sha.u T.c)) := row_cells R0' 2
          have D3 : wr.cell? ⟨w.heap.size, 3, none⟩ = some (.int .u32 (Sha.u T.d)) := row_cells R0' 3
          have D4 : wr.cell? ⟨w.heap.size, 4, none⟩ = some (.int .u32 (Sha.u T.e)) := row_cells R0' 4
          have D5 : wr.cell? ⟨w.heap.size, 5, none⟩ = some (.int .u32 (Sha.u T.f)) := row_cells R0' 5
          have D6 : wr.cell? ⟨w.heap.size, 6, none⟩ = some (.int .u32 (Sha.u T.g)) := row_cells R0' 6
          have D7 : wr.cell? ⟨w.heap.size, 7, none⟩ = some (.int .u32 (Sha.u T.h)) := row_cells R0' 7
          obtain ⟨s0, s1, d0, d1, f0, f1, z1⟩ := rows1 R2'
          rw [show ((8 : Nat) : Int) = 8 from rfl]
          go_wp2
          refine bodyPost_ret (v := .agg (Sha.cs T)) (by simp [results, Tryd.results54, go_sem, d1, Sha.cs]) rfl ⟨by rw [HS.out, HP.out]; rfl, setRow_below hB' (by omega)⟩
end Go.Proofs.YtpglhkjgcahdbaaDoor
/- Arrays as opaque rows of cells: what a load and a store of the whole come to, a result that lies in a cell, an array's slice. No program in it. -/
namespace Go.Proofs.YtpglhkjgcahdbaaDoor
open Go.ChangeShapes Go.WideShapes Go.ChangeAt Go.RowKit
/-- A row of numbers of a kind. -/
def nrow (k : IntKind) (l : List Int) : List Value := l.map (Value.int k)
def ncs (k : IntKind) (l : List Int) : Array Value := (nrow k l).toArray
theorem nrow_len (k : IntKind) (l : List Int) : (nrow k l).length = l.length := by simp [nrow]
theorem ncs_size (k : IntKind) (l : List Int) : (ncs k l).size = l.length := by simp [ncs, nrow]
theorem ncs_at (k : IntKind) (l : List Int) (i : Nat) (h : i < l.length) : (ncs k l)[i]? = some (.int k (l.getD i 0)) := by
  unfold ncs nrow
  rw [List.getElem?_toArray, List.getElem?_map]
  simp [List.getD, h]
theorem ncs_set (k : IntKind) (l : List Int) (i : Nat) (x : Int) : (ncs k l).setIfInBounds i (.int k x) = ncs k (l.set i x) := by
  unfold ncs nrow
  rw [List.setIfInBounds_toArray, List.map_set]
theorem nrow_one (k : IntKind) (l : List Int) : ∀ v ∈ nrow k l, v.oneCell' = true := by
  intro v hv
  simp only [nrow, List.mem_map] at hv
  obtain ⟨_, _, rfl⟩ := hv
  rfl
theorem all_one {L : List Value} (h : ∀ v ∈ L, v.oneCell' = true) : L.toArray.all (·.oneCell') = true := all_oneCell_toArray h
theorem setRow_eq {W : World} {g : Nat} {t : TypeId} {cs ds : Array Value} (h : W.heap[g]? = some (.cells cs t)) : W.setRow g ds = setRow W g t ds := by
  refine world_eq (fun k => ?_) rfl rfl rfl rfl
  rw [setRow_heap]
  show (W.heap.modify g _)[k]? = _
  rw [Array.getElem?_modify]
  by_cases hk : g = k
  · subst hk
    rw [if_pos rfl, if_pos ⟨rfl, row_lt h⟩, h]
    rfl
  · rw [if_neg hk, if_neg (by omega)]
theorem results_cell_one {fn : Func} {p : Tmp} {ty : TypeId} (h : fn.results = #[.cell p ty]) (tmps : Array Value) (P : Program) (w : World) :
    (results fn tmps).run P w = ((asAddr (tmps.getD p undef)).run P w).andThen fun a w₁ => (loadVar ty a).run P w₁ := by
  simp only [results, h]
  simp [Sem.run_bind, Result.andThen]
section
variable {P : Program} {T e : TypeId} {n : Nat}
theorem range_row {W : World} {g : Nat} {L : List Value} {t : TypeId} (h : W.heap[g]? = some (.cells L.toArray t)) : W.rangeAt g 0 L := fun j v hv => by
  rw [Nat.zero_add, cell_of_row _ _ _ _ _ _ h, List.getElem?_toArray]; exact hv
theorem arr_store (hi : (P.info? T).map (·.size) = some n) (W : World) (g : Nat) (L M : List Value) (hL : L.length = n) (hM : M.length = n) (h1 : ∀ v ∈ L, v.oneCell' = true) (h : W.heap[g]? = some (.cells M.toArray T)) :
    (storeCells ⟨g, 0, none⟩ L 0).run P W = .ok () (setRow W g T L.toArray) := by
  have h2 := run_storeVar_row (P := P) W g T T M.toArray L.toArray h (by rw [hi]; simp [hL]) (by simp [hL, hM]) (all_one h1)
  cases hq : P.info? T with
  | none => simp [hq] at hi
  | some i =>
    have hs : i.size = n := by simpa [hq] using hi
    rw [setRow_eq h] at h2
    simpa [storeVar, sizeOf, typeInfo, hq, Value.cells, hs, hL] using h2
theorem arr_store_var (hi : (P.info? T).map (·.size) = some n) (W : World) (g : Nat) (L M : List Value) (hL : L.length = n) (hM : M.length = n) (h1 : ∀ v ∈ L, v.oneCell' = true) (h : W.heap[g]? = some (.cells M.toArray T)) :
    (Instr.storeAt T (.pointer (some ⟨g, 0, none⟩)) (.agg L.toArray)).run P W = .ok () (setRow W g T L.toArray) := by
  have h2 := run_storeVar_row (P := P) W g T T M.toArray L.toArray h (by rw [hi]; simp [hL]) (by simp [hL, hM]) (all_one h1)
  simp only [Instr.storeAt, Instr.sureAddr, Sem.run_bind, Sem.run_pure, Result.andThen_ok, h2, setRow_eq h]
variable (hu : P.underlying T = some (.array n e))
include hu
theorem arr_load (hi : (P.info? T).map (·.size) = some n) (W : World) (g : Nat) (L : List Value) (hL : L.length = n) (h : W.heap[g]? = some (.cells L.toArray T)) :
    (loadVar T ⟨g, 0, none⟩).run P W = .ok (.agg L.toArray) W :=
  run_loadVar_mid (P := P) W g 0 T L _ (range_row h) hu rfl (by rw [hi, hL])
theorem arr_results {fn : Func} {u : Tmp} (hi : (P.info? T).map (·.size) = some n) (hr : fn.results = #[.cell u T]) {tmps : Array Value} {W : World} {g : Nat} {L : List Value} (hL : L.length = n) (h6 : tmps.getD u undef = .pointer (some ⟨g, 0, none⟩)) (hW : W.heap[g]? = some (.cells L.toArray T)) :
    (results fn tmps).run P W = .ok (.agg L.toArray) W := by
  have hl := arr_load hu hi W g L hL hW
  rw [results_cell_one hr tmps P W, h6]
  simp only [asAddr, Sem.run_pure, Result.andThen_ok, hl]
theorem wpl_arr {ops : Array Oper} {rest : List Oper} {o : Oper} {a : Act} {w : World} {Q : Exit → Act → World → Prop} (hi : (P.info? T).map (·.size) = some n) (hgd : o.guard = none) (x : Operand) (ho : o.op = .load T x) (g : Nat) (L : List Value) (hL : L.length = n) (hx : a.eval x = .pointer (some ⟨g, 0, none⟩))
    (hw : w.heap[g]? = some (.cells L.toArray T)) (h : wpList P ops Q rest (a.put o.dst (.agg L.toArray)) w) : wpList P ops Q (o :: rest) a w :=
  wpList_load_mid hgd T x ho g 0 hx L _ (range_row hw) hu rfl (by rw [hi, hL]) h
theorem wpl_arrw {ops : Array Oper} {rest : List Oper} {o : Oper} {a : Act} {w : World} {Q : Exit → Act → World → Prop} (hi : (P.info? T).map (·.size) = some n) (hgd : Region.wanted o (yielded ops a.tmps) = true) (x : Operand) (ho : o.op = .load T x) (g : Nat) (L : List Value) (hL : L.length = n) (hx : a.eval x = .pointer (some ⟨g, 0, none⟩))
    (hw : w.heap[g]? = some (.cells L.toArray T)) (h : wpList P ops Q rest (a.put o.dst (.agg L.toArray)) w) : wpList P ops Q (o :: rest) a w :=
  BigFrame.wpList_want hgd fun _ hK => wp_load_mid T x ho g 0 hx L _ (range_row hw) hu rfl (by rw [hi, hL]) (hK _ _ h)
end
/-- The load as the walk's simp leaves it. -/
theorem arr_cells {P : Program} {T : TypeId} (W : World) (g : Nat) (L : List Value) (n : Nat) (hL : L.length = n) (h : W.heap[g]? = some (.cells L.toArray T)) : (loadCellsFrom ⟨g, 0, none⟩ 0 n #[]).run P W = .ok L.toArray W := by
  have := run_loadCells_list (P := P) W ⟨g, 0, none⟩ L (fun j v hv => by rw [add_plain, Nat.zero_add, cell_of_row _ _ _ _ _ _ h, List.getElem?_toArray]; exact hv)
  rw [hL] at this
  exact this
theorem wpl_arr_store {P : Program} {T : TypeId} {n : Nat} {ops : Array Oper} {rest : List Oper} {o : Oper} {a : Act} {w : World} {Q : Exit → Act → World → Prop} (hi : (P.info? T).map (·.size) = some n) (hgd : o.guard = none) (x y : Operand) (ho : o.op = .store T x y) (g : Nat) (L M : List Value) (hL : L.length = n) (hM : M.length = n) (h1 : ∀ v ∈ L, v.oneCell' = true)
    (hx : a.eval x = .pointer (some ⟨g, 0, none⟩)) (hy : a.eval y = .agg L.toArray)
    (hw : w.heap[g]? = some (.cells M.toArray T)) (h : wpList P ops Q rest (a.put o.dst undef) (setRow w g T L.toArray)) : wpList P ops Q (o :: rest) a w := by
  refine wpList_plain hgd fun K hK => ?_
  unfold Oper.wp execOp
  have := arr_store_var hi w g L M hL hM h1 hw
  simp only [ho, hx, hy, Sem.run_bind, this, Result.andThen_ok, Sem.run_pure]
  exact hK _ _ h
end Go.Proofs.YtpglhkjgcahdbaaDoor
/- The schedule of a block, the laying of the words. -/
namespace Go.Proofs.YtpglhkjgcahdbaaDoor
open Go.ChangeShapes Go.WideShapes Go.ChangeAt Go.RowKit
namespace Sha
theorem cell_one (l : List W) : ∀ v ∈ l.map cell, v.oneCell' = true := by
  intro v hv
  simp only [List.mem_map] at hv
  obtain ⟨_, _, rfl⟩ := hv
  rfl
theorem wcs_get (l : List W) (n : Nat) (h : l.length = n) (k : Nat) (hk : k < n) : (wcs l)[k]? = some (.int .u32 (u (l.getD k 0))) := wcs_at l k (by omega)
theorem wcs_set (l : List W) (k : Nat) (x : W) : (wcs l).setIfInBounds k (.int .u32 (u x)) = wcs (l.set k x) := by
  unfold wcs
  rw [List.setIfInBounds_toArray, List.map_set]
  rfl
end Sha
theorem zero_w64 (W : World) : (zeroValue w64T).run Tryd.prog W = .ok (.agg (Sha.wcs (List.replicate 64 0))) W := by kernel_rfl
theorem info_w64 : (Tryd.prog.info? w64T).map (·.size) = some 64 := by kernel_rfl
theorem two_new {w : World} {c0 c1 : Array Value} {t0 t1 : TypeId} (W : World) (hW : W = (w.alloc (.cells c0 t0)).alloc (.cells c1 t1)) :
    W.heap[w.heap.size]? = some (.cells c0 t0) ∧ W.heap[w.heap.size + 1]? = some (.cells c1 t1) ∧ Below w.heap.size w W := by
  subst hW
  have a0 : (w.alloc (.cells c0 t0)).heap.size = w.heap.size + 1 := by simp
  have b0 := (MapKept.heap_alloc w (.cells c0 t0)).1
  have b1 := (MapKept.heap_alloc (w.alloc (.cells c0 t0)) (.cells c1 t1)).1
  rw [a0] at b1
  refine ⟨?_, b1, (((Below.refl _ _).alloc (Nat.le_refl _) _).alloc (by simp) _)⟩
  rw [Below.heap_alloc _ _ _ (by omega)]; exact b0

set_option maxRecDepth 100000 in
set_option maxHeartbeats 2000000 in
theorem schedule_any (b off cap : Nat) (bs : List Int) (hn : bs.length = 64) (hcap : 64 ≤ cap) (hwf : ∀ z ∈ bs, 0 ≤ z ∧ z < 256) (w : World) (hb : b < w.heap.size) (hc : ∀ i, i < 64 → w.cell? ⟨b, off + i, none⟩ = some (.int .u8 (bs.getD i 0))) :
    Calls Tryd.prog 55 #[.slice (some ⟨b, off, none⟩) 64 cap] w fun e w' => e = .returned (.agg (Sha.wcs (Sha.sched bs))) ∧ Below w.heap.size w w' := by
  have Hn := Lib.hid hn
  have Hc := Lib.hid hc
  have Hw := Lib.hid hwf
  have z0 := zero_w64
  clear hn hc hwf
  go_enter Tryd.func55, Tryd.ntmps55
  go_wp2
  go_loopw [11] (fun i wr => ∃ k : Nat, k ≤ 16 ∧ i = .int .i64 k ∧ wr.heap[w.heap.size]? = some (.cells (Sha.wcs (List.replicate 64 0)) w64T) ∧ wr.heap[w.heap.size + 1]? = some (.cells (Sha.wcs (Sha.rowA bs k)) w64T) ∧ Below w.heap.size w wr) (fun i _ => 16 - (intOf i).toNat)
  case atStart =>
    obtain ⟨f0, f1, f2⟩ := two_new (w := w) _ rfl
    exact ⟨0, by omega, rfl, f0, f1, f2⟩
  case round =>
    obtain ⟨k, hk, rfl, R0, R1, hB⟩ := hrel
    by_cases hlt : k < 16
    · have q1 : (k : Int) < 16 := by omega
      have q0 : (0 : Int) ≤ (k : Int) := by omega
      rw [← Sha.rowA_zero bs k (by omega)] at R1
      obtain ⟨wo, hwo⟩ : ∃ wo, wo = wr := ⟨_, rfl⟩
      rw [← hwo] at R0 R1 hB ⊢
      clear hwo
      go_wp2
      go_loopw [14] (fun i wr => ∃ j : Nat, j ≤ 4 ∧ i = .int .i64 j ∧ wr.heap[w.heap.size]? = some (.cells (Sha.wcs (List.replicate 64 0)) w64T) ∧ wr.heap[w.heap.size + 1]? = some (.cells (Sha.wcs ((Sha.rowA bs k).set k (Sha.part bs k j))) w64T) ∧ Below w.heap.size w wr) (fun i _ => 4 - (intOf i).toNat)
      case atStart => exact ⟨0, by omega, rfl, R0, R1, hB⟩
      case round =>
        obtain ⟨j, hj, rfl, R0', R1', hB'⟩ := hrel
        clear R0 R1 hB
        by_cases hlj : j < 4
        · have q3 : (j : Int) < 4 := by omega
          have q2 : (0 : Int) ≤ (j : Int) := by omega
          have C1 := (row_cells R1' k).trans (Sha.wcs_get _ 64 (by rw [List.length_set, Sha.len_rowA bs k (by omega)]) k (by omega))
          rw [Sha.set_get _ _ _ (by rw [Sha.len_rowA bs k (by omega)]; omega)] at C1
          have cb := (hB'.cell (p := ⟨b, off + (4 * k + j), none⟩) hb).trans (Hc.out (4 * k + j) (by omega))
          have Hp := Lib.hid (show Sha.part bs k (j + 1) = Sha.part bs k j <<< 8 ||| BitVec.ofInt 32 (bs.getD (4 * k + j) 0) from rfl)
          have hz : 0 ≤ bs.getD (4 * k + j) 0 ∧ bs.getD (4 * k + j) 0 < 256 := Hw.out _ (by
            have h1 : 4 * k + j < bs.length := by rw [Hn.out]; omega
            rw [List.getD_eq_getElem?_getD, List.getElem?_eq_getElem h1]
            exact List.getElem_mem h1)
          obtain ⟨hz0, hz1⟩ := hz
          have Hx := Lib.hid (Sha.wcs_set ((Sha.rowA bs k).set k (Sha.part bs k j)) k (Sha.part bs k (j + 1)))
          have M0 : (Sha.wcs ((Sha.rowA bs k).set k (Sha.part bs k j)))[k]? = some (.int .u32 (Sha.u (Sha.part bs k j))) := by
            rw [Sha.wcs_get _ 64 (by rw [List.length_set, Sha.len_rowA bs k (by omega)]) k (by omega), Sha.set_get _ _ _ (by rw [Sha.len_rowA bs k (by omega)]; omega)]
          generalize hR : Sha.wcs ((Sha.rowA bs k).set k (Sha.part bs k j)) = R at R1' M0 Hx
          generalize hP : Sha.part bs k j = x at C1 Hp M0
          generalize hZ : bs.getD (4 * k + j) 0 = z at cb Hp hz0 hz1
          clear hR hP hZ
          have SH := Sha.u_shl8
          have O := Sha.u_orI
          have q4 : (k : Int) < 64 := by omega
          have e1 : IntKind.i64.wrap (4 * (k : Int)) = 4 * (k : Int) := IntWalk.i64_in _ (by omega)
          have e2 : IntKind.i64.wrap (4 * (k : Int) + (j : Int)) = 4 * (k : Int) + (j : Int) := IntWalk.i64_in _ (by omega)
          have e3 : (4 * (k : Int) + (j : Int)).toNat = 4 * k + j := by omega
          have e4 : 0 ≤ 4 * (k : Int) + (j : Int) := by omega
          have e5 : 4 * (k : Int) + (j : Int) < 64 := by omega
          go_wp2_with fail
          refine region_tail 15 (by kernel_rfl) (by kernel_rfl) ?_
          simp only [List.take_succ_cons, List.take_zero, List.drop_succ_cons, List.drop_zero]
          repeat (quiet_step (fail))
          with_reducible refine wpQuiet_nil ?_
          intro m
          have R0 : (wr.drewN m).heap[w.heap.size]? = some (.cells (Sha.wcs (List.replicate 64 0)) w64T) := R0'
          have R1 : (wr.drewN m).heap[w.heap.size + 1]? = some (.cells R w64T) := R1'
          have hB := below_drewN hB' m
          obtain ⟨s0, s1, d0, d1, f0, f1, z1⟩ := rows1 R1
          clear R0' R1' hB' C1 cb
          go_wp2
          go_roundw
          case rel =>
            refine ⟨j + 1, by omega, by go_num, (setRow_far (by omega)).trans R0, ?_, setRow_below hB (by omega)⟩
            rw [← Sha.set_twice _ _ (Sha.part bs k j) _, ← Hx.out, Hp.out]
            exact row_written R1
          case measure => simp [intOf]; omega
        · obtain rfl : j = 4 := by omega
          rw [Sha.rowA_four bs k (by omega)] at R1'
          rw [show ((4 : Nat) : Int) = 4 from rfl]
          go_wp2
          go_roundw
          case rel => exact ⟨k + 1, by omega, by go_num, R0', R1', hB'⟩
          case measure => simp [intOf]; omega
    · obtain rfl : k = 16 := by omega
      rw [show ((16 : Nat) : Int) = 16 from rfl]
      rw [Sha.rowB_start] at R1
      go_wp2
      go_loopw [6] (fun i wr => ∃ K : Nat, 16 ≤ K ∧ K ≤ 64 ∧ i = .int .i64 K ∧ wr.heap[w.heap.size]? = some (.cells (Sha.wcs (List.replicate 64 0)) w64T) ∧ wr.heap[w.heap.size + 1]? = some (.cells (Sha.wcs (Sha.rowB bs (K - 16))) w64T) ∧ Below w.heap.size w wr) (fun i _ => 64 - (intOf i).toNat)
      case atStart => exact ⟨16, by omega, by omega, rfl, R0, R1, hB⟩
      case round =>
        obtain ⟨K, hK0, hK, rfl, R0', R1', hB'⟩ := hrel
        clear R0 R1 hB
        by_cases hlK : K < 64
        · have q1 : (K : Int) < 64 := by omega
          have q0 : (0 : Int) ≤ (K : Int) := by omega
          have q2 : (16 : Int) ≤ (K : Int) := by omega
          have hlen := Sha.len_rowB bs (K - 16) (by omega)
          have Cx := (row_cells R1' (K - 15)).trans (Sha.wcs_get _ 64 hlen (K - 15) (by omega))
          have Cy := (row_cells R1' (K - 2)).trans (Sha.wcs_get _ 64 hlen (K - 2) (by omega))
          have Cz := (row_cells R1' (K - 16)).trans (Sha.wcs_get _ 64 hlen (K - 16) (by omega))
          have Cv := (row_cells R1' (K - 7)).trans (Sha.wcs_get _ 64 hlen (K - 7) (by omega))
          have Hnx := Lib.hid (Sha.next_eq bs (K - 16))
          rw [show K - 16 + 1 = K - 15 by omega, show K - 16 + 9 = K - 7 by omega, show K - 16 + 14 = K - 2 by omega] at Hnx
          have Hst := Lib.hid (Sha.rowB_set bs (K - 16) (by omega))
          rw [show 16 + (K - 16) = K by omega, show K - 16 + 1 = K + 1 - 16 by omega] at Hst
          have Hx := Lib.hid (Sha.wcs_set (Sha.rowB bs (K - 16)) K (Sha.next (Sha.grow bs (K - 16))))
          have M0 := Sha.wcs_get _ 64 hlen K hlK
          generalize hR : Sha.wcs (Sha.rowB bs (K - 16)) = R at R1' M0 Hx
          generalize hQ : (Sha.rowB bs (K - 16)).getD K 0 = q at M0
          generalize hX : (Sha.rowB bs (K - 16)).getD (K - 15) 0 = x at Cx Hnx
          generalize hY : (Sha.rowB bs (K - 16)).getD (K - 2) 0 = y at Cy Hnx
          generalize hZ : (Sha.rowB bs (K - 16)).getD (K - 16) 0 = z at Cz Hnx
          generalize hV : (Sha.rowB bs (K - 16)).getD (K - 7) 0 = v at Cv Hnx
          clear hR hX hY hZ hV hQ hlen
          have A := Sha.add_u
          have X := Sha.u_xor
          have S3 : ∀ x : Sha.W, Sha.u x / (8 : Int) = Sha.u (x >>> (3 : Nat)) := fun x => Sha.u_shr x 3
          have S10 : ∀ x : Sha.W, Sha.u x / (1024 : Int) = Sha.u (x >>> (10 : Nat)) := fun x => Sha.u_shr x 10
          have hx0 := Sha.u_lo x
          have hx1 := Sha.u_hi x
          have hy0 := Sha.u_lo y
          have hy1 := Sha.u_hi y
          have t15 : ((K : Int) - 15).toNat = K - 15 := by omega
          have t2 : ((K : Int) - 2).toNat = K - 2 := by omega
          have t16 : ((K : Int) - 16).toNat = K - 16 := by omega
          have t7 : ((K : Int) - 7).toNat = K - 7 := by omega
          have b15 : 0 ≤ (K : Int) - 15 := by omega
          have b2 : 0 ≤ (K : Int) - 2 := by omega
          have b16 : 0 ≤ (K : Int) - 16 := by omega
          have b7 : 0 ≤ (K : Int) - 7 := by omega
          have l15 : (K : Int) - 15 < 64 := by omega
          have l2 : (K : Int) - 2 < 64 := by omega
          have l16 : (K : Int) - 16 < 64 := by omega
          have l7 : (K : Int) - 7 < 64 := by omega
          have r7 : 7 ≤ (K : Int) := by omega
          have p7 : (K : Int) < 71 := by omega
          have r2 : 2 ≤ (K : Int) := by omega
          have r15 : 15 ≤ (K : Int) := by omega
          have w15 : IntKind.i64.wrap ((K : Int) - 15) = (K : Int) - 15 := IntWalk.i64_in _ (by omega)
          have w2 : IntKind.i64.wrap ((K : Int) - 2) = (K : Int) - 2 := IntWalk.i64_in _ (by omega)
          have w16 : IntKind.i64.wrap ((K : Int) - 16) = (K : Int) - 16 := IntWalk.i64_in _ (by omega)
          have w7 : IntKind.i64.wrap ((K : Int) - 7) = (K : Int) - 7 := IntWalk.i64_in _ (by omega)
          go_wp2_with fail
          go_quiet (fail)
          have R0 : (wr.drewN nq).heap[w.heap.size]? = some (.cells (Sha.wcs (List.replicate 64 0)) w64T) := R0'
          have R1 : (wr.drewN nq).heap[w.heap.size + 1]? = some (.cells R w64T) := R1'
          have hB := below_drewN hB' nq
          have Cz' : (wr.drewN nq).cell? ⟨w.heap.size + 1, K - 16, none⟩ = some (.int .u32 (Sha.u z)) := Cz
          have Cv' : (wr.drewN nq).cell? ⟨w.heap.size + 1, K - 7, none⟩ = some (.int .u32 (Sha.u v)) := Cv
          obtain ⟨W1, hW1⟩ : ∃ W1, W1 = wr.drewN nq := ⟨_, rfl⟩
          rw [← hW1] at R0 R1 hB Cz' Cv' ⊢
          clear hW1 R0' R1' hB' Cx Cy Cz Cv
          go_wp2_with (go_at_call 76; refine (right_any _ _ rfl _).mono ?_; rintro e w' ⟨rfl, rfl⟩)
          refine region_tail 15 (by kernel_rfl) (by kernel_rfl) ?_
          simp only [List.take_succ_cons, List.take_zero, List.drop_succ_cons, List.drop_zero]
          repeat (quiet_step (fail))
          with_reducible refine wpQuiet_nil ?_
          intro m
          have R0' : (W1.drewN m).heap[w.heap.size]? = some (.cells (Sha.wcs (List.replicate 64 0)) w64T) := R0
          have R1' : (W1.drewN m).heap[w.heap.size + 1]? = some (.cells R w64T) := R1
          have hB' := below_drewN hB m
          obtain ⟨s0, s1, d0, d1, f0, f1, z1⟩ := rows1 R1'
          clear R0 R1 hB Cz' Cv'
          go_wp2
          go_roundw
          case rel =>
            refine ⟨K + 1, by omega, by omega, by go_num, (setRow_far (by omega)).trans R0', ?_, setRow_below hB' (by omega)⟩
            rw [← Hst.out, ← Hx.out, Hnx.out]
            exact row_written R1'
          case measure => simp [intOf]; omega
        · obtain rfl : K = 64 := by omega
          rw [show ((64 : Nat) : Int) = 64 from rfl]
          rw [show 64 - 16 = 48 from rfl, Sha.rowB_end] at R1'
          have hl64 : ((Sha.sched bs).map Sha.cell).length = 64 := by rw [List.length_map]; exact Sha.len_sched bs
          have Hl64 := Lib.hid hl64
          have HO := Lib.hid (Sha.cell_one (Sha.sched bs))
          clear hl64
          have R1 : wr.heap[w.heap.size + 1]? = some (.cells ((Sha.sched bs).map Sha.cell).toArray w64T) := R1'
          have R0 : wr.heap[w.heap.size]? = some (.cells ((List.replicate 64 0).map Sha.cell).toArray w64T) := R0'
          clear R1' R0'
          go_wp2_with (first
            | ((with_reducible refine wpl_arr Tryd.underlying77 info_w64 ?_ (.tmp 3) ?_ (w.heap.size + 1) ((Sha.sched bs).map Sha.cell) Hl64.out ?_ R1 ?_); (rfl); (rfl); (rfl))
            | ((with_reducible refine wpl_arr_store info_w64 ?_ (.tmp 2) (.tmp 77) ?_ w.heap.size ((Sha.sched bs).map Sha.cell) ((List.replicate 64 0).map Sha.cell) Hl64.out ?_ HO.out ?_ ?_ R0 ?_); (rfl); (rfl); (rfl); (rfl); (rfl))
            )
          exact bodyPost_ret (arr_results Tryd.underlying77 info_w64 Tryd.results55 Hl64.out rfl (row_written R0)) rfl ⟨rfl, setRow_below hB' (by omega)⟩
end Go.Proofs.YtpglhkjgcahdbaaDoor
