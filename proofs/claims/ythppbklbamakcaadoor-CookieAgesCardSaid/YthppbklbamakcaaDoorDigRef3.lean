/- The document's own digest: a block. -/
import Derived.Test.YthppbklbamakcaaDoorDigRef2
import Derived.Test.YthppbklbamakcaaDoorDigRef0
namespace Go.Proofs.YthppbklbamakcaaDoor
open Go.ChangeShapes Go.WideShapes Go.ChangeAt Go.RowKit
theorem rconst_to (w : World) (g : Nat) (hg : w.heap.size = g) :
    Calls Tryd.prog 34 #[] w fun e w' => e = .returned (.slice (some ⟨g, 0, none⟩) 64 64) ∧ w'.heap[g]? = some (.cells (Sha.wcs Sha.K) 45) ∧ Below w.heap.size w w' := by
  subst hg
  exact rconst_any w
theorem turn_q {W : World} (x : Sha.W) (m : Int) (hm : Rot m = true) (n : Nat) :
    Calls Tryd.prog 36 #[.int .u32 (Sha.u x), .int .i64 m] (W.drewN n) fun e w'' => e = .returned (.int .u32 (Sha.u (Sha.rr x m.toNat))) ∧ ∃ k, w'' = W.drewN k :=
  Calls.quiet_of (turn_any x m hm (W.drewN n))
set_option maxRecDepth 100000 in
set_option maxHeartbeats 2000000 in
theorem rblock_any (s : Sha.St) (b off cap : Nat) (bs : List Int) (hn : bs.length = 64) (hcap : 64 ≤ cap) (hwf : ∀ z ∈ bs, 0 ≤ z ∧ z < 256) (w : World) (hb : b < w.heap.size) (hc : ∀ i, i < 64 → w.cell? ⟨b, off + i, none⟩ = some (.int .u8 (bs.getD i 0))) :
    Calls Tryd.prog 31 #[.agg (Sha.cs s), .slice (some ⟨b, off, none⟩) 64 cap] w fun e w' => e = .returned (.agg (Sha.cs (Sha.block s bs))) ∧ Below w.heap.size w w' := by
  have z0 := zero_h8
  have Hc := Lib.hid hc
  have Hn := Lib.hid hn
  have Hw := Lib.hid hwf
  clear hc hn hwf
  unfold Sha.cs
  have B0 : Below w.heap.size w _ := ((Below.refl w.heap.size w).alloc (Nat.le_refl _) (.cells #[.int .u32 (Sha.u s.a), .int .u32 (Sha.u s.b), .int .u32 (Sha.u s.c), .int .u32 (Sha.u s.d), .int .u32 (Sha.u s.e), .int .u32 (Sha.u s.f), .int .u32 (Sha.u s.g), .int .u32 (Sha.u s.h)] h8T)).alloc (by simp) (.cells #[.int .u32 0, .int .u32 0, .int .u32 0, .int .u32 0, .int .u32 0, .int .u32 0, .int .u32 0, .int .u32 0] h8T)
  obtain ⟨f0, f1, f2⟩ := two_new (w := w) _ (rfl : ((w.alloc (.cells #[.int .u32 (Sha.u s.a), .int .u32 (Sha.u s.b), .int .u32 (Sha.u s.c), .int .u32 (Sha.u s.d), .int .u32 (Sha.u s.e), .int .u32 (Sha.u s.f), .int .u32 (Sha.u s.g), .int .u32 (Sha.u s.h)] h8T)).alloc (.cells #[.int .u32 0, .int .u32 0, .int .u32 0, .int .u32 0, .int .u32 0, .int .u32 0, .int .u32 0, .int .u32 0] h8T)) = _)
  have F := Lib.hid (And.intro f0 f1)
  clear f0 f1 f2
  go_enter Tryd.func31, Tryd.ntmps31
  go_wp2_with fail
  refine (rconst_to _ (w.heap.size + 1 + 1) (by simp)).mono ?_
  rintro e w1 ⟨rfl, RK, hB1⟩
  have R0 := row_kept F.out.1 hB1 (by simp; omega)
  have R1 := row_kept F.out.2 hB1 (by simp)
  have B1 := B0.trans (hB1.mono (by simp; omega))
  clear hB1 F B0
  go_wp2_with fail
  refine (rwords_any b off cap bs Hn.out hcap Hw.out w1 (Nat.lt_of_lt_of_le hb B1.size) (fun i hi => (B1.cell (p := ⟨b, off + i, none⟩) hb).trans (Hc.out i hi))).mono ?_
  rintro e w2 ⟨A2, c2, rfl, hO2, hB2⟩
  have R0 := row_kept R0 hB2 (row_lt R0)
  have R1 := row_kept R1 hB2 (row_lt R1)
  have RK := row_kept RK hB2 (row_lt RK)
  have B2 := B1.trans (hB2.mono B1.size)
  have hw12 := B1.size
  have hk1 : w.heap.size + 1 + 1 < w2.heap.size := row_lt RK
  clear hB2 B1
  have hlen : ((Sha.sched bs).map Sha.u).length = 64 := by rw [List.length_map]; exact Sha.len_sched bs
  rcases hO2.nums with h0 | ⟨b2, off2, rfl, hlt2, hc2⟩
  · rw [h0] at hlen; simp at hlen
  have Hg := Lib.hid (show ∀ i, i < 64 → w2.cell? ⟨b2, off2 + i, none⟩ = some (.int .u32 (Sha.u ((Sha.sched bs).getD i 0))) from fun i hi => by
    rw [hc2 i (by rw [hlen]; exact hi)]
    simp [List.getD, show i < (Sha.sched bs).length by rw [Sha.len_sched]; omega])
  clear hO2 hc2 hlen
  have D0 : w2.cell? ⟨w.heap.size, 0, none⟩ = some (.int .u32 (Sha.u s.a)) := row_cells R0 0
  have D1 : w2.cell? ⟨w.heap.size, 1, none⟩ = some (.int .u32 (Sha.u s.b)) := row_cells R0 1
  have D2 : w2.cell? ⟨w.heap.size, 2, none⟩ = some (.int .u32 (Sha.u s.c)) := row_cells R0 2
  have D3 : w2.cell? ⟨w.heap.size, 3, none⟩ = some (.int .u32 (Sha.u s.d)) := row_cells R0 3
  have D4 : w2.cell? ⟨w.heap.size, 4, none⟩ = some (.int .u32 (Sha.u s.e)) := row_cells R0 4
  have D5 : w2.cell? ⟨w.heap.size, 5, none⟩ = some (.int .u32 (Sha.u s.f)) := row_cells R0 5
  have D6 : w2.cell? ⟨w.heap.size, 6, none⟩ = some (.int .u32 (Sha.u s.g)) := row_cells R0 6
  have D7 : w2.cell? ⟨w.heap.size, 7, none⟩ = some (.int .u32 (Sha.u s.h)) := row_cells R0 7
  go_wp2
  have RS := row_new (W := w2) (cs := #[.int .u32 (Sha.u s.a), .int .u32 (Sha.u s.b), .int .u32 (Sha.u s.c), .int .u32 (Sha.u s.d), .int .u32 (Sha.u s.e), .int .u32 (Sha.u s.f), .int .u32 (Sha.u s.g), .int .u32 (Sha.u s.h)]) (t := h8T) (m := (0, 0))
  have BS : Below w2.heap.size w2 (w2.alloc (.cells #[.int .u32 (Sha.u s.a), .int .u32 (Sha.u s.b), .int .u32 (Sha.u s.c), .int .u32 (Sha.u s.d), .int .u32 (Sha.u s.e), .int .u32 (Sha.u s.f), .int .u32 (Sha.u s.g), .int .u32 (Sha.u s.h)] h8T)) := (Below.refl _ _).alloc (Nat.le_refl _) _
  generalize w2.alloc (.cells #[.int .u32 (Sha.u s.a), .int .u32 (Sha.u s.b), .int .u32 (Sha.u s.c), .int .u32 (Sha.u s.d), .int .u32 (Sha.u s.e), .int .u32 (Sha.u s.f), .int .u32 (Sha.u s.g), .int .u32 (Sha.u s.h)] h8T) = W0 at RS BS ⊢
  clear D0 D1 D2 D3 D4 D5 D6 D7
  go_loopw [8] (fun i wr => ∃ k : Nat, k ≤ 64 ∧ i = .int .i64 k ∧ wr.heap[w2.heap.size]? = some (.cells (Sha.cs (Sha.after (Sha.sched bs) s k)) h8T) ∧ Below w2.heap.size w2 wr) (fun i _ => 64 - (intOf i).toNat)
  case atStart => exact ⟨0, by omega, rfl, RS, BS⟩
  case round =>
    obtain ⟨k, hk, rfl, R3, hB⟩ := hrel
    clear RS BS
    by_cases hlt : k < 64
    · have Hs := Lib.hid (show Sha.after (Sha.sched bs) s (k + 1) = Sha.step (Sha.after (Sha.sched bs) s k) (Sha.K.getD k 0) ((Sha.sched bs).getD k 0) from rfl)
      have KT : wr.cell? ⟨w.heap.size + 1 + 1, k, none⟩ = some (.int .u32 (Sha.u (Sha.K.getD k 0))) := (row_cells (row_kept RK hB hk1) k).trans (Sha.wcs_at Sha.K k hlt)
      have WT : wr.cell? ⟨b2, off2 + k, none⟩ = some (.int .u32 (Sha.u ((Sha.sched bs).getD k 0))) := (hB.cell (p := ⟨b2, off2 + k, none⟩) hlt2).trans (Hg.out k hlt)
      generalize Sha.after (Sha.sched bs) s k = S at Hs R3
      generalize Sha.K.getD k 0 = K at Hs KT
      generalize (Sha.sched bs).getD k 0 = V at Hs WT
      have q1 : (k : Int) < 64 := by omega
      have q0 : (0 : Int) ≤ (k : Int) := by omega
      have C0 : wr.cell? ⟨w2.heap.size, 0, none⟩ = some (.int .u32 (Sha.u S.a)) := row_cells R3 0
      have C1 : wr.cell? ⟨w2.heap.size, 1, none⟩ = some (.int .u32 (Sha.u S.b)) := row_cells R3 1
      have C2 : wr.cell? ⟨w2.heap.size, 2, none⟩ = some (.int .u32 (Sha.u S.c)) := row_cells R3 2
      have C3 : wr.cell? ⟨w2.heap.size, 3, none⟩ = some (.int .u32 (Sha.u S.d)) := row_cells R3 3
      have C4 : wr.cell? ⟨w2.heap.size, 4, none⟩ = some (.int .u32 (Sha.u S.e)) := row_cells R3 4
      have C5 : wr.cell? ⟨w2.heap.size, 5, none⟩ = some (.int .u32 (Sha.u S.f)) := row_cells R3 5
      have C6 : wr.cell? ⟨w2.heap.size, 6, none⟩ = some (.int .u32 (Sha.u S.g)) := row_cells R3 6
      have C7 : wr.cell? ⟨w2.heap.size, 7, none⟩ = some (.int .u32 (Sha.u S.h)) := row_cells R3 7
      have A := Sha.add_u
      have X := Sha.u_xor
      have N := Sha.u_not
      have D := Sha.u_and
      have sg : IntKind.u32.signed = false := rfl
      go_wp2_with fail
      go_quiet ((go_at_call 36; exact turn_q _ _ rfl _))
      have R3 : (wr.drewN nq).heap[w2.heap.size]? = some (.cells (Sha.cs S) h8T) := R3
      have hB := below_drewN hB nq
      have KT : (wr.drewN nq).cell? ⟨w.heap.size + 1 + 1, k, none⟩ = some (.int .u32 (Sha.u K)) := KT
      have WT : (wr.drewN nq).cell? ⟨b2, off2 + k, none⟩ = some (.int .u32 (Sha.u V)) := WT
      obtain ⟨W1, hW1⟩ : ∃ V, V = wr.drewN nq := ⟨_, rfl⟩
      rw [← hW1] at R3 hB KT WT ⊢
      clear hW1 C0 C1 C2 C3 C4 C5 C6 C7
      have C0 : W1.cell? ⟨w2.heap.size, 0, none⟩ = some (.int .u32 (Sha.u S.a)) := row_cells R3 0
      have C1 : W1.cell? ⟨w2.heap.size, 1, none⟩ = some (.int .u32 (Sha.u S.b)) := row_cells R3 1
      have C2 : W1.cell? ⟨w2.heap.size, 2, none⟩ = some (.int .u32 (Sha.u S.c)) := row_cells R3 2
      have C3 : W1.cell? ⟨w2.heap.size, 3, none⟩ = some (.int .u32 (Sha.u S.d)) := row_cells R3 3
      have C4 : W1.cell? ⟨w2.heap.size, 4, none⟩ = some (.int .u32 (Sha.u S.e)) := row_cells R3 4
      have C5 : W1.cell? ⟨w2.heap.size, 5, none⟩ = some (.int .u32 (Sha.u S.f)) := row_cells R3 5
      have C6 : W1.cell? ⟨w2.heap.size, 6, none⟩ = some (.int .u32 (Sha.u S.g)) := row_cells R3 6
      have C7 : W1.cell? ⟨w2.heap.size, 7, none⟩ = some (.int .u32 (Sha.u S.h)) := row_cells R3 7
      go_wp2_with fail
      go_quiet ((go_at_call 36; exact turn_q _ _ rfl _))
      have R3 : (W1.drewN nq).heap[w2.heap.size]? = some (.cells (Sha.cs S) h8T) := R3
      have hB := below_drewN hB nq
      have KT : (W1.drewN nq).cell? ⟨w.heap.size + 1 + 1, k, none⟩ = some (.int .u32 (Sha.u K)) := KT
      have WT : (W1.drewN nq).cell? ⟨b2, off2 + k, none⟩ = some (.int .u32 (Sha.u V)) := WT
      obtain ⟨W2, hW2⟩ : ∃ V, V = W1.drewN nq := ⟨_, rfl⟩
      rw [← hW2] at R3 hB KT WT ⊢
      clear hW2 C0 C1 C2 C3 C4 C5 C6 C7
      have C0 : W2.cell? ⟨w2.heap.size, 0, none⟩ = some (.int .u32 (Sha.u S.a)) := row_cells R3 0
      have C1 : W2.cell? ⟨w2.heap.size, 1, none⟩ = some (.int .u32 (Sha.u S.b)) := row_cells R3 1
      have C2 : W2.cell? ⟨w2.heap.size, 2, none⟩ = some (.int .u32 (Sha.u S.c)) := row_cells R3 2
      have C3 : W2.cell? ⟨w2.heap.size, 3, none⟩ = some (.int .u32 (Sha.u S.d)) := row_cells R3 3
      have C4 : W2.cell? ⟨w2.heap.size, 4, none⟩ = some (.int .u32 (Sha.u S.e)) := row_cells R3 4
      have C5 : W2.cell? ⟨w2.heap.size, 5, none⟩ = some (.int .u32 (Sha.u S.f)) := row_cells R3 5
      have C6 : W2.cell? ⟨w2.heap.size, 6, none⟩ = some (.int .u32 (Sha.u S.g)) := row_cells R3 6
      have C7 : W2.cell? ⟨w2.heap.size, 7, none⟩ = some (.int .u32 (Sha.u S.h)) := row_cells R3 7
      have R3e : W2.heap[w2.heap.size]? = some (.cells #[.int .u32 (Sha.u S.a), .int .u32 (Sha.u S.b), .int .u32 (Sha.u S.c), .int .u32 (Sha.u S.d), .int .u32 (Sha.u S.e), .int .u32 (Sha.u S.f), .int .u32 (Sha.u S.g), .int .u32 (Sha.u S.h)] h8T) := R3
      obtain ⟨g0, g1, d0, d1, f0, f1, z1⟩ := rows1 R3e
      clear KT WT d0
      go_wp2
      go_roundw
      case rel => exact ⟨k + 1, by omega, by go_num, by rw [Hs.out]; exact row_written R3, setRow_below hB (Nat.le_refl _)⟩
      case measure => simp [intOf]; omega
    · obtain rfl : k = 64 := by omega
      have R0 := row_kept R0 hB (row_lt R0)
      have R1 := row_kept R1 hB (row_lt R1)
      have hlt0 : w.heap.size < w2.heap.size := by omega
      have hlt1 : w.heap.size + 1 < w2.heap.size := by omega
      generalize hS : Sha.after (Sha.sched bs) s 64 = S at R3
      have HS := Lib.hid hS
      have A := Sha.add_u
      rw [show ((64 : Nat) : Int) = 64 from rfl]
      clear hS
      go_wp2
      go_loopw [13] (fun i wr => ∃ n : Nat, n ≤ 8 ∧ i = .int .i64 n ∧ wr.heap[w2.heap.size]? = some (.cells (Sha.mx S s n) h8T) ∧ Below w2.heap.size w2 wr) (fun i _ => 8 - (intOf i).toNat)
      case atStart => exact ⟨0, by omega, rfl, R3, hB⟩
      case round =>
        obtain ⟨n, hn8, rfl, R3', hB'⟩ := hrel
        clear R3
        by_cases hln : n < 8
        · have q1 : (n : Int) < 8 := by omega
          have q0 : (0 : Int) ≤ (n : Int) := by omega
          have C3 := (row_cells R3' n).trans (Sha.mx_at S s n hln)
          have R0' : wr.heap[w.heap.size]? = some (.cells (Sha.cs s) h8T) := by rw [hB'.block _ hlt0, ← hB.block _ hlt0]; exact R0
          have C0 := (row_cells R0' n).trans (Sha.cs_at s n hln)
          have Hm := Lib.hid (Sha.mx_set S s n hln)
          have M0 := Sha.mx_at S s n hln
          generalize Sha.wordAt S n = x at C3 Hm M0
          generalize Sha.wordAt s n = y at C0 Hm
          clear R0'
          go_wp2_with fail
          refine region_tail 9 (by kernel_rfl) (by kernel_rfl) ?_
          simp only [List.take_succ_cons, List.take_zero, List.drop_succ_cons, List.drop_zero]
          repeat (quiet_step (fail))
          with_reducible refine wpQuiet_nil ?_
          intro m
          have R3 : (wr.drewN m).heap[w2.heap.size]? = some (.cells (Sha.mx S s n) h8T) := R3'
          have hB2 := below_drewN hB' m
          obtain ⟨s0, s1, d0, d1, f0, f1, z1⟩ := rows1 R3
          clear R3' hB' C0 C3
          go_wp2
          go_roundw
          case rel =>
            refine ⟨n + 1, by omega, by go_num, ?_, setRow_below hB2 (Nat.le_refl _)⟩
            rw [← Hm.out]
            exact row_written R3
          case measure => simp [intOf]; omega
        · obtain rfl : n = 8 := by omega
          rw [Sha.mx_eight] at R3'
          have R1' : wr.heap[w.heap.size + 1]? = some (.cells #[.int .u32 0, .int .u32 0, .int .u32 0, .int .u32 0, .int .u32 0, .int .u32 0, .int .u32 0, .int .u32 0] h8T) := by rw [hB'.block _ hlt1, ← hB.block _ hlt1]; exact R1
          generalize hP : Sha.plus S s = T at R3'
          have HP := Lib.hid hP
          have HPl := Lib.hid (show Sha.block s bs = T by rw [← hP, ← HS.out, Sha.plus_comm]; rfl)
          clear hP
          have D0 : wr.cell? ⟨w2.heap.size, 0, none⟩ = some (.int .u32 (Sha.u T.a)) := row_cells R3' 0
          have D1 : wr.cell? ⟨w2.heap.size, 1, none⟩ = some (.int .u32 (Sha.u T.b)) := row_cells R3' 1
          have D2 : wr.cell? ⟨w2.heap.size, 2, none⟩ = some (.int .u32 (Sha.u T.c)) := row_cells R3' 2
          have D3 : wr.cell? ⟨w2.heap.size, 3, none⟩ = some (.int .u32 (Sha.u T.d)) := row_cells R3' 3
          have D4 : wr.cell? ⟨w2.heap.size, 4, none⟩ = some (.int .u32 (Sha.u T.e)) := row_cells R3' 4
          have D5 : wr.cell? ⟨w2.heap.size, 5, none⟩ = some (.int .u32 (Sha.u T.f)) := row_cells R3' 5
          have D6 : wr.cell? ⟨w2.heap.size, 6, none⟩ = some (.int .u32 (Sha.u T.g)) := row_cells R3' 6
          have D7 : wr.cell? ⟨w2.heap.size, 7, none⟩ = some (.int .u32 (Sha.u T.h)) := row_cells R3' 7
          obtain ⟨s0, s1, d0, d1, f0, f1, z1⟩ := rows1 R1'
          rw [show ((8 : Nat) : Int) = 8 from rfl]
          go_wp2
          refine bodyPost_ret (v := .agg (Sha.cs T)) (by simp [results, Tryd.results31, go_sem, d1, Sha.cs]) rfl ⟨by rw [HPl.out]; rfl, setRow_below (B2.trans (hB'.mono B2.size)) (by omega)⟩
end Go.Proofs.YthppbklbamakcaaDoor
