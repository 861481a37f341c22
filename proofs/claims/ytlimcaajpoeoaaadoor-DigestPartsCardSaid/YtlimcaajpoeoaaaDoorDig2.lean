/- The schedule of a block, the laying of the words. -/
import Derived.Test.YtlimcaajpoeoaaaDoorDig1
import Derived.Test.YtlimcaajpoeoaaaDoorArr
namespace Go.Proofs.YtlimcaajpoeoaaaDoor
open Go.ChangeShapes Go.WideShapes Go.ChangeAt Go.RowKit
namespace Sha
theorem cell_one (l : List W) : ∀ v ∈ l.map cell, v.oneCell' = true := by
  intro v hv
  simp only [List.mem_map] at hv
  obtain ⟨_, _, rfl⟩ := hv
  rfl
theorem wcs_get (l : List W) (n : Nat) (h : l.length = n) (k : Nat) (hk : k < n) : (wcs l)[k]? = some (.int .u32 (u (l.getD k 0))) := wcs_at l k (by omega)
theorem wcs_set (l : List W) (k : Nat) (x : W) : (wcs l).setIfInBounds k (.int .u32 (u x)) = wcs (l.set k x) := by
  unfold wcs
  rw [List.setIfInBounds_toArray, List.map_set]
  rfl
end Sha
theorem zero_w64 (W : World) : (zeroValue w64T).run Tryd.prog W = .ok (.agg (Sha.wcs (List.replicate 64 0))) W := by kernel_rfl
theorem info_w64 : (Tryd.prog.info? w64T).map (·.size) = some 64 := by kernel_rfl
theorem two_new {w : World} {c0 c1 : Array Value} {t0 t1 : TypeId} (W : World) (hW : W = (w.alloc (.cells c0 t0)).alloc (.cells c1 t1)) :
    W.heap[w.heap.size]? = some (.cells c0 t0) ∧ W.heap[w.heap.size + 1]? = some (.cells c1 t1) ∧ Below w.heap.size w W := by
  subst hW
  have a0 : (w.alloc (.cells c0 t0)).heap.size = w.heap.size + 1 := by simp
  have b0 := (MapKept.heap_alloc w (.cells c0 t0)).1
  have b1 := (MapKept.heap_alloc (w.alloc (.cells c0 t0)) (.cells c1 t1)).1
  rw [a0] at b1
  refine ⟨?_, b1, (((Below.refl _ _).alloc (Nat.le_refl _) _).alloc (by simp) _)⟩
  rw [Below.heap_alloc _ _ _ (by omega)]; exact b0

set_option maxRecDepth 100000 in
set_option maxHeartbeats 2000000 in
theorem schedule_any (b off cap : Nat) (bs : List Int) (hn : bs.length = 64) (hcap : 64 ≤ cap) (hwf : ∀ z ∈ bs, 0 ≤ z ∧ z < 256) (w : World) (hb : b < w.heap.size) (hc : ∀ i, i < 64 → w.cell? ⟨b, off + i, none⟩ = some (.int .u8 (bs.getD i 0))) :
    Calls Tryd.prog 11 #[.slice (some ⟨b, off, none⟩) 64 cap] w fun e w' => e = .returned (.agg (Sha.wcs (Sha.sched bs))) ∧ Below w.heap.size w w' := by
  have Hn := Lib.hid hn
  have Hc := Lib.hid hc
  have Hw := Lib.hid hwf
  have z0 := zero_w64
  clear hn hc hwf
  go_enter Tryd.func11, Tryd.ntmps11
  go_wp2
  go_loopw [11] (fun i wr => ∃ k : Nat, k ≤ 16 ∧ i = .int .i64 k ∧ wr.heap[w.heap.size]? = some (.cells (Sha.wcs (List.replicate 64 0)) w64T) ∧ wr.heap[w.heap.size + 1]? = some (.cells (Sha.wcs (Sha.rowA bs k)) w64T) ∧ Below w.heap.size w wr) (fun i _ => 16 - (intOf i).toNat)
  case atStart =>
    obtain ⟨f0, f1, f2⟩ := two_new (w := w) _ rfl
    exact ⟨0, by omega, rfl, f0, f1, f2⟩
  case round =>
    obtain ⟨k, hk, rfl, R0, R1, hB⟩ := hrel
    by_cases hlt : k < 16
    · have q1 : (k : Int) < 16 := by omega
      have q0 : (0 : Int) ≤ (k : Int) := by omega
      rw [← Sha.rowA_zero bs k (by omega)] at R1
      obtain ⟨wo, hwo⟩ : ∃ wo, wo = wr := ⟨_, rfl⟩
      rw [← hwo] at R0 R1 hB ⊢
      clear hwo
      go_wp2
      go_loopw [14] (fun i wr => ∃ j : Nat, j ≤ 4 ∧ i = .int .i64 j ∧ wr.heap[w.heap.size]? = some (.cells (Sha.wcs (List.replicate 64 0)) w64T) ∧ wr.heap[w.heap.size + 1]? = some (.cells (Sha.wcs ((Sha.rowA bs k).set k (Sha.part bs k j))) w64T) ∧ Below w.heap.size w wr) (fun i _ => 4 - (intOf i).toNat)
      case atStart => exact ⟨0, by omega, rfl, R0, R1, hB⟩
      case round =>
        obtain ⟨j, hj, rfl, R0', R1', hB'⟩ := hrel
        clear R0 R1 hB
        by_cases hlj : j < 4
        · have q3 : (j : Int) < 4 := by omega
          have q2 : (0 : Int) ≤ (j : Int) := by omega
          have C1 := (row_cells R1' k).trans (Sha.wcs_get _ 64 (by rw [List.length_set, Sha.len_rowA bs k (by omega)]) k (by omega))
          rw [Sha.set_get _ _ _ (by rw [Sha.len_rowA bs k (by omega)]; omega)] at C1
          have cb := (hB'.cell (p := ⟨b, off + (4 * k + j), none⟩) hb).trans (Hc.out (4 * k + j) (by omega))
          have Hp := Lib.hid (show Sha.part bs k (j + 1) = Sha.part bs k j <<< 8 ||| BitVec.ofInt 32 (bs.getD (4 * k + j) 0) from rfl)
          have hz : 0 ≤ bs.getD (4 * k + j) 0 ∧ bs.getD (4 * k + j) 0 < 256 := Hw.out _ (by
            have h1 : 4 * k + j < bs.length := by rw [Hn.out]; omega
            rw [List.getD_eq_getElem?_getD, List.getElem?_eq_getElem h1]
            exact List.getElem_mem h1)
          obtain ⟨hz0, hz1⟩ := hz
          have Hx := Lib.hid (Sha.wcs_set ((Sha.rowA bs k).set k (Sha.part bs k j)) k (Sha.part bs k (j + 1)))
          have M0 : (Sha.wcs ((Sha.rowA bs k).set k (Sha.part bs k j)))[k]? = some (.int .u32 (Sha.u (Sha.part bs k j))) := by
            rw [Sha.wcs_get _ 64 (by rw [List.length_set, Sha.len_rowA bs k (by omega)]) k (by omega), Sha.set_get _ _ _ (by rw [Sha.len_rowA bs k (by omega)]; omega)]
          generalize hR : Sha.wcs ((Sha.rowA bs k).set k (Sha.part bs k j)) = R at R1' M0 Hx
          generalize hP : Sha.part bs k j = x at C1 Hp M0
          generalize hZ : bs.getD (4 * k + j) 0 = z at cb Hp hz0 hz1
          clear hR hP hZ
          have SH := Sha.u_shl8
          have O := Sha.u_orI
          have q4 : (k : Int) < 64 := by omega
          have e1 : IntKind.i64.wrap (4 * (k : Int)) = 4 * (k : Int) := IntWalk.i64_in _ (by omega)
          have e2 : IntKind.i64.wrap (4 * (k : Int) + (j : Int)) = 4 * (k : Int) + (j : Int) := IntWalk.i64_in _ (by omega)
          have e3 : (4 * (k : Int) + (j : Int)).toNat = 4 * k + j := by omega
          have e4 : 0 ≤ 4 * (k : Int) + (j : Int) := by omega
          have e5 : 4 * (k : Int) + (j : Int) < 64 := by omega
          go_wp2_with fail
          refine region_tail 15 (by kernel_rfl) (by kernel_rfl) ?_
          simp only [List.take_succ_cons, List.take_zero, List.drop_succ_cons, List.drop_zero]
          repeat (quiet_step (fail))
          with_reducible refine wpQuiet_nil ?_
          intro m
          have R0 : (wr.drewN m).heap[w.heap.size]? = some (.cells (Sha.wcs (List.replicate 64 0)) w64T) := R0'
          have R1 : (wr.drewN m).heap[w.heap.size + 1]? = some (.cells R w64T) := R1'
          have hB := below_drewN hB' m
          obtain ⟨s0, s1, d0, d1, f0, f1, z1⟩ := rows1 R1
          clear R0' R1' hB' C1 cb
          go_wp2
          go_roundw
          case rel =>
            refine ⟨j + 1, by omega, by go_num, (setRow_far (by omega)).trans R0, ?_, setRow_below hB (by omega)⟩
            rw [← Sha.set_twice _ _ (Sha.part bs k j) _, ← Hx.out, Hp.out]
            exact row_written R1
          case measure => simp [intOf]; omega
        · obtain rfl : j = 4 := by omega
          rw [Sha.rowA_four bs k (by omega)] at R1'
          rw [show ((4 : Nat) : Int) = 4 from rfl]
          go_wp2
          go_roundw
          case rel => exact ⟨k + 1, by omega, by go_num, R0', R1', hB'⟩
          case measure => simp [intOf]; omega
    · obtain rfl : k = 16 := by omega
      rw [show ((16 : Nat) : Int) = 16 from rfl]
      rw [Sha.rowB_start] at R1
      go_wp2
      go_loopw [6] (fun i wr => ∃ K : Nat, 16 ≤ K ∧ K ≤ 64 ∧ i = .int .i64 K ∧ wr.heap[w.heap.size]? = some (.cells (Sha.wcs (List.replicate 64 0)) w64T) ∧ wr.heap[w.heap.size + 1]? = some (.cells (Sha.wcs (Sha.rowB bs (K - 16))) w64T) ∧ Below w.heap.size w wr) (fun i _ => 64 - (intOf i).toNat)
      case atStart => exact ⟨16, by omega, by omega, rfl, R0, R1, hB⟩
      case round =>
        obtain ⟨K, hK0, hK, rfl, R0', R1', hB'⟩ := hrel
        clear R0 R1 hB
        by_cases hlK : K < 64
        · have q1 : (K : Int) < 64 := by omega
          have q0 : (0 : Int) ≤ (K : Int) := by omega
          have q2 : (16 : Int) ≤ (K : Int) := by omega
          have hlen := Sha.len_rowB bs (K - 16) (by omega)
          have Cx := (row_cells R1' (K - 15)).trans (Sha.wcs_get _ 64 hlen (K - 15) (by omega))
          have Cy := (row_cells R1' (K - 2)).trans (Sha.wcs_get _ 64 hlen (K - 2) (by omega))
          have Cz := (row_cells R1' (K - 16)).trans (Sha.wcs_get _ 64 hlen (K - 16) (by omega))
          have Cv := (row_cells R1' (K - 7)).trans (Sha.wcs_get _ 64 hlen (K - 7) (by omega))
          have Hnx := Lib.hid (Sha.next_eq bs (K - 16))
          rw [show K - 16 + 1 = K - 15 by omega, show K - 16 + 9 = K - 7 by omega, show K - 16 + 14 = K - 2 by omega] at Hnx
          have Hst := Lib.hid (Sha.rowB_set bs (K - 16) (by omega))
          rw [show 16 + (K - 16) = K by omega, show K - 16 + 1 = K + 1 - 16 by omega] at Hst
          have Hx := Lib.hid (Sha.wcs_set (Sha.rowB bs (K - 16)) K (Sha.next (Sha.grow bs (K - 16))))
          have M0 := Sha.wcs_get _ 64 hlen K hlK
          generalize hR : Sha.wcs (Sha.rowB bs (K - 16)) = R at R1' M0 Hx
          generalize hQ : (Sha.rowB bs (K - 16)).getD K 0 = q at M0
          generalize hX : (Sha.rowB bs (K - 16)).getD (K - 15) 0 = x at Cx Hnx
          generalize hY : (Sha.rowB bs (K - 16)).getD (K - 2) 0 = y at Cy Hnx
          generalize hZ : (Sha.rowB bs (K - 16)).getD (K - 16) 0 = z at Cz Hnx
          generalize hV : (Sha.rowB bs (K - 16)).getD (K - 7) 0 = v at Cv Hnx
          clear hR hX hY hZ hV hQ hlen
          have A := Sha.add_u
          have X := Sha.u_xor
          have S3 : ∀ x : Sha.W, Sha.u x / (8 : Int) = Sha.u (x >>> (3 : Nat)) := fun x => Sha.u_shr x 3
          have S10 : ∀ x : Sha.W, Sha.u x / (1024 : Int) = Sha.u (x >>> (10 : Nat)) := fun x => Sha.u_shr x 10
          have hx0 := Sha.u_lo x
          have hx1 := Sha.u_hi x
          have hy0 := Sha.u_lo y
          have hy1 := Sha.u_hi y
          have t15 : ((K : Int) - 15).toNat = K - 15 := by omega
          have t2 : ((K : Int) - 2).toNat = K - 2 := by omega
          have t16 : ((K : Int) - 16).toNat = K - 16 := by omega
          have t7 : ((K : Int) - 7).toNat = K - 7 := by omega
          have b15 : 0 ≤ (K : Int) - 15 := by omega
          have b2 : 0 ≤ (K : Int) - 2 := by omega
          have b16 : 0 ≤ (K : Int) - 16 := by omega
          have b7 : 0 ≤ (K : Int) - 7 := by omega
          have l15 : (K : Int) - 15 < 64 := by omega
          have l2 : (K : Int) - 2 < 64 := by omega
          have l16 : (K : Int) - 16 < 64 := by omega
          have l7 : (K : Int) - 7 < 64 := by omega
          have r7 : 7 ≤ (K : Int) := by omega
          have p7 : (K : Int) < 71 := by omega
          have r2 : 2 ≤ (K : Int) := by omega
          have r15 : 15 ≤ (K : Int) := by omega
          have w15 : IntKind.i64.wrap ((K : Int) - 15) = (K : Int) - 15 := IntWalk.i64_in _ (by omega)
          have w2 : IntKind.i64.wrap ((K : Int) - 2) = (K : Int) - 2 := IntWalk.i64_in _ (by omega)
          have w16 : IntKind.i64.wrap ((K : Int) - 16) = (K : Int) - 16 := IntWalk.i64_in _ (by omega)
          have w7 : IntKind.i64.wrap ((K : Int) - 7) = (K : Int) - 7 := IntWalk.i64_in _ (by omega)
          go_wp2_with fail
          go_quiet (fail)
          have R0 : (wr.drewN nq).heap[w.heap.size]? = some (.cells (Sha.wcs (List.replicate 64 0)) w64T) := R0'
          have R1 : (wr.drewN nq).heap[w.heap.size + 1]? = some (.cells R w64T) := R1'
          have hB := below_drewN hB' nq
          have Cz' : (wr.drewN nq).cell? ⟨w.heap.size + 1, K - 16, none⟩ = some (.int .u32 (Sha.u z)) := Cz
          have Cv' : (wr.drewN nq).cell? ⟨w.heap.size + 1, K - 7, none⟩ = some (.int .u32 (Sha.u v)) := Cv
          obtain ⟨W1, hW1⟩ : ∃ W1, W1 = wr.drewN nq := ⟨_, rfl⟩
          rw [← hW1] at R0 R1 hB Cz' Cv' ⊢
          clear hW1 R0' R1' hB' Cx Cy Cz Cv
          go_wp2_with (go_at_call 15; refine (right_any _ _ rfl _).mono ?_; rintro e w' ⟨rfl, rfl⟩)
          refine region_tail 15 (by kernel_rfl) (by kernel_rfl) ?_
          simp only [List.take_succ_cons, List.take_zero, List.drop_succ_cons, List.drop_zero]
          repeat (quiet_step (fail))
          with_reducible refine wpQuiet_nil ?_
          intro m
          have R0' : (W1.drewN m).heap[w.heap.size]? = some (.cells (Sha.wcs (List.replicate 64 0)) w64T) := R0
          have R1' : (W1.drewN m).heap[w.heap.size + 1]? = some (.cells R w64T) := R1
          have hB' := below_drewN hB m
          obtain ⟨s0, s1, d0, d1, f0, f1, z1⟩ := rows1 R1'
          clear R0 R1 hB Cz' Cv'
          go_wp2
          go_roundw
          case rel =>
            refine ⟨K + 1, by omega, by omega, by go_num, (setRow_far (by omega)).trans R0', ?_, setRow_below hB' (by omega)⟩
            rw [← Hst.out, ← Hx.out, Hnx.out]
            exact row_written R1'
          case measure => simp [intOf]; omega
        · obtain rfl : K = 64 := by omega
          rw [show ((64 : Nat) : Int) = 64 from rfl]
          rw [show 64 - 16 = 48 from rfl, Sha.rowB_end] at R1'
          have hl64 : ((Sha.sched bs).map Sha.cell).length = 64 := by rw [List.length_map]; exact Sha.len_sched bs
          have Hl64 := Lib.hid hl64
          have HO := Lib.hid (Sha.cell_one (Sha.sched bs))
          clear hl64
          have R1 : wr.heap[w.heap.size + 1]? = some (.cells ((Sha.sched bs).map Sha.cell).toArray w64T) := R1'
          have R0 : wr.heap[w.heap.size]? = some (.cells ((List.replicate 64 0).map Sha.cell).toArray w64T) := R0'
          clear R1' R0'
          go_wp2_with (first
            | ((with_reducible refine wpl_arr Tryd.underlying35 info_w64 ?_ (.tmp 3) ?_ (w.heap.size + 1) ((Sha.sched bs).map Sha.cell) Hl64.out ?_ R1 ?_); (rfl); (rfl); (rfl))
            | ((with_reducible refine wpl_arr_store info_w64 ?_ (.tmp 2) (.tmp 77) ?_ w.heap.size ((Sha.sched bs).map Sha.cell) ((List.replicate 64 0).map Sha.cell) Hl64.out ?_ HO.out ?_ ?_ R0 ?_); (rfl); (rfl); (rfl); (rfl); (rfl))
            )
          exact bodyPost_ret (arr_results Tryd.underlying35 info_w64 Tryd.results11 Hl64.out rfl (row_written R0)) rfl ⟨rfl, setRow_below hB' (by omega)⟩
end Go.Proofs.YtlimcaajpoeoaaaDoor
