/- The document's own digest: the words of a block. -/
import Derived.Test.YthppbklbamakcaaDoorDigRef
import Derived.Test.YthppbklbamakcaaDoorShaMath2
import Derived.Test.YthppbklbamakcaaDoorMem3a
import Derived.Deep.RegionHeld3
namespace Go.Proofs.YthppbklbamakcaaDoor
open Go.ChangeShapes Go.WideShapes Go.ChangeAt Go.RowKit
theorem infoW : (Tryd.prog.info? 45).map (fun i => (i.zero, i.size, i.bytes)) = some (some (.int .u32 0), 1, 4) := by kernel_rfl
theorem turn_b (x : Sha.W) (m : Int) (hm : Rot m = true) (w : World) :
    Calls Tryd.prog 36 #[.int .u32 (Sha.u x), .int .i64 m] w fun e w' => e = .returned (.int .u32 (Sha.u (Sha.rr x m.toNat))) ∧ Below w.heap.size w w' :=
  (turn_any x m hm w).mono fun _ _ ⟨he, n, hn⟩ => ⟨he, by rw [hn]; exact below_drewN (Below.refl _ _) n⟩
set_option maxRecDepth 100000 in
set_option maxHeartbeats 1000000 in
theorem rwords_any (b off cap : Nat) (bs : List Int) (hn : bs.length = 64) (hcap : 64 ≤ cap) (hwf : ∀ z ∈ bs, 0 ≤ z ∧ z < 256) (w : World) (hb : b < w.heap.size) (hc : ∀ i, i < 64 → w.cell? ⟨b, off + i, none⟩ = some (.int .u8 (bs.getD i 0))) :
    Calls Tryd.prog 35 #[.slice (some ⟨b, off, none⟩) 64 cap] w fun e w' => ∃ A' c', e = .returned (.slice A' 64 c') ∧ OwnN .u32 45 w.heap.size w' A' c' ((Sha.sched bs).map Sha.u) ∧ Below w.heap.size w w' := by
  have Hn := Lib.hid hn
  have Hc := Lib.hid hc
  have Hw := Lib.hid hwf
  obtain ⟨i0, hi, hz0, hz1, hz2⟩ := info_parts infoW
  have HI := Lib.hid (And.intro hi (And.intro hz0 (And.intro hz1 hz2)))
  clear hn hc hwf hi hz0 hz1 hz2
  go_enter Tryd.func35, Tryd.ntmps35
  go_wp2
  go_loopw [3, 4] (fun v i wr => ∃ (k : Nat) (A' : Option Addr) (c' : Nat), k ≤ 16 ∧ i = .int .i64 k ∧ v = .slice A' k c' ∧ OwnN .u32 45 w.heap.size wr A' c' ((Sha.words bs k).map Sha.u) ∧ Below w.heap.size w wr) (fun _ i _ => 16 - (intOf i).toNat)
  case atStart => exact ⟨0, none, 0, by omega, rfl, rfl, OwnN.nil (Nat.le_refl _), Below.refl _ _⟩
  case round =>
    obtain ⟨k, A1, c1, hk, rfl, rfl, hO, hB⟩ := hrel
    have HO := Lib.hid hO
    clear hO
    by_cases hlt : k < 16
    · have q1 : (k : Int) < 16 := by omega
      have q0 : (0 : Int) ≤ (k : Int) := by omega
      have hz : ∀ i, i < 64 → 0 ≤ bs.getD i 0 ∧ bs.getD i 0 < 256 := fun i h => Hw.out _ (by
        have h1 : i < bs.length := by rw [Hn.out]; exact h
        rw [List.getD_eq_getElem?_getD, List.getElem?_eq_getElem h1]
        exact List.getElem_mem h1)
      have hu : ∀ i, i < 64 → Sha.u (BitVec.ofInt 32 (bs.getD i 0)) = bs.getD i 0 := fun i h => Sha.u_ofInt _ (hz i h).1 (by have := (hz i h).2; omega)
      have cb0 := (hB.cell (p := ⟨b, off + 4 * k, none⟩) hb).trans (Hc.out (4 * k) (by omega))
      have cb1 := (hB.cell (p := ⟨b, off + (4 * k + 1), none⟩) hb).trans (Hc.out (4 * k + 1) (by omega))
      have cb2 := (hB.cell (p := ⟨b, off + (4 * k + 2), none⟩) hb).trans (Hc.out (4 * k + 2) (by omega))
      have cb3 := (hB.cell (p := ⟨b, off + (4 * k + 3), none⟩) hb).trans (Hc.out (4 * k + 3) (by omega))
      rw [← hu _ (by omega)] at cb0 cb1 cb2 cb3
      have l0 := (hz (4 * k) (by omega)).2
      have l1 := (hz (4 * k + 1) (by omega)).2
      have l2 := (hz (4 * k + 2) (by omega)).2
      have l3 := (hz (4 * k + 3) (by omega)).2
      rw [← hu _ (by omega)] at l0 l1 l2 l3
      have Hp := Lib.hid (show Sha.words bs (k + 1) = Sha.words bs k ++ [Sha.word (bs.getD (4 * k) 0) (bs.getD (4 * k + 1) 0) (bs.getD (4 * k + 2) 0) (bs.getD (4 * k + 3) 0)] from rfl)
      have hwd := Sha.word_or (bs.getD (4 * k) 0) (bs.getD (4 * k + 1) 0) (bs.getD (4 * k + 2) 0) (bs.getD (4 * k + 3) 0)
      rw [hwd] at Hp
      generalize BitVec.ofInt 32 (bs.getD (4 * k) 0) = y0 at cb0 l0 Hp
      generalize BitVec.ofInt 32 (bs.getD (4 * k + 1) 0) = y1 at cb1 l1 Hp
      generalize BitVec.ofInt 32 (bs.getD (4 * k + 2) 0) = y2 at cb2 l2 Hp
      generalize BitVec.ofInt 32 (bs.getD (4 * k + 3) 0) = y3 at cb3 l3 Hp
      clear hz hu hwd
      have u0 := Sha.u_lo y0
      have u1 := Sha.u_lo y1
      have u2 := Sha.u_lo y2
      have u3 := Sha.u_lo y3
      have O := Sha.u_or
      have WU := Sha.wrap_u
      have S24 : IntKind.u32.wrap (Sha.u y0 * (16777216 : Int)) = Sha.u (y0 <<< (24 : Nat)) := Sha.u_shl y0 24
      have S16 : IntKind.u32.wrap (Sha.u y1 * (65536 : Int)) = Sha.u (y1 <<< (16 : Nat)) := Sha.u_shl y1 16
      have S8 : IntKind.u32.wrap (Sha.u y2 * (256 : Int)) = Sha.u (y2 <<< (8 : Nat)) := Sha.u_shl y2 8
      have e0 : IntKind.i64.wrap (4 * (k : Int)) = 4 * (k : Int) := IntWalk.i64_in _ (by omega)
      have e1 : IntKind.i64.wrap (4 * (k : Int) + 1) = 4 * (k : Int) + 1 := IntWalk.i64_in _ (by omega)
      have e2 : IntKind.i64.wrap (4 * (k : Int) + 2) = 4 * (k : Int) + 2 := IntWalk.i64_in _ (by omega)
      have e3 : IntKind.i64.wrap (4 * (k : Int) + 3) = 4 * (k : Int) + 3 := IntWalk.i64_in _ (by omega)
      have t0 : (4 * (k : Int)).toNat = 4 * k := by omega
      have t1 : (4 * (k : Int) + 1).toNat = 4 * k + 1 := by omega
      have t2 : (4 * (k : Int) + 2).toNat = 4 * k + 2 := by omega
      have t3 : (4 * (k : Int) + 3).toNat = 4 * k + 3 := by omega
      have g0 : 0 ≤ 4 * (k : Int) := by omega
      have g1 : 0 ≤ 4 * (k : Int) + 1 := by omega
      have g2 : 0 ≤ 4 * (k : Int) + 2 := by omega
      have g3 : 0 ≤ 4 * (k : Int) + 3 := by omega
      have f0 : 4 * (k : Int) < 64 := by omega
      have f1 : 4 * (k : Int) + 1 < 64 := by omega
      have f2 : 4 * (k : Int) + 2 < 64 := by omega
      have f3 : 4 * (k : Int) + 3 < 64 := by omega
      go_wp2_with fail
      have HK := Lib.hid (fun (W : World) (h : Below w.heap.size w W) => show W.cell? ⟨b, off + 4 * k, none⟩ = some (.int .u8 (Sha.u y0)) ∧ W.cell? ⟨b, off + (4 * k + 1), none⟩ = some (.int .u8 (Sha.u y1)) ∧ W.cell? ⟨b, off + (4 * k + 2), none⟩ = some (.int .u8 (Sha.u y2)) ∧ W.cell? ⟨b, off + (4 * k + 3), none⟩ = some (.int .u8 (Sha.u y3)) from
        ⟨((h.cell (p := ⟨b, off + 4 * k, none⟩) hb).trans (hB.cell (p := ⟨b, off + 4 * k, none⟩) hb).symm).trans cb0, ((h.cell (p := ⟨b, off + (4 * k + 1), none⟩) hb).trans (hB.cell (p := ⟨b, off + (4 * k + 1), none⟩) hb).symm).trans cb1, ((h.cell (p := ⟨b, off + (4 * k + 2), none⟩) hb).trans (hB.cell (p := ⟨b, off + (4 * k + 2), none⟩) hb).symm).trans cb2, ((h.cell (p := ⟨b, off + (4 * k + 3), none⟩) hb).trans (hB.cell (p := ⟨b, off + (4 * k + 3), none⟩) hb).symm).trans cb3⟩)
      clear cb0 cb1 cb2 cb3
      go_region_held3 (fun W => W.cell? ⟨b, off + 4 * k, none⟩ = some (.int .u8 (Sha.u y0)) ∧ W.cell? ⟨b, off + (4 * k + 1), none⟩ = some (.int .u8 (Sha.u y1)) ∧ W.cell? ⟨b, off + (4 * k + 2), none⟩ = some (.int .u8 (Sha.u y2)) ∧ W.cell? ⟨b, off + (4 * k + 3), none⟩ = some (.int .u8 (Sha.u y3)))
        (first | (with_reducible exact HK.out _ hB2) | exact HK.out _ (below_drewN hB 1) | exact HK.out _ ((below_drewN hB 1).alloc hB.size _) | exact HK.out _ (below_drewN (hB.alloc hB.size _) 1) | go_keep)
        (first
          | (refine step_append_num rfl (.tmp 14) (.tmp 48) 56 rfl i0 4 Tryd.underlying56 HI.out.1 HI.out.2.1 HI.out.2.2.1 HI.out.2.2.2 (by decide) k (by rw [List.length_map]; exact Sha.len_words _ _) rfl ((HO.out.drewN 1).alloc _) ⟨wr.heap.size, 0, none⟩ _ _ rfl (by simp; rfl) (by rw [List.length_map, Sha.len_words]; omega) w.heap.size w (Nat.le_refl _) ((below_drewN hB 1).alloc hB.size _) ?_; intro A2 c2 w2 hO2 hB2))
      go_wp2
      go_roundw
      case rel => exact ⟨k + 1, A2, c2, by omega, by go_num, rfl, by rw [Hp.out, List.map_append]; exact hO2, hB2⟩
      case measure => simp [intOf]; omega
    · obtain rfl : k = 16 := by omega
      rw [show ((16 : Nat) : Int) = 16 from rfl]
      go_wp2
      go_loopw [3, 5] (fun v i wr => ∃ (K : Nat) (A' : Option Addr) (c' : Nat), 16 ≤ K ∧ K ≤ 64 ∧ i = .int .i64 K ∧ v = .slice A' K c' ∧ OwnN .u32 45 w.heap.size wr A' c' ((Sha.grow bs (K - 16)).map Sha.u) ∧ Below w.heap.size w wr) (fun _ i _ => 64 - (intOf i).toNat)
      case atStart => exact ⟨16, A1, c1, by omega, by omega, rfl, rfl, HO.out, hB⟩
      case round =>
        obtain ⟨K, A2, c2, hK0, hK, rfl, rfl, hO2, hB2⟩ := hrel
        have HO2 := Lib.hid hO2
        clear HO hB
        by_cases hlK : K < 64
        · have q1 : (K : Int) < 64 := by omega
          have q0 : (0 : Int) ≤ (K : Int) := by omega
          have q2 : (16 : Int) ≤ (K : Int) := by omega
          have hlen : ((Sha.grow bs (K - 16)).map Sha.u).length = K := by rw [List.length_map, Sha.len_grow]; omega
          rcases hO2.nums with h0 | ⟨b2, off2, rfl, hlt2, hc2⟩
          · rw [h0] at hlen; simp at hlen; omega
          have hg : ∀ i, i < K → wr.cell? ⟨b2, off2 + i, none⟩ = some (.int .u32 (Sha.u ((Sha.grow bs (K - 16)).getD i 0))) := fun i hi => by
            rw [hc2 i (by rw [hlen]; exact hi)]
            simp [List.getD, show i < (Sha.grow bs (K - 16)).length by rw [Sha.len_grow]; omega]
          have Cx := hg (K - 15) (by omega)
          have Cy := hg (K - 2) (by omega)
          have Cz := hg (K - 16) (by omega)
          have Cv := hg (K - 7) (by omega)
          have Hnx := Lib.hid (show Sha.grow bs (K + 1 - 16) = Sha.grow bs (K - 16) ++ [(Sha.grow bs (K - 16)).getD (K - 16) 0 + Sha.s0 ((Sha.grow bs (K - 16)).getD (K - 15) 0) + (Sha.grow bs (K - 16)).getD (K - 7) 0 + Sha.s1 ((Sha.grow bs (K - 16)).getD (K - 2) 0)] by
            rw [show K + 1 - 16 = K - 16 + 1 by omega, Sha.grow, Sha.next, Sha.len_grow, show 16 + (K - 16) - 16 = K - 16 by omega, show 16 + (K - 16) - 15 = K - 15 by omega, show 16 + (K - 16) - 7 = K - 7 by omega, show 16 + (K - 16) - 2 = K - 2 by omega])
          have Hlen := Lib.hid hlen
          have HO2 := Lib.hid hO2
          have HS64 := Lib.hid (show ((Sha.grow bs (K - 16)).map Sha.u).length < 17592186044415 by rw [hlen]; omega)
          generalize (Sha.grow bs (K - 16)).getD (K - 15) 0 = x at Cx Hnx
          generalize (Sha.grow bs (K - 16)).getD (K - 2) 0 = y at Cy Hnx
          generalize (Sha.grow bs (K - 16)).getD (K - 16) 0 = z at Cz Hnx
          generalize (Sha.grow bs (K - 16)).getD (K - 7) 0 = v at Cv Hnx
          clear hc2 hg hO2 hlen
          have X := Sha.u_xor
          have WU := Sha.wrap_u
          have A := Sha.u_add
          have A' := Sha.add_u
          have S3 : ∀ x : Sha.W, Sha.u x / (8 : Int) = Sha.u (x >>> (3 : Nat)) := fun x => Sha.u_shr x 3
          have S10 : ∀ x : Sha.W, Sha.u x / (1024 : Int) = Sha.u (x >>> (10 : Nat)) := fun x => Sha.u_shr x 10
          have hx0 := Sha.u_lo x
          have hy0 := Sha.u_lo y
          have t15 : ((K : Int) - 15).toNat = K - 15 := by omega
          have t2 : ((K : Int) - 2).toNat = K - 2 := by omega
          have t16 : ((K : Int) - 16).toNat = K - 16 := by omega
          have t7 : ((K : Int) - 7).toNat = K - 7 := by omega
          have b15 : 0 ≤ (K : Int) - 15 := by omega
          have b2' : 0 ≤ (K : Int) - 2 := by omega
          have b16 : 0 ≤ (K : Int) - 16 := by omega
          have b7 : 0 ≤ (K : Int) - 7 := by omega
          have l15 : (K : Int) - 15 < (K : Int) := by omega
          have l2 : (K : Int) - 2 < (K : Int) := by omega
          have l16 : (K : Int) - 16 < (K : Int) := by omega
          have l7 : (K : Int) - 7 < (K : Int) := by omega
          have r7 : 7 ≤ (K : Int) := by omega
          have r2 : 2 ≤ (K : Int) := by omega
          have r15 : 15 ≤ (K : Int) := by omega
          have w16 : IntKind.i64.wrap ((K : Int) - 16) = (K : Int) - 16 := IntWalk.i64_in _ (by omega)
          have w7 : IntKind.i64.wrap ((K : Int) - 7) = (K : Int) - 7 := IntWalk.i64_in _ (by omega)
          go_wp2_with (go_at_call 36; refine (turn_any _ _ rfl _).mono ?_; rintro e w' ⟨rfl, m, rfl⟩)
          go_region_law (refine step_append_num rfl (.tmp 80) (.tmp 96) 56 rfl i0 4 Tryd.underlying56 HI.out.1 HI.out.2.1 HI.out.2.2.1 HI.out.2.2.2 (by decide) K Hlen.out rfl ((HO2.out.drewN _).alloc _) ⟨wr.heap.size, 0, none⟩ _ _ rfl (alloc_cell0 _ _ _ _ rfl) HS64.out w.heap.size w (Nat.le_refl _) ((below_drewN hB2 _).alloc hB2.size _) ?_; intro A3 c3 w3 hO3 hB3)
          all_goals
            go_wp2
            go_roundw
            case rel => exact ⟨K + 1, A3, c3, by omega, by omega, by go_num, rfl, by rw [Hnx.out, List.map_append]; exact hO3, hB3⟩
            case measure => simp [intOf]; omega
        · obtain rfl : K = 64 := by omega
          clear hO2
          rw [show ((64 : Nat) : Int) = 64 from rfl]
          go_wp2
          go_ret
          exact ⟨A2, c2, rfl, HO2.out, hB2⟩
end Go.Proofs.YthppbklbamakcaaDoor
