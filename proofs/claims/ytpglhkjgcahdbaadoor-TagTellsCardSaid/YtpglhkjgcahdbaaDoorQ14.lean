/- Texts of this proof, merged: DigRef2, DigRef0, DigRef3. -/
import Derived.Test.YtpglhkjgcahdbaaDoorQ13
import Derived.Deep.RegionHeld3
import Derived.Test.YtpglhkjgcahdbaaDoorQ5
/- The document's own digest: the words of a block. -/
namespace Go.Proofs.YtpglhkjgcahdbaaDoor
open Go.ChangeShapes Go.WideShapes Go.ChangeAt Go.RowKit
theorem infoW : (Tryd.prog.info? 74).map (fun i => (i.zero, i.size, i.bytes)) = some (some (.int .u32 0), 1, 4) := by kernel_rfl
theorem turn_b (x : Sha.W) (m : Int) (hm : Rot m = true) (w : World) :
    Calls Tryd.prog 79 #[.int .u32 (Sha.u x), .int .i64 m] w fun e w' => e = .returned (.int .u32 (Sha.u (Sha.rr x m.toNat))) ∧ Below w.heap.size w w' :=
  (turn_any x m hm w).mono fun _ _ ⟨he, n, hn⟩ => ⟨he, by rw [hn]; exact below_drewN (Below.refl _ _) n⟩
set_option maxRecDepth 100000 in
set_option maxHeartbeats 1000000 in
theorem rwords_any (b off cap : Nat) (bs : List Int) (hn : bs.length = 64) (hcap : 64 ≤ cap) (hwf : ∀ z ∈ bs, 0 ≤ z ∧ z < 256) (w : World) (hb : b < w.heap.size) (hc : ∀ i, i < 64 → w.cell? ⟨b, off + i, none⟩ = some (.int .u8 (bs.getD i 0))) :
    Calls Tryd.prog 78 #[.slice (some ⟨b, off, none⟩) 64 cap] w fun e w' => ∃ A' c', e = .returned (.slice A' 64 c') ∧ OwnN .u32 74 w.heap.size w' A' c' ((Sha.sched bs).map Sha.u) ∧ Below w.heap.size w w' := by
  have Hn := Lib.hid hn
  have Hc := Lib.hid hc
  have Hw := Lib.hid hwf
  obtain ⟨i0, hi, hz0, hz1, hz2⟩ := info_parts infoW
  have HI := Lib.hid (And.intro hi (And.intro hz0 (And.intro hz1 hz2)))
  clear hn hc hwf hi hz0 hz1 hz2
  go_enter Tryd.func78, Tryd.ntmps78
  go_wp2
  go_loopw [3, 4] (fun v i wr => ∃ (k : Nat) (A' : Option Addr) (c' : Nat), k ≤ 16 ∧ i = .int .i64 k ∧ v = .slice A' k c' ∧ OwnN .u32 74 w.heap.size wr A' c' ((Sha.words bs k).map Sha.u) ∧ Below w.heap.size w wr) (fun _ i _ => 16 - (intOf i).toNat)
  case atStart => exact ⟨0, none, 0, by omega, rfl, rfl, OwnN.nil (Nat.le_refl _), Below.refl _ _⟩
  case round =>
    obtain ⟨k, A1, c1, hk, rfl, rfl, hO, hB⟩ := hrel
    have HO := Lib.hid hO
    clear hO
    by_cases hlt : k < 16
    · have q1 : (k : Int) < 16 := by omega
      have q0 : (0 : Int) ≤ (k : Int) := by omega
      have hz : ∀ i, i < 64 → 0 ≤ bs.getD i 0 ∧ bs.getD i 0 < 256 := fun i h => Hw.out _ (by
        have h1 : i < bs.length := by rw [Hn.out]; exact h
        rw [List.getD_eq_getElem?_getD, List.getElem?_eq_getElem h1]
        exact List.getElem_mem h1)
      have hu : ∀ i, i < 64 → Sha.u (BitVec.ofInt 32 (bs.getD i 0)) = bs.getD i 0 := fun i h => Sha.u_ofInt _ (hz i h).1 (by have := (hz i h).2; omega)
      have cb0 := (hB.cell (p := ⟨b, off + 4 * k, none⟩) hb).trans (Hc.out (4 * k) (by omega))
      have cb1 := (hB.cell (p := ⟨b, off + (4 * k + 1), none⟩) hb).trans (Hc.out (4 * k + 1) (by omega))
      have cb2 := (hB.cell (p := ⟨b, off + (4 * k + 2), none⟩) hb).trans (Hc.out (4 * k + 2) (by omega))
      have cb3 := (hB.cell (p := ⟨b, off + (4 * k + 3), none⟩) hb).trans (Hc.out (4 * k + 3) (by omega))
      rw [← hu _ (by omega)] at cb0 cb1 cb2 cb3
      have l0 := (hz (4 * k) (by omega)).2
      have l1 := (hz (4 * k + 1) (by omega)).2
      have l2 := (hz (4 * k + 2) (by omega)).2
      have l3 := (hz (4 * k + 3) (by omega)).2
      rw [← hu _ (by omega)] at l0 l1 l2 l3
      have Hp := Lib.hid (show Sha.words bs (k + 1) = Sha.words bs k ++ [Sha.word (bs.getD (4 * k) 0) (bs.getD (4 * k + 1) 0) (bs.getD (4 * k + 2) 0) (bs.getD (4 * k + 3) 0)] from rfl)
      have hwd := Sha.word_or (bs.getD (4 * k) 0) (bs.getD (4 * k + 1) 0) (bs.getD (4 * k + 2) 0) (bs.getD (4 * k + 3) 0)
      rw [hwd] at Hp
      generalize BitVec.ofInt 32 (bs.getD (4 * k) 0) = y0 at cb0 l0 Hp
      generalize BitVec.ofInt 32 (bs.getD (4 * k + 1) 0) = y1 at cb1 l1 Hp
      generalize BitVec.ofInt 32 (bs.getD (4 * k + 2) 0) = y2 at cb2 l2 Hp
      generalize BitVec.ofInt 32 (bs.getD (4 * k + 3) 0) = y3 at cb3 l3 Hp
      clear hz hu hwd
      have u0 := Sha.u_lo y0
      have u1 := Sha.u_lo y1
      have u2 := Sha.u_lo y2
      have u3 := Sha.u_lo y3
      have O := Sha.u_or
      have WU := Sha.wrap_u
      have S24 : IntKind.u32.wrap (Sha.u y0 * (16777216 : Int)) = Sha.u (y0 <<< (24 : Nat)) := Sha.u_shl y0 24
      have S16 : IntKind.u32.wrap (Sha.u y1 * (65536 : Int)) = Sha.u (y1 <<< (16 : Nat)) := Sha.u_shl y1 16
      have S8 : IntKind.u32.wrap (Sha.u y2 * (256 : Int)) = Sha.u (y2 <<< (8 : Nat)) := Sha.u_shl y2 8
      have e0 : IntKind.i64.wrap (4 * (k : Int)) = 4 * (k : Int) := IntWalk.i64_in _ (by omega)
      have e1 : IntKind.i64.wrap (4 * (k : Int) + 1) = 4 * (k : Int) + 1 := IntWalk.i64_in _ (by omega)
      have e2 : IntKind.i64.wrap (4 * (k : Int) + 2) = 4 * (k : Int) + 2 := IntWalk.i64_in _ (by omega)
      have e3 : IntKind.i64.wrap (4 * (k : Int) + 3) = 4 * (k : Int) + 3 := IntWalk.i64_in _ (by omega)
      have t0 : (4 * (k : Int)).toNat = 4 * k := by omega
      have t1 : (4 * (k : Int) + 1).toNat = 4 * k + 1 := by omega
      have t2 : (4 * (k : Int) + 2).toNat = 4 * k + 2 := by omega
      have t3 : (4 * (k : Int) + 3).toNat = 4 * k + 3 := by omega
      have g0 : 0 ≤ 4 * (k : Int) := by omega
      have g1 : 0 ≤ 4 * (k : Int) + 1 := by omega
      have g2 : 0 ≤ 4 * (k : Int) + 2 := by omega
      have g3 : 0 ≤ 4 * (k : Int) + 3 := by omega
      have f0 : 4 * (k : Int) < 64 := by omega
      have f1 : 4 * (k : Int) + 1 < 64 := by omega
      have f2 : 4 * (k : Int) + 2 < 64 := by omega
      have f3 : 4 * (k : Int) + 3 < 64 := by omega
      go_wp2_with fail
      have HK := Lib.hid (fun (W : World) (h : Below w.heap.size w W) => show W.cell? ⟨b, off + 4 * k, none⟩ = some (.int .u8 (Sha.u y0)) ∧ W.cell? ⟨b, off + (4 * k + 1), none⟩ = some (.int .u8 (Sha.u y1)) ∧ W.cell? ⟨b, off + (4 * k + 2), none⟩ = some (.int .u8 (Sha.u y2)) ∧ W.cell? ⟨b, off + (4 * k + 3), none⟩ = some (.int .u8 (Sha.u y3)) from
        ⟨((h.cell (p := ⟨b, off + 4 * k, none⟩) hb).trans (hB.cell (p := ⟨b, off + 4 * k, none⟩) hb).symm).trans cb0, ((h.cell (p := ⟨b, off + (4 * k + 1), none⟩) hb).trans (hB.cell (p := ⟨b, off + (4 * k + 1), none⟩) hb).symm).trans cb1, ((h.cell (p := ⟨b, off + (4 * k + 2), none⟩) hb).trans (hB.cell (p := ⟨b, off + (4 * k + 2), none⟩) hb).symm).trans cb2, ((h.cell (p := ⟨b, off + (4 * k + 3), none⟩) hb).trans (hB.cell (p := ⟨b, off + (4 * k + 3), none⟩) hb).symm).trans cb3⟩)
      clear cb0 cb1 cb2 cb3
      go_region_held3 (fun W => W.cell? ⟨b, off + 4 * k, none⟩ = some (.int .u8 (Sha.u y0)) ∧ W.cell? ⟨b, off + (4 * k + 1), none⟩ = some (.int .u8 (Sha.u y1)) ∧ W.cell? ⟨b, off + (4 * k + 2), none⟩ = some (.int .u8 (Sha.u y2)) ∧ W.cell? ⟨b, off + (4 * k + 3), none⟩ = some (.int .u8 (Sha.u y3)))
        (first | (with_reducible exact HK.out _ hB2) | exact HK.out _ (below_drewN hB 1) | exact HK.out _ ((below_drewN hB 1).alloc hB.size _) | exact HK.out _ (below_drewN (hB.alloc hB.size _) 1) | go_keep)
        (first
          | (refine step_append_num rfl (.tmp 14) (.tmp 48) 87 rfl i0 4 Tryd.underlying87 HI.out.1 HI.out.2.1 HI.out.2.2.1 HI.out.2.2.2 (by decide) k (by rw [List.length_map]; exact Sha.len_words _ _) rfl ((HO.out.drewN 1).alloc _) ⟨wr.heap.size, 0, none⟩ _ _ rfl (by simp; rfl) (by rw [List.length_map, Sha.len_words]; omega) w.heap.size w (Nat.le_refl _) ((below_drewN hB 1).alloc hB.size _) ?_; intro A2 c2 w2 hO2 hB2))
      go_wp2
      go_roundw
      case rel => exact ⟨k + 1, A2, c2, by omega, by go_num, rfl, by rw [Hp.out, List.map_append]; exact hO2, hB2⟩
      case measure => simp [intOf]; omega
    · obtain rfl : k = 16 := by omega
      rw [show ((16 : Nat) : Int) = 16 from rfl]
      go_wp2
      go_loopw [3, 5] (fun v i wr => ∃ (K : Nat) (A' : Option Addr) (c' : Nat), 16 ≤ K ∧ K ≤ 64 ∧ i = .int .i64 K ∧ v = .slice A' K c' ∧ OwnN .u32 74 w.heap.size wr A' c' ((Sha.grow bs (K - 16)).map Sha.u) ∧ Below w.heap.size w wr) (fun _ i _ => 64 - (intOf i).toNat)
      case atStart => exact ⟨16, A1, c1, by omega, by omega, rfl, rfl, HO.out, hB⟩
      case round =>
        obtain ⟨K, A2, c2, hK0, hK, rfl, rfl, hO2, hB2⟩ := hrel
        have HO2 := Lib.hid hO2
        clear HO hB
        by_cases hlK : K < 64
        · have q1 : (K : Int) < 64 := by omega
          have q0 : (0 : Int) ≤ (K : Int) := by omega
          have q2 : (16 : Int) ≤ (K : Int) := by omega
          have hlen : ((Sha.grow bs (K - 16)).map Sha.u).length = K := by rw [List.length_map, Sha.len_grow]; omega
          rcases hO2.nums with h0 | ⟨b2, off2, rfl, hlt2, hc2⟩
          · rw [h0] at hlen; simp at hlen; omega
          have hg : ∀ i, i < K → wr.cell? ⟨b2, off2 + i, none⟩ = some (.int .u32 (Sha.u ((Sha.grow bs (K - 16)).getD i 0))) := fun i hi => by
            rw [hc2 i (by rw [hlen]; exact hi)]
            simp [List.getD, show i < (Sha.grow bs (K - 16)).length by rw [Sha.len_grow]; omega]
          have Cx := hg (K - 15) (by omega)
          have Cy := hg (K - 2) (by omega)
          have Cz := hg (K - 16) (by omega)
          have Cv := hg (K - 7) (by omega)
          have Hnx := Lib.hid (show Sha.grow bs (K + 1 - 16) = Sha.grow bs (K - 16) ++ [(Sha.grow bs (K - 16)).getD (K - 16) 0 + Sha.s0 ((Sha.grow bs (K - 16)).getD (K - 15) 0) + (Sha.grow bs (K - 16)).getD (K - 7) 0 + Sha.s1 ((Sha.grow bs (K - 16)).getD (K - 2) 0)] by
            rw [show K + 1 - 16 = K - 16 + 1 by omega, Sha.grow, Sha.next, Sha.len_grow, show 16 + (K - 16) - 16 = K - 16 by omega, show 16 + (K - 16) - 15 = K - 15 by omega, show 16 + (K - 16) - 7 = K - 7 by omega, show 16 + (K - 16) - 2 = K - 2 by omega])
          have Hlen := Lib.hid hlen
          have HO2 := Lib.hid hO2
          have HS64 := Lib.hid (show ((Sha.grow bs (K - 16)).map Sha.u).length < 17592186044415 by rw [hlen]; omega)
          generalize (Sha.grow bs (K - 16)).getD (K - 15) 0 = x at Cx Hnx
          generalize (Sha.grow bs (K - 16)).getD (K - 2) 0 = y at Cy Hnx
          generalize (Sha.grow bs (K - 16)).getD (K - 16) 0 = z at Cz Hnx
          generalize (Sha.grow bs (K - 16)).getD (K - 7) 0 = v at Cv Hnx
          clear hc2 hg hO2 hlen
          have X := Sha.u_xor
          have WU := Sha.wrap_u
          have A := Sha.u_add
          have A' := Sha.add_u
          have S3 : ∀ x : Sha.W, Sha.u x / (8 : Int) = Sha.u (x >>> (3 : Nat)) := fun x => Sha.u_shr x 3
          have S10 : ∀ x : Sha.W, Sha.u x / (1024 : Int) = Sha.u (x >>> (10 : Nat)) := fun x => Sha.u_shr x 10
          have hx0 := Sha.u_lo x
          have hy0 := Sha.u_lo y
          have t15 : ((K : Int) - 15).toNat = K - 15 := by omega
          have t2 : ((K : Int) - 2).toNat = K - 2 := by omega
          have t16 : ((K : Int) - 16).toNat = K - 16 := by omega
          have t7 : ((K : Int) - 7).toNat = K - 7 := by omega
          have b15 : 0 ≤ (K : Int) - 15 := by omega
          have b2' : 0 ≤ (K : Int) - 2 := by omega
          have b16 : 0 ≤ (K : Int) - 16 := by omega
          have b7 : 0 ≤ (K : Int) - 7 := by omega
          have l15 : (K : Int) - 15 < (K : Int) := by omega
          have l2 : (K : Int) - 2 < (K : Int) := by omega
          have l16 : (K : Int) - 16 < (K : Int) := by omega
          have l7 : (K : Int) - 7 < (K : Int) := by omega
          have r7 : 7 ≤ (K : Int) := by omega
          have r2 : 2 ≤ (K : Int) := by omega
          have r15 : 15 ≤ (K : Int) := by omega
          have w16 : IntKind.i64.wrap ((K : Int) - 16) = (K : Int) - 16 := IntWalk.i64_in _ (by omega)
          have w7 : IntKind.i64.wrap ((K : Int) - 7) = (K : Int) - 7 := IntWalk.i64_in _ (by omega)
          go_wp2_with (go_at_call 79; refine (turn_any _ _ rfl _).mono ?_; rintro e w' ⟨rfl, m, rfl⟩)
          go_region_law (refine step_append_num rfl (.tmp 80) (.tmp 96) 87 rfl i0 4 Tryd.underlying87 HI.out.1 HI.out.2.1 HI.out.2.2.1 HI.out.2.2.2 (by decide) K Hlen.out rfl ((HO2.out.drewN _).alloc _) ⟨wr.heap.size, 0, none⟩ _ _ rfl (alloc_cell0 _ _ _ _ rfl) HS64.out w.heap.size w (Nat.le_refl _) ((below_drewN hB2 _).alloc hB2.size _) ?_; intro A3 c3 w3 hO3 hB3)
          all_goals
            go_wp2
            go_roundw
            case rel => exact ⟨K + 1, A3, c3, by omega, by omega, by go_num, rfl, by rw [Hnx.out, List.map_append]; exact hO3, hB3⟩
            case measure => simp [intOf]; omega
        · obtain rfl : K = 64 := by omega
          clear hO2
          rw [show ((64 : Nat) : Int) = 64 from rfl]
          go_wp2
          go_ret
          exact ⟨A2, c2, rfl, HO2.out, hB2⟩
end Go.Proofs.YtpglhkjgcahdbaaDoor
/- The document's own digest: its constants, in a new row. -/
namespace Go.Proofs.YtpglhkjgcahdbaaDoor
open Go.ChangeShapes Go.WideShapes Go.ChangeAt Go.RowKit
theorem const_row : #[Value.int .u32 1116352408, .int .u32 1899447441, .int .u32 3049323471, .int .u32 3921009573, .int .u32 961987163, .int .u32 1508970993, .int .u32 2453635748, .int .u32 2870763221, .int .u32 3624381080, .int .u32 310598401, .int .u32 607225278, .int .u32 1426881987, .int .u32 1925078388, .int .u32 2162078206, .int .u32 2614888103, .int .u32 3248222580, .int .u32 3835390401, .int .u32 4022224774, .int .u32 264347078, .int .u32 604807628, .int .u32 770255983, .int .u32 1249150122, .int .u32 1555081692, .int .u32 1996064986, .int .u32 2554220882, .int .u32 2821834349, .int .u32 2952996808, .int .u32 3210313671, .int .u32 3336571891, .int .u32 3584528711, .int .u32 113926993, .int .u32 338241895, .int .u32 666307205, .int .u32 773529912, .int .u32 1294757372, .int .u32 1396182291, .int .u32 1695183700, .int .u32 1986661051, .int .u32 2177026350, .int .u32 2456956037, .int .u32 2730485921, .int .u32 2820302411, .int .u32 3259730800, .int .u32 3345764771, .int .u32 3516065817, .int .u32 3600352804, .int .u32 4094571909, .int .u32 275423344, .int .u32 430227734, .int .u32 506948616, .int .u32 659060556, .int .u32 883997877, .int .u32 958139571, .int .u32 1322822218, .int .u32 1537002063, .int .u32 1747873779, .int .u32 1955562222, .int .u32 2024104815, .int .u32 2227730452, .int .u32 2361852424, .int .u32 2428436474, .int .u32 2756734187, .int .u32 3204031479, .int .u32 3329325298] = Sha.wcs Sha.K := by kernel_rfl
set_option maxRecDepth 100000 in
theorem rconst_any (w : World) :
    Calls Tryd.prog 77 #[] w fun e w' => e = .returned (.slice (some ⟨w.heap.size, 0, none⟩) 64 64) ∧ w'.heap[w.heap.size]? = some (.cells (Sha.wcs Sha.K) 74) ∧ Below w.heap.size w w' := by
  have HC := Lib.hid const_row
  go_enter Tryd.func77, Tryd.ntmps77
  go_wp2
  go_ret
  refine ⟨rfl, ?_, (Below.refl _ _).alloc (Nat.le_refl _) _⟩
  rw [← HC.out]
  exact row_new

end Go.Proofs.YtpglhkjgcahdbaaDoor
/- The document's own digest: a block. -/
namespace Go.Proofs.YtpglhkjgcahdbaaDoor
open Go.ChangeShapes Go.WideShapes Go.ChangeAt Go.RowKit
theorem rconst_to (w : World) (g : Nat) (hg : w.heap.size = g) :
    Calls Tryd.prog 77 #[] w fun e w' => e = .returned (.slice (some ⟨g, 0, none⟩) 64 64) ∧ w'.heap[g]? = some (.cells (Sha.wcs Sha.K) 74) ∧ Below w.heap.size w w' := by
  subst hg
  exact rconst_any w
theorem turn_q {W : World} (x : Sha.W) (m : Int) (hm : Rot m = true) (n : Nat) :
    Calls Tryd.prog 79 #[.int .u32 (Sha.u x), .int .i64 m] (W.drewN n) fun e w'' => e = .returned (.int .u32 (Sha.u (Sha.rr x m.toNat))) ∧ ∃ k, w'' = W.drewN k :=
  Calls.quiet_of (turn_any x m hm (W.drewN n))
set_option maxRecDepth 100000 in
set_option maxHeartbeats 2000000 in
theorem rblock_any (s : Sha.St) (b off cap : Nat) (bs : List Int) (hn : bs.length = 64) (hcap : 64 ≤ cap) (hwf : ∀ z ∈ bs, 0 ≤ z ∧ z < 256) (w : World) (hb : b < w.heap.size) (hc : ∀ i, i < 64 → w.cell? ⟨b, off + i, none⟩ = some (.int .u8 (bs.getD i 0))) :
    Calls Tryd.prog 62 #[.agg (Sha.cs s), .slice (some ⟨b, off, none⟩) 64 cap] w fun e w' => e = .returned (.agg (Sha.cs (Sha.block s bs))) ∧ Below w.heap.size w w' := by
  have z0 := zero_h8
  have Hc := Lib.hid hc
  have Hn := Lib.hid hn
  have Hw := Lib.hid hwf
  clear hc hn hwf
  unfold Sha.cs
  have B0 : Below w.heap.size w _ := ((Below.refl w.heap.size w).alloc (Nat.le_refl _) (.cells #[.int .u32 (Sha.u s.a), .int .u32 (Sha.u s.b), .int .u32 (Sha.u s.c), .int .u32 (Sha.u s.d), .int .u32 (Sha.u s.e), .int .u32 (Sha.u s.f), .int .u32 (Sha.u s.g), .int .u32 (Sha.u s.h)] h8T)).alloc (by simp) (.cells #[.int .u32 0, .int .u32 0, .int .u32 0, .int .u32 0, .int .u32 0, .int .u32 0, .int .u32 0, .int .u32 0] h8T)
  obtain ⟨f0, f1, f2⟩ := two_new (w := w) _ (rfl : ((w.alloc (.cells #[.int .u32 (Sha.u s.a), .int .u32 (Sha.u s.b), .int .u32 (Sha.u s.c), .int .u32 (Sha.u s.d), .int .u32 (Sha.u s.e), .int .u32 (Sha.u s.f), .int .u32 (Sha.u s.g), .int .u32 (Sha.u s.h)] h8T)).alloc (.cells #[.int .u32 0, .int .u32 0, .int .u32 0, .int .u32 0, .int .u32 0, .int .u32 0, .int .u32 0, .int .u32 0] h8T)) = _)
  have F := Lib.hid (And.intro f0 f1)
  clear f0 f1 f2
  go_enter Tryd.func62, Tryd.ntmps62
  go_wp2_with fail
  refine (rconst_to _ (w.heap.size + 1 + 1) (by simp)).mono ?_
  rintro e w1 ⟨rfl, RK, hB1⟩
  have R0 := row_kept F.out.1 hB1 (by simp; omega)
  have R1 := row_kept F.out.2 hB1 (by simp)
  have B1 := B0.trans (hB1.mono (by simp; omega))
  clear hB1 F B0
  go_wp2_with fail
  refine (rwords_any b off cap bs Hn.out hcap Hw.out w1 (Nat.lt_of_lt_of_le hb B1.size) (fun i hi => (B1.cell (p := ⟨b, off + i, none⟩) hb).trans (Hc.out i hi))).mono ?_
  rintro e w2 ⟨A2, c2, rfl, hO2, hB2⟩
  have R0 := row_kept R0 hB2 (row_lt R0)
  have R1 := row_kept R1 hB2 (row_lt R1)
  have RK := row_kept RK hB2 (row_lt RK)
  have B2 := B1.trans (hB2.mono B1.size)
  have hw12 := B1.size
  have hk1 : w.heap.size + 1 + 1 < w2.heap.size := row_lt RK
  clear hB2 B1
  have hlen : ((Sha.sched bs).map Sha.u).length = 64 := by rw [List.length_map]; exact Sha.len_sched bs
  rcases hO2.nums with h0 | ⟨b2, off2, rfl, hlt2, hc2⟩
  · rw [h0] at hlen; simp at hlen
  have Hg := Lib.hid (show ∀ i, i < 64 → w2.cell? ⟨b2, off2 + i, none⟩ = some (.int .u32 (Sha.u ((Sha.sched bs).getD i 0))) from fun i hi => by
    rw [hc2 i (by rw [hlen]; exact hi)]
    simp [List.getD, show i < (Sha.sched bs).length by rw [Sha.len_sched]; omega])
  clear hO2 hc2 hlen
  have D0 : w2.cell? ⟨w.heap.size, 0, none⟩ = some (.int .u32 (Sha.u s.a)) := row_cells R0 0
  have D1 : w2.cell? ⟨w.heap.size, 1, none⟩ = some (.int .u32 (Sha.u s.b)) := row_cells R0 1
  have D2 : w2.cell? ⟨w.heap.size, 2, none⟩ = some (.int .u32 (Sha.u s.c)) := row_cells R0 2
  have D3 : w2.cell? ⟨w.heap.size, 3, none⟩ = some (.int .u32 (Sha.u s.d)) := row_cells R0 3
  have D4 : w2.cell? ⟨w.heap.size, 4, none⟩ = some (.int .u32 (Sha.u s.e)) := row_cells R0 4
  have D5 : w2.cell? ⟨w.heap.size, 5, none⟩ = some (.int .u32 (Sha.u s.f)) := row_cells R0 5
  have D6 : w2.cell? ⟨w.heap.size, 6, none⟩ = some (.int .u32 (Sha.u s.g)) := row_cells R0 6
  have D7 : w2.cell? ⟨w.heap.size, 7, none⟩ = some (.int .u32 (Sha.u s.h)) := row_cells R0 7
  go_wp2
  have RS := row_new (W := w2) (cs := #[.int .u32 (Sha.u s.a), .int .u32 (Sha.u s.b), .int .u32 (Sha.u s.c), .int .u32 (Sha.u s.d), .int .u32 (Sha.u s.e), .int .u32 (Sha.u s.f), .int .u32 (Sha.u s.g), .int .u32 (Sha.u s.h)]) (t := h8T) (m := (0, 0))
  have BS : Below w2.heap.size w2 (w2.alloc (.cells #[.int .u32 (Sha.u s.a), .int .u32 (Sha.u s.b), .int .u32 (Sha.u s.c), .int .u32 (Sha.u s.d), .int .u32 (Sha.u s.e), .int .u32 (Sha.u s.f), .int .u32 (Sha.u s.g), .int .u32 (Sha.u s.h)] h8T)) := (Below.refl _ _).alloc (Nat.le_refl _) _
  generalize w2.alloc (.cells #[.int .u32 (Sha.u s.a), .int .u32 (Sha.u s.b), .int .u32 (Sha.u s.c), .int .u32 (Sha.u s.d), .int .u32 (Sha.u s.e), .int .u32 (Sha.u s.f), .int .u32 (Sha.u s.g), .int .u32 (Sha.u s.h)] h8T) = W0 at RS BS ⊢
  clear D0 D1 D2 D3 D4 D5 D6 D7
  go_loopw [8] (fun i wr => ∃ k : Nat, k ≤ 64 ∧ i = .int .i64 k ∧ wr.heap[w2.heap.size]? = some (.cells (Sha.cs (Sha.after (Sha.sched bs) s k)) h8T) ∧ Below w2.heap.size w2 wr) (fun i _ => 64 - (intOf i).toNat)
  case atStart => exact ⟨0, by omega, rfl, RS, BS⟩
  case round =>
    obtain ⟨k, hk, rfl, R3, hB⟩ := hrel
    clear RS BS
    by_cases hlt : k < 64
    · have Hs := Lib.hid (show Sha.after (Sha.sched bs) s (k + 1) = Sha.step (Sha.after (Sha.sched bs) s k) (Sha.K.getD k 0) ((Sha.sched bs).getD k 0) from rfl)
      have KT : wr.cell? ⟨w.heap.size + 1 + 1, k, none⟩ = some (.int .u32 (Sha.u (Sha.K.getD k 0))) := (row_cells (row_kept RK hB hk1) k).trans (Sha.wcs_at Sha.K k hlt)
      have WT : wr.cell? ⟨b2, off2 + k, none⟩ = some (.int .u32 (Sha.u ((Sha.sched bs).getD k 0))) := (hB.cell (p := ⟨b2, off2 + k, none⟩) hlt2).trans (Hg.out k hlt)
      generalize Sha.after (Sha.sched bs) s k = S at Hs R3
      generalize Sha.K.getD k 0 = K at Hs KT
      generalize (Sha.sched bs).getD k 0 = V at Hs WT
      have q1 : (k : Int) < 64 := by omega
      have q0 : (0 : Int) ≤ (k : Int) := by omega
      have C0 : wr.cell? ⟨w2.heap.size, 0, none⟩ = some (.int .u32 (Sha.u S.a)) := row_cells R3 0
      have C1 : wr.cell? ⟨w2.heap.size, 1, none⟩ = some (.int .u32 (Sha.u S.b)) := row_cells R3 1
      have C2 : wr.cell? ⟨w2.heap.size, 2, none⟩ = some (.int .u32 (Sha.u S.c)) := row_cells R3 2
      have C3 : wr.cell? ⟨w2.heap.size, 3, none⟩ = some (.int .u32 (Sha.u S.d)) := row_cells R3 3
      have C4 : wr.cell? ⟨w2.heap.size, 4, none⟩ = some (.int .u32 (Sha.u S.e)) := row_cells R3 4
      have C5 : wr.cell? ⟨w2.heap.size, 5, none⟩ = some (.int .u32 (Sha.u S.f)) := row_cells R3 5
      have C6 : wr.cell? ⟨w2.heap.size, 6, none⟩ = some (.int .u32 (Sha.u S.g)) := row_cells R3 6
      have C7 : wr.cell? ⟨w2.heap.size, 7, none⟩ = some (.int .u32 (Sha.u S.h)) := row_cells R3 7
      have A := Sha.add_u
      have X := Sha.u_xor
      have N := Sha.u_not
      have D := Sha.u_and
      have sg : IntKind.u32.signed = false := rfl
      go_wp2_with fail
      go_quiet ((go_at_call 79; exact turn_q _ _ rfl _))
      have R3 : (wr.drewN nq).heap[w2.heap.size]? = some (.cells (Sha.cs S) h8T) := R3
      have hB := below_drewN hB nq
      have KT : (wr.drewN nq).cell? ⟨w.heap.size + 1 + 1, k, none⟩ = some (.int .u32 (Sha.u K)) := KT
      have WT : (wr.drewN nq).cell? ⟨b2, off2 + k, none⟩ = some (.int .u32 (Sha.u V)) := WT
      obtain ⟨W1, hW1⟩ : ∃ V, V = wr.drewN nq := ⟨_, rfl⟩
      rw [← hW1] at R3 hB KT WT ⊢
      clear hW1 C0 C1 C2 C3 C4 C5 C6 C7
      have C0 : W1.cell? ⟨w2.heap.size, 0, none⟩ = some (.int .u32 (Sha.u S.a)) := row_cells R3 0
      have C1 : W1.cell? ⟨w2.heap.size, 1, none⟩ = some (.int .u32 (Sha.u S.b)) := row_cells R3 1
      have C2 : W1.cell? ⟨w2.heap.size, 2, none⟩ = some (.int .u32 (Sha.u S.c)) := row_cells R3 2
      have C3 : W1.cell? ⟨w2.heap.size, 3, none⟩ = some (.int .u32 (Sha.u S.d)) := row_cells R3 3
      have C4 : W1.cell? ⟨w2.heap.size, 4, none⟩ = some (.int .u32 (Sha.u S.e)) := row_cells R3 4
      have C5 : W1.cell? ⟨w2.heap.size, 5, none⟩ = some (.int .u32 (Sha.u S.f)) := row_cells R3 5
      have C6 : W1.cell? ⟨w2.heap.size, 6, none⟩ = some (.int .u32 (Sha.u S.g)) := row_cells R3 6
      have C7 : W1.cell? ⟨w2.heap.size, 7, none⟩ = some (.int .u32 (Sha.u S.h)) := row_cells R3 7
      go_wp2_with fail
      go_quiet ((go_at_call 79; exact turn_q _ _ rfl _))
      have R3 : (W1.drewN nq).heap[w2.heap.size]? = some (.cells (Sha.cs S) h8T) := R3
      have hB := below_drewN hB nq
      have KT : (W1.drewN nq).cell? ⟨w.heap.size + 1 + 1, k, none⟩ = some (.int .u32 (Sha.u K)) := KT
      have WT : (W1.drewN nq).cell? ⟨b2, off2 + k, none⟩ = some (.int .u32 (Sha.u V)) := WT
      obtain ⟨W2, hW2⟩ : ∃ V, V = W1.drewN nq := ⟨_, rfl⟩
      rw [← hW2] at R3 hB KT WT ⊢
      clear hW2 C0 C1 C2 C3 C4 C5 C6 C7
      have C0 : W2.cell? ⟨w2.heap.size, 0, none⟩ = some (.int .u32 (Sha.u S.a)) := row_cells R3 0
      have C1 : W2.cell? ⟨w2.heap.size, 1, none⟩ = some (.int .u32 (Sha.u S.b)) := row_cells R3 1
      have C2 : W2.cell? ⟨w2.heap.size, 2, none⟩ = some (.int .u32 (Sha.u S.c)) := row_cells R3 2
      have C3 : W2.cell? ⟨w2.heap.size, 3, none⟩ = some (.int .u32 (Sha.u S.d)) := row_cells R3 3
      have C4 : W2.cell? ⟨w2.heap.size, 4, none⟩ = some (.int .u32 (Sha.u S.e)) := row_cells R3 4
      have C5 : W2.cell? ⟨w2.heap.size, 5, none⟩ = some (.int .u32 (Sha.u S.f)) := row_cells R3 5
      have C6 : W2.cell? ⟨w2.heap.size, 6, none⟩ = some (.int .u32 (Sha.u S.g)) := row_cells R3 6
      have C7 : W2.cell? ⟨w2.heap.size, 7, none⟩ = some (.int .u32 (Sha.u S.h)) := row_cells R3 7
      have R3e : W2.heap[w2.heap.size]? = some (.cells #[.int .u32 (Sha.u S.a), .int .u32 (Sha.u S.b), .int .u32 (Sha.u S.c), .int .u32 (Sha.u S.d), .int .u32 (Sha.u S.e), .int .u32 (Sha.u S.f), .int .u32 (Sha.u S.g), .int .u32 (Sha.u S.h)] h8T) := R3
      obtain ⟨g0, g1, d0, d1, f0, f1, z1⟩ := rows1 R3e
      clear KT WT d0
      go_wp2
      go_roundw
      case rel => exact ⟨k + 1, by omega, by go_num, by rw [Hs.out]; exact row_written R3, setRow_below hB (Nat.le_refl _)⟩
      case measure => simp [intOf]; omega
    · obtain rfl : k = 64 := by omega
      have R0 := row_kept R0 hB (row_lt R0)
      have R1 := row_kept R1 hB (row_lt R1)
      have hlt0 : w.heap.size < w2.heap.size := by omega
      have hlt1 : w.heap.size + 1 < w2.heap.size := by omega
      generalize hS : Sha.after (Sha.sched bs) s 64 = S at R3
      have HS := Lib.hid hS
      have A := Sha.add_u
      rw [show ((64 : Nat) : Int) = 64 from rfl]
      clear hS
      go_wp2
      go_loopw [13] (fun i wr => ∃ n : Nat, n ≤ 8 ∧ i = .int .i64 n ∧ wr.heap[w2.heap.size]? = some (.cells (Sha.mx S s n) h8T) ∧ Below w2.heap.size w2 wr) (fun i _ => 8 - (intOf i).toNat)
      case atStart => exact ⟨0, by omega, rfl, R3, hB⟩
      case round =>
        obtain ⟨n, hn8, rfl, R3', hB'⟩ := hrel
        clear R3
        by_cases hln : n < 8
        · have q1 : (n : Int) < 8 := by omega
          have q0 : (0 : Int) ≤ (n : Int) := by omega
          have C3 := (row_cells R3' n).trans (Sha.mx_at S s n hln)
          have R0' : wr.heap[w.heap.size]? = some (.cells (Sha.cs s) h8T) := by rw [hB'.block _ hlt0, ← hB.block _ hlt0]; exact R0
          have C0 := (row_cells R0' n).trans (Sha.cs_at s n hln)
          have Hm := Lib.hid (Sha.mx_set S s n hln)
          have M0 := Sha.mx_at S s n hln
          generalize Sha.wordAt S n = x at C3 Hm M0
          generalize Sha.wordAt s n = y at C0 Hm
          clear R0'
          go_wp2_with fail
          refine region_tail 9 (by kernel_rfl) (by kernel_rfl) ?_
          simp only [List.take_succ_cons, List.take_zero, List.drop_succ_cons, List.drop_zero]
          repeat (quiet_step (fail))
          with_reducible refine wpQuiet_nil ?_
          intro m
          have R3 : (wr.drewN m).heap[w2.heap.size]? = some (.cells (Sha.mx S s n) h8T) := R3'
          have hB2 := below_drewN hB' m
          obtain ⟨s0, s1, d0, d1, f0, f1, z1⟩ := rows1 R3
          clear R3' hB' C0 C3
          go_wp2
          go_roundw
          case rel =>
            refine ⟨n + 1, by omega, by go_num, ?_, setRow_below hB2 (Nat.le_refl _)⟩
            rw [← Hm.out]
            exact row_written R3
          case measure => simp [intOf]; omega
        · obtain rfl : n = 8 := by omega
          rw [Sha.mx_eight] at R3'
          have R1' : wr.heap[w.heap.size + 1]? = some (.cells #[.int .u32 0, .int .u32 0, .int .u32 0, .int .u32 0, .int .u32 0, .int .u32 0, .int .u32 0, .int .u32 0] h8T) := by rw [hB'.block _ hlt1, ← hB.block _ hlt1]; exact R1
          generalize hP : Sha.plus S s = T at R3'
          have HP := Lib.hid hP
          have HPl := Lib.hid (show Sha.block s bs = T by rw [← hP, ← HS.out, Sha.plus_comm]; rfl)
          clear hP
          have D0 : wr.cell? ⟨w2.heap.size, 0, none⟩ = some (.int .u32 (Sha.u T.a)) := row_cells R3' 0
          have D1 : wr.cell? ⟨w2.heap.size, 1, none⟩ = some (.int .u32 (Sha.u T.b)) := row_cells R3' 1
          have D2 : wr.cell? ⟨w2.heap.size, 2, none⟩ = some (.int .u32 (Sha.u T.c)) := row_cells R3' 2
          have D3 : wr.cell? ⟨w2.heap.size, 3, none⟩ = some (.int .u32 (Sha.u T.d)) := row_cells R3' 3
          have D4 : wr.cell? ⟨w2.heap.size, 4, none⟩ = some (.int .u32 (Sha.u T.e)) := row_cells R3' 4
          have D5 : wr.cell? ⟨w2.heap.size, 5, none⟩ = some (.int .u32 (Sha.u T.f)) := row_cells R3' 5
          have D6 : wr.cell? ⟨w2.heap.size, 6, none⟩ = some (.int .u32 (Sha.u T.g)) := row_cells R3' 6
          have D7 : wr.cell? ⟨w2.heap.size, 7, none⟩ = some (.int .u32 (Sha.u T.h)) := row_cells R3' 7
          obtain ⟨s0, s1, d0, d1, f0, f1, z1⟩ := rows1 R1'
          rw [show ((8 : Nat) : Int) = 8 from rfl]
          go_wp2
          refine bodyPost_ret (v := .agg (Sha.cs T)) (by simp [results, Tryd.results62, go_sem, d1, Sha.cs]) rfl ⟨by rw [HPl.out]; rfl, setRow_below (B2.trans (hB'.mono B2.size)) (by omega)⟩
end Go.Proofs.YtpglhkjgcahdbaaDoor
