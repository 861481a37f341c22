/- The bytes of the parts, padded. -/
import Derived.Test.YtlimcaajpoeoaaaDoorDig3
import Derived.Test.YtlimcaajpoeoaaaDoorParts
import Derived.Laws.MakeOwn
import Derived.Laws.OwnMore
import Derived.Laws.CopyOwn
import Derived.ArgAppend
namespace Go.Proofs.YtlimcaajpoeoaaaDoor
open Go.ChangeShapes Go.WideShapes Go.ChangeAt Go.RowKit

theorem infoB : (Tryd.prog.info? 5).map (fun i => (i.zero, i.size, i.bytes)) = some (some (.int .u8 0), 1, 1) := by kernel_rfl
theorem made_zero (n : Nat) : madeCells #[.int .u8 0] n = ncs .u8 (List.replicate n 0) := by
  apply Array.ext'
  rw [toList_madeCells_one]
  simp [ncs, nrow]
theorem splice_pre (l m : List Int) (N : Nat) (h : l.length + m.length ≤ N) : splice (nrow .u8 (Sha.pre l N)) l.length (nrow .u8 m) = nrow .u8 (Sha.pre (l ++ m) N) := by
  unfold splice nrow Sha.pre
  rw [List.map_append, List.map_append, List.map_append, List.take_left' (by simp), List.length_map]
  rw [List.drop_append, List.drop_of_length_le (by simp)]
  simp only [List.map_replicate, List.drop_replicate, List.length_map, List.nil_append, List.length_append, List.append_assoc]
  rw [show N - l.length - (l.length + m.length - l.length) = N - (l.length + m.length) by omega]
theorem cells_eq {L : Array Value} {i : Nat} {a b : Int} {t : TypeId} (h : a = b) : some (Obj.cells (L.setIfInBounds i (.int .u8 a)) t) = some (.cells (L.setIfInBounds i (.int .u8 b)) t) := by rw [h]
set_option maxRecDepth 100000 in
set_option maxHeartbeats 1000000 in
theorem padded_any (w : World) (A : Option Addr) (np cap : Nat) (ps : List Pt) (hnp : ps.length = np) (hP : Parts w A ps) (hlen : (flat ps).length ≤ 1000000) (hnp6 : np ≤ 1000000) :
    Calls Tryd.prog 9 #[.slice A np cap] w fun e w' => e = .returned (.slice (some ⟨w.heap.size, 0, none⟩) (Sha.nblocks (flat ps).length * 64) (Sha.nblocks (flat ps).length * 64)) ∧ w'.heap[w.heap.size]? = some (.cells (ncs .u8 (Sha.pad (flat ps))) 5) ∧ Below w.heap.size w w' := by
  have Hnp := Lib.hid hnp
  have HP := Lib.hid hP
  have Hlen := Lib.hid hlen
  obtain ⟨i0, hi, hz0, hz1, hz2⟩ := info_parts infoB
  have HI := Lib.hid (And.intro hi (And.intro hz0 (And.intro hz1 hz2)))
  clear hi hz0 hz1 hz2 hnp hP hlen
  go_enter Tryd.func9, Tryd.ntmps9
  go_wp2
  go_loop [3, 15] (fun n i => ∃ k : Nat, k ≤ np ∧ i = .int .i64 k ∧ n = .int .i64 ((flat (ps.take k)).length : Nat)) (fun _ i => np - (intOf i).toNat)
  case atStart => exact ⟨0, Nat.zero_le _, rfl, rfl⟩
  case round =>
    obtain ⟨k, hk, rfl, rfl⟩ := hrel
    by_cases hlt : k < np
    · have hq : ∃ p, ps[k]? = some p := ⟨_, List.getElem?_eq_getElem (by rw [Hnp.out]; exact hlt)⟩
      obtain ⟨p, hp⟩ := hq
      rcases HP.out with h0 | ⟨b, off, rfl, hb, hc⟩
      · rw [h0] at hp; simp at hp
      obtain ⟨g1, g2, g3, g4⟩ := hc k p hp
      have Hs := Lib.hid (flat_snoc ps k p hp)
      have hle := flat_part ps k p hp
      have hle2 := Hlen.out
      generalize (flat ps).length = M at hle hle2
      generalize hN : (flat (ps.take k)).length = N at hle
      have HN := Lib.hid hN
      clear hc g2 hN hp
      unfold maxLen at g4
      obtain ⟨pA, pc, pb⟩ := p
      simp only at g1 g3 g4 hle Hs
      obtain ⟨m, hm⟩ : ∃ m, m = pb.length := ⟨_, rfl⟩
      rw [← hm] at g1 g3 hle
      have Hm := Lib.hid hm
      clear hm
      go_wp2
      go_round
      case rel => exact ⟨k + 1, by omega, by go_num, by rw [Hs.out, List.length_append, HN.out, ← Hm.out]; go_num⟩
      case measure => simp [intOf]; omega
    · obtain rfl : k = np := by omega
      have e : ps.take k = ps := List.take_of_length_le (by rw [Hnp.out]; exact Nat.le_refl _)
      rw [e]
      have hle2 := Hlen.out
      generalize hN : (flat ps).length = N at hle2 ⊢
      obtain ⟨hb1, hb2⟩ := Sha.nblocks_bd N
      obtain ⟨nb, hnb⟩ : ∃ nb, nb = Sha.nblocks N := ⟨_, rfl⟩
      obtain ⟨NN, hNN⟩ : ∃ NN, NN = nb * 64 := ⟨_, rfl⟩
      have hd : ((N : Int) + 1 + 8 + 64 - 1) / 64 = (nb : Int) := by rw [hnb]; unfold Sha.nblocks; omega
      have hd2 : (nb : Int) * 64 = (NN : Int) := by omega
      rw [← hnb, ← hNN] at hb1 hb2
      have hmk : ∀ W, (Instr.makeSlice 22 (.int .i64 NN) (.int .i64 NN)).run Tryd.prog W = .ok (.slice (some ⟨W.heap.size, 0, none⟩) NN NN) (W.alloc (.cells (ncs .u8 (List.replicate NN 0)) 5)) := fun W => by
        have := run_make (P := Tryd.prog) W 22 5 i0 _ Tryd.underlying22 HI.out.1 HI.out.2.1 .i64 .i64 NN NN (by omega) (Int.le_refl _) (by rw [HI.out.2.2.2]; omega) (by omega)
        rw [HI.out.2.2.1, Nat.mul_one, Int.toNat_natCast, show (Value.int .u8 0).cells = #[.int .u8 0] from rfl, made_zero] at this
        exact this
      have HN := Lib.hid hN
      have Hnb := Lib.hid hnb
      have HNN := Lib.hid hNN
      have hNN2 : (NN : Int) ≤ 1000072 := by omega
      have hNN3 : (N : Int) + 9 ≤ (NN : Int) := by omega
      clear hN hnb hNN e
      go_wp2
      have RA := (MapKept.heap_alloc w (.cells (ncs .u8 (List.replicate NN 0)) 5)).1
      have BA : Below w.heap.size w (w.alloc (.cells (ncs .u8 (List.replicate NN 0)) 5)) := (Below.refl _ _).alloc (Nat.le_refl _) _
      generalize w.alloc (.cells (ncs .u8 (List.replicate NN 0)) 5) = W0 at RA BA ⊢
      clear hmk
      go_loopw [8, 35] (fun n i wr => ∃ j : Nat, j ≤ k ∧ i = .int .i64 j ∧ n = .int .i64 ((flat (ps.take j)).length : Nat) ∧ wr.heap[w.heap.size]? = some (.cells (nrow .u8 (Sha.pre (flat (ps.take j)) NN)).toArray 5) ∧ Below w.heap.size w wr) (fun _ i _ => k - (intOf i).toNat)
      case atStart => exact ⟨0, Nat.zero_le _, rfl, rfl, RA, BA⟩
      case round =>
        obtain ⟨j, hj, rfl, rfl, R0, hB⟩ := hrel
        clear RA BA
        by_cases hlj : j < k
        · obtain ⟨p, hp⟩ : ∃ p, ps[j]? = some p := ⟨_, List.getElem?_eq_getElem (by rw [Hnp.out]; exact hlj)⟩
          rcases HP.out with h0 | ⟨b, off, rfl, hb, hc⟩
          · rw [h0] at hp; simp at hp
          obtain ⟨g1, g2, g3, g4⟩ := hc j p hp
          have g1' := (hB.cell (p := ⟨b, off + j, none⟩) hb).trans g1
          have Hs := Lib.hid (flat_snoc ps j p hp)
          have hle := flat_part ps j p hp
          rw [HN.out] at hle
          have HR0 := Lib.hid R0
          have Hsp := Lib.hid (splice_pre (flat (ps.take j)) p.bs NN (by omega))
          have hlp := Sha.len_pre (flat (ps.take j)) NN (by omega)
          generalize hL : flat (ps.take j) = L at hle Hs HR0 Hsp hlp
          generalize hM : L.length = M at hle Hsp
          have HM := Lib.hid hM
          have Hlp := Lib.hid hlp
          have Hg2 := Lib.hid (g2.below hB)
          clear hc g2 g1 hM hp R0 hL hlp
          unfold maxLen at g4
          obtain ⟨pA, pc, pb⟩ := p
          simp only at g1' g3 g4 hle Hs Hg2 Hsp
          obtain ⟨m, hm⟩ : ∃ m, m = pb.length := ⟨_, rfl⟩
          rw [← hm] at g1' g3 hle
          have Hm := Lib.hid hm
          have a1 : (M : Int) ≤ (NN : Int) := by omega
          have a2 : (M : Int) < (NN : Int) := by omega
          have a3 : M < NN := by omega
          have a4 : M ≤ NN := by omega
          clear hm
          go_wp2_with (first
            | (refine wpList_copy_splice rfl (.tmp 42) (.tmp 43) _ _ rfl 5 (by kernel_rfl) (by kernel_rfl) _ _ _ _ _ _ rfl rfl w.heap.size M _ 5 HR0.out (nrow .u8 pb) (by rw [nrow_len, ← Hm.out]; show m = min m (NN - M); omega) (fun h0 => ⟨rfl, nums_source Hg2.out (by rw [nrow_len] at h0; exact h0)⟩) (by rw [nrow_len, nrow_len, ← Hm.out, Hlp.out]; omega) (nrow_one _ _) w.heap.size w hB (Nat.le_refl _) ?_; intro W3 HG3 hB3; rw [nrow_len, ← Hm.out])
            )
          go_roundw
          case rel => exact ⟨j + 1, by omega, by go_num, by rw [Hs.out, List.length_append, HM.out, ← Hm.out]; go_num, by rw [Hs.out, ← Hsp.out]; exact HG3.out, hB3⟩
          case measure => simp [intOf]; omega
        · obtain rfl : j = k := by omega
          have e : ps.take j = ps := List.take_of_length_le (by rw [Hnp.out]; exact Nat.le_refl _)
          rw [e] at R0
          rw [e, HN.out]
          have HSet := Lib.hid (Sha.pre_set (flat ps) NN 128 (by rw [HN.out]; omega))
          have HLen := Lib.hid (Sha.len_pre (flat ps) NN (by rw [HN.out]; omega))
          have HZ := Lib.hid (Sha.tailed_zero (flat ps) NN (by rw [HN.out]; omega))
          have M0 := ncs_at .u8 (Sha.pre (flat ps) NN) N (by rw [HLen.out]; omega)
          have HX := Lib.hid (ncs_set .u8 (Sha.pre (flat ps) NN) N 128)
          have R0' : wr.heap[w.heap.size]? = some (.cells (ncs .u8 (Sha.pre (flat ps) NN)) 5) := R0
          generalize (Sha.pre (flat ps) NN).getD N 0 = y at M0
          generalize ncs .u8 (Sha.pre (flat ps) NN) = LL at R0' M0 HX
          obtain ⟨s0, s1, d0, d1, f0, f1, z1⟩ := rows1 R0'
          have a2 : (N : Int) < (NN : Int) := by omega
          clear R0 e
          go_wp2
          have RT : (setRow wr w.heap.size 5 (LL.setIfInBounds N (Value.int .u8 128))).heap[w.heap.size]? = some (.cells (ncs .u8 (Sha.tailed (flat ps) NN 0)) 5) := by
            rw [← HZ.out, ← HSet.out, HN.out, ← HX.out]
            exact row_written R0'
          have BT : Below w.heap.size w (setRow wr w.heap.size 5 (LL.setIfInBounds N (Value.int .u8 128))) := setRow_below hB (Nat.le_refl _)
          generalize setRow wr w.heap.size 5 (LL.setIfInBounds N (Value.int .u8 128)) = W5 at RT BT ⊢
          clear s0 s1 d0 d1 f0 f1 z1 R0' hB HX M0 HSet HZ HLen
          go_loopw [53] (fun i wr => ∃ (k : Nat) (z : Int), z = k ∧ k ≤ 8 ∧ i = .int .i64 z ∧ wr.heap[w.heap.size]? = some (.cells (ncs .u8 (Sha.tailed (flat ps) NN k)) 5) ∧ Below w.heap.size w wr) (fun i _ => (8 - intOf i).toNat)
          case atStart => exact ⟨0, 0, rfl, by omega, rfl, RT, BT⟩
          case round =>
            obtain ⟨k, z, hkz, hk8, rfl, R0, hB⟩ := hrel
            clear RT BT
            by_cases hlk : k < 8
            · obtain ⟨k', hk'⟩ : ∃ k', k' = k + 1 := ⟨_, rfl⟩
              obtain ⟨ix, hix⟩ : ∃ ix, ix = NN - 1 - k := ⟨_, rfl⟩
              have HE := Lib.hid (show ncs .u8 (Sha.tailed (flat ps) NN k') = (ncs .u8 (Sha.tailed (flat ps) NN k)).setIfInBounds ix (.int .u8 ((Sha.len8 N).getD (7 - k) 0)) by
                rw [hk', hix, ncs_set, ← HN.out, Sha.tailed_set _ _ _ (by rw [HN.out]; exact hb1) hlk])
              have M0 := ncs_at .u8 (Sha.tailed (flat ps) NN k) ix (by rw [hix, Sha.len_tailed _ _ _ (by rw [HN.out]; exact hb1) (by omega)]; omega)
              have HV := Lib.hid (Sha.len8_at N k hlk)
              generalize (Sha.tailed (flat ps) NN k).getD ix 0 = y at M0
              generalize ncs .u8 (Sha.tailed (flat ps) NN k) = L2 at R0 M0 HE
              obtain ⟨s0, s1, d0, d1, f0, f1, z1⟩ := rows1 R0
              have hcases : (k = 0 ∧ z = 0) ∨ (k = 1 ∧ z = 1) ∨ (k = 2 ∧ z = 2) ∨ (k = 3 ∧ z = 3) ∨ (k = 4 ∧ z = 4) ∨ (k = 5 ∧ z = 5) ∨ (k = 6 ∧ z = 6) ∨ (k = 7 ∧ z = 7) := by omega
              have q1 : (NN : Int) - 1 - z < NN := by omega
              have q0 : 0 ≤ (NN : Int) - 1 - z := by omega
              have q2 : ((NN : Int) - 1 - z).toNat = ix := by omega
              have q3 : z ≤ (NN : Int) - 1 := by omega
              have hk8' : k' ≤ 8 := by omega
              have Hkz := Lib.hid (show z + 1 = (k' : Int) by omega)
              clear hkz hk' hix
              rcases hcases with ⟨rfl, rfl⟩ | ⟨rfl, rfl⟩ | ⟨rfl, rfl⟩ | ⟨rfl, rfl⟩ | ⟨rfl, rfl⟩ | ⟨rfl, rfl⟩ | ⟨rfl, rfl⟩ | ⟨rfl, rfl⟩
              all_goals
                try simp only [Int.sub_zero] at q0 q1 q2
                go_wp2
                go_roundw
                case rel => exact ⟨k', _, Hkz.out, hk8', rfl, by rw [HE.out, HV.out]; exact (row_written R0).trans (cells_eq (by omega)), setRow_below hB (Nat.le_refl _)⟩
                case measure => simp [intOf]
            · have hk9 : k = 8 := by omega
              subst hk9
              have hz9 : z = 8 := by omega
              subst hz9
              clear hkz hk8 hlk
              go_wp2
              go_ret
              have E : Sha.nblocks (flat ps).length * 64 = NN := by rw [HN.out, ← Hnb.out, ← HNN.out]
              exact ⟨by rw [E]; rfl, by rw [← Sha.tailed_eight, HN.out, ← Hnb.out, ← HNN.out]; exact R0, hB⟩
end Go.Proofs.YtlimcaajpoeoaaaDoor
