/- Texts of this proof, merged: Dig3, Parts, Dig4, Tail2, Tail3, Dig5. -/
import Derived.Test.YtpglhkjgcahdbaaDoorQ3
import Derived.Test.YtpglhkjgcahdbaaDoorQ2
import Derived.Laws.MakeOwn
import Derived.Laws.OwnMore
import Derived.Laws.CopyOwn
import Derived.ArgAppend
import Derived.Deep.QuietTactic
import Derived.Below
import Derived.BigQuiet
/- The digest's words as bytes. -/
namespace Go.Proofs.YtpglhkjgcahdbaaDoor
open Go.ChangeShapes Go.WideShapes Go.ChangeAt Go.RowKit
abbrev b32T : TypeId := 40
theorem zero_b32 (W : World) : (zeroValue b32T).run Tryd.prog W = .ok (.agg (ncs .u8 (List.replicate 32 0))) W := by kernel_rfl
theorem info_b32 : (Tryd.prog.info? b32T).map (·.size) = some 32 := by kernel_rfl
theorem three_new {w : World} {c0 c1 c2 : Array Value} {t0 t1 t2 : TypeId} (W : World) (hW : W = ((w.alloc (.cells c0 t0)).alloc (.cells c1 t1)).alloc (.cells c2 t2)) :
    W.heap[w.heap.size]? = some (.cells c0 t0) ∧ W.heap[w.heap.size + 1]? = some (.cells c1 t1) ∧ W.heap[w.heap.size + 1 + 1]? = some (.cells c2 t2) ∧ Below w.heap.size w W := by
  subst hW
  have a0 : (w.alloc (.cells c0 t0)).heap.size = w.heap.size + 1 := by simp
  have a1 : ((w.alloc (.cells c0 t0)).alloc (.cells c1 t1)).heap.size = w.heap.size + 1 + 1 := by simp
  have b0 := (MapKept.heap_alloc w (.cells c0 t0)).1
  have b1 := (MapKept.heap_alloc (w.alloc (.cells c0 t0)) (.cells c1 t1)).1
  have b2 := (MapKept.heap_alloc ((w.alloc (.cells c0 t0)).alloc (.cells c1 t1)) (.cells c2 t2)).1
  rw [a0] at b1
  rw [a1] at b2
  refine ⟨?_, ?_, b2, ((((Below.refl _ _).alloc (Nat.le_refl _) _).alloc (by simp) _).alloc (by simp; omega) _)⟩
  · rw [Below.heap_alloc _ _ _ (by omega), Below.heap_alloc _ _ _ (by omega)]; exact b0
  · rw [Below.heap_alloc _ _ _ (by omega)]; exact b1

set_option maxRecDepth 100000 in
set_option maxHeartbeats 2000000 in
theorem laid_any (s : Sha.St) (w : World) :
    Calls Tryd.prog 56 #[.agg (Sha.cs s)] w fun e w' => e = .returned (.agg (ncs .u8 (Sha.lay s))) ∧ Below w.heap.size w w' := by
  have z0 := zero_b32
  unfold Sha.cs
  go_enter Tryd.func56, Tryd.ntmps56
  go_wp2
  go_loopw [5] (fun i wr => ∃ n : Nat, n ≤ 32 ∧ i = .int .i64 n ∧ wr.heap[w.heap.size]? = some (.cells (Sha.cs s) h8T) ∧ wr.heap[w.heap.size + 1]? = some (.cells (ncs .u8 (List.replicate 32 0)) b32T) ∧ wr.heap[w.heap.size + 1 + 1]? = some (.cells (ncs .u8 (Sha.filled (Sha.lay s) n 32)) b32T) ∧ Below w.heap.size w wr) (fun i _ => 32 - (intOf i).toNat)
  case atStart =>
    obtain ⟨f0, f1, f2, f3⟩ := three_new (w := w) _ rfl
    exact ⟨0, by omega, rfl, f0, f1, f2, f3⟩
  case round =>
    obtain ⟨n, hn, rfl, R0, R1, R2, hB⟩ := hrel
    by_cases hlt : n < 32
    · obtain ⟨q, r, hq, hr, hqr⟩ : ∃ q r : Nat, q < 8 ∧ r < 4 ∧ n = 4 * q + r := ⟨n / 4, n % 4, by omega, by omega, by omega⟩
      have q1 : (n : Int) < 32 := by omega
      have q0 : (0 : Int) ≤ (n : Int) := by omega
      have hd : (n : Int) / 4 = (q : Int) := by omega
      have hq1 : (q : Int) < 8 := by omega
      have hq0 : (0 : Int) ≤ (q : Int) := by omega
      have hat := Sha.lay_at s q r hq hr
      rw [← hqr] at hat
      have Hat := Lib.hid hat
      have Hset := Lib.hid (Sha.filled_set (Sha.lay s) n 32 (by rw [Sha.len_lay]; exact hlt) hlt)
      have Hnset := Lib.hid (ncs_set .u8 (Sha.filled (Sha.lay s) n 32) n ((Sha.lay s).getD n 0))
      have M0 := ncs_at .u8 (Sha.filled (Sha.lay s) n 32) n (by rw [Sha.len_filled _ _ _ (by rw [Sha.len_lay]; omega) (by omega)]; exact hlt)
      have C0 := (row_cells R0 q).trans (Sha.cs_at s q hq)
      have hr4 : (r = 0 ∧ (n : Int) % 4 = 0) ∨ (r = 1 ∧ (n : Int) % 4 = 1) ∨ (r = 2 ∧ (n : Int) % 4 = 2) ∨ (r = 3 ∧ (n : Int) % 4 = 3) := by omega
      generalize (Sha.filled (Sha.lay s) n 32).getD n 0 = y at M0
      generalize hL : ncs .u8 (Sha.filled (Sha.lay s) n 32) = L at R2 M0 Hnset
      generalize Sha.wordAt s q = x at C0 Hat
      have hx0 := Sha.u_lo x
      have hx1 := Sha.u_hi x
      have S24 : ∀ x : Sha.W, Sha.u x / (16777216 : Int) = Sha.u (x >>> (24 : Nat)) := fun x => Sha.u_shr x 24
      have S16 : ∀ x : Sha.W, Sha.u x / (65536 : Int) = Sha.u (x >>> (16 : Nat)) := fun x => Sha.u_shr x 16
      have S8 : ∀ x : Sha.W, Sha.u x / (256 : Int) = Sha.u (x >>> (8 : Nat)) := fun x => Sha.u_shr x 8
      obtain ⟨s0, s1, d0, d1, f0, f1, z1⟩ := rows1 R2
      clear hL hat
      rcases hr4 with ⟨rfl, hm⟩ | ⟨rfl, hm⟩ | ⟨rfl, hm⟩ | ⟨rfl, hm⟩
      all_goals
        clear hqr
        go_wp2
        go_roundw
        case rel =>
          refine ⟨n + 1, by omega, by go_num, (setRow_far (by omega)).trans R0, (setRow_far (by omega)).trans R1, ?_, setRow_below hB (by omega)⟩
          rw [← Hset.out, ← Hnset.out, Hat.out]
          exact row_written R2
        case measure => simp [intOf]; omega
    · obtain rfl : n = 32 := by omega
      rw [show ((32 : Nat) : Int) = 32 from rfl]
      rw [Sha.filled_all _ _ (Sha.len_lay s)] at R2
      have Hl := Lib.hid (show (nrow .u8 (Sha.lay s)).length = 32 by rw [nrow_len]; exact Sha.len_lay s)
      have HO := Lib.hid (nrow_one .u8 (Sha.lay s))
      have R2' : wr.heap[w.heap.size + 1 + 1]? = some (.cells (nrow .u8 (Sha.lay s)).toArray b32T) := R2
      have R1' : wr.heap[w.heap.size + 1]? = some (.cells (nrow .u8 (List.replicate 32 0)).toArray b32T) := R1
      clear R1 R2
      go_wp2_with (first
        | ((with_reducible refine wpl_arr Tryd.underlying40 info_b32 ?_ (.tmp 3) ?_ (w.heap.size + 1 + 1) (nrow .u8 (Sha.lay s)) Hl.out ?_ R2' ?_); (rfl); (rfl); (rfl))
        | ((with_reducible refine wpl_arr_store info_b32 ?_ (.tmp 2) (.tmp 21) ?_ (w.heap.size + 1) (nrow .u8 (Sha.lay s)) (nrow .u8 (List.replicate 32 0)) Hl.out ?_ HO.out ?_ ?_ R1' ?_); (rfl); (rfl); (rfl); (rfl); (rfl))
        )
      exact bodyPost_ret (arr_results Tryd.underlying40 info_b32 Tryd.results56 Hl.out rfl (row_written R1')) rfl ⟨rfl, setRow_below hB (by omega)⟩
end Go.Proofs.YtpglhkjgcahdbaaDoor
/- Slices of bytes in a slice. No program in it. -/
namespace Go.Proofs.YtpglhkjgcahdbaaDoor
open Go.ChangeShapes Go.WideShapes Go.ChangeAt Go.RowKit
structure Pt where
  A : Option Addr
  cap : Nat
  bs : List Int
def flat : List Pt → List Int
  | [] => []
  | p :: r => p.bs ++ flat r
theorem flat_app (a b : List Pt) : flat (a ++ b) = flat a ++ flat b := by
  induction a with
  | nil => rfl
  | cons p r ih => rw [List.cons_append, flat, flat, ih, List.append_assoc]
theorem flat_snoc (ps : List Pt) (k : Nat) (p : Pt) (h : ps[k]? = some p) : flat (ps.take (k + 1)) = flat (ps.take k) ++ p.bs := by
  rw [List.take_add_one, flat_app, h]
  simp [flat]
theorem flat_le (ps : List Pt) (k : Nat) : (flat (ps.take k)).length ≤ (flat ps).length := by
  have h := flat_app (ps.take k) (ps.drop k)
  rw [List.take_append_drop] at h
  rw [h, List.length_append]; omega
theorem flat_part (ps : List Pt) (k : Nat) (p : Pt) (h : ps[k]? = some p) : (flat (ps.take k)).length + p.bs.length ≤ (flat ps).length := by
  have h1 := flat_le ps (k + 1)
  rw [flat_snoc ps k p h, List.length_append] at h1
  exact h1
/-- The cells of a slice of slices of bytes. -/
def Parts (w : World) (A : Option Addr) (ps : List Pt) : Prop :=
  ps = [] ∨ ∃ b off, A = some ⟨b, off, none⟩ ∧ b < w.heap.size ∧ ∀ r p, ps[r]? = some p → w.cell? ⟨b, off + r, none⟩ = some (.slice p.A p.bs.length p.cap) ∧ Nums .u8 w p.A p.bs ∧ p.bs.length ≤ p.cap ∧ p.cap ≤ maxLen
theorem Parts.below {w w' : World} {A : Option Addr} {ps : List Pt} (h : Parts w A ps) (hb : Below w.heap.size w w') : Parts w' A ps := by
  rcases h with rfl | ⟨b, off, rfl, hlt, hc⟩
  · exact Or.inl rfl
  · refine Or.inr ⟨b, off, rfl, Nat.lt_of_lt_of_le hlt hb.size, fun r p hp => ?_⟩
    obtain ⟨h1, h2, h3, h4⟩ := hc r p hp
    exact ⟨(hb.cell (p := ⟨b, off + r, none⟩) hlt).trans h1, h2.below hb, h3, h4⟩
theorem parts_of_row {W : World} {g : Nat} {t : TypeId} {ps : List Pt} (h : W.heap[g]? = some (.cells (ps.map fun p => Value.slice p.A p.bs.length p.cap).toArray t)) (hall : ∀ p ∈ ps, Nums .u8 W p.A p.bs ∧ p.bs.length ≤ p.cap ∧ p.cap ≤ maxLen) : Parts W (some ⟨g, 0, none⟩) ps :=
  Or.inr ⟨g, 0, rfl, row_lt h, fun r p hp => by
    obtain ⟨h1, h2, h3⟩ := hall p (List.mem_of_getElem? hp)
    refine ⟨?_, h1, h2, h3⟩
    rw [Nat.zero_add, cell_of_row _ _ _ _ _ _ h, List.getElem?_toArray, List.getElem?_map, hp]
    rfl⟩
theorem nums_source {w : World} {A : Option Addr} {bs : List Int} {k : IntKind} (h : Nums k w A bs) (h0 : 0 < bs.length) : ∃ ad, A = some ad ∧ ∀ j v, (bs.map (Value.int k))[j]? = some v → w.cell? (ad.add j) = some v := by
  rcases h with rfl | ⟨b, off, rfl, _, hc⟩
  · cases h0
  · refine ⟨_, rfl, fun j v hv => ?_⟩
    have hj : j < bs.length := by
      have := (List.getElem?_eq_some_iff.1 hv).1
      simpa using this
    rw [add_plain, hc j hj, ← hv]
    simp [List.getD, hj]
end Go.Proofs.YtpglhkjgcahdbaaDoor
/- The bytes of the parts, padded. -/
namespace Go.Proofs.YtpglhkjgcahdbaaDoor
open Go.ChangeShapes Go.WideShapes Go.ChangeAt Go.RowKit

theorem infoB : (Tryd.prog.info? 5).map (fun i => (i.zero, i.size, i.bytes)) = some (some (.int .u8 0), 1, 1) := by kernel_rfl
theorem made_zero (n : Nat) : madeCells #[.int .u8 0] n = ncs .u8 (List.replicate n 0) := by
  apply Array.ext'
  rw [toList_madeCells_one]
  simp [ncs, nrow]
theorem splice_pre (l m : List Int) (N : Nat) (h : l.length + m.length ≤ N) : splice (nrow .u8 (Sha.pre l N)) l.length (nrow .u8 m) = nrow .u8 (Sha.pre (l ++ m) N) := by
  unfold splice nrow Sha.pre
  rw [List.map_append, List.map_append, List.map_append, List.take_left' (by simp), List.length_map]
  rw [List.drop_append, List.drop_of_length_le (by simp)]
  simp only [List.map_replicate, List.drop_replicate, List.length_map, List.nil_append, List.length_append, List.append_assoc]
  rw [show N - l.length - (l.length + m.length - l.length) = N - (l.length + m.length) by omega]
theorem cells_eq {L : Array Value} {i : Nat} {a b : Int} {t : TypeId} (h : a = b) : some (Obj.cells (L.setIfInBounds i (.int .u8 a)) t) = some (.cells (L.setIfInBounds i (.int .u8 b)) t) := by rw [h]
set_option maxRecDepth 100000 in
set_option maxHeartbeats 1000000 in
theorem padded_any (w : World) (A : Option Addr) (np cap : Nat) (ps : List Pt) (hnp : ps.length = np) (hP : Parts w A ps) (hlen : (flat ps).length ≤ 1000000) (hnp6 : np ≤ 1000000) :
    Calls Tryd.prog 53 #[.slice A np cap] w fun e w' => e = .returned (.slice (some ⟨w.heap.size, 0, none⟩) (Sha.nblocks (flat ps).length * 64) (Sha.nblocks (flat ps).length * 64)) ∧ w'.heap[w.heap.size]? = some (.cells (ncs .u8 (Sha.pad (flat ps))) 5) ∧ Below w.heap.size w w' := by
  have Hnp := Lib.hid hnp
  have HP := Lib.hid hP
  have Hlen := Lib.hid hlen
  obtain ⟨i0, hi, hz0, hz1, hz2⟩ := info_parts infoB
  have HI := Lib.hid (And.intro hi (And.intro hz0 (And.intro hz1 hz2)))
  clear hi hz0 hz1 hz2 hnp hP hlen
  go_enter Tryd.func53, Tryd.ntmps53
  go_wp2
  go_loop [3, 15] (fun n i => ∃ k : Nat, k ≤ np ∧ i = .int .i64 k ∧ n = .int .i64 ((flat (ps.take k)).length : Nat)) (fun _ i => np - (intOf i).toNat)
  case atStart => exact ⟨0, Nat.zero_le _, rfl, rfl⟩
  case round =>
    obtain ⟨k, hk, rfl, rfl⟩ := hrel
    by_cases hlt : k < np
    · have hq : ∃ p, ps[k]? = some p := ⟨_, List.getElem?_eq_getElem (by rw [Hnp.out]; exact hlt)⟩
      obtain ⟨p, hp⟩ := hq
      rcases HP.out with h0 | ⟨b, off, rfl, hb, hc⟩
      · rw [h0] at hp; simp at hp
      obtain ⟨g1, g2, g3, g4⟩ := hc k p hp
      have Hs := Lib.hid (flat_snoc ps k p hp)
      have hle := flat_part ps k p hp
      have hle2 := Hlen.out
      generalize (flat ps).length = M at hle hle2
      generalize hN : (flat (ps.take k)).length = N at hle
      have HN := Lib.hid hN
      clear hc g2 hN hp
      unfold maxLen at g4
      obtain ⟨pA, pc, pb⟩ := p
      simp only at g1 g3 g4 hle Hs
      obtain ⟨m, hm⟩ : ∃ m, m = pb.length := ⟨_, rfl⟩
      rw [← hm] at g1 g3 hle
      have Hm := Lib.hid hm
      clear hm
      go_wp2
      go_round
      case rel => exact ⟨k + 1, by omega, by go_num, by rw [Hs.out, List.length_append, HN.out, ← Hm.out]; go_num⟩
      case measure => simp [intOf]; omega
    · obtain rfl : k = np := by omega
      have e : ps.take k = ps := List.take_of_length_le (by rw [Hnp.out]; exact Nat.le_refl _)
      rw [e]
      have hle2 := Hlen.out
      generalize hN : (flat ps).length = N at hle2 ⊢
      obtain ⟨hb1, hb2⟩ := Sha.nblocks_bd N
      obtain ⟨nb, hnb⟩ : ∃ nb, nb = Sha.nblocks N := ⟨_, rfl⟩
      obtain ⟨NN, hNN⟩ : ∃ NN, NN = nb * 64 := ⟨_, rfl⟩
      have hd : ((N : Int) + 1 + 8 + 64 - 1) / 64 = (nb : Int) := by rw [hnb]; unfold Sha.nblocks; omega
      have hd2 : (nb : Int) * 64 = (NN : Int) := by omega
      rw [← hnb, ← hNN] at hb1 hb2
      have hmk : ∀ W, (Instr.makeSlice 22 (.int .i64 NN) (.int .i64 NN)).run Tryd.prog W = .ok (.slice (some ⟨W.heap.size, 0, none⟩) NN NN) (W.alloc (.cells (ncs .u8 (List.replicate NN 0)) 5)) := fun W => by
        have := run_make (P := Tryd.prog) W 22 5 i0 _ Tryd.underlying22 HI.out.1 HI.out.2.1 .i64 .i64 NN NN (by omega) (Int.le_refl _) (by rw [HI.out.2.2.2]; omega) (by omega)
        rw [HI.out.2.2.1, Nat.mul_one, Int.toNat_natCast, show (Value.int .u8 0).cells = #[.int .u8 0] from rfl, made_zero] at this
        exact this
      have HN := Lib.hid hN
      have Hnb := Lib.hid hnb
      have HNN := Lib.hid hNN
      have hNN2 : (NN : Int) ≤ 1000072 := by omega
      have hNN3 : (N : Int) + 9 ≤ (NN : Int) := by omega
      clear hN hnb hNN e
      go_wp2
      have RA := (MapKept.heap_alloc w (.cells (ncs .u8 (List.replicate NN 0)) 5)).1
      have BA : Below w.heap.size w (w.alloc (.cells (ncs .u8 (List.replicate NN 0)) 5)) := (Below.refl _ _).alloc (Nat.le_refl _) _
      generalize w.alloc (.cells (ncs .u8 (List.replicate NN 0)) 5) = W0 at RA BA ⊢
      clear hmk
      go_loopw [8, 35] (fun n i wr => ∃ j : Nat, j ≤ k ∧ i = .int .i64 j ∧ n = .int .i64 ((flat (ps.take j)).length : Nat) ∧ wr.heap[w.heap.size]? = some (.cells (nrow .u8 (Sha.pre (flat (ps.take j)) NN)).toArray 5) ∧ Below w.heap.size w wr) (fun _ i _ => k - (intOf i).toNat)
      case atStart => exact ⟨0, Nat.zero_le _, rfl, rfl, RA, BA⟩
      case round =>
        obtain ⟨j, hj, rfl, rfl, R0, hB⟩ := hrel
        clear RA BA
        by_cases hlj : j < k
        · obtain ⟨p, hp⟩ : ∃ p, ps[j]? = some p := ⟨_, List.getElem?_eq_getElem (by rw [Hnp.out]; exact hlj)⟩
          rcases HP.out with h0 | ⟨b, off, rfl, hb, hc⟩
          · rw [h0] at hp; simp at hp
          obtain ⟨g1, g2, g3, g4⟩ := hc j p hp
          have g1' := (hB.cell (p := ⟨b, off + j, none⟩) hb).trans g1
          have Hs := Lib.hid (flat_snoc ps j p hp)
          have hle := flat_part ps j p hp
          rw [HN.out] at hle
          have HR0 := Lib.hid R0
          have Hsp := Lib.hid (splice_pre (flat (ps.take j)) p.bs NN (by omega))
          have hlp := Sha.len_pre (flat (ps.take j)) NN (by omega)
          generalize hL : flat (ps.take j) = L at hle Hs HR0 Hsp hlp
          generalize hM : L.length = M at hle Hsp
          have HM := Lib.hid hM
          have Hlp := Lib.hid hlp
          have Hg2 := Lib.hid (g2.below hB)
          clear hc g2 g1 hM hp R0 hL hlp
          unfold maxLen at g4
          obtain ⟨pA, pc, pb⟩ := p
          simp only at g1' g3 g4 hle Hs Hg2 Hsp
          obtain ⟨m, hm⟩ : ∃ m, m = pb.length := ⟨_, rfl⟩
          rw [← hm] at g1' g3 hle
          have Hm := Lib.hid hm
          have a1 : (M : Int) ≤ (NN : Int) := by omega
          have a2 : (M : Int) < (NN : Int) := by omega
          have a3 : M < NN := by omega
          have a4 : M ≤ NN := by omega
          clear hm
          go_wp2_with (first
            | (refine wpList_copy_splice rfl (.tmp 42) (.tmp 43) _ _ rfl 5 (by kernel_rfl) (by kernel_rfl) _ _ _ _ _ _ rfl rfl w.heap.size M _ 5 HR0.out (nrow .u8 pb) (by rw [nrow_len, ← Hm.out]; show m = min m (NN - M); omega) (fun h0 => ⟨rfl, nums_source Hg2.out (by rw [nrow_len] at h0; exact h0)⟩) (by rw [nrow_len, nrow_len, ← Hm.out, Hlp.out]; omega) (nrow_one _ _) w.heap.size w hB (Nat.le_refl _) ?_; intro W3 HG3 hB3; rw [nrow_len, ← Hm.out])
            )
          go_roundw
          case rel => exact ⟨j + 1, by omega, by go_num, by rw [Hs.out, List.length_append, HM.out, ← Hm.out]; go_num, by rw [Hs.out, ← Hsp.out]; exact HG3.out, hB3⟩
          case measure => simp [intOf]; omega
        · obtain rfl : j = k := by omega
          have e : ps.take j = ps := List.take_of_length_le (by rw [Hnp.out]; exact Nat.le_refl _)
          rw [e] at R0
          rw [e, HN.out]
          have HSet := Lib.hid (Sha.pre_set (flat ps) NN 128 (by rw [HN.out]; omega))
          have HLen := Lib.hid (Sha.len_pre (flat ps) NN (by rw [HN.out]; omega))
          have HZ := Lib.hid (Sha.tailed_zero (flat ps) NN (by rw [HN.out]; omega))
          have M0 := ncs_at .u8 (Sha.pre (flat ps) NN) N (by rw [HLen.out]; omega)
          have HX := Lib.hid (ncs_set .u8 (Sha.pre (flat ps) NN) N 128)
          have R0' : wr.heap[w.heap.size]? = some (.cells (ncs .u8 (Sha.pre (flat ps) NN)) 5) := R0
          generalize (Sha.pre (flat ps) NN).getD N 0 = y at M0
          generalize ncs .u8 (Sha.pre (flat ps) NN) = LL at R0' M0 HX
          obtain ⟨s0, s1, d0, d1, f0, f1, z1⟩ := rows1 R0'
          have a2 : (N : Int) < (NN : Int) := by omega
          clear R0 e
          go_wp2
          have RT : (setRow wr w.heap.size 5 (LL.setIfInBounds N (Value.int .u8 128))).heap[w.heap.size]? = some (.cells (ncs .u8 (Sha.tailed (flat ps) NN 0)) 5) := by
            rw [← HZ.out, ← HSet.out, HN.out, ← HX.out]
            exact row_written R0'
          have BT : Below w.heap.size w (setRow wr w.heap.size 5 (LL.setIfInBounds N (Value.int .u8 128))) := setRow_below hB (Nat.le_refl _)
          generalize setRow wr w.heap.size 5 (LL.setIfInBounds N (Value.int .u8 128)) = W5 at RT BT ⊢
          clear s0 s1 d0 d1 f0 f1 z1 R0' hB HX M0 HSet HZ HLen
          go_loopw [53] (fun i wr => ∃ (k : Nat) (z : Int), z = k ∧ k ≤ 8 ∧ i = .int .i64 z ∧ wr.heap[w.heap.size]? = some (.cells (ncs .u8 (Sha.tailed (flat ps) NN k)) 5) ∧ Below w.heap.size w wr) (fun i _ => (8 - intOf i).toNat)
          case atStart => exact ⟨0, 0, rfl, by omega, rfl, RT, BT⟩
          case round =>
            obtain ⟨k, z, hkz, hk8, rfl, R0, hB⟩ := hrel
            clear RT BT
            by_cases hlk : k < 8
            · obtain ⟨k', hk'⟩ : ∃ k', k' = k + 1 := ⟨_, rfl⟩
              obtain ⟨ix, hix⟩ : ∃ ix, ix = NN - 1 - k := ⟨_, rfl⟩
              have HE := Lib.hid (show ncs .u8 (Sha.tailed (flat ps) NN k') = (ncs .u8 (Sha.tailed (flat ps) NN k)).setIfInBounds ix (.int .u8 ((Sha.len8 N).getD (7 - k) 0)) by
                rw [hk', hix, ncs_set, ← HN.out, Sha.tailed_set _ _ _ (by rw [HN.out]; exact hb1) hlk])
              have M0 := ncs_at .u8 (Sha.tailed (flat ps) NN k) ix (by rw [hix, Sha.len_tailed _ _ _ (by rw [HN.out]; exact hb1) (by omega)]; omega)
              have HV := Lib.hid (Sha.len8_at N k hlk)
              generalize (Sha.tailed (flat ps) NN k).getD ix 0 = y at M0
              generalize ncs .u8 (Sha.tailed (flat ps) NN k) = L2 at R0 M0 HE
              obtain ⟨s0, s1, d0, d1, f0, f1, z1⟩ := rows1 R0
              have hcases : (k = 0 ∧ z = 0) ∨ (k = 1 ∧ z = 1) ∨ (k = 2 ∧ z = 2) ∨ (k = 3 ∧ z = 3) ∨ (k = 4 ∧ z = 4) ∨ (k = 5 ∧ z = 5) ∨ (k = 6 ∧ z = 6) ∨ (k = 7 ∧ z = 7) := by omega
              have q1 : (NN : Int) - 1 - z < NN := by omega
              have q0 : 0 ≤ (NN : Int) - 1 - z := by omega
              have q2 : ((NN : Int) - 1 - z).toNat = ix := by omega
              have q3 : z ≤ (NN : Int) - 1 := by omega
              have hk8' : k' ≤ 8 := by omega
              have Hkz := Lib.hid (show z + 1 = (k' : Int) by omega)
              clear hkz hk' hix
              rcases hcases with ⟨rfl, rfl⟩ | ⟨rfl, rfl⟩ | ⟨rfl, rfl⟩ | ⟨rfl, rfl⟩ | ⟨rfl, rfl⟩ | ⟨rfl, rfl⟩ | ⟨rfl, rfl⟩ | ⟨rfl, rfl⟩
              all_goals
                try simp only [Int.sub_zero] at q0 q1 q2
                go_wp2
                go_roundw
                case rel => exact ⟨k', _, Hkz.out, hk8', rfl, by rw [HE.out, HV.out]; exact (row_written R0).trans (cells_eq (by omega)), setRow_below hB (Nat.le_refl _)⟩
                case measure => simp [intOf]
            · have hk9 : k = 8 := by omega
              subst hk9
              have hz9 : z = 8 := by omega
              subst hz9
              clear hkz hk8 hlk
              go_wp2
              go_ret
              have E : Sha.nblocks (flat ps).length * 64 = NN := by rw [HN.out, ← Hnb.out, ← HNN.out]
              exact ⟨by rw [E]; rfl, by rw [← Sha.tailed_eight, HN.out, ← Hnb.out, ← HNN.out]; exact R0, hB⟩
end Go.Proofs.YtpglhkjgcahdbaaDoor
/- A region that draws its order, whose operations read, and whose callees hand back one value and may make memory, as long as the world stays in a class: the class is the range of a function, so that the library's step of the lexical walk serves. No program in it. -/
namespace Go.Proofs.YtpglhkjgcahdbaaDoor
open Go Go.RowKit
theorem region_class {P : Program} {α : Type} (f : α → World) {id : Nat} {Q : Exit → Act → World → Prop} {a : Act} {w : World} {l : List Oper} (a0 : α) (h0 : { w with drawn := w.drawn + 1 } = f a0) (hm : P.follows .mixedOrders = true) (hB : Region.lexB .any l.toArray = true)
    (h : wpQuiet P l.toArray (fun w' => ∃ n, w' = f n) (fun a' => ∀ w', (∃ n, w' = f n) → Q .normal a' w') l a) : (Code.region id l.toArray true).wp P Q a w :=
  wp_region_quiet (C := fun w' => ∃ n, w' = f n) hm hB ⟨a0, h0⟩ (by simpa using h)
/-- The worlds above one in which below B nothing has turned. -/
structure Over (B : Nat) (w : World) where
  val : World
  below : Below B w val
instance {B : Nat} {w : World} : Nonempty (Over B w) := ⟨⟨w, Below.refl B w⟩⟩
theorem over_left {P : Program} {g : FuncId} {args : Array Value} {B : Nat} {w : World} {u : Over B w} {v : Value} (hB : B ≤ w.heap.size)
    (h : Calls P g args u.val fun e w' => e = .returned v ∧ Below u.val.heap.size u.val w') : Calls P g args u.val fun e w'' => e = .returned v ∧ ∃ n : Over B w, w'' = n.val :=
  h.mono fun _ w' ⟨he, hb⟩ => ⟨he, ⟨w', u.below.trans (hb.mono (Nat.le_trans hB u.below.size))⟩, rfl⟩
end Go.Proofs.YtpglhkjgcahdbaaDoor
/- A region that draws its order, whose head reads and calls what hands back one value and may make memory, and whose tail does what it likes. An array that is loaded whole in such a head. No program in it. -/
namespace Go.Proofs.YtpglhkjgcahdbaaDoor
open Go Go.RowKit
theorem region_tail_class {P : Program} {α : Type} (f : α → World) {id : Nat} {Q : Exit → Act → World → Prop} {a : Act} {w : World} {l : List Oper} (a0 : α) (h0 : { w with drawn := w.drawn + 1 } = f a0) (n : Nat) (hm : P.follows .mixedOrders = true) (hB : Region.lexTailB .any l.toArray n = true)
    (h : wpQuiet P l.toArray (fun w' => ∃ x, w' = f x) (fun a' => ∀ w', (∃ x, w' = f x) → wpList P l.toArray Q (l.drop n) a' w') (l.take n) a) : (Code.region id l.toArray true).wp P Q a w := by
  simp only [Region.lexTailB, Bool.and_eq_true, decide_eq_true_eq] at hB
  obtain ⟨⟨⟨⟨hsel, hn⟩, hs⟩, hc⟩, hlex⟩ := hB
  have hn' : n < l.length := by simpa using hn
  have htl : (l.take n).length = n := by simp; omega
  have hdl : (l.drop n).length = l.toArray.size - n := by simp
  have inv0 : HeadInv .any l.toArray n (Array.replicate l.toArray.size false) :=
    ⟨by simp, fun j oj _ hl => (by rw [getD_replicate_false] at hl; cases hl), fun t _ ht => getD_in (by simpa using ht) (getD_replicate_false _ _)⟩
  have H := headQ_lex (md := .any) (g := l.toArray.size - n) hsel hs hc hn (l.take n) 0 _ a (fun j hj => by
    have hj' : j < n := by rw [htl] at hj; exact hj
    simp [hj']) (by simpa using htl) inv0 (by rw [htl]; exact hlex) h
  refine wp_region_any hm ?_
  have H2 := wpAny_of_headQ (Q' := Q) (g := l.toArray.size - n) (C := fun w' => ∃ x, w' = f x) (fun listed a' w' hw hL => by
    have := wpAny_of_seq (md := .any) (Q' := Q) (l.drop n) n listed a' w' (fun j => by simp [List.getElem?_drop]) (by rw [hdl]; exact hL.1) (hL.2 w' hw)
    rwa [hdl] at this) _ _ _ { w with drawn := w.drawn + 1 } ⟨a0, h0⟩ H
  have e : n + (l.toArray.size - n) = l.toArray.size := by omega
  rw [htl, e] at H2
  exact H2
theorem wpQuiet_arr {P : Program} {T e : TypeId} {n : Nat} {α : Type} {f : α → World} {ops : Array Oper} {rest : List Oper} {o : Oper} {a : Act} {Q : Act → Prop} (hu : P.underlying T = some (.array n e)) (hi : (P.info? T).map (·.size) = some n) (hgd : Region.wanted o (yielded ops a.tmps) = true) (x : Operand) (ho : o.op = .load T x) (g : Nat) (L : List Value) (hL : L.length = n) (hx : a.eval x = .pointer (some ⟨g, 0, none⟩))
    (hw : ∀ m, (f m).heap[g]? = some (.cells L.toArray T)) (h : wpQuiet P ops (fun w' => ∃ m, w' = f m) Q rest (a.put o.dst (.agg L.toArray))) : wpQuiet P ops (fun w' => ∃ m, w' = f m) Q (o :: rest) a :=
  BigFrame.wpQuiet_want hgd fun _ hK => ⟨.agg L.toArray, fun w' ⟨m, hm⟩ => by
    subst hm
    have hl := arr_load hu hi (f m) g L hL (hw m)
    unfold Oper.quietAt execOp
    simp only [ho, hx, Instr.loadAt, Instr.sureAddr, Sem.run_bind, Sem.run_pure, Result.andThen_ok, hl]
    exact ⟨rfl, rfl⟩, hK _ h⟩
end Go.Proofs.YtpglhkjgcahdbaaDoor
/- The digest of the parts. -/
namespace Go.Proofs.YtpglhkjgcahdbaaDoor
open Go.ChangeShapes Go.WideShapes Go.ChangeAt Go.RowKit
namespace Sha
def cl (s : St) : List Value := [.int .u32 (u s.a), .int .u32 (u s.b), .int .u32 (u s.c), .int .u32 (u s.d), .int .u32 (u s.e), .int .u32 (u s.f), .int .u32 (u s.g), .int .u32 (u s.h)]
theorem cl_one (s : St) : ∀ v ∈ cl s, v.oneCell' = true := by
  intro v hv
  simp only [cl, List.mem_cons, List.not_mem_nil, or_false] at hv
  rcases hv with rfl | rfl | rfl | rfl | rfl | rfl | rfl | rfl <;> rfl
theorem start_row (l : List Int) : (cl (upto l 0)).toArray = #[.int .u32 1779033703, .int .u32 3144134277, .int .u32 1013904242, .int .u32 2773480762, .int .u32 1359893119, .int .u32 2600822924, .int .u32 528734635, .int .u32 1541459225] := by kernel_rfl
end Sha
theorem info_h8 : (Tryd.prog.info? h8T).map (·.size) = some 8 := by kernel_rfl
def z32 : List Int := List.replicate 32 0
theorem zero_b32' (W : World) : (zeroValue b32T).run Tryd.prog W = .ok (.agg (ncs .u8 z32)) W := by kernel_rfl
theorem padded_to (w : World) (A : Option Addr) (np cap : Nat) (ps : List Pt) (hnp : ps.length = np) (hP : Parts w A ps) (hlen : (flat ps).length ≤ 1000000) (hnp6 : np ≤ 1000000) (nb : Nat) (hnb : Sha.nblocks (flat ps).length = nb) (l : List Int) (hl : Sha.pad (flat ps) = l) (g : Nat) (hg : w.heap.size = g) :
    Calls Tryd.prog 53 #[.slice A np cap] w fun e w' => e = .returned (.slice (some ⟨g, 0, none⟩) (nb * 64) (nb * 64)) ∧ w'.heap[g]? = some (.cells (ncs .u8 l) 5) ∧ Below g w w' := by
  subst hnb; subst hl; subst hg
  exact padded_any w A np cap ps hnp hP hlen hnp6
theorem getD_window (l : List Int) (a n i : Nat) (hi : i < n) : ((l.drop a).take n).getD i 0 = l.getD (a + i) 0 := by
  simp [List.getD, List.getElem?_take, List.getElem?_drop, hi]
theorem mixed_cl (s t : Sha.St) (ws : List Sha.W) (hws : ws.length = 64) (w : World) (ht : Kt w) (hp : Sha.plus s (Sha.after ws s 64) = t) :
    Calls Tryd.prog 54 #[.agg (Sha.cl s).toArray, .agg (Sha.wcs ws)] w fun e w' => e = .returned (.agg (Sha.cl t).toArray) ∧ Below w.heap.size w w' := by
  subst hp
  exact mixed_any s ws hws w ht
theorem laid_cl (s : Sha.St) (w : World) :
    Calls Tryd.prog 56 #[.agg (Sha.cl s).toArray] w fun e w' => e = .returned (.agg (nrow .u8 (Sha.lay s)).toArray) ∧ Below w.heap.size w w' := laid_any s w
set_option maxRecDepth 100000 in
set_option maxHeartbeats 1000000 in
theorem sum_any (w : World) (A : Option Addr) (np cap : Nat) (ps : List Pt) (hnp : ps.length = np) (hP : Parts w A ps) (hlen : (flat ps).length ≤ 1000000) (hnp6 : np ≤ 1000000) (hwf : ∀ z ∈ flat ps, 0 ≤ z ∧ z < 256) (ht : Kt w) :
    Calls Tryd.prog 31 #[.slice A np cap] w fun e w' => e = .returned (.agg (ncs .u8 (Sha.sha (flat ps)))) ∧ Below w.heap.size w w' := by
  have z0 := zero_b32'
  have z1 := zero_h8
  have HP := Lib.hid hP
  have HT := Lib.hid ht
  have Hnp := Lib.hid hnp
  have Hlen := Lib.hid hlen
  obtain ⟨nb, hnb⟩ : ∃ nb, Sha.nblocks (flat ps).length = nb := ⟨_, rfl⟩
  obtain ⟨pl, hpl⟩ : ∃ pl, Sha.pad (flat ps) = pl := ⟨_, rfl⟩
  have hb1 := (Sha.nblocks_bd (flat ps).length).2
  rw [hnb] at hb1
  have hb2 : (nb : Int) ≤ 20000 := by omega
  have hb3 : (0 : Int) ≤ (nb : Int) := by omega
  have Hnb := Lib.hid hnb
  have Hpl := Lib.hid hpl
  have HW := Lib.hid (show ∀ z ∈ pl, 0 ≤ z ∧ z < 256 by rw [← hpl]; exact Sha.pad_wf _ hwf)
  have HL := Lib.hid (show pl.length = nb * 64 by rw [← hpl, ← hnb]; exact Sha.len_pad _)
  have HS := Lib.hid (show Sha.sha (flat ps) = Sha.lay (Sha.upto pl nb) by rw [← hpl, ← hnb]; rfl)
  clear hP ht hwf hnp hlen hnb hpl hb1
  go_enter Tryd.func31, Tryd.ntmps31
  go_wp2_with (go_at_call 53; refine (padded_to _ A np cap ps Hnp.out (HP.out.below ((Below.refl _ _).alloc (Nat.le_refl _) _)) Hlen.out hnp6 nb Hnb.out pl Hpl.out (w.heap.size + 1) (by simp)).mono ?_; rintro e w1 ⟨rfl, hR1, hB1⟩)
  have RR : (w.alloc (.cells (ncs .u8 z32) b32T)).heap[w.heap.size]? = some (.cells (ncs .u8 z32) b32T) := (MapKept.heap_alloc w _).1
  have RR1 := row_kept RR hB1 (by omega)
  have BB : Below w.heap.size w w1 := ((Below.refl w.heap.size w).alloc (Nat.le_refl _) _).trans (hB1.mono (by omega))
  have hz := hB1.size
  have hz1 : w.heap.size + 1 < w1.heap.size := row_lt hR1
  have hz2 : w.heap.size + 1 ≠ w1.heap.size := by omega
  clear RR hB1 hz
  have A0 := (Below.refl w1.heap.size w1).alloc (Nat.le_refl _) (.cells #[.int .u32 1779033703, .int .u32 3144134277, .int .u32 1013904242, .int .u32 2773480762, .int .u32 1359893119, .int .u32 2600822924, .int .u32 528734635, .int .u32 1541459225] h8T)
  have RH : (w1.alloc (.cells #[.int .u32 1779033703, .int .u32 3144134277, .int .u32 1013904242, .int .u32 2773480762, .int .u32 1359893119, .int .u32 2600822924, .int .u32 528734635, .int .u32 1541459225] h8T)).heap[w1.heap.size]? = some (.cells (Sha.cl (Sha.upto pl 0)).toArray h8T) := by
    rw [Sha.start_row pl]
    exact (MapKept.heap_alloc w1 _).1
  have RR2 := row_kept RR1 A0 (by omega)
  have RP2 := row_kept hR1 A0 (by omega)
  have BB2 := BB.trans (A0.mono (by omega))
  clear A0 RR1 hR1 BB
  generalize w1.alloc (.cells #[.int .u32 1779033703, .int .u32 3144134277, .int .u32 1013904242, .int .u32 2773480762, .int .u32 1359893119, .int .u32 2600822924, .int .u32 528734635, .int .u32 1541459225] h8T) = W0 at RH RR2 RP2 BB2 ⊢
  go_loopw [12] (fun i wr => ∃ k : Nat, k ≤ nb ∧ i = .int .i64 k ∧ wr.heap[w.heap.size]? = some (.cells (ncs .u8 z32) b32T) ∧ wr.heap[w.heap.size + 1]? = some (.cells (ncs .u8 pl) 5) ∧ wr.heap[w1.heap.size]? = some (.cells (Sha.cl (Sha.upto pl k)).toArray h8T) ∧ Below w.heap.size w wr) (fun i _ => nb - (intOf i).toNat)
  case atStart => exact ⟨0, Nat.zero_le _, rfl, RR2, RP2, RH, BB2⟩
  case round =>
    obtain ⟨k, hk, rfl, R0, R1, R2, hB⟩ := hrel
    clear RR2 RP2 RH BB2
    by_cases hlt : k < nb
    · have q1 : (k : Int) < (nb : Int) := by omega
      have q0 : (0 : Int) ≤ (k : Int) := by omega
      have Hs := Lib.hid (show Sha.upto pl (k + 1) = Sha.plus (Sha.upto pl k) (Sha.after (Sha.sched ((pl.drop (64 * k)).take 64)) (Sha.upto pl k) 64) from rfl)
      have Hw := Lib.hid (show ((pl.drop (64 * k)).take 64).length = 64 by rw [List.length_take, List.length_drop, HL.out]; omega)
      have Hwf := Lib.hid (show ∀ z ∈ (pl.drop (64 * k)).take 64, 0 ≤ z ∧ z < 256 from fun z hz => HW.out z (List.mem_of_mem_drop (List.mem_of_mem_take hz)))
      have Hcells := Lib.hid (show ∀ (w' : World), w'.heap[w.heap.size + 1]? = some (.cells (ncs .u8 pl) 5) → ∀ i, i < 64 → w'.cell? ⟨w.heap.size + 1, k * 64 + i, none⟩ = some (.int .u8 (((pl.drop (64 * k)).take 64).getD i 0)) from fun w' h i hi => by
        rw [getD_window _ _ _ _ hi, Nat.mul_comm k 64]
        exact (row_cells h _).trans (ncs_at .u8 pl (64 * k + i) (by rw [HL.out]; omega)))
      have U0 : ∀ u : Over wr.heap.size wr, u.val.heap[w.heap.size]? = some (.cells (ncs .u8 z32) b32T) := fun u => row_kept R0 u.below (row_lt R0)
      have U1 : ∀ u : Over wr.heap.size wr, u.val.heap[w.heap.size + 1]? = some (.cells (ncs .u8 pl) 5) := fun u => row_kept R1 u.below (row_lt R1)
      have U2 : ∀ u : Over wr.heap.size wr, u.val.heap[w1.heap.size]? = some (.cells (Sha.cl (Sha.upto pl k)).toArray h8T) := fun u => row_kept R2 u.below (row_lt R2)
      have UK : ∀ u : Over wr.heap.size wr, Kt u.val := fun u => (HT.out.keep hB HT.out.2).keep u.below (Nat.lt_of_lt_of_le HT.out.2 hB.size)
      have HU := Lib.hid (And.intro U0 (And.intro U1 (And.intro U2 UK)))
      have Hlt := Lib.hid (row_lt R1)
      clear U0 U1 U2 UK R0 R1 R2
      generalize Sha.upto pl k = S at Hs HU ⊢
      have w1' : IntKind.i64.wrap ((k : Int) * 64) = (k : Int) * 64 := IntWalk.i64_in _ (by omega)
      have w2' : IntKind.i64.wrap ((k : Int) + 1) = (k : Int) + 1 := IntWalk.i64_in _ (by omega)
      have w3' : IntKind.i64.wrap (((k : Int) + 1) * 64) = ((k : Int) + 1) * 64 := IntWalk.i64_in _ (by omega)
      have t1 : ((k : Int) * 64).toNat = k * 64 := by omega
      have t2 : (((k : Int) + 1) * 64).toNat = k * 64 + 64 := by omega
      have b0 : 0 ≤ (k : Int) * 64 := by omega
      have b1 : (k : Int) * 64 ≤ ((k : Int) + 1) * 64 := by omega
      have b2 : ((k : Int) + 1) * 64 ≤ (nb : Int) * 64 := by omega
      have b3 : 0 ≤ ((k : Int) + 1) * 64 := by omega
      have b4 : (k : Int) * 64 < (nb : Int) * 64 := by omega
      have b5 : k * 64 + 64 ≤ nb * 64 := by omega
      have b6 : k * 64 < nb * 64 := by omega
      go_wp2_with fail
      refine region_tail_class (fun u : Over wr.heap.size wr => u.val) ⟨wr.drew, below_drewN (Below.refl _ _) 1⟩ rfl 10 (by kernel_rfl) (by kernel_rfl) ?_
      simp only [List.take_succ_cons, List.take_zero, List.drop_succ_cons, List.drop_zero]
      repeat (first
        | ((with_reducible refine wpQuiet_arr Tryd.underlying75 info_h8 ?_ (.tmp 4) ?_ w1.heap.size (Sha.cl S) rfl ?_ (fun u => HU.out.2.2.1 u) ?_); (rfl); (rfl); (rfl); (conv => arg 6; simp only [Act.put, List.setIfInBounds_toArray, List.set_cons_succ, List.set_cons_zero]))
        | go_big_quiet_step ((first
          | (go_at_call 55; exact over_left (Nat.le_refl _) (schedule_any (w.heap.size + 1) (k * 64) (nb * 64 - k * 64) ((pl.drop (64 * k)).take 64) Hw.out (by omega) Hwf.out _ (Nat.lt_of_lt_of_le Hlt.out (Over.below _).size) (Hcells.out _ (HU.out.2.1 _))))
          | (go_at_call 54; exact over_left (Nat.le_refl _) (mixed_cl S _ _ (Sha.len_sched _) _ (HU.out.2.2.2 _) Hs.out.symm))
          )))
      with_reducible refine wpQuiet_nil ?_
      rintro _ ⟨u, rfl⟩
      have R0 := HU.out.1 u
      have R1 := HU.out.2.1 u
      have R2 := HU.out.2.2.1 u
      have B2 := hB.trans (u.below.mono hB.size)
      generalize u.val = V at R0 R1 R2 B2 ⊢
      have HO := Lib.hid (Sha.cl_one (Sha.upto pl (k + 1)))
      go_wp2_with (first
        | ((with_reducible refine wpl_arr_store info_h8 ?_ (.tmp 4) (.tmp 24) ?_ w1.heap.size (Sha.cl (Sha.upto pl (k + 1))) (Sha.cl S) rfl rfl HO.out ?_ ?_ R2 ?_); (rfl); (rfl); (rfl); (rfl))
        )
      go_roundw
      case rel => exact ⟨k + 1, by omega, by go_num, (setRow_far (by omega)).trans R0, (setRow_far (by omega)).trans R1, row_written R2, setRow_below B2 (by omega)⟩
      case measure => simp [intOf]; omega
    · obtain rfl : k = nb := by omega
      have HR0 := Lib.hid (show wr.heap[w.heap.size]? = some (.cells (nrow .u8 z32).toArray b32T) from R0)
      have Hl := Lib.hid (show (nrow .u8 (Sha.sha (flat ps))).length = 32 by rw [nrow_len, HS.out]; exact Sha.len_lay _)
      have hlt1 := row_lt R2
      go_wp2_with (first
        | ((with_reducible refine wpl_arr Tryd.underlying75 info_h8 ?_ (.tmp 4) ?_ w1.heap.size (Sha.cl (Sha.upto pl k)) rfl ?_ R2 ?_); (rfl); (rfl); (rfl))
        | (go_at_call 56; refine (laid_cl _ _).mono ?_; rintro e w2 ⟨rfl, hB2⟩; rw [← HS.out])
        | ((with_reducible refine wpl_arr_store info_b32 ?_ (.tmp 2) (.tmp 27) ?_ w.heap.size (nrow .u8 (Sha.sha (flat ps))) (nrow .u8 z32) Hl.out ?_ (nrow_one _ _) ?_ ?_ (row_kept HR0.out hB2 (row_lt HR0.out)) ?_); (rfl); (rfl); (rfl); (rfl); (rfl))
        )
      exact bodyPost_ret (arr_results Tryd.underlying40 info_b32 Tryd.results31 Hl.out rfl (row_written (row_kept HR0.out hB2 (row_lt HR0.out)))) rfl ⟨rfl, setRow_below (hB.trans (hB2.mono hB.size)) (Nat.le_refl _)⟩
end Go.Proofs.YtpglhkjgcahdbaaDoor
