/- The digest of the parts. -/
import Derived.Test.YtlimcaajpoeoaaaDoorDig4
import Derived.Test.YtlimcaajpoeoaaaDoorTail3
namespace Go.Proofs.YtlimcaajpoeoaaaDoor
open Go.ChangeShapes Go.WideShapes Go.ChangeAt Go.RowKit
namespace Sha
def cl (s : St) : List Value := [.int .u32 (u s.a), .int .u32 (u s.b), .int .u32 (u s.c), .int .u32 (u s.d), .int .u32 (u s.e), .int .u32 (u s.f), .int .u32 (u s.g), .int .u32 (u s.h)]
theorem cl_one (s : St) : ∀ v ∈ cl s, v.oneCell' = true := by
  intro v hv
  simp only [cl, List.mem_cons, List.not_mem_nil, or_false] at hv
  rcases hv with rfl | rfl | rfl | rfl | rfl | rfl | rfl | rfl <;> rfl
theorem start_row (l : List Int) : (cl (upto l 0)).toArray = #[.int .u32 1779033703, .int .u32 3144134277, .int .u32 1013904242, .int .u32 2773480762, .int .u32 1359893119, .int .u32 2600822924, .int .u32 528734635, .int .u32 1541459225] := by kernel_rfl
end Sha
theorem info_h8 : (Tryd.prog.info? h8T).map (·.size) = some 8 := by kernel_rfl
def z32 : List Int := List.replicate 32 0
theorem zero_b32' (W : World) : (zeroValue b32T).run Tryd.prog W = .ok (.agg (ncs .u8 z32)) W := by kernel_rfl
theorem padded_to (w : World) (A : Option Addr) (np cap : Nat) (ps : List Pt) (hnp : ps.length = np) (hP : Parts w A ps) (hlen : (flat ps).length ≤ 1000000) (hnp6 : np ≤ 1000000) (nb : Nat) (hnb : Sha.nblocks (flat ps).length = nb) (l : List Int) (hl : Sha.pad (flat ps) = l) (g : Nat) (hg : w.heap.size = g) :
    Calls Tryd.prog 9 #[.slice A np cap] w fun e w' => e = .returned (.slice (some ⟨g, 0, none⟩) (nb * 64) (nb * 64)) ∧ w'.heap[g]? = some (.cells (ncs .u8 l) 5) ∧ Below g w w' := by
  subst hnb; subst hl; subst hg
  exact padded_any w A np cap ps hnp hP hlen hnp6
theorem getD_window (l : List Int) (a n i : Nat) (hi : i < n) : ((l.drop a).take n).getD i 0 = l.getD (a + i) 0 := by
  simp [List.getD, List.getElem?_take, List.getElem?_drop, hi]
theorem mixed_cl (s t : Sha.St) (ws : List Sha.W) (hws : ws.length = 64) (w : World) (ht : Kt w) (hp : Sha.plus s (Sha.after ws s 64) = t) :
    Calls Tryd.prog 10 #[.agg (Sha.cl s).toArray, .agg (Sha.wcs ws)] w fun e w' => e = .returned (.agg (Sha.cl t).toArray) ∧ Below w.heap.size w w' := by
  subst hp
  exact mixed_any s ws hws w ht
theorem laid_cl (s : Sha.St) (w : World) :
    Calls Tryd.prog 12 #[.agg (Sha.cl s).toArray] w fun e w' => e = .returned (.agg (nrow .u8 (Sha.lay s)).toArray) ∧ Below w.heap.size w w' := laid_any s w
set_option maxRecDepth 100000 in
set_option maxHeartbeats 1000000 in
theorem sum_any (w : World) (A : Option Addr) (np cap : Nat) (ps : List Pt) (hnp : ps.length = np) (hP : Parts w A ps) (hlen : (flat ps).length ≤ 1000000) (hnp6 : np ≤ 1000000) (hwf : ∀ z ∈ flat ps, 0 ≤ z ∧ z < 256) (ht : Kt w) :
    Calls Tryd.prog 7 #[.slice A np cap] w fun e w' => e = .returned (.agg (ncs .u8 (Sha.sha (flat ps)))) ∧ Below w.heap.size w w' := by
  have z0 := zero_b32'
  have z1 := zero_h8
  have HP := Lib.hid hP
  have HT := Lib.hid ht
  have Hnp := Lib.hid hnp
  have Hlen := Lib.hid hlen
  obtain ⟨nb, hnb⟩ : ∃ nb, Sha.nblocks (flat ps).length = nb := ⟨_, rfl⟩
  obtain ⟨pl, hpl⟩ : ∃ pl, Sha.pad (flat ps) = pl := ⟨_, rfl⟩
  have hb1 := (Sha.nblocks_bd (flat ps).length).2
  rw [hnb] at hb1
  have hb2 : (nb : Int) ≤ 20000 := by omega
  have hb3 : (0 : Int) ≤ (nb : Int) := by omega
  have Hnb := Lib.hid hnb
  have Hpl := Lib.hid hpl
  have HW := Lib.hid (show ∀ z ∈ pl, 0 ≤ z ∧ z < 256 by rw [← hpl]; exact Sha.pad_wf _ hwf)
  have HL := Lib.hid (show pl.length = nb * 64 by rw [← hpl, ← hnb]; exact Sha.len_pad _)
  have HS := Lib.hid (show Sha.sha (flat ps) = Sha.lay (Sha.upto pl nb) by rw [← hpl, ← hnb]; rfl)
  clear hP ht hwf hnp hlen hnb hpl hb1
  go_enter Tryd.func7, Tryd.ntmps7
  go_wp2_with (go_at_call 9; refine (padded_to _ A np cap ps Hnp.out (HP.out.below ((Below.refl _ _).alloc (Nat.le_refl _) _)) Hlen.out hnp6 nb Hnb.out pl Hpl.out (w.heap.size + 1) (by simp)).mono ?_; rintro e w1 ⟨rfl, hR1, hB1⟩)
  have RR : (w.alloc (.cells (ncs .u8 z32) b32T)).heap[w.heap.size]? = some (.cells (ncs .u8 z32) b32T) := (MapKept.heap_alloc w _).1
  have RR1 := row_kept RR hB1 (by omega)
  have BB : Below w.heap.size w w1 := ((Below.refl w.heap.size w).alloc (Nat.le_refl _) _).trans (hB1.mono (by omega))
  have hz := hB1.size
  have hz1 : w.heap.size + 1 < w1.heap.size := row_lt hR1
  have hz2 : w.heap.size + 1 ≠ w1.heap.size := by omega
  clear RR hB1 hz
  have A0 := (Below.refl w1.heap.size w1).alloc (Nat.le_refl _) (.cells #[.int .u32 1779033703, .int .u32 3144134277, .int .u32 1013904242, .int .u32 2773480762, .int .u32 1359893119, .int .u32 2600822924, .int .u32 528734635, .int .u32 1541459225] h8T)
  have RH : (w1.alloc (.cells #[.int .u32 1779033703, .int .u32 3144134277, .int .u32 1013904242, .int .u32 2773480762, .int .u32 1359893119, .int .u32 2600822924, .int .u32 528734635, .int .u32 1541459225] h8T)).heap[w1.heap.size]? = some (.cells (Sha.cl (Sha.upto pl 0)).toArray h8T) := by
    rw [Sha.start_row pl]
    exact (MapKept.heap_alloc w1 _).1
  have RR2 := row_kept RR1 A0 (by omega)
  have RP2 := row_kept hR1 A0 (by omega)
  have BB2 := BB.trans (A0.mono (by omega))
  clear A0 RR1 hR1 BB
  generalize w1.alloc (.cells #[.int .u32 1779033703, .int .u32 3144134277, .int .u32 1013904242, .int .u32 2773480762, .int .u32 1359893119, .int .u32 2600822924, .int .u32 528734635, .int .u32 1541459225] h8T) = W0 at RH RR2 RP2 BB2 ⊢
  go_loopw [12] (fun i wr => ∃ k : Nat, k ≤ nb ∧ i = .int .i64 k ∧ wr.heap[w.heap.size]? = some (.cells (ncs .u8 z32) b32T) ∧ wr.heap[w.heap.size + 1]? = some (.cells (ncs .u8 pl) 5) ∧ wr.heap[w1.heap.size]? = some (.cells (Sha.cl (Sha.upto pl k)).toArray h8T) ∧ Below w.heap.size w wr) (fun i _ => nb - (intOf i).toNat)
  case atStart => exact ⟨0, Nat.zero_le _, rfl, RR2, RP2, RH, BB2⟩
  case round =>
    obtain ⟨k, hk, rfl, R0, R1, R2, hB⟩ := hrel
    clear RR2 RP2 RH BB2
    by_cases hlt : k < nb
    · have q1 : (k : Int) < (nb : Int) := by omega
      have q0 : (0 : Int) ≤ (k : Int) := by omega
      have Hs := Lib.hid (show Sha.upto pl (k + 1) = Sha.plus (Sha.upto pl k) (Sha.after (Sha.sched ((pl.drop (64 * k)).take 64)) (Sha.upto pl k) 64) from rfl)
      have Hw := Lib.hid (show ((pl.drop (64 * k)).take 64).length = 64 by rw [List.length_take, List.length_drop, HL.out]; omega)
      have Hwf := Lib.hid (show ∀ z ∈ (pl.drop (64 * k)).take 64, 0 ≤ z ∧ z < 256 from fun z hz => HW.out z (List.mem_of_mem_drop (List.mem_of_mem_take hz)))
      have Hcells := Lib.hid (show ∀ (w' : World), w'.heap[w.heap.size + 1]? = some (.cells (ncs .u8 pl) 5) → ∀ i, i < 64 → w'.cell? ⟨w.heap.size + 1, k * 64 + i, none⟩ = some (.int .u8 (((pl.drop (64 * k)).take 64).getD i 0)) from fun w' h i hi => by
        rw [getD_window _ _ _ _ hi, Nat.mul_comm k 64]
        exact (row_cells h _).trans (ncs_at .u8 pl (64 * k + i) (by rw [HL.out]; omega)))
      have U0 : ∀ u : Over wr.heap.size wr, u.val.heap[w.heap.size]? = some (.cells (ncs .u8 z32) b32T) := fun u => row_kept R0 u.below (row_lt R0)
      have U1 : ∀ u : Over wr.heap.size wr, u.val.heap[w.heap.size + 1]? = some (.cells (ncs .u8 pl) 5) := fun u => row_kept R1 u.below (row_lt R1)
      have U2 : ∀ u : Over wr.heap.size wr, u.val.heap[w1.heap.size]? = some (.cells (Sha.cl (Sha.upto pl k)).toArray h8T) := fun u => row_kept R2 u.below (row_lt R2)
      have UK : ∀ u : Over wr.heap.size wr, Kt u.val := fun u => (HT.out.keep hB HT.out.2).keep u.below (Nat.lt_of_lt_of_le HT.out.2 hB.size)
      have HU := Lib.hid (And.intro U0 (And.intro U1 (And.intro U2 UK)))
      have Hlt := Lib.hid (row_lt R1)
      clear U0 U1 U2 UK R0 R1 R2
      generalize Sha.upto pl k = S at Hs HU ⊢
      have w1' : IntKind.i64.wrap ((k : Int) * 64) = (k : Int) * 64 := IntWalk.i64_in _ (by omega)
      have w2' : IntKind.i64.wrap ((k : Int) + 1) = (k : Int) + 1 := IntWalk.i64_in _ (by omega)
      have w3' : IntKind.i64.wrap (((k : Int) + 1) * 64) = ((k : Int) + 1) * 64 := IntWalk.i64_in _ (by omega)
      have t1 : ((k : Int) * 64).toNat = k * 64 := by omega
      have t2 : (((k : Int) + 1) * 64).toNat = k * 64 + 64 := by omega
      have b0 : 0 ≤ (k : Int) * 64 := by omega
      have b1 : (k : Int) * 64 ≤ ((k : Int) + 1) * 64 := by omega
      have b2 : ((k : Int) + 1) * 64 ≤ (nb : Int) * 64 := by omega
      have b3 : 0 ≤ ((k : Int) + 1) * 64 := by omega
      have b4 : (k : Int) * 64 < (nb : Int) * 64 := by omega
      have b5 : k * 64 + 64 ≤ nb * 64 := by omega
      have b6 : k * 64 < nb * 64 := by omega
      go_wp2_with fail
      refine region_tail_class (fun u : Over wr.heap.size wr => u.val) ⟨wr.drew, below_drewN (Below.refl _ _) 1⟩ rfl 10 (by kernel_rfl) (by kernel_rfl) ?_
      simp only [List.take_succ_cons, List.take_zero, List.drop_succ_cons, List.drop_zero]
      repeat (first
        | ((with_reducible refine wpQuiet_arr Tryd.underlying33 info_h8 ?_ (.tmp 4) ?_ w1.heap.size (Sha.cl S) rfl ?_ (fun u => HU.out.2.2.1 u) ?_); (rfl); (rfl); (rfl); (conv => arg 6; simp only [Act.put, List.setIfInBounds_toArray, List.set_cons_succ, List.set_cons_zero]))
        | go_big_quiet_step ((first
          | (go_at_call 11; exact over_left (Nat.le_refl _) (schedule_any (w.heap.size + 1) (k * 64) (nb * 64 - k * 64) ((pl.drop (64 * k)).take 64) Hw.out (by omega) Hwf.out _ (Nat.lt_of_lt_of_le Hlt.out (Over.below _).size) (Hcells.out _ (HU.out.2.1 _))))
          | (go_at_call 10; exact over_left (Nat.le_refl _) (mixed_cl S _ _ (Sha.len_sched _) _ (HU.out.2.2.2 _) Hs.out.symm))
          )))
      with_reducible refine wpQuiet_nil ?_
      rintro _ ⟨u, rfl⟩
      have R0 := HU.out.1 u
      have R1 := HU.out.2.1 u
      have R2 := HU.out.2.2.1 u
      have B2 := hB.trans (u.below.mono hB.size)
      generalize u.val = V at R0 R1 R2 B2 ⊢
      have HO := Lib.hid (Sha.cl_one (Sha.upto pl (k + 1)))
      go_wp2_with (first
        | ((with_reducible refine wpl_arr_store info_h8 ?_ (.tmp 4) (.tmp 24) ?_ w1.heap.size (Sha.cl (Sha.upto pl (k + 1))) (Sha.cl S) rfl rfl HO.out ?_ ?_ R2 ?_); (rfl); (rfl); (rfl); (rfl))
        )
      go_roundw
      case rel => exact ⟨k + 1, by omega, by go_num, (setRow_far (by omega)).trans R0, (setRow_far (by omega)).trans R1, row_written R2, setRow_below B2 (by omega)⟩
      case measure => simp [intOf]; omega
    · obtain rfl : k = nb := by omega
      have HR0 := Lib.hid (show wr.heap[w.heap.size]? = some (.cells (nrow .u8 z32).toArray b32T) from R0)
      have Hl := Lib.hid (show (nrow .u8 (Sha.sha (flat ps))).length = 32 by rw [nrow_len, HS.out]; exact Sha.len_lay _)
      have hlt1 := row_lt R2
      go_wp2_with (first
        | ((with_reducible refine wpl_arr Tryd.underlying33 info_h8 ?_ (.tmp 4) ?_ w1.heap.size (Sha.cl (Sha.upto pl k)) rfl ?_ R2 ?_); (rfl); (rfl); (rfl))
        | (go_at_call 12; refine (laid_cl _ _).mono ?_; rintro e w2 ⟨rfl, hB2⟩; rw [← HS.out])
        | ((with_reducible refine wpl_arr_store info_b32 ?_ (.tmp 2) (.tmp 27) ?_ w.heap.size (nrow .u8 (Sha.sha (flat ps))) (nrow .u8 z32) Hl.out ?_ (nrow_one _ _) ?_ ?_ (row_kept HR0.out hB2 (row_lt HR0.out)) ?_); (rfl); (rfl); (rfl); (rfl); (rfl))
        )
      exact bodyPost_ret (arr_results Tryd.underlying24 info_b32 Tryd.results7 Hl.out rfl (row_written (row_kept HR0.out hB2 (row_lt HR0.out)))) rfl ⟨rfl, setRow_below (hB.trans (hB2.mono hB.size)) (Nat.le_refl _)⟩
end Go.Proofs.YtlimcaajpoeoaaaDoor
