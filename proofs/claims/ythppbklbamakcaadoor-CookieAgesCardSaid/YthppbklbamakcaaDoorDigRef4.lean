/- The document's own digest. -/
import Derived.Test.YthppbklbamakcaaDoorDigRef3
namespace Go.Proofs.YthppbklbamakcaaDoor
open Go.ChangeShapes Go.WideShapes Go.ChangeAt Go.RowKit
theorem rblock_cl (s t : Sha.St) (b off cap : Nat) (bs : List Int) (hn : bs.length = 64) (hcap : 64 ≤ cap) (hwf : ∀ z ∈ bs, 0 ≤ z ∧ z < 256) (w : World) (hb : b < w.heap.size) (hc : ∀ i, i < 64 → w.cell? ⟨b, off + i, none⟩ = some (.int .u8 (bs.getD i 0))) (ht : Sha.block s bs = t) :
    Calls Tryd.prog 31 #[.agg (Sha.cl s).toArray, .slice (some ⟨b, off, none⟩) 64 cap] w fun e w' => e = .returned (.agg (Sha.cl t).toArray) ∧ Below w.heap.size w w' := by
  subst ht
  exact rblock_any s b off cap bs hn hcap hwf w hb hc
theorem rpadded_to (w : World) (A : Option Addr) (n cap : Nat) (bs : List Int) (hn : bs.length = n) (hN : Nums .u8 w A bs) (hlen : n ≤ 1000000) (nb : Nat) (hnb : Sha.nblocks n = nb) (l : List Int) (hl : Sha.pad bs = l) :
    Calls Tryd.prog 30 #[.slice A n cap] w fun e w' => ∃ A' c', e = .returned (.slice A' (nb * 64) c') ∧ OwnN .u8 5 w.heap.size w' A' c' l ∧ Below w.heap.size w w' := by
  subst hnb; subst hl
  exact rpadded_any w A n cap bs hn hN hlen
theorem OwnN.nums0 {k : IntKind} {E : TypeId} {base : Nat} {w : World} {A : Option Addr} {c : Nat} {l : List Int} (h : OwnN k E base w A c l) (hl : 0 < l.length) : ∃ b, A = some ⟨b, 0, none⟩ ∧ base ≤ b ∧ b < w.heap.size ∧ ∀ i, i < l.length → w.cell? ⟨b, i, none⟩ = some (.int k (l.getD i 0)) := by
  obtain ⟨b, rfl⟩ := OwnN.at0 h hl
  obtain ⟨h1, h2⟩ := OwnN.block h
  rcases h.nums with h0 | ⟨b', off, he, hlt, hc⟩
  · rw [h0] at hl; cases hl
  · injection he with he
    injection he with e1 e2
    subst e1; subst e2
    exact ⟨b, rfl, h1, h2, fun i hi => by have := hc i hi; rwa [Nat.zero_add] at this⟩
set_option maxRecDepth 100000 in
set_option maxHeartbeats 2000000 in
theorem rsum_any (w : World) (A : Option Addr) (n cap : Nat) (bs r : List Int) (hr : Sha.sha bs = r) (hn : bs.length = n) (hN : Nums .u8 w A bs) (hlen : n ≤ 1000000) (hwf : ∀ z ∈ bs, 0 ≤ z ∧ z < 256) :
    Calls Tryd.prog 21 #[.slice A n cap] w fun e w' => e = .returned (.agg (nrow .u8 r).toArray) ∧ Below w.heap.size w w' := by
  have z0 := zero_b32'
  have z1 := zero_h8
  have Hn := Lib.hid hn
  have HN := Lib.hid hN
  obtain ⟨nb, hnb⟩ : ∃ nb, Sha.nblocks n = nb := ⟨_, rfl⟩
  obtain ⟨pl, hpl⟩ : ∃ pl, Sha.pad bs = pl := ⟨_, rfl⟩
  obtain ⟨hb0, hb1⟩ := Sha.nblocks_bd n
  rw [hnb] at hb0 hb1
  have hb2 : (nb : Int) ≤ 20000 := by omega
  have hb3 : (0 : Int) ≤ (nb : Int) := by omega
  have hb4 : 0 < nb := by omega
  have Hnb := Lib.hid hnb
  have Hpl := Lib.hid hpl
  have HW := Lib.hid (show ∀ z ∈ pl, 0 ≤ z ∧ z < 256 by rw [← hpl]; exact Sha.pad_wf _ hwf)
  have HL := Lib.hid (show pl.length = nb * 64 by rw [← hpl, ← hnb, ← hn]; exact Sha.len_pad _)
  have HS := Lib.hid (show r = Sha.lay (Sha.upto pl nb) by rw [← hr, ← hpl, ← hnb, ← hn]; rfl)
  clear hn hN hnb hpl hwf hr hb0 hb1
  go_enter Tryd.func21, Tryd.ntmps21
  go_upto_region 2 with (fail)
  have RR : ((w.alloc (.cells (ncs .u8 z32) b32T)).alloc (.cells #[.int .u32 1779033703, .int .u32 3144134277, .int .u32 1013904242, .int .u32 2773480762, .int .u32 1359893119, .int .u32 2600822924, .int .u32 528734635, .int .u32 1541459225] h8T)).heap[w.heap.size]? = some (.cells (ncs .u8 z32) b32T) := (Below.heap_alloc _ _ _ (by simp)).trans row_new
  have RH : ((w.alloc (.cells (ncs .u8 z32) b32T)).alloc (.cells #[.int .u32 1779033703, .int .u32 3144134277, .int .u32 1013904242, .int .u32 2773480762, .int .u32 1359893119, .int .u32 2600822924, .int .u32 528734635, .int .u32 1541459225] h8T)).heap[w.heap.size + 1]? = some (.cells (Sha.cl (Sha.upto pl 0)).toArray h8T) := by
    rw [Sha.start_row pl]
    have := row_new (W := w.alloc (.cells (ncs .u8 z32) b32T)) (cs := #[.int .u32 1779033703, .int .u32 3144134277, .int .u32 1013904242, .int .u32 2773480762, .int .u32 1359893119, .int .u32 2600822924, .int .u32 528734635, .int .u32 1541459225]) (t := h8T) (m := (0, 0))
    rwa [show (w.alloc (.cells (ncs .u8 z32) b32T)).heap.size = w.heap.size + 1 by simp] at this
  have BB : Below w.heap.size w ((w.alloc (.cells (ncs .u8 z32) b32T)).alloc (.cells #[.int .u32 1779033703, .int .u32 3144134277, .int .u32 1013904242, .int .u32 2773480762, .int .u32 1359893119, .int .u32 2600822924, .int .u32 528734635, .int .u32 1541459225] h8T)) := ((Below.refl _ _).alloc (Nat.le_refl _) _).alloc (by simp) _
  have hsz : ((w.alloc (.cells (ncs .u8 z32) b32T)).alloc (.cells #[.int .u32 1779033703, .int .u32 3144134277, .int .u32 1013904242, .int .u32 2773480762, .int .u32 1359893119, .int .u32 2600822924, .int .u32 528734635, .int .u32 1541459225] h8T)).heap.size = w.heap.size + 2 := by simp
  generalize (w.alloc (.cells (ncs .u8 z32) b32T)).alloc (.cells #[.int .u32 1779033703, .int .u32 3144134277, .int .u32 1013904242, .int .u32 2773480762, .int .u32 1359893119, .int .u32 2600822924, .int .u32 528734635, .int .u32 1541459225] h8T) = W0 at RR RH BB hsz ⊢
  have Hsz := Lib.hid hsz
  clear hsz
  go_wp2_with fail
  refine (rpadded_to _ A n cap bs Hn.out (HN.out.below BB) hlen nb Hnb.out pl Hpl.out).mono ?_
  rintro e w1 ⟨A1, c1, rfl, hO, hB1⟩
  obtain ⟨gp, rfl, hgp, hgp2, hcp⟩ := hO.nums0 (by rw [HL.out]; omega)
  have hgp0 : w.heap.size + 2 ≤ gp := by rw [← Hsz.out]; exact hgp
  have hcc := hO.len
  rw [HL.out] at hcc hcp
  have RR1 := row_kept RR hB1 (row_lt RR)
  have RH1 := row_kept RH hB1 (row_lt RH)
  have BB1 := BB.trans (hB1.mono BB.size)
  have Hcp := Lib.hid hcp
  obtain ⟨hcc0, hcc1⟩ := hcc
  clear hO hB1 hgp hcp RR RH BB
  go_wp2_with fail
  obtain ⟨LEN, hLEN⟩ : ∃ LEN, LEN = nb * 64 := ⟨_, rfl⟩
  rw [← hLEN] at hcc0 Hcp ⊢
  have HLEN := Lib.hid hLEN
  have hL64 : LEN ≤ 1280000 := by omega
  unfold maxLen at hcc1
  clear hLEN
  go_loopw [5] (fun i wr => ∃ k z : Nat, z = 64 * k ∧ k ≤ nb ∧ i = .int .i64 z ∧ wr.heap[w.heap.size]? = some (.cells (ncs .u8 z32) b32T) ∧ (∀ i, i < LEN → wr.cell? ⟨gp, i, none⟩ = some (.int .u8 (pl.getD i 0))) ∧ gp < wr.heap.size ∧ wr.heap[w.heap.size + 1]? = some (.cells (Sha.cl (Sha.upto pl k)).toArray h8T) ∧ Below w.heap.size w wr) (fun i _ => LEN + 64 - (intOf i).toNat)
  case atStart => exact ⟨0, 0, rfl, Nat.zero_le _, rfl, RR1, Hcp.out, hgp2, RH1, BB1⟩
  case round =>
    obtain ⟨k, z, hz, hk, rfl, R0, hcp, hgl, R2, hB⟩ := hrel
    have HC := Lib.hid hcp
    clear RR1 RH1 BB1 hcp
    by_cases hlt : k < nb
    · have hL := HLEN.out
      have q1 : (z : Int) < (LEN : Int) := by omega
      have q0 : (0 : Int) ≤ (z : Int) := by omega
      have Hs := Lib.hid (show Sha.upto pl (k + 1) = Sha.block (Sha.upto pl k) ((pl.drop (64 * k)).take 64) from rfl)
      have Hw := Lib.hid (show ((pl.drop (64 * k)).take 64).length = 64 by rw [List.length_take, List.length_drop, HL.out]; omega)
      have Hwf := Lib.hid (show ∀ z ∈ (pl.drop (64 * k)).take 64, 0 ≤ z ∧ z < 256 from fun z hz => HW.out z (List.mem_of_mem_drop (List.mem_of_mem_take hz)))
      have Hcells := Lib.hid (show ∀ (w' : World), Below wr.heap.size wr w' → ∀ i, i < 64 → w'.cell? ⟨gp, z + i, none⟩ = some (.int .u8 (((pl.drop (64 * k)).take 64).getD i 0)) from fun w' h i hi => by
        rw [getD_window _ _ _ _ hi, ← hz]
        exact (h.cell (p := ⟨gp, z + i, none⟩) hgl).trans (HC.out (z + i) (by omega)))
      have U0 : ∀ u : Over wr.heap.size wr, u.val.heap[w.heap.size]? = some (.cells (ncs .u8 z32) b32T) := fun u => row_kept R0 u.below (row_lt R0)
      have U1 : ∀ u : Over wr.heap.size wr, ∀ i, i < LEN → u.val.cell? ⟨gp, i, none⟩ = some (.int .u8 (pl.getD i 0)) := fun u i hi => (u.below.cell (p := ⟨gp, i, none⟩) hgl).trans (HC.out i hi)
      have U2 : ∀ u : Over wr.heap.size wr, u.val.heap[w.heap.size + 1]? = some (.cells (Sha.cl (Sha.upto pl k)).toArray h8T) := fun u => row_kept R2 u.below (row_lt R2)
      have HU := Lib.hid (And.intro U0 (And.intro U1 U2))
      have Hgl := Lib.hid hgl
      have Hz := Lib.hid hz
      have w2' : IntKind.i64.wrap ((z : Int) + 64) = (z : Int) + 64 := IntWalk.i64_in _ (by omega)
      have t1 : (z : Int).toNat = z := by omega
      have t2 : ((z : Int) + 64).toNat = z + 64 := by omega
      have b2 : (z : Int) + 64 ≤ (LEN : Int) := by omega
      have b3 : (z : Int) ≤ (z : Int) + 64 := by omega
      have b4 : (z : Int) + 64 ≤ (c1 : Int) := by omega
      have b5 : z + 64 ≤ LEN := by omega
      have b6 : z < c1 := by omega
      have b7 : z + 64 ≤ c1 := by omega
      have b8 : (z : Int) < (c1 : Int) := by omega
      clear U0 U1 U2 R0 R2 hgl hz hL
      generalize Sha.upto pl k = S at Hs HU ⊢
      go_wp2_with fail
      refine region_tail_class (fun u : Over wr.heap.size wr => u.val) ⟨wr.drew, below_drewN (Below.refl _ _) 1⟩ rfl 7 (by kernel_rfl) (by kernel_rfl) ?_
      simp only [List.take_succ_cons, List.take_zero, List.drop_succ_cons, List.drop_zero]
      repeat (first
        | ((with_reducible refine wpQuiet_arr Tryd.underlying46 info_h8 ?_ (.tmp 3) ?_ (w.heap.size + 1) (Sha.cl S) rfl ?_ (fun u => HU.out.2.2 u) ?_); (rfl); (rfl); (rfl); (conv => arg 6; simp only [Act.put, List.setIfInBounds_toArray, List.set_cons_succ, List.set_cons_zero]))
        | go_big_quiet_step ((go_at_call 31; exact over_left (Nat.le_refl _) (rblock_cl S _ gp z (c1 - z) ((pl.drop (64 * k)).take 64) Hw.out (by omega) Hwf.out _ (Nat.lt_of_lt_of_le Hgl.out (Over.below _).size) (Hcells.out _ (Over.below _)) Hs.out.symm))))
      with_reducible refine wpQuiet_nil ?_
      rintro _ ⟨u, rfl⟩
      have R0 := HU.out.1 u
      have R1 := HU.out.2.1 u
      have R2 := HU.out.2.2 u
      have B2 := hB.trans (u.below.mono hB.size)
      have hgl := Nat.lt_of_lt_of_le Hgl.out u.below.size
      generalize u.val = V at R0 R1 R2 B2 hgl ⊢
      have HR1 := Lib.hid R1
      clear R1
      have HO := Lib.hid (Sha.cl_one (Sha.upto pl (k + 1)))
      go_wp2_with (first
        | ((with_reducible refine wpl_arr_store info_h8 ?_ (.tmp 3) (.tmp 23) ?_ (w.heap.size + 1) (Sha.cl (Sha.upto pl (k + 1))) (Sha.cl S) rfl rfl HO.out ?_ ?_ R2 ?_); (rfl); (rfl); (rfl); (rfl))
        )
      go_roundw
      case rel => exact ⟨k + 1, z + 64, by have := Hz.out; omega, by omega, by go_num, (setRow_far (by omega)).trans R0, fun i hi => by have := HR1.out i hi; unfold World.cell? at this ⊢; rw [setRow_far (show gp ≠ w.heap.size + 1 by omega)]; exact this, by rw [setRow_size]; exact hgl, row_written R2, setRow_below B2 (by omega)⟩
      case measure => simp [intOf]; omega
    · have hkn : k = nb := by omega
      subst hkn
      have hzl : z = LEN := by rw [hz, HLEN.out]; omega
      subst hzl
      have RC : wr.heap[w.heap.size + 1]? = some (.cells (Sha.cs (Sha.upto pl k)) h8T) := R2
      have hw1 := row_lt RC
      clear hz HC R2 hlt
      go_upto_region 8 with (fail)
      have R0' := row_kept R0 ((Below.refl wr.heap.size wr).alloc (Nat.le_refl _) (.cells (ncs .u8 z32) b32T)) (row_lt R0)
      have RC' := row_kept RC ((Below.refl wr.heap.size wr).alloc (Nat.le_refl _) (.cells (ncs .u8 z32) b32T)) hw1
      have R6 := row_new (W := wr) (cs := ncs .u8 z32) (t := b32T) (m := (0, 0))
      have B6 := hB.alloc hB.size (.cells (ncs .u8 z32) b32T)
      generalize wr.alloc (.cells (ncs .u8 z32) b32T) = W6 at R0' RC' R6 B6 ⊢
      obtain ⟨G, hG⟩ : ∃ G, G = wr.heap.size := ⟨_, rfl⟩
      rw [← hG] at R6 hw1 ⊢
      clear hG R0 RC hB hgl
      generalize hS : Sha.upto pl k = S at RC'
      have HS2 := Lib.hid (show r = Sha.lay S by rw [HS.out, hS])
      clear hS
      go_wp2
      go_loopw [7] (fun i wr => ∃ n : Nat, n ≤ 32 ∧ i = .int .i64 n ∧ wr.heap[w.heap.size]? = some (.cells (ncs .u8 z32) b32T) ∧ wr.heap[w.heap.size + 1]? = some (.cells (Sha.cs S) h8T) ∧ wr.heap[G]? = some (.cells (ncs .u8 (Sha.filled (Sha.lay S) n 32)) b32T) ∧ Below w.heap.size w wr) (fun i _ => 32 - (intOf i).toNat)
      case atStart => exact ⟨0, by omega, rfl, R0', RC', R6, B6⟩
      case round =>
        obtain ⟨n, hn, rfl, R0, R1, R2, hB⟩ := hrel
        clear R0' RC' R6 B6
        by_cases hlt : n < 32
        · obtain ⟨q, j, hq, hj, hqr⟩ : ∃ q j : Nat, q < 8 ∧ j < 4 ∧ n = 4 * q + j := ⟨n / 4, n % 4, by omega, by omega, by omega⟩
          have q1 : (n : Int) < 32 := by omega
          have q0 : (0 : Int) ≤ (n : Int) := by omega
          have hd : (n : Int) / 4 = (q : Int) := by omega
          have hq1 : (q : Int) < 8 := by omega
          have hq0 : (0 : Int) ≤ (q : Int) := by omega
          have hat := Sha.lay_at S q j hq hj
          rw [← hqr] at hat
          have Hat := Lib.hid hat
          have Hset := Lib.hid (Sha.filled_set (Sha.lay S) n 32 (by rw [Sha.len_lay]; exact hlt) hlt)
          have Hnset := Lib.hid (ncs_set .u8 (Sha.filled (Sha.lay S) n 32) n ((Sha.lay S).getD n 0))
          have M0 := ncs_at .u8 (Sha.filled (Sha.lay S) n 32) n (by rw [Sha.len_filled _ _ _ (by rw [Sha.len_lay]; omega) (by omega)]; exact hlt)
          have C0 := (row_cells R1 q).trans (Sha.cs_at S q hq)
          have hr4 : (j = 0 ∧ (n : Int) % 4 = 0) ∨ (j = 1 ∧ (n : Int) % 4 = 1) ∨ (j = 2 ∧ (n : Int) % 4 = 2) ∨ (j = 3 ∧ (n : Int) % 4 = 3) := by omega
          generalize (Sha.filled (Sha.lay S) n 32).getD n 0 = y at M0
          generalize hL : ncs .u8 (Sha.filled (Sha.lay S) n 32) = L at R2 M0 Hnset
          generalize Sha.wordAt S q = x at C0 Hat
          have hx0 := Sha.u_lo x
          have hx1 := Sha.u_hi x
          have S24 : ∀ x : Sha.W, Sha.u x / (16777216 : Int) = Sha.u (x >>> (24 : Nat)) := fun x => Sha.u_shr x 24
          have S16 : ∀ x : Sha.W, Sha.u x / (65536 : Int) = Sha.u (x >>> (16 : Nat)) := fun x => Sha.u_shr x 16
          have S8 : ∀ x : Sha.W, Sha.u x / (256 : Int) = Sha.u (x >>> (8 : Nat)) := fun x => Sha.u_shr x 8
          obtain ⟨s0, s1, d0, d1, f0, f1, z1⟩ := rows1 R2
          clear hL hat
          rcases hr4 with ⟨rfl, hm⟩ | ⟨rfl, hm⟩ | ⟨rfl, hm⟩ | ⟨rfl, hm⟩
          all_goals
            clear hqr
            go_wp2
            go_roundw
            case rel =>
              refine ⟨n + 1, by omega, by go_num, (setRow_far (by omega)).trans R0, (setRow_far (by omega)).trans R1, ?_, setRow_below hB (by omega)⟩
              rw [← Hset.out, ← Hnset.out, Hat.out]
              exact row_written R2
            case measure => simp [intOf]; omega
        · have hn32 : n = 32 := by omega
          subst hn32
          rw [show ((32 : Nat) : Int) = 32 from rfl]
          rw [Sha.filled_all _ _ (Sha.len_lay S), ← HS2.out] at R2
          have Hl := Lib.hid (show (nrow .u8 r).length = 32 by rw [nrow_len, HS2.out]; exact Sha.len_lay S)
          have HO := Lib.hid (nrow_one .u8 r)
          have R2' : wr.heap[G]? = some (.cells (nrow .u8 r).toArray b32T) := R2
          have R0' : wr.heap[w.heap.size]? = some (.cells (nrow .u8 z32).toArray b32T) := R0
          clear R0 R2
          go_wp2_with (first
            | ((with_reducible refine wpl_arr Tryd.underlying32 info_b32 ?_ (.tmp 6) ?_ G (nrow .u8 r) Hl.out ?_ R2' ?_); (rfl); (rfl); (rfl))
            | ((with_reducible refine wpl_arr_store info_b32 ?_ (.tmp 2) (.tmp 40) ?_ w.heap.size (nrow .u8 r) (nrow .u8 z32) Hl.out ?_ HO.out ?_ ?_ R0' ?_); (rfl); (rfl); (rfl); (rfl); (rfl))
            )
          exact bodyPost_ret (arr_results Tryd.underlying32 info_b32 Tryd.results21 Hl.out rfl (row_written R0')) rfl ⟨rfl, setRow_below hB (Nat.le_refl _)⟩
end Go.Proofs.YthppbklbamakcaaDoor
