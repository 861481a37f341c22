/- Texts of this proof, merged: DigRef4, MacRef, MacRef2. -/
import Derived.Test.YtpglhkjgcahdbaaDoorQ14
import Derived.Test.YtpglhkjgcahdbaaDoorQ13
import Derived.Test.YtpglhkjgcahdbaaDoorQ6
/- The document's own digest. -/
namespace Go.Proofs.YtpglhkjgcahdbaaDoor
open Go.ChangeShapes Go.WideShapes Go.ChangeAt Go.RowKit
theorem rblock_cl (s t : Sha.St) (b off cap : Nat) (bs : List Int) (hn : bs.length = 64) (hcap : 64 ≤ cap) (hwf : ∀ z ∈ bs, 0 ≤ z ∧ z < 256) (w : World) (hb : b < w.heap.size) (hc : ∀ i, i < 64 → w.cell? ⟨b, off + i, none⟩ = some (.int .u8 (bs.getD i 0))) (ht : Sha.block s bs = t) :
    Calls Tryd.prog 62 #[.agg (Sha.cl s).toArray, .slice (some ⟨b, off, none⟩) 64 cap] w fun e w' => e = .returned (.agg (Sha.cl t).toArray) ∧ Below w.heap.size w w' := by
  subst ht
  exact rblock_any s b off cap bs hn hcap hwf w hb hc
theorem rpadded_to (w : World) (A : Option Addr) (n cap : Nat) (bs : List Int) (hn : bs.length = n) (hN : Nums .u8 w A bs) (hlen : n ≤ 1000000) (nb : Nat) (hnb : Sha.nblocks n = nb) (l : List Int) (hl : Sha.pad bs = l) :
    Calls Tryd.prog 61 #[.slice A n cap] w fun e w' => ∃ A' c', e = .returned (.slice A' (nb * 64) c') ∧ OwnN .u8 5 w.heap.size w' A' c' l ∧ Below w.heap.size w w' := by
  subst hnb; subst hl
  exact rpadded_any w A n cap bs hn hN hlen
theorem OwnN.nums0 {k : IntKind} {E : TypeId} {base : Nat} {w : World} {A : Option Addr} {c : Nat} {l : List Int} (h : OwnN k E base w A c l) (hl : 0 < l.length) : ∃ b, A = some ⟨b, 0, none⟩ ∧ base ≤ b ∧ b < w.heap.size ∧ ∀ i, i < l.length → w.cell? ⟨b, i, none⟩ = some (.int k (l.getD i 0)) := by
  obtain ⟨b, rfl⟩ := OwnN.at0 h hl
  obtain ⟨h1, h2⟩ := OwnN.block h
  rcases h.nums with h0 | ⟨b', off, he, hlt, hc⟩
  · rw [h0] at hl; cases hl
  · injection he with he
    injection he with e1 e2
    subst e1; subst e2
    exact ⟨b, rfl, h1, h2, fun i hi => by have := hc i hi; rwa [Nat.zero_add] at this⟩
set_option maxRecDepth 100000 in
set_option maxHeartbeats 2000000 in
theorem rsum_any (w : World) (A : Option Addr) (n cap : Nat) (bs r : List Int) (hr : Sha.sha bs = r) (hn : bs.length = n) (hN : Nums .u8 w A bs) (hlen : n ≤ 1000000) (hwf : ∀ z ∈ bs, 0 ≤ z ∧ z < 256) :
    Calls Tryd.prog 36 #[.slice A n cap] w fun e w' => e = .returned (.agg (nrow .u8 r).toArray) ∧ Below w.heap.size w w' := by
  have z0 := zero_b32'
  have z1 := zero_h8
  have Hn := Lib.hid hn
  have HN := Lib.hid hN
  obtain ⟨nb, hnb⟩ : ∃ nb, Sha.nblocks n = nb := ⟨_, rfl⟩
  obtain ⟨pl, hpl⟩ : ∃ pl, Sha.pad bs = pl := ⟨_, rfl⟩
  obtain ⟨hb0, hb1⟩ := Sha.nblocks_bd n
  rw [hnb] at hb0 hb1
  have hb2 : (nb : Int) ≤ 20000 := by omega
  have hb3 : (0 : Int) ≤ (nb : Int) := by omega
  have hb4 : 0 < nb := by omega
  have Hnb := Lib.hid hnb
  have Hpl := Lib.hid hpl
  have HW := Lib.hid (show ∀ z ∈ pl, 0 ≤ z ∧ z < 256 by rw [← hpl]; exact Sha.pad_wf _ hwf)
  have HL := Lib.hid (show pl.length = nb * 64 by rw [← hpl, ← hnb, ← hn]; exact Sha.len_pad _)
  have HS := Lib.hid (show r = Sha.lay (Sha.upto pl nb) by rw [← hr, ← hpl, ← hnb, ← hn]; rfl)
  clear hn hN hnb hpl hwf hr hb0 hb1
  go_enter Tryd.func36, Tryd.ntmps36
  go_upto_region 2 with (fail)
  have RR : ((w.alloc (.cells (ncs .u8 z32) b32T)).alloc (.cells #[.int .u32 1779033703, .int .u32 3144134277, .int .u32 1013904242, .int .u32 2773480762, .int .u32 1359893119, .int .u32 2600822924, .int .u32 528734635, .int .u32 1541459225] h8T)).heap[w.heap.size]? = some (.cells (ncs .u8 z32) b32T) := (Below.heap_alloc _ _ _ (by simp)).trans row_new
  have RH : ((w.alloc (.cells (ncs .u8 z32) b32T)).alloc (.cells #[.int .u32 1779033703, .int .u32 3144134277, .int .u32 1013904242, .int .u32 2773480762, .int .u32 1359893119, .int .u32 2600822924, .int .u32 528734635, .int .u32 1541459225] h8T)).heap[w.heap.size + 1]? = some (.cells (Sha.cl (Sha.upto pl 0)).toArray h8T) := by
    rw [Sha.start_row pl]
    have := row_new (W := w.alloc (.cells (ncs .u8 z32) b32T)) (cs := #[.int .u32 1779033703, .int .u32 3144134277, .int .u32 1013904242, .int .u32 2773480762, .int .u32 1359893119, .int .u32 2600822924, .int .u32 528734635, .int .u32 1541459225]) (t := h8T) (m := (0, 0))
    rwa [show (w.alloc (.cells (ncs .u8 z32) b32T)).heap.size = w.heap.size + 1 by simp] at this
  have BB : Below w.heap.size w ((w.alloc (.cells (ncs .u8 z32) b32T)).alloc (.cells #[.int .u32 1779033703, .int .u32 3144134277, .int .u32 1013904242, .int .u32 2773480762, .int .u32 1359893119, .int .u32 2600822924, .int .u32 528734635, .int .u32 1541459225] h8T)) := ((Below.refl _ _).alloc (Nat.le_refl _) _).alloc (by simp) _
  have hsz : ((w.alloc (.cells (ncs .u8 z32) b32T)).alloc (.cells #[.int .u32 1779033703, .int .u32 3144134277, .int .u32 1013904242, .int .u32 2773480762, .int .u32 1359893119, .int .u32 2600822924, .int .u32 528734635, .int .u32 1541459225] h8T)).heap.size = w.heap.size + 2 := by simp
  generalize (w.alloc (.cells (ncs .u8 z32) b32T)).alloc (.cells #[.int .u32 1779033703, .int .u32 3144134277, .int .u32 1013904242, .int .u32 2773480762, .int .u32 1359893119, .int .u32 2600822924, .int .u32 528734635, .int .u32 1541459225] h8T) = W0 at RR RH BB hsz ⊢
  have Hsz := Lib.hid hsz
  clear hsz
  go_wp2_with fail
  refine (rpadded_to _ A n cap bs Hn.out (HN.out.below BB) hlen nb Hnb.out pl Hpl.out).mono ?_
  rintro e w1 ⟨A1, c1, rfl, hO, hB1⟩
  obtain ⟨gp, rfl, hgp, hgp2, hcp⟩ := hO.nums0 (by rw [HL.out]; omega)
  have hgp0 : w.heap.size + 2 ≤ gp := by rw [← Hsz.out]; exact hgp
  have hcc := hO.len
  rw [HL.out] at hcc hcp
  have RR1 := row_kept RR hB1 (row_lt RR)
  have RH1 := row_kept RH hB1 (row_lt RH)
  have BB1 := BB.trans (hB1.mono BB.size)
  have Hcp := Lib.hid hcp
  obtain ⟨hcc0, hcc1⟩ := hcc
  clear hO hB1 hgp hcp RR RH BB
  go_wp2_with fail
  obtain ⟨LEN, hLEN⟩ : ∃ LEN, LEN = nb * 64 := ⟨_, rfl⟩
  rw [← hLEN] at hcc0 Hcp ⊢
  have HLEN := Lib.hid hLEN
  have hL64 : LEN ≤ 1280000 := by omega
  unfold maxLen at hcc1
  clear hLEN
  go_loopw [5] (fun i wr => ∃ k z : Nat, z = 64 * k ∧ k ≤ nb ∧ i = .int .i64 z ∧ wr.heap[w.heap.size]? = some (.cells (ncs .u8 z32) b32T) ∧ (∀ i, i < LEN → wr.cell? ⟨gp, i, none⟩ = some (.int .u8 (pl.getD i 0))) ∧ gp < wr.heap.size ∧ wr.heap[w.heap.size + 1]? = some (.cells (Sha.cl (Sha.upto pl k)).toArray h8T) ∧ Below w.heap.size w wr) (fun i _ => LEN + 64 - (intOf i).toNat)
  case atStart => exact ⟨0, 0, rfl, Nat.zero_le _, rfl, RR1, Hcp.out, hgp2, RH1, BB1⟩
  case round =>
    obtain ⟨k, z, hz, hk, rfl, R0, hcp, hgl, R2, hB⟩ := hrel
    have HC := Lib.hid hcp
    clear RR1 RH1 BB1 hcp
    by_cases hlt : k < nb
    · have hL := HLEN.out
      have q1 : (z : Int) < (LEN : Int) := by omega
      have q0 : (0 : Int) ≤ (z : Int) := by omega
      have Hs := Lib.hid (show Sha.upto pl (k + 1) = Sha.block (Sha.upto pl k) ((pl.drop (64 * k)).take 64) from rfl)
      have Hw := Lib.hid (show ((pl.drop (64 * k)).take 64).length = 64 by rw [List.length_take, List.length_drop, HL.out]; omega)
      have Hwf := Lib.hid (show ∀ z ∈ (pl.drop (64 * k)).take 64, 0 ≤ z ∧ z < 256 from fun z hz => HW.out z (List.mem_of_mem_drop (List.mem_of_mem_take hz)))
      have Hcells := Lib.hid (show ∀ (w' : World), Below wr.heap.size wr w' → ∀ i, i < 64 → w'.cell? ⟨gp, z + i, none⟩ = some (.int .u8 (((pl.drop (64 * k)).take 64).getD i 0)) from fun w' h i hi => by
        rw [getD_window _ _ _ _ hi, ← hz]
        exact (h.cell (p := ⟨gp, z + i, none⟩) hgl).trans (HC.out (z + i) (by omega)))
      have U0 : ∀ u : Over wr.heap.size wr, u.val.heap[w.heap.size]? = some (.cells (ncs .u8 z32) b32T) := fun u => row_kept R0 u.below (row_lt R0)
      have U1 : ∀ u : Over wr.heap.size wr, ∀ i, i < LEN → u.val.cell? ⟨gp, i, none⟩ = some (.int .u8 (pl.getD i 0)) := fun u i hi => (u.below.cell (p := ⟨gp, i, none⟩) hgl).trans (HC.out i hi)
      have U2 : ∀ u : Over wr.heap.size wr, u.val.heap[w.heap.size + 1]? = some (.cells (Sha.cl (Sha.upto pl k)).toArray h8T) := fun u => row_kept R2 u.below (row_lt R2)
      have HU := Lib.hid (And.intro U0 (And.intro U1 U2))
      have Hgl := Lib.hid hgl
      have Hz := Lib.hid hz
      have w2' : IntKind.i64.wrap ((z : Int) + 64) = (z : Int) + 64 := IntWalk.i64_in _ (by omega)
      have t1 : (z : Int).toNat = z := by omega
      have t2 : ((z : Int) + 64).toNat = z + 64 := by omega
      have b2 : (z : Int) + 64 ≤ (LEN : Int) := by omega
      have b3 : (z : Int) ≤ (z : Int) + 64 := by omega
      have b4 : (z : Int) + 64 ≤ (c1 : Int) := by omega
      have b5 : z + 64 ≤ LEN := by omega
      have b6 : z < c1 := by omega
      have b7 : z + 64 ≤ c1 := by omega
      have b8 : (z : Int) < (c1 : Int) := by omega
      clear U0 U1 U2 R0 R2 hgl hz hL
      generalize Sha.upto pl k = S at Hs HU ⊢
      go_wp2_with fail
      refine region_tail_class (fun u : Over wr.heap.size wr => u.val) ⟨wr.drew, below_drewN (Below.refl _ _) 1⟩ rfl 7 (by kernel_rfl) (by kernel_rfl) ?_
      simp only [List.take_succ_cons, List.take_zero, List.drop_succ_cons, List.drop_zero]
      repeat (first
        | ((with_reducible refine wpQuiet_arr Tryd.underlying75 info_h8 ?_ (.tmp 3) ?_ (w.heap.size + 1) (Sha.cl S) rfl ?_ (fun u => HU.out.2.2 u) ?_); (rfl); (rfl); (rfl); (conv => arg 6; simp only [Act.put, List.setIfInBounds_toArray, List.set_cons_succ, List.set_cons_zero]))
        | go_big_quiet_step ((go_at_call 62; exact over_left (Nat.le_refl _) (rblock_cl S _ gp z (c1 - z) ((pl.drop (64 * k)).take 64) Hw.out (by omega) Hwf.out _ (Nat.lt_of_lt_of_le Hgl.out (Over.below _).size) (Hcells.out _ (Over.below _)) Hs.out.symm))))
      with_reducible refine wpQuiet_nil ?_
      rintro _ ⟨u, rfl⟩
      have R0 := HU.out.1 u
      have R1 := HU.out.2.1 u
      have R2 := HU.out.2.2 u
      have B2 := hB.trans (u.below.mono hB.size)
      have hgl := Nat.lt_of_lt_of_le Hgl.out u.below.size
      generalize u.val = V at R0 R1 R2 B2 hgl ⊢
      have HR1 := Lib.hid R1
      clear R1
      have HO := Lib.hid (Sha.cl_one (Sha.upto pl (k + 1)))
      go_wp2_with (first
        | ((with_reducible refine wpl_arr_store info_h8 ?_ (.tmp 3) (.tmp 23) ?_ (w.heap.size + 1) (Sha.cl (Sha.upto pl (k + 1))) (Sha.cl S) rfl rfl HO.out ?_ ?_ R2 ?_); (rfl); (rfl); (rfl); (rfl))
        )
      go_roundw
      case rel => exact ⟨k + 1, z + 64, by have := Hz.out; omega, by omega, by go_num, (setRow_far (by omega)).trans R0, fun i hi => by have := HR1.out i hi; unfold World.cell? at this ⊢; rw [setRow_far (show gp ≠ w.heap.size + 1 by omega)]; exact this, by rw [setRow_size]; exact hgl, row_written R2, setRow_below B2 (by omega)⟩
      case measure => simp [intOf]; omega
    · have hkn : k = nb := by omega
      subst hkn
      have hzl : z = LEN := by rw [hz, HLEN.out]; omega
      subst hzl
      have RC : wr.heap[w.heap.size + 1]? = some (.cells (Sha.cs (Sha.upto pl k)) h8T) := R2
      have hw1 := row_lt RC
      clear hz HC R2 hlt
      go_upto_region 8 with (fail)
      have R0' := row_kept R0 ((Below.refl wr.heap.size wr).alloc (Nat.le_refl _) (.cells (ncs .u8 z32) b32T)) (row_lt R0)
      have RC' := row_kept RC ((Below.refl wr.heap.size wr).alloc (Nat.le_refl _) (.cells (ncs .u8 z32) b32T)) hw1
      have R6 := row_new (W := wr) (cs := ncs .u8 z32) (t := b32T) (m := (0, 0))
      have B6 := hB.alloc hB.size (.cells (ncs .u8 z32) b32T)
      generalize wr.alloc (.cells (ncs .u8 z32) b32T) = W6 at R0' RC' R6 B6 ⊢
      obtain ⟨G, hG⟩ : ∃ G, G = wr.heap.size := ⟨_, rfl⟩
      rw [← hG] at R6 hw1 ⊢
      clear hG R0 RC hB hgl
      generalize hS : Sha.upto pl k = S at RC'
      have HS2 := Lib.hid (show r = Sha.lay S by rw [HS.out, hS])
      clear hS
      go_wp2
      go_loopw [7] (fun i wr => ∃ n : Nat, n ≤ 32 ∧ i = .int .i64 n ∧ wr.heap[w.heap.size]? = some (.cells (ncs .u8 z32) b32T) ∧ wr.heap[w.heap.size + 1]? = some (.cells (Sha.cs S) h8T) ∧ wr.heap[G]? = some (.cells (ncs .u8 (Sha.filled (Sha.lay S) n 32)) b32T) ∧ Below w.heap.size w wr) (fun i _ => 32 - (intOf i).toNat)
      case atStart => exact ⟨0, by omega, rfl, R0', RC', R6, B6⟩
      case round =>
        obtain ⟨n, hn, rfl, R0, R1, R2, hB⟩ := hrel
        clear R0' RC' R6 B6
        by_cases hlt : n < 32
        · obtain ⟨q, j, hq, hj, hqr⟩ : ∃ q j : Nat, q < 8 ∧ j < 4 ∧ n = 4 * q + j := ⟨n / 4, n % 4, by omega, by omega, by omega⟩
          have q1 : (n : Int) < 32 := by omega
          have q0 : (0 : Int) ≤ (n : Int) := by omega
          have hd : (n : Int) / 4 = (q : Int) := by omega
          have hq1 : (q : Int) < 8 := by omega
          have hq0 : (0 : Int) ≤ (q : Int) := by omega
          have hat := Sha.lay_at S q j hq hj
          rw [← hqr] at hat
          have Hat := Lib.hid hat
          have Hset := Lib.hid (Sha.filled_set (Sha.lay S) n 32 (by rw [Sha.len_lay]; exact hlt) hlt)
          have Hnset := Lib.hid (ncs_set .u8 (Sha.filled (Sha.lay S) n 32) n ((Sha.lay S).getD n 0))
          have M0 := ncs_at .u8 (Sha.filled (Sha.lay S) n 32) n (by rw [Sha.len_filled _ _ _ (by rw [Sha.len_lay]; omega) (by omega)]; exact hlt)
          have C0 := (row_cells R1 q).trans (Sha.cs_at S q hq)
          have hr4 : (j = 0 ∧ (n : Int) % 4 = 0) ∨ (j = 1 ∧ (n : Int) % 4 = 1) ∨ (j = 2 ∧ (n : Int) % 4 = 2) ∨ (j = 3 ∧ (n : Int) % 4 = 3) := by omega
          generalize (Sha.filled (Sha.lay S) n 32).getD n 0 = y at M0
          generalize hL : ncs .u8 (Sha.filled (Sha.lay S) n 32) = L at R2 M0 Hnset
          generalize Sha.wordAt S q = x at C0 Hat
          have hx0 := Sha.u_lo x
          have hx1 := Sha.u_hi x
          have S24 : ∀ x : Sha.W, Sha.u x / (16777216 : Int) = Sha.u (x >>> (24 : Nat)) := fun x => Sha.u_shr x 24
          have S16 : ∀ x : Sha.W, Sha.u x / (65536 : Int) = Sha.u (x >>> (16 : Nat)) := fun x => Sha.u_shr x 16
          have S8 : ∀ x : Sha.W, Sha.u x / (256 : Int) = Sha.u (x >>> (8 : Nat)) := fun x => Sha.u_shr x 8
          obtain ⟨s0, s1, d0, d1, f0, f1, z1⟩ := rows1 R2
          clear hL hat
          rcases hr4 with ⟨rfl, hm⟩ | ⟨rfl, hm⟩ | ⟨rfl, hm⟩ | ⟨rfl, hm⟩
          all_goals
            clear hqr
            go_wp2
            go_roundw
            case rel =>
              refine ⟨n + 1, by omega, by go_num, (setRow_far (by omega)).trans R0, (setRow_far (by omega)).trans R1, ?_, setRow_below hB (by omega)⟩
              rw [← Hset.out, ← Hnset.out, Hat.out]
              exact row_written R2
            case measure => simp [intOf]; omega
        · have hn32 : n = 32 := by omega
          subst hn32
          rw [show ((32 : Nat) : Int) = 32 from rfl]
          rw [Sha.filled_all _ _ (Sha.len_lay S), ← HS2.out] at R2
          have Hl := Lib.hid (show (nrow .u8 r).length = 32 by rw [nrow_len, HS2.out]; exact Sha.len_lay S)
          have HO := Lib.hid (nrow_one .u8 r)
          have R2' : wr.heap[G]? = some (.cells (nrow .u8 r).toArray b32T) := R2
          have R0' : wr.heap[w.heap.size]? = some (.cells (nrow .u8 z32).toArray b32T) := R0
          clear R0 R2
          go_wp2_with (first
            | ((with_reducible refine wpl_arr Tryd.underlying40 info_b32 ?_ (.tmp 6) ?_ G (nrow .u8 r) Hl.out ?_ R2' ?_); (rfl); (rfl); (rfl))
            | ((with_reducible refine wpl_arr_store info_b32 ?_ (.tmp 2) (.tmp 40) ?_ w.heap.size (nrow .u8 r) (nrow .u8 z32) Hl.out ?_ HO.out ?_ ?_ R0' ?_); (rfl); (rfl); (rfl); (rfl); (rfl))
            )
          exact bodyPost_ret (arr_results Tryd.underlying40 info_b32 Tryd.results36 Hl.out rfl (row_written R0')) rfl ⟨rfl, setRow_below hB (Nat.le_refl _)⟩
end Go.Proofs.YtpglhkjgcahdbaaDoor
/- The document's own digest by a key. -/
namespace Go.Proofs.YtpglhkjgcahdbaaDoor
open Go.ChangeShapes Go.WideShapes Go.ChangeAt Go.RowKit
theorem Mac.take_snoc (b : List Int) (m : Int) (k : Nat) (h : k < b.length) : (Mac.mask b m).take (k + 1) = (Mac.mask b m).take k ++ [Mac.xor8 (b.getD k 0) m] := by
  rw [List.take_succ_eq_append_getElem (by rw [Mac.len_mask]; exact h)]
  have := Mac.mask_at b m k h
  rw [← this]
  simp [List.getD, show k < (Mac.mask b m).length by rw [Mac.len_mask]; exact h]
theorem Mac.pad64_in (l : List Int) (k : Nat) (h : k < l.length) : (Mac.pad64 l).getD k 0 = l.getD k 0 := by
  simp [Mac.pad64, List.getD, List.getElem?_append_left h]
theorem Mac.pad64_out (l : List Int) (k : Nat) (h : l.length ≤ k) (h64 : k < 64) : (Mac.pad64 l).getD k 0 = 0 := by
  simp only [Mac.pad64, List.getD, List.getElem?_append_right h]
  rw [List.getElem?_replicate]
  split <;> simp
set_option maxRecDepth 100000 in
set_option maxHeartbeats 1000000 in
theorem mblock_any (w : World) (A : Option Addr) (n cap : Nat) (key : List Int) (hn : key.length = n) (hN : Nums .u8 w A key) (hlen : n ≤ 1000) (hwf : ∀ z ∈ key, 0 ≤ z ∧ z < 256) (m : Int) (b r : List Int) (hb : Mac.blk key = b) (hr : Mac.mask b m = r) :
    Calls Tryd.prog 37 #[.slice A n cap, .int .u8 m] w fun e w' => ∃ A' c', e = .returned (.slice A' 64 c') ∧ OwnN .u8 5 w.heap.size w' A' c' r ∧ Below w.heap.size w w' := by
  obtain ⟨i0, hi, hz0, hz1, hz2⟩ := info_parts infoB
  have HI := Lib.hid (And.intro hi (And.intro hz0 (And.intro hz1 hz2)))
  have Hn := Lib.hid hn
  have HN := Lib.hid hN
  have Hwf := Lib.hid hwf
  have HL0 := Lib.hid (show ([] : List Int).length + n < 17592186044415 by simp; omega)
  have Hr := Lib.hid hr
  have Hb64 := Lib.hid (show b.length = 64 by rw [← hb]; exact Mac.len_blk key)
  clear hi hz0 hz1 hz2 hn hN hwf hr
  by_cases h64 : 64 < n
  · obtain ⟨s1, hs1⟩ : ∃ s, Sha.sha key = s := ⟨_, rfl⟩
    have hs32 : s1.length = 32 := by rw [← hs1]; exact sha_len _
    have z1 := zero_b32'
    have SN := sha_new s1 hs32
    have L1 : (nrow .u8 s1).length = 32 := by rw [nrow_len]; exact hs32
    have Hs1 := Lib.hid hs1
    have Hs32 := Lib.hid hs32
    have HLs := Lib.hid (show ([] : List Int).length + 32 < 17592186044415 by simp)
    have Hpad := Lib.hid (show b = Mac.pad64 s1 by rw [← hb, ← hs1]; unfold Mac.blk; rw [if_pos (by rw [Hn.out]; exact h64)])
    clear hs1 hs32 hb
    go_enter Tryd.func37, Tryd.ntmps37
    go_wp2_with (first
      | (at_builtin; refine wpList_append_rowA rfl (.tmp 10) (.tmp 11) 22 rfl i0 1 Tryd.underlying22 HI.out.1 HI.out.2.1 HI.out.2.2.1 HI.out.2.2.2 (by decide) 0 rfl rfl (OwnN.empty (base := w.heap.size) (Nat.le_refl _)) A n _ key rfl Hn.out (HN.out.alloc _) HL0.out w.heap.size w (Nat.le_refl _) ((Below.refl _ _).alloc (Nat.le_refl _) _) ?_; intro A1 c1 w1 hO1 hB1; rw [Nat.zero_add])
      )
    rw [List.nil_append] at hO1
    refine (rsum_any _ A1 n c1 key s1 Hs1.out Hn.out hO1.nums (by omega) Hwf.out).mono ?_
    rintro e w2 ⟨rfl, hB2⟩
    have B2 := hB1.trans (hB2.mono hB1.size)
    clear hO1 hB1 hB2
    go_upto_region 4 with (fail)
    have AN := (Below.refl w2.heap.size w2).alloc (Nat.le_refl _) (.cells (nrow .u8 s1).toArray b32T)
    have RR := row_new (W := w2) (cs := (nrow .u8 s1).toArray) (t := b32T) (m := (0, 0))
    have B3 := B2.trans (AN.mono B2.size)
    generalize w2.alloc (.cells (nrow .u8 s1).toArray b32T) = V at RR B3 ⊢
    have N1 := Lib.hid (nums_row RR)
    clear AN B2 SN RR z1
    go_wp2_with ((at_builtin; (refine wpList_append_rowA rfl (.tmp 18) (.tmp 19) 22 rfl i0 1 Tryd.underlying22 HI.out.1 HI.out.2.1 HI.out.2.2.1 HI.out.2.2.2 (by decide) 0 rfl rfl (OwnN.empty (base := w.heap.size) B3.size) _ 32 _ s1 rfl Hs32.out (N1.out.alloc _) HLs.out w.heap.size w (Nat.le_refl _) (B3.alloc B3.size _) ?_); intro A2 c2 w3 hO2 hB3; rw [Nat.zero_add]))
    rw [List.nil_append] at hO2
    have HK := Lib.hid hO2.nums
    have Hkl := Lib.hid Hs32.out
    have W0s := hB3.size
    go_loopw [7, 8, 9] (fun v i _x wr => ∃ (k : Nat) (A' : Option Addr) (c' : Nat), k ≤ 64 ∧ i = .int .i64 k ∧ v = .slice A' k c' ∧ OwnN .u8 5 w3.heap.size wr A' c' (r.take k) ∧ Below w3.heap.size w3 wr) (fun _ i _x _ => 64 - (intOf i).toNat)
    case atStart => exact ⟨0, none, 0, by omega, rfl, rfl, OwnN.nil (Nat.le_refl _), Below.refl _ _⟩
    case round =>
      obtain ⟨k, A', c', hk, rfl, rfl, hO, hB⟩ := hrel
      have HO := Lib.hid hO
      clear hO
      by_cases hlt : k < 64
      · have q1 : (k : Int) < 64 := by omega
        have q0 : (0 : Int) ≤ (k : Int) := by omega
        have Hl := Lib.hid (show (r.take k).length = k by rw [List.length_take, ← Hr.out, Mac.len_mask, Hb64.out]; omega)
        have Hl2 := Lib.hid (show (r.take k).length < 17592186044415 by rw [Hl.out]; omega)
        have Hs := Lib.hid (show r.take (k + 1) = r.take k ++ [Mac.xor8 (b.getD k 0) m] by rw [← Hr.out]; exact Mac.take_snoc b m k (by rw [Hb64.out]; exact hlt))
        by_cases hkl : k < 32
        · have q2 : (k : Int) < (32 : Int) := by omega
          rw [Hpad.out, Mac.pad64_in _ _ (by rw [Hkl.out]; exact hkl)] at Hs
          rcases HK.out.below hB with h0 | ⟨bb, off, rfl, hbb, hcc⟩
          · exact absurd hkl (by have := Hkl.out; rw [h0] at this; simp only [List.length_nil] at this; omega)
          · have cell := hcc k (by rw [Hkl.out]; exact hkl)
            generalize s1.getD k 0 = x at cell Hs
            have hX : bits .xor .u8 x m = Mac.xor8 x m := rfl
            generalize Mac.xor8 x m = y at hX Hs
            clear hcc
            go_wp2_with (first
              | (at_builtin; refine wpList_append_num rfl (.tmp 33) (.tmp 37) 22 rfl i0 1 Tryd.underlying22 HI.out.1 HI.out.2.1 HI.out.2.2.1 HI.out.2.2.2 (by decide) k Hl.out rfl (HO.out.alloc _) ⟨wr.heap.size, 0, none⟩ _ y rfl (by simp) Hl2.out w3.heap.size w3 (Nat.le_refl _) (hB.alloc hB.size _) ?_; intro A4 c4 w4 hO4 hB4)
              )
            go_roundw
            case rel => exact ⟨k + 1, A4, c4, by omega, by go_num, rfl, by rw [Hs.out]; exact hO4, hB4⟩
            case measure => simp [intOf]; omega
        · have q2 : ¬ ((k : Int) < (32 : Int)) := by omega
          rw [Hpad.out, Mac.pad64_out _ _ (by rw [Hkl.out]; omega) hlt] at Hs
          have hX : bits .xor .u8 0 m = Mac.xor8 0 m := rfl
          generalize Mac.xor8 0 m = y at hX Hs
          go_wp2_with (first
            | (at_builtin; refine wpList_append_num rfl (.tmp 33) (.tmp 37) 22 rfl i0 1 Tryd.underlying22 HI.out.1 HI.out.2.1 HI.out.2.2.1 HI.out.2.2.2 (by decide) k Hl.out rfl (HO.out.alloc _) ⟨wr.heap.size, 0, none⟩ _ y rfl (by simp) Hl2.out w3.heap.size w3 (Nat.le_refl _) (hB.alloc hB.size _) ?_; intro A4 c4 w4 hO4 hB4)
            )
          go_roundw
          case rel => exact ⟨k + 1, A4, c4, by omega, by go_num, rfl, by rw [Hs.out]; exact hO4, hB4⟩
          case measure => simp [intOf]; omega
      · obtain rfl : k = 64 := by omega
        have hO := HO.out
        rw [List.take_of_length_le (by rw [← Hr.out, Mac.len_mask, Hb64.out]; exact Nat.le_refl _)] at hO
        rw [show ((64 : Nat) : Int) = 64 from rfl]
        go_wp2
        go_ret
        exact ⟨A', c', rfl, hO.lower W0s, hB3.trans (hB.mono W0s)⟩
  · have Hpad := Lib.hid (show b = Mac.pad64 key by rw [← hb]; unfold Mac.blk; rw [if_neg (by rw [Hn.out]; exact h64)])
    clear hb
    go_enter Tryd.func37, Tryd.ntmps37
    go_wp2_with (first
      | (at_builtin; refine wpList_append_rowA rfl (.tmp 10) (.tmp 11) 22 rfl i0 1 Tryd.underlying22 HI.out.1 HI.out.2.1 HI.out.2.2.1 HI.out.2.2.2 (by decide) 0 rfl rfl (OwnN.empty (base := w.heap.size) (Nat.le_refl _)) A n _ key rfl Hn.out (HN.out.alloc _) HL0.out w.heap.size w (Nat.le_refl _) ((Below.refl _ _).alloc (Nat.le_refl _) _) ?_; intro A1 c1 w1 hO1 hB1; rw [Nat.zero_add])
      )
    rw [List.nil_append] at hO1
    have HK := Lib.hid hO1.nums
    have Hkl := Lib.hid Hn.out
    have W0s := hB1.size
    go_loopw [7, 8, 9] (fun v i _x wr => ∃ (k : Nat) (A' : Option Addr) (c' : Nat), k ≤ 64 ∧ i = .int .i64 k ∧ v = .slice A' k c' ∧ OwnN .u8 5 w1.heap.size wr A' c' (r.take k) ∧ Below w1.heap.size w1 wr) (fun _ i _x _ => 64 - (intOf i).toNat)
    case atStart => exact ⟨0, none, 0, by omega, rfl, rfl, OwnN.nil (Nat.le_refl _), Below.refl _ _⟩
    case round =>
      obtain ⟨k, A', c', hk, rfl, rfl, hO, hB⟩ := hrel
      have HO := Lib.hid hO
      clear hO
      by_cases hlt : k < 64
      · have q1 : (k : Int) < 64 := by omega
        have q0 : (0 : Int) ≤ (k : Int) := by omega
        have Hl := Lib.hid (show (r.take k).length = k by rw [List.length_take, ← Hr.out, Mac.len_mask, Hb64.out]; omega)
        have Hl2 := Lib.hid (show (r.take k).length < 17592186044415 by rw [Hl.out]; omega)
        have Hs := Lib.hid (show r.take (k + 1) = r.take k ++ [Mac.xor8 (b.getD k 0) m] by rw [← Hr.out]; exact Mac.take_snoc b m k (by rw [Hb64.out]; exact hlt))
        by_cases hkl : k < n
        · have q2 : (k : Int) < (n : Int) := by omega
          rw [Hpad.out, Mac.pad64_in _ _ (by rw [Hkl.out]; exact hkl)] at Hs
          rcases HK.out.below hB with h0 | ⟨bb, off, rfl, hbb, hcc⟩
          · exact absurd hkl (by have := Hkl.out; rw [h0] at this; simp only [List.length_nil] at this; omega)
          · have cell := hcc k (by rw [Hkl.out]; exact hkl)
            generalize key.getD k 0 = x at cell Hs
            have hX : bits .xor .u8 x m = Mac.xor8 x m := rfl
            generalize Mac.xor8 x m = y at hX Hs
            clear hcc
            go_wp2_with (first
              | (at_builtin; refine wpList_append_num rfl (.tmp 33) (.tmp 37) 22 rfl i0 1 Tryd.underlying22 HI.out.1 HI.out.2.1 HI.out.2.2.1 HI.out.2.2.2 (by decide) k Hl.out rfl (HO.out.alloc _) ⟨wr.heap.size, 0, none⟩ _ y rfl (by simp) Hl2.out w1.heap.size w1 (Nat.le_refl _) (hB.alloc hB.size _) ?_; intro A4 c4 w4 hO4 hB4)
              )
            go_roundw
            case rel => exact ⟨k + 1, A4, c4, by omega, by go_num, rfl, by rw [Hs.out]; exact hO4, hB4⟩
            case measure => simp [intOf]; omega
        · have q2 : ¬ ((k : Int) < (n : Int)) := by omega
          rw [Hpad.out, Mac.pad64_out _ _ (by rw [Hkl.out]; omega) hlt] at Hs
          have hX : bits .xor .u8 0 m = Mac.xor8 0 m := rfl
          generalize Mac.xor8 0 m = y at hX Hs
          go_wp2_with (first
            | (at_builtin; refine wpList_append_num rfl (.tmp 33) (.tmp 37) 22 rfl i0 1 Tryd.underlying22 HI.out.1 HI.out.2.1 HI.out.2.2.1 HI.out.2.2.2 (by decide) k Hl.out rfl (HO.out.alloc _) ⟨wr.heap.size, 0, none⟩ _ y rfl (by simp) Hl2.out w1.heap.size w1 (Nat.le_refl _) (hB.alloc hB.size _) ?_; intro A4 c4 w4 hO4 hB4)
            )
          go_roundw
          case rel => exact ⟨k + 1, A4, c4, by omega, by go_num, rfl, by rw [Hs.out]; exact hO4, hB4⟩
          case measure => simp [intOf]; omega
      · obtain rfl : k = 64 := by omega
        have hO := HO.out
        rw [List.take_of_length_le (by rw [← Hr.out, Mac.len_mask, Hb64.out]; exact Nat.le_refl _)] at hO
        rw [show ((64 : Nat) : Int) = 64 from rfl]
        go_wp2
        go_ret
        exact ⟨A', c', rfl, hO.lower W0s, hB1.trans (hB.mono W0s)⟩
end Go.Proofs.YtpglhkjgcahdbaaDoor
/- The document's own digest by a key: the whole. -/
namespace Go.Proofs.YtpglhkjgcahdbaaDoor
open Go.ChangeShapes Go.WideShapes Go.ChangeAt Go.RowKit
theorem step_append_row {k : IntKind} {E : TypeId} {base : Nat} {w : World} {A : Option Addr} {c : Nat} {l : List Int} {P : Program} {ops : Array Oper} {F : Prop} {Q : Exit → Act → World → Prop} {K : Act → World → Prop} {o : Oper} {a : Act} (hgd : o.guard = none) (s x : Operand) (t : TypeId)
    (ho : o.op = .call { callee := .builtin .append, args := #[s, x], argTypes := #[t, t] })
    (i : TypeInfo) (bytes : Nat) (ht : P.underlying t = some (.slice E)) (hi : P.info? E = some i) (hz : i.zero = some (.int k 0)) (hsize : i.size = 1) (hby : i.bytes = bytes) (hb8 : bytes ≤ 8)
    (n : Nat) (hn : l.length = n) (hs : a.eval s = .slice A n c) (hown : OwnN k E base w A c l)
    (ad : Addr) (m cc : Nat) (xs : List Int) (hx : a.eval x = .slice (some ad) m cc) (hm : xs.length = m) (hcell : Nums k w (some ad) xs) (hlen : l.length + m < 17592186044415)
    (B : Nat) (W0 : World) (hB : B ≤ base) (hbelow : Below B W0 w)
    (h : ∀ A' c' w', OwnN k E base w' A' c' (l ++ xs) → Below B W0 w' → K (a.put o.dst (.slice A' (n + m) c')) w') : if Region.wanted o (yielded ops a.tmps) = true then Oper.wp P o a w K Q else F := by
  have hw : Region.wanted o (yielded ops a.tmps) = true := by simp [Region.wanted, hgd]
  rw [if_pos hw]
  exact wp_append_row s x t ho i bytes ht hi hz hsize hby hb8 n hn hs hown ad m cc xs hx hm hcell hlen B W0 hB hbelow h
/-- What the last region of Of reads and writes. -/
structure MrS (w : World) (g7 : Nat) (s1 : List Int) (W : World) : Prop where
  rs : W.heap[g7]? = some (.cells (nrow .u8 s1).toArray b32T)
  rr : ∃ L : List Value, L.length = 32 ∧ W.heap[w.heap.size]? = some (.cells L.toArray b32T)
  low : Below w.heap.size w W
abbrev MrA (w : World) (g7 : Nat) (s1 : List Int) (W : World) : Prop := W.there w.heap.size 0 32 ∧ MrS w g7 s1 W
theorem MrS.all {w W : World} {g7 : Nat} {s1 : List Int} (h : MrS w g7 s1 W) : MrA w g7 s1 W := by
  obtain ⟨L, hL, hr⟩ := h.rr
  exact ⟨there_row hr hL, h⟩
theorem MrS.keep {w W W' : World} {g7 : Nat} {s1 : List Int} (h : MrS w g7 s1 W) (hb : Below W.heap.size W W') : MrS w g7 s1 W' := by
  obtain ⟨L, hL, hr⟩ := h.rr
  exact ⟨row_kept h.rs hb (row_lt h.rs), ⟨L, hL, row_kept hr hb (row_lt hr)⟩, h.low.trans (hb.mono h.low.size)⟩
theorem MrS.set {w W : World} {g7 : Nat} {s1 r : List Int} (h : MrS w g7 s1 W) (h7 : w.heap.size < g7) (hr : r.length = 32) : MrS w g7 s1 (W.setCells w.heap.size 0 (nrow .u8 r)) := by
  obtain ⟨L, hL, hrr⟩ := h.rr
  refine ⟨(heap_setCells (by omega) _ _ _).trans h.rs, ⟨nrow .u8 r, by rw [nrow_len]; exact hr, ?_⟩, below_setCells (Nat.le_refl _) _ _ _ h.low⟩
  rw [setCells_arr info_b32 (by rw [nrow_len]; exact hr) hL (nrow_one _ _) hrr]
  exact row_written hrr
set_option maxRecDepth 100000 in
set_option maxHeartbeats 1000000 in
theorem mof_any (w : World) (A : Option Addr) (n cap : Nat) (key : List Int) (hn : key.length = n) (hN : Nums .u8 w A key) (hlen : n ≤ 1000) (hwf : ∀ z ∈ key, 0 ≤ z ∧ z < 256)
    (B : Option Addr) (m capb : Nat) (msg r : List Int) (hm : msg.length = m) (hM : Nums .u8 w B msg) (hml : m ≤ 1000) (hmwf : ∀ z ∈ msg, 0 ≤ z ∧ z < 256) (hr : Mac.hmac key msg = r) :
    Calls Tryd.prog 21 #[.slice A n cap, .slice B m capb] w fun e w' => e = .returned (.agg (nrow .u8 r).toArray) ∧ Below w.heap.size w w' := by
  have z0 := zero_b32'
  have HN := Lib.hid hN
  have Hn := Lib.hid hn
  have Hwf := Lib.hid hwf
  have HM := Lib.hid hM
  have Hm := Lib.hid hm
  have Hmw := Lib.hid hmwf
  obtain ⟨i0, hi, hz0, hz1, hz2⟩ := info_parts infoB
  have HI := Lib.hid (And.intro hi (And.intro hz0 (And.intro hz1 hz2)))
  obtain ⟨b, hb⟩ : ∃ b, Mac.blk key = b := ⟨_, rfl⟩
  have hb64 : b.length = 64 := by rw [← hb]; exact Mac.len_blk key
  obtain ⟨ki, hki⟩ : ∃ k, Mac.mask b 54 = k := ⟨_, rfl⟩
  obtain ⟨ko, hko⟩ : ∃ k, Mac.mask b 92 = k := ⟨_, rfl⟩
  obtain ⟨s1, hs1⟩ : ∃ s, Sha.sha (ki ++ msg) = s := ⟨_, rfl⟩
  have hr2 : Sha.sha (ko ++ s1) = r := by rw [← hr, ← hs1, ← hki, ← hko, ← hb]; rfl
  have hs32 : s1.length = 32 := by rw [← hs1]; exact sha_len _
  have hr32 : r.length = 32 := by rw [← hr2]; exact sha_len _
  have SN := sha_new s1 hs32
  have L1 : (nrow .u8 s1).length = 32 := by rw [nrow_len]; exact hs32
  have Hb := Lib.hid hb
  have Hki := Lib.hid hki
  have Hko := Lib.hid hko
  have Hs1 := Lib.hid hs1
  have Hr2 := Lib.hid hr2
  have Hki64 := Lib.hid (show ki.length = 64 by rw [← hki, Mac.len_mask]; exact hb64)
  have Hko64 := Lib.hid (show ko.length = 64 by rw [← hko, Mac.len_mask]; exact hb64)
  have Hkiw := Lib.hid (show ∀ z ∈ ki, 0 ≤ z ∧ z < 256 by rw [← hki]; exact Mac.mask_wf _ _)
  have Hkow := Lib.hid (show ∀ z ∈ ko, 0 ≤ z ∧ z < 256 by rw [← hko]; exact Mac.mask_wf _ _)
  have Hs1w := Lib.hid (show ∀ z ∈ s1, 0 ≤ z ∧ z < 256 by rw [← hs1]; exact Mac.sha_wf _)
  have Hs32 := Lib.hid hs32
  have Hr32 := Lib.hid hr32
  have HLa := Lib.hid (show ki.length + m < 17592186044415 by rw [Hki64.out]; omega)
  have HLb := Lib.hid (show ko.length + 32 < 17592186044415 by rw [Hko64.out]; omega)
  clear hN hn hwf hM hm hmwf hb hb64 hki hko hs1 hr2 hs32 hr32 hr hi hz0 hz1 hz2
  go_enter Tryd.func21, Tryd.ntmps21
  go_wp2_with fail
  have RR := row_new (W := w) (cs := ncs .u8 z32) (t := b32T) (m := (0, 0))
  have B0 : Below w.heap.size w (w.alloc (.cells (ncs .u8 z32) b32T)) := (Below.refl _ _).alloc (Nat.le_refl _) _
  generalize w.alloc (.cells (ncs .u8 z32) b32T) = W0 at RR B0 ⊢
  refine (mblock_any W0 A n cap key Hn.out (HN.out.below B0) hlen Hwf.out 54 b ki Hb.out Hki.out).mono ?_
  rintro e w1 ⟨A1, c1, rfl, hO1, hB1⟩
  have HO1 := Lib.hid hO1
  have HB1 := Lib.hid hB1
  have NM1 := Lib.hid ((HM.out.below B0).below hB1)
  clear hO1 hB1
  go_wp2_with (first
    | (at_builtin; refine wpList_append_rowA rfl (.tmp 7) (.tmp 8) 22 rfl i0 1 Tryd.underlying22 HI.out.1 HI.out.2.1 HI.out.2.2.1 HI.out.2.2.2 (by decide) 64 Hki64.out rfl HO1.out B m _ msg rfl Hm.out NM1.out HLa.out W0.heap.size W0 (Nat.le_refl _) HB1.out ?_; intro A2 c2 w2 hO2 hB2)
    )
  have N2 := hO2.nums
  refine (rsum_any _ A2 _ c2 (ki ++ msg) s1 Hs1.out (by rw [List.length_append, Hki64.out, Hm.out]) N2 (by omega) (Mac.app_wf Hkiw.out Hmw.out)).mono ?_
  rintro e w3 ⟨rfl, hB3⟩
  have B03 := hB2.trans (hB3.mono hB2.size)
  have RR := row_kept RR B03 (row_lt RR)
  have B3 := B0.trans (B03.mono B0.size)
  have hlt := row_lt RR
  clear hO2 hB2 hB3 N2 B0 B03
  go_upto_region 2 with (fail)
  have AN := (Below.refl w3.heap.size w3).alloc (Nat.le_refl _) (.cells (nrow .u8 s1).toArray b32T)
  have RS := row_new (W := w3) (cs := (nrow .u8 s1).toArray) (t := b32T) (m := (0, 0))
  have RR := row_kept RR AN (row_lt RR)
  have B6 := B3.trans (AN.mono B3.size)
  generalize w3.alloc (.cells (nrow .u8 s1).toArray b32T) = W6 at RS RR B6 ⊢
  obtain ⟨g7, hg7⟩ : ∃ g, g = w3.heap.size := ⟨_, rfl⟩
  rw [← hg7] at RS hlt ⊢
  clear AN B3 SN hg7 z0
  have hS0 : MrS w g7 s1 W6 := ⟨RS, ⟨nrow .u8 z32, rfl, RR⟩, B6⟩
  have KB := Lib.hid (show ∀ W : World, Below W6.heap.size W6 W → MrA w g7 s1 W from fun W h => (hS0.keep h).all)
  have H0 := Lib.hid (show MrA w g7 s1 W6.drew from (hS0.keep (below_drewN (Below.refl _ _) 1)).all)
  have KS := Lib.hid (show ∀ W : World, MrA w g7 s1 W → MrA w g7 s1 (W.setCells w.heap.size 0 (nrow .u8 r)) from fun W h => (h.2.set hlt Hr32.out).all)
  have NS := Lib.hid (show ∀ W : World, Below W6.heap.size W6 W → Nums .u8 W (some ⟨g7, 0, none⟩) s1 from fun W h => nums_row (row_kept RS h (row_lt RS)))
  have NK := Lib.hid (HN.out.below B6)
  have hu4 := Tryd.underlying40
  have LR : (nrow .u8 r).length = 32 := by rw [nrow_len]; exact Hr32.out
  have hi4 : (Tryd.prog.info? b32T).map (·.size) = some (nrow .u8 r).length := by rw [info_b32, LR]
  have hone := nrow_one .u8 r
  clear RR RS B6 hS0
  go_region_held3 (fun W => W.there w.heap.size 0 32 ∧ MrS w g7 s1 W)
    (first | (with_reducible exact H0.out) | (with_reducible exact KS.out _ (by assumption)) | (with_reducible exact KB.out _ hb))
    (first
      | (go_at_call 37; refine (mblock_any W6.drew A n cap key Hn.out (NK.out.drewN 1) hlen Hwf.out 92 b ko Hb.out Hko.out).mono ?_; rintro e W7 ⟨A3, c3, rfl, hO3, hB3⟩; have hb := (below_drewN (Below.refl W6.heap.size W6) 1).trans hB3; have HO3 := Lib.hid hO3; have hb7 := Lib.hid hb)
      | (refine step_append_row rfl (.tmp 12) (.tmp 13) 22 rfl i0 1 Tryd.underlying22 HI.out.1 HI.out.2.1 HI.out.2.2.1 HI.out.2.2.2 (by decide) 64 Hko64.out rfl HO3.out _ 32 _ s1 rfl Hs32.out (NS.out _ hb7.out) HLb.out W6.heap.size W6 (Nat.le_refl _) hb7.out ?_; intro A4 c4 W8 hO4 hb; have HO4 := Lib.hid hO4; have hb8 := Lib.hid hb)
      | (go_at_call 36; refine (rsum_any _ _ _ _ (ko ++ s1) r Hr2.out (by rw [List.length_append, Hko64.out, Hs32.out]) HO4.out.nums (by omega) (Mac.app_wf Hkow.out Hs1w.out)).mono ?_; rintro e W9 ⟨rfl, hB9⟩; have hb := hb8.out.trans (hB9.mono hb8.out.size); have hW9 := Lib.hid (KB.out _ hb)))
  obtain ⟨L, hL, hrr⟩ := hW9.out.2.rr
  have hset := setCells_arr info_b32 LR hL hone hrr
  have hlow := hW9.out.2.low
  rw [hset]
  have RF := row_written (ds := (nrow .u8 r).toArray) hrr
  have BF := setRow_below (t := b32T) (cs := (nrow .u8 r).toArray) hlow (Nat.le_refl _)
  generalize setRow W9 w.heap.size b32T (nrow .u8 r).toArray = WF at RF BF ⊢
  clear hset hlow hrr
  go_wp2
  exact bodyPost_ret (arr_results Tryd.underlying40 info_b32 Tryd.results21 LR rfl RF) rfl ⟨rfl, BF⟩
end Go.Proofs.YtpglhkjgcahdbaaDoor
