/- A key's block. -/
import Derived.Test.YtmdlhcelibciiaaDoorMac
namespace Go.Proofs.YtmdlhcelibciiaaDoor
open Go.ChangeShapes Go.WideShapes Go.ChangeAt Go.RowKit
theorem splice_zero (l : List Int) (h : l.length ≤ 64) : splice (nrow .u8 z64) 0 (nrow .u8 l) = nrow .u8 (Mac.pad64 l) := by
  unfold splice nrow Mac.pad64 z64
  simp only [List.take_zero, List.nil_append, Nat.zero_add, List.length_map, List.map_append, List.map_replicate, List.drop_replicate]
theorem z64_len : (nrow .u8 z64).length = 64 := rfl
theorem pad_len (l : List Int) (h : l.length ≤ 64) : (nrow .u8 (Mac.pad64 l)).length = 64 := by rw [nrow_len]; exact Mac.len_pad64 l h
set_option maxRecDepth 100000 in
set_option maxHeartbeats 1000000 in
theorem keyBlock_short (w : World) (A : Option Addr) (n cap : Nat) (key : List Int) (hn : key.length = n) (hN : Nums .u8 w A key) (h64 : n ≤ 64) :
    Calls Tryd.prog 14 #[.slice A n cap] w fun e w' => e = .returned (.agg (nrow .u8 (Mac.blk key)).toArray) ∧ Below w.heap.size w w' := by
  have z0 := zero_b64
  have Hn := Lib.hid hn
  have HN := Lib.hid hN
  have HB := Lib.hid (show Mac.blk key = Mac.pad64 key by unfold Mac.blk; rw [if_neg (by omega)])
  have HSp := Lib.hid (splice_zero key (by omega))
  have HPl := Lib.hid (pad_len key (by omega))
  obtain ⟨f0, f1, f2⟩ := two_new (w := w) _ (rfl : (w.alloc (.cells (nrow .u8 z64).toArray b64T)).alloc (.cells (nrow .u8 z64).toArray b64T) = _)
  have F := Lib.hid (And.intro f0 (And.intro f1 f2))
  have d64 : ¬ ((64 : Int) < (n : Int)) := by omega
  clear hn hN f0 f1 f2
  go_enter Tryd.func14, Tryd.ntmps14
  go_upto_region 5 with (fail)
  have R0 := F.out.1
  have R1 := F.out.2.1
  have B0 := F.out.2.2
  generalize (w.alloc (.cells (nrow .u8 z64).toArray b64T)).alloc (.cells (nrow .u8 z64).toArray b64T) = W0 at R0 R1 B0 ⊢
  have N0 := Lib.hid (HN.out.below B0)
  clear F z0
  go_wp2_with (first
    | (refine wpList_copy_splice rfl (.tmp 14) (.tmp 15) _ _ rfl 5 (by kernel_rfl) (by kernel_rfl) _ _ _ _ _ _ rfl rfl (w.heap.size + 1) 0 _ b64T R1 (nrow .u8 key) (by rw [nrow_len, Hn.out]; show n = min n 64; omega) (fun h0 => ⟨rfl, nums_source N0.out (by rw [nrow_len] at h0; exact h0)⟩) (by rw [nrow_len, Hn.out, z64_len]; omega) (nrow_one _ _) (w.heap.size + 1) W0 (Below.refl _ _) (Nat.le_refl _) ?_; intro W3 HG3 hB3; rw [nrow_len, Hn.out]; have R3 := Lib.hid (show W3.heap[w.heap.size + 1]? = some (.cells (nrow .u8 (Mac.pad64 key)).toArray b64T) by rw [← HSp.out]; exact HG3.out); have R4 := Lib.hid (row_kept R0 hB3 (by omega)))
    | ((with_reducible refine wpl_arr Tryd.underlying34 info_b64 ?_ (.tmp 3) ?_ (w.heap.size + 1) (nrow .u8 (Mac.pad64 key)) HPl.out ?_ R3.out ?_); (rfl); (rfl); (rfl))
    | ((with_reducible refine wpl_arr_store info_b64 ?_ (.tmp 2) (.tmp 17) ?_ w.heap.size (nrow .u8 (Mac.pad64 key)) (nrow .u8 z64) HPl.out z64_len (nrow_one _ _) ?_ ?_ R4.out ?_); (rfl); (rfl); (rfl); (rfl))
    )
  exact bodyPost_ret (arr_results Tryd.underlying34 info_b64 Tryd.results14 HPl.out rfl (row_written R4.out)) rfl ⟨by rw [HB.out], setRow_below (B0.trans (hB3.mono (by omega))) (Nat.le_refl _)⟩
set_option maxRecDepth 100000 in
set_option maxHeartbeats 1000000 in
theorem keyBlock_long (w : World) (A : Option Addr) (n cap : Nat) (key : List Int) (hn : key.length = n) (hN : Nums .u8 w A key) (h64 : 64 < n) (hc : n ≤ cap) (hm : cap ≤ maxLen) (hlen : n ≤ 1000000) (hwf : ∀ z ∈ key, 0 ≤ z ∧ z < 256) (ht : Kt w) :
    Calls Tryd.prog 14 #[.slice A n cap] w fun e w' => e = .returned (.agg (nrow .u8 (Mac.blk key)).toArray) ∧ Below w.heap.size w w' := by
  have z0 := zero_b64
  have z1 := zero_b32'
  have Hn := Lib.hid hn
  have HN := Lib.hid hN
  have HT := Lib.hid ht
  have Hwf := Lib.hid hwf
  have Hc := Lib.hid (And.intro hc hm)
  obtain ⟨r, hr⟩ : ∃ r, Sha.sha key = r := ⟨_, rfl⟩
  have hr32 : r.length = 32 := by rw [← hr]; exact sha_len _
  have SN := sha_new r hr32
  have L1 : (nrow .u8 r).length = 32 := by rw [nrow_len]; exact hr32
  have Hr := Lib.hid hr
  have HB := Lib.hid (show Mac.blk key = Mac.pad64 r by unfold Mac.blk; rw [if_pos (by omega), hr])
  have HSp := Lib.hid (splice_zero r (by omega))
  have HPl := Lib.hid (pad_len r (by omega))
  have Hlen := Lib.hid (show key.length ≤ 1000000 by omega)
  have Hr32 := Lib.hid hr32
  obtain ⟨f0, f1, f2⟩ := two_new (w := w) _ (rfl : (w.alloc (.cells (nrow .u8 z64).toArray b64T)).alloc (.cells (nrow .u8 z64).toArray b64T) = _)
  have F := Lib.hid (And.intro f0 (And.intro f1 f2))
  have d64 : ((64 : Int) < (n : Int)) := by omega
  clear hn hN f0 f1 f2 ht hwf hc hm hr hr32
  go_enter Tryd.func14, Tryd.ntmps14
  go_upto_region 3 with (fail)
  have R0 := F.out.1
  have R1 := F.out.2.1
  have B0 := F.out.2.2
  generalize (w.alloc (.cells (nrow .u8 z64).toArray b64T)).alloc (.cells (nrow .u8 z64).toArray b64T) = W0 at R0 R1 B0 ⊢
  have P1 := parts_one (t := 32) (cap := cap) (g := W0.heap.size) rfl (HN.out.below B0) Hn.out Hc.out.1 Hc.out.2
  have A1 := (Below.refl W0.heap.size W0).alloc (Nat.le_refl _) (.cells #[.slice A n cap] 22)
  have P1' := parts_one (t := 22) (cap := cap) (g := W0.heap.size) rfl (HN.out.below B0) Hn.out Hc.out.1 Hc.out.2
  have K1 := (HT.out.keep B0 HT.out.2).keep A1 (Nat.lt_of_lt_of_le HT.out.2 B0.size)
  clear F P1
  go_wp2_with fail
  refine (sum_to _ _ 1 1 _ key r (by simp [flat]) Hr.out rfl P1' Hlen.out (by decide) Hwf.out K1).mono ?_
  rintro e w2 ⟨rfl, hB2⟩
  have AB := A1.trans (hB2.mono A1.size)
  have R0 := row_kept R0 AB (row_lt R0)
  have R1 := row_kept R1 AB (row_lt R1)
  have B2 := B0.trans (AB.mono B0.size)
  clear hB2 K1 P1' A1 AB
  go_upto_region 4 with (fail)
  have AN := (Below.refl w2.heap.size w2).alloc (Nat.le_refl _) (.cells (nrow .u8 r).toArray b32T)
  have R0 := row_kept R0 AN (row_lt R0)
  have R1 := row_kept R1 AN (row_lt R1)
  have RR := row_new (W := w2) (cs := (nrow .u8 r).toArray) (t := b32T) (m := (0, 0))
  have B3 := B2.trans (AN.mono B2.size)
  generalize w2.alloc (.cells (nrow .u8 r).toArray b32T) = V at R0 R1 RR B3 ⊢
  clear AN B2 SN
  refine region_tail 2 (by kernel_rfl) (by kernel_rfl) ?_
  simp only [List.take_succ_cons, List.take_zero, List.drop_succ_cons, List.drop_zero]
  repeat (quiet_step (fail))
  refine wpQuiet_nil ?_
  intro m
  have R0 : (V.drewN m).heap[w.heap.size]? = some (.cells (nrow .u8 z64).toArray b64T) := R0
  have R1 : (V.drewN m).heap[w.heap.size + 1]? = some (.cells (nrow .u8 z64).toArray b64T) := R1
  have N1 := Lib.hid (nums_row (W := V.drewN m) (g := w2.heap.size) (t := b32T) (l := r) RR)
  have B4 := below_drewN B3 m
  generalize V.drewN m = U at R0 R1 N1 B4 ⊢
  clear RR B3
  go_wp2_with (first
    | (refine wpList_copy_splice rfl (.tmp 11) (.tmp 12) _ _ rfl 5 (by kernel_rfl) (by kernel_rfl) _ _ _ _ _ _ rfl rfl (w.heap.size + 1) 0 _ b64T R1 (nrow .u8 r) (by rw [nrow_len, Hr32.out]; rfl) (fun h0 => ⟨rfl, nums_source N1.out (by rw [Hr32.out]; omega)⟩) (by rw [nrow_len, Hr32.out, z64_len]; omega) (nrow_one _ _) (w.heap.size + 1) U (Below.refl _ _) (Nat.le_refl _) ?_; intro W3 HG3 hB3; rw [nrow_len, Hr32.out]; have R3 := Lib.hid (show W3.heap[w.heap.size + 1]? = some (.cells (nrow .u8 (Mac.pad64 r)).toArray b64T) by rw [← HSp.out]; exact HG3.out); have R4 := Lib.hid (row_kept R0 hB3 (by omega)))
    | ((with_reducible refine wpl_arr Tryd.underlying34 info_b64 ?_ (.tmp 3) ?_ (w.heap.size + 1) (nrow .u8 (Mac.pad64 r)) HPl.out ?_ R3.out ?_); (rfl); (rfl); (rfl))
    | ((with_reducible refine wpl_arr_store info_b64 ?_ (.tmp 2) (.tmp 17) ?_ w.heap.size (nrow .u8 (Mac.pad64 r)) (nrow .u8 z64) HPl.out z64_len (nrow_one _ _) ?_ ?_ R4.out ?_); (rfl); (rfl); (rfl); (rfl))
    )
  exact bodyPost_ret (arr_results Tryd.underlying34 info_b64 Tryd.results14 HPl.out rfl (row_written R4.out)) rfl ⟨by rw [HB.out], setRow_below (B4.trans (hB3.mono (by omega))) (Nat.le_refl _)⟩
theorem keyBlock_any (w : World) (A : Option Addr) (n cap : Nat) (key b : List Int) (hb : Mac.blk key = b) (hn : key.length = n) (hN : Nums .u8 w A key) (hc : n ≤ cap) (hm : cap ≤ maxLen) (hlen : n ≤ 1000000) (hwf : ∀ z ∈ key, 0 ≤ z ∧ z < 256) (ht : Kt w) :
    Calls Tryd.prog 14 #[.slice A n cap] w fun e w' => e = .returned (.agg (nrow .u8 b).toArray) ∧ Below w.heap.size w w' := by
  subst hb
  by_cases h : 64 < n
  · exact keyBlock_long w A n cap key hn hN h hc hm hlen hwf ht
  · exact keyBlock_short w A n cap key hn hN (by omega)
end Go.Proofs.YtmdlhcelibciiaaDoor
