/- MacParts holds for any key, any bytes, cut anywhere, how many bytes 0: it does not matter how bytes are cut into parts, nor whether a short key has bytes 0 behind it, nor whether a long one is handed in as its digest. The constants read as the program lays them (the card ties them). No other condition. -/
import Derived.Test.YtmdlhcelibciiaaDoorMacSmall
import Derived.Test.YtmdlhcelibciiaaDoorDigLaw
import Derived.Test.YtmdlhcelibciiaaDoorMacOwn
import Derived.Deep.RegionLaw
import Derived.Deep.CutRange
import Derived.Test.YtmdlhcelibciiaaDoorDrive
namespace Go.Proofs.YtmdlhcelibciiaaDoor.macParts
open Go.ChangeShapes Go.WideShapes Go.ChangeAt Go.RowKit

theorem blk_pad (key : List Int) (j : Nat) (h : key.length + j ≤ 64) : Mac.blk (key ++ List.replicate j 0) = Mac.blk key := by
  unfold Mac.blk
  rw [if_neg (by rw [List.length_append, List.length_replicate]; omega), if_neg (by omega)]
  unfold Mac.pad64
  rw [List.length_append, List.length_replicate, List.append_assoc, List.replicate_append_replicate]
  congr 2
  omega
theorem blk_sha (key : List Int) (h : 64 < key.length) : Mac.blk (Sha.sha key) = Mac.blk key := by
  unfold Mac.blk
  rw [if_neg (by rw [sha_len]; decide), if_pos h]
theorem hmac_blk {a b : List Int} (h : Mac.blk a = Mac.blk b) (m : List Int) : Mac.hmac a m = Mac.hmac b m := by
  unfold Mac.hmac
  rw [h]
set_option maxRecDepth 100000 in
set_option maxHeartbeats 4000000 in
theorem walk (w : World) (hL : laidMetH Tryd.prog Rows.macPartsRow.laid w)
    (B : Option Addr) (kn kcap : Nat) (zs : List Int) (hlk : kn ≤ kcap) (hmk : kcap ≤ maxLen) (hnk : zs.length = kn) (hNk : Nums .u8 w B zs) (hwk : ∀ z ∈ zs, (Lit.int .u8 z).wf = true)
    (D : Option Addr) (bn bcap : Nat) (ys : List Int) (hlb : bn ≤ bcap) (hmb : bcap ≤ maxLen) (hnb : ys.length = bn) (hNb : Nums .u8 w D ys) (hwb : ∀ z ∈ ys, (Lit.int .u8 z).wf = true)
    (i : Int) (wi : (Lit.int .i64 i).wf = true) (n : Int) (wn : (Lit.int .i64 n).wf = true) :
    Calls Tryd.prog 4 #[.slice B kn kcap, .slice D bn bcap, .int .i64 i, .int .i64 n] w fun e w' => e = .returned (.bool true) ∧ Below w.heap.size w w' := by
  have HT := Lib.hid (kt_of_laid hL)
  have HNk := Lib.hid hNk
  have Hnk := Lib.hid hnk
  have HWk := Lib.hid (show ∀ z ∈ zs, 0 ≤ z ∧ z < 256 from fun z hz => byte_wf (hwk z hz))
  have HCk := Lib.hid (And.intro hlk hmk)
  have HNb := Lib.hid hNb
  have Hnb := Lib.hid hnb
  have HWb := Lib.hid (show ∀ z ∈ ys, 0 ≤ z ∧ z < 256 from fun z hz => byte_wf (hwb z hz))
  have HCb := Lib.hid (And.intro hlb hmb)
  obtain ⟨i0, hi, hz0, hz1, hz2⟩ := info_parts infoB
  have HI := Lib.hid (And.intro hi (And.intro hz0 (And.intro hz1 hz2)))
  clear hL hi hz0 hz1 hz2 hNk hnk hwk hlk hmk hNb hnb hwb hlb hmb wi wn
  by_cases h3 : 300 < kn ∨ 300 < bn ∨ i < 0 ∨ (bn : Int) < i ∨ n < 0
  · have hcase : 300 < kn ∨ (kn ≤ 300 ∧ 300 < bn) ∨ (kn ≤ 300 ∧ bn ≤ 300 ∧ i < 0) ∨ (kn ≤ 300 ∧ bn ≤ 300 ∧ 0 ≤ i ∧ (bn : Int) < i) ∨ (kn ≤ 300 ∧ bn ≤ 300 ∧ 0 ≤ i ∧ i ≤ (bn : Int) ∧ n < 0) := by omega
    clear h3
    rcases hcase with h | ⟨h0, h⟩ | ⟨h0, h1, h⟩ | ⟨h0, h1, h2, h⟩ | ⟨h0, h1, h2, h3, h⟩
    all_goals
      (try have d1 : decide ((300 : Int) < (kn : Int)) = false := decide_eq_false (by omega))
      (try have d2 : decide ((300 : Int) < (bn : Int)) = false := decide_eq_false (by omega))
      go_enter Tryd.func4, Tryd.ntmps4
      go_wp2_with (go_at_call 8; refine (small_any _ HT.out).mono ?_; rintro e w1 ⟨rfl, hB1⟩)
      go_ret
      exact ⟨rfl, hB1⟩
  have h1 : kn ≤ 300 := by omega
  have h2 : bn ≤ 300 := by omega
  obtain ⟨ii, rfl⟩ : ∃ k : Nat, i = k := ⟨i.toNat, by omega⟩
  obtain ⟨nn, rfl⟩ : ∃ k : Nat, n = k := ⟨n.toNat, by omega⟩
  have h4 : ii ≤ bn := by omega
  have d1 : decide ((300 : Int) < (kn : Int)) = false := decide_eq_false (by omega)
  have d2 : decide ((300 : Int) < (bn : Int)) = false := decide_eq_false (by omega)
  have b0 : (0 : Int) ≤ (ii : Int) := by omega
  have b1 : (ii : Int) ≤ (bn : Int) := by omega
  have b2 : (0 : Int) ≤ (nn : Int) := by omega
  have z0 := zero_b32'
  clear h3
  obtain ⟨r, hr⟩ : ∃ r, Mac.hmac zs ys = r := ⟨_, rfl⟩
  have hr32 : r.length = 32 := by rw [← hr]; exact Mac.hmac_len _ _
  have E1 : ∀ W : World, (Op.equalIn 10000 b32T (.agg (nrow .u8 r).toArray) (.agg (nrow .u8 r).toArray)).run Tryd.prog W = .ok true W := fun W => by rw [eql_b32 W r r hr32 hr32, decide_eq_true rfl]
  have SN := sha_new r hr32
  have LR : (nrow .u8 r).length = 32 := by rw [nrow_len]; exact hr32
  have Hr := Lib.hid hr
  have HLb := Lib.hid (show ys.length ≤ 900000 by rw [Hnb.out]; omega)
  clear hr hr32
  go_enter Tryd.func4, Tryd.ntmps4
  go_wp2_with fail
  refine (small_any _ HT.out).mono ?_
  rintro e w1 ⟨rfl, hB1⟩
  have P2 := parts_one (t := 22) (cap := bcap) (g := w1.heap.size) rfl (HNb.out.below hB1) Hnb.out HCb.out.1 HCb.out.2
  have B2 := hB1.alloc hB1.size (.cells #[.slice D bn bcap] 22)
  have K2 := HT.out.keep B2 HT.out.2
  go_wp2_with fail
  refine (of_any _ B kn kcap zs Hnk.out (HNk.out.below B2) HCk.out.1 HCk.out.2 (by omega) HWk.out _ 1 1 _ ys r (by simp [flat]) Hr.out rfl (Nat.le_refl _) (show (1 : Nat) ≤ maxLen by decide) P2 HLb.out (by decide) HWb.out K2).mono ?_
  rintro e w2 ⟨rfl, hB2⟩
  have B3 := B2.trans (hB2.mono B2.size)
  clear hB2 K2 P2 B2 hB1
  go_upto_region 5 with (fail)
  have R10 := row_new (W := w2) (cs := (nrow .u8 r).toArray) (t := b32T) (m := (0, 0))
  have B4 := B3.alloc B3.size (.cells (nrow .u8 r).toArray b32T)
  generalize w2.alloc (.cells (nrow .u8 r).toArray b32T) = V at R10 B4 ⊢
  have HR10 := Lib.hid R10
  have HB4 := Lib.hid B4
  clear SN B3 R10 B4
  go_wp2_with (first
    | (at_builtin; refine wpList_append_rowA rfl (.tmp 42) (.tmp 43) 22 rfl i0 1 Tryd.underlying22 HI.out.1 HI.out.2.1 HI.out.2.2.1 HI.out.2.2.2 (by decide) 0 rfl rfl (OwnN.empty (base := V.heap.size) (Nat.le_refl _)) B kn _ zs rfl Hnk.out ((HNk.out.below HB4.out).alloc _) (by simp; omega) V.heap.size V (Nat.le_refl _) ((Below.refl _ _).alloc (Nat.le_refl _) _) ?_; intro A5 c5 w5 hO5 hB5; rw [Nat.zero_add])
    )
  rw [List.nil_append] at hO5
  have HO5 := Lib.hid (And.intro hO5 hB5)
  clear hO5 hB5
  go_loopw [11, 12] (fun v i wr => ∃ (k : Nat) (A' : Option Addr) (c' : Nat), i = .int .i64 k ∧ v = .slice A' (kn + k) c' ∧ OwnN .u8 5 V.heap.size wr A' c' (zs ++ List.replicate k 0) ∧ (k = 0 ∨ kn + k ≤ 64) ∧ Below V.heap.size V wr) (fun _ i _ => 64 - (intOf i).toNat)
  case atStart => exact ⟨0, A5, c5, rfl, rfl, by simpa using HO5.out.1, Or.inl rfl, HO5.out.2⟩
  case round =>
    obtain ⟨k, A', c', rfl, rfl, hO, hk, hB⟩ := hrel
    have HO := Lib.hid hO
    have HlenL := Lib.hid (show (zs ++ List.replicate k (0 : Int)).length = kn + k by rw [List.length_append, List.length_replicate, Hnk.out])
    clear hO HO5
    have q0 : (0 : Int) ≤ (k : Int) := by omega
    by_cases hgo : k < nn ∧ kn + k < 64
    · obtain ⟨g1, g2⟩ := hgo
      have q1 : (k : Int) < (nn : Int) := by omega
      have q2 : (kn : Int) + (k : Int) < 64 := by omega
      have Hsn := Lib.hid (show zs ++ List.replicate (k + 1) (0 : Int) = (zs ++ List.replicate k 0) ++ [0] by rw [List.append_assoc, ← List.replicate_succ'])
      go_wp2_with (first
        | (at_builtin; refine wpList_append_row rfl (.tmp 55) (.tmp 56) 22 rfl i0 1 Tryd.underlying22 HI.out.1 HI.out.2.1 HI.out.2.2.1 HI.out.2.2.2 (by decide) (kn + k) HlenL.out rfl (HO.out.alloc _) ⟨wr.heap.size, 0, none⟩ 1 1 [0] rfl rfl (Nums.new _ _ _ _ _ rfl rfl) (by rw [HlenL.out]; omega) V.heap.size V (Nat.le_refl _) (hB.alloc hB.size _) ?_; intro A6 c6 w6 hO6 hB6)
        )
      go_roundw
      case rel => exact ⟨k + 1, A6, c6, by go_num, by rw [Nat.add_assoc], by rw [Hsn.out]; exact hO6, Or.inr (by omega), hB6⟩
      case measure => simp [intOf]; omega
    · have hx : nn ≤ k ∨ (k < nn ∧ 64 ≤ kn + k) := by omega
      rcases hx with hx | ⟨hx0, hx⟩
      all_goals
        (try have q1 : (nn : Int) ≤ (k : Int) := by omega)
        (try have q1 : (k : Int) < (nn : Int) := by omega)
        (try have q2 : (64 : Int) ≤ (kn : Int) + (k : Int) := by omega)
        go_upto_if 60 with (fail)
        go_cut [11] from 58 to 64 (fun s11 wx => ∃ (AL : Option Addr) (nL cL : Nat) (L : List Int), s11 = .slice AL nL cL ∧ Nums .u8 wx AL L ∧ L.length = nL ∧ nL ≤ cL ∧ cL ≤ maxLen ∧ nL ≤ 1000 ∧ (∀ z ∈ L, 0 ≤ z ∧ z < 256) ∧ Mac.hmac L ys = r ∧ Below V.heap.size V wx)
        case first =>
          by_cases h64 : 64 < kn
          · have d64 : decide ((64 : Int) < (kn : Int)) = true := decide_eq_true (by omega)
            have d65 : decide (64 < kn) = true := decide_eq_true h64
            obtain ⟨s, hs⟩ : ∃ s, Sha.sha zs = s := ⟨_, rfl⟩
            have hs32 : s.length = 32 := by rw [← hs]; exact sha_len _
            have SN2 := sha_new s hs32
            have LS : (nrow .u8 s).length = 32 := by rw [nrow_len]; exact hs32
            have Hs := Lib.hid hs
            have Hs32 := Lib.hid hs32
            have Hsw := Lib.hid (show ∀ z ∈ s, 0 ≤ z ∧ z < 256 by rw [← hs]; exact Mac.sha_wf _)
            have Hrs := Lib.hid (show Mac.hmac s ys = r by rw [← Hr.out, ← hs]; exact hmac_blk (blk_sha zs (by rw [Hnk.out]; omega)) ys)
            have HBw := Lib.hid (HB4.out.trans (hB.mono HB4.out.size))
            have P3 := parts_one (t := 22) (cap := kcap) (g := wr.heap.size) rfl (HNk.out.below HBw.out) Hnk.out HCk.out.1 HCk.out.2
            have B6 := hB.alloc hB.size (.cells #[.slice B kn kcap] 22)
            have K6 := HT.out.keep (HB4.out.trans (B6.mono HB4.out.size)) HT.out.2
            clear hs hs32
            go_wp2_with fail
            refine (sum_to _ _ 1 1 _ zs s (by simp [flat]) Hs.out rfl P3 (by rw [Hnk.out]; omega) (by decide) HWk.out K6).mono ?_
            rintro e w7 ⟨rfl, hB7⟩
            have B7 := B6.trans (hB7.mono B6.size)
            clear hB7 K6 P3 B6
            go_wp2_with fail
            go_meet
            case rel =>
              have RS := row_new (W := w7) (cs := (nrow .u8 s).toArray) (t := b32T) (m := (0, 0))
              exact ⟨_, 32, 32, s, rfl, nums_row RS, Hs32.out, Nat.le_refl _, by decide, by decide, Hsw.out, Hrs.out, B7.alloc B7.size _⟩
          · have d64 : decide ((64 : Int) < (kn : Int)) = false := decide_eq_false (by omega)
            have hlk : zs.length + k ≤ 64 := by rw [Hnk.out]; omega
            have hl := HO.out.len
            rw [HlenL.out] at hl
            go_wp2_with fail
            go_meet
            case rel =>
              refine ⟨A', kn + k, c', zs ++ List.replicate k 0, rfl, HO.out.nums, HlenL.out, hl.1, hl.2, by omega, fun z hz => ?_, ?_, hB⟩
              · rw [List.mem_append] at hz
                rcases hz with hz | hz
                · exact HWk.out z hz
                · rw [List.eq_of_mem_replicate hz]; decide
              · rw [← Hr.out]; exact hmac_blk (blk_pad zs k hlk) ys
        case rest =>
          obtain ⟨AL, nL, cL, L, rfl, hNL, hnL, hc1, hc2, hc3, hwL, hrL, hBx⟩ := hcut
          have HNL := Lib.hid hNL
          have HnL := Lib.hid hnL
          have HCL := Lib.hid (And.intro hc1 (And.intro hc2 hc3))
          have HWL := Lib.hid hwL
          have HrL := Lib.hid hrL
          have HBx := Lib.hid (HB4.out.trans (hBx.mono HB4.out.size))
          have R9 := row_kept HR10.out hBx (row_lt HR10.out)
          clear hNL hnL hc1 hc2 hc3 hwL hrL HO hB
          go_upto_region 13 with (fail)
          -- REGION13
          obtain ⟨gs, hgs⟩ : ∃ g, g = w2.heap.size := ⟨_, rfl⟩
          rw [← hgs] at R9 ⊢
          clear hgs
          obtain ⟨wx0, hwx⟩ : ∃ W, W = wc := ⟨_, rfl⟩
          rw [← hwx] at R9 HNL HBx ⊢
          clear hBx hwx
          have KD := Lib.hid (show Below wx0.heap.size wx0 wx0.drew from below_drewN (Below.refl _ _) 1)
          have KA := Lib.hid (show ∀ (W : World) (o : Obj), Below wx0.heap.size wx0 W → Below wx0.heap.size wx0 (W.alloc o) from fun W o h => h.alloc h.size o)
          have KC := Lib.hid (show ∀ (W W' : World), Below wx0.heap.size wx0 W → Below W.heap.size W W' → Below wx0.heap.size wx0 W' from fun W W' h hb => h.trans (hb.mono h.size))
          have HRS := Lib.hid (show ∀ W : World, Below wx0.heap.size wx0 W → W.rangeAt gs 0 (nrow .u8 r) from fun W h => range_row (row_kept R9 h (row_lt R9)))
          have HBw := Lib.hid (show ∀ W : World, Below wx0.heap.size wx0 W → Below w.heap.size w W from fun W h => HBx.out.trans (h.mono HBx.out.size))
          have hcb := HCb.out
          have b3 : ii ≤ bcap := by omega
          have b4 : (ii : Int) ≤ (bcap : Int) := by omega
          have NB := Lib.hid (show ∀ W : World, Below wx0.heap.size wx0 W → Nums .u8 W D ys from fun W h => HNb.out.below (HBw.out W h))
          have NKW := Lib.hid (show ∀ W : World, Below wx0.heap.size wx0 W → Nums .u8 W B zs from fun W h => HNk.out.below (HBw.out W h))
          have NLW := Lib.hid (show ∀ W : World, Below wx0.heap.size wx0 W → Nums .u8 W AL L from fun W h => HNL.out.below h)
          have KT := Lib.hid (show ∀ W : World, Below wx0.heap.size wx0 W → Kt W from fun W h => HT.out.keep (HBw.out W h) HT.out.2)
          obtain ⟨D2, hD2⟩ : ∃ D2, (if bcap = ii then D else Option.map (fun x => x.add ii) D) = D2 := ⟨_, rfl⟩
          have KO1 := Lib.hid (show ∀ W : World, Below wx0.heap.size wx0 W → Calls Tryd.prog 9 #[.slice B kn kcap, .slice (some ⟨W.heap.size, 0, none⟩) 3 3] (W.alloc (.cells #[.slice D ii bcap, .slice none 0 0, .slice D2 (bn - ii) (bcap - ii)] 22)) fun x w' => x = .returned (.agg (nrow .u8 r).toArray) ∧ Below (W.alloc (.cells #[.slice D ii bcap, .slice none 0 0, .slice D2 (bn - ii) (bcap - ii)] 22)).heap.size (W.alloc (.cells #[.slice D ii bcap, .slice none 0 0, .slice D2 (bn - ii) (bcap - ii)] 22)) w' from fun W h => by
            have hA := KA.out W (.cells #[.slice D ii bcap, .slice none 0 0, .slice D2 (bn - ii) (bcap - ii)] 22) h
            have hN := NB.out W h
            have e := Hnb.out
            have hN2 : Nums .u8 W D2 (ys.drop ii) := by rw [← hD2]; exact hN.drop ii bcap (by omega) (by omega)
            have P := parts_three (t := 22) (W := W) (g := W.heap.size) (B := none) (bs := []) (nb := 0) rfl (hN.take ii) (show (ys.take ii).length = ii by rw [List.length_take]; omega) (by omega) hcb.2 (Nums.nil (w := W)) rfl (Nat.le_refl 0) (by decide) hN2 (show (ys.drop ii).length = bn - ii by rw [List.length_drop]; omega) (by omega) (show bcap - ii ≤ maxLen by omega)
            exact of_any _ B kn kcap zs Hnk.out (NKW.out _ hA) HCk.out.1 HCk.out.2 (by omega) HWk.out _ 3 3 _ ys r (by simp [flat, List.take_append_drop]) Hr.out rfl (Nat.le_refl 3) (by decide) P HLb.out (by decide) HWb.out (KT.out _ hA))
          have KO2 := Lib.hid (show ∀ W : World, Below wx0.heap.size wx0 W → Calls Tryd.prog 9 #[.slice AL nL cL, .slice (some ⟨W.heap.size, 0, none⟩) 1 1] (W.alloc (.cells #[.slice D bn bcap] 22)) fun x w' => x = .returned (.agg (nrow .u8 r).toArray) ∧ Below (W.alloc (.cells #[.slice D bn bcap] 22)).heap.size (W.alloc (.cells #[.slice D bn bcap] 22)) w' from fun W h => by
            have hA := KA.out W (.cells #[.slice D bn bcap] 22) h
            have hc := HCL.out
            have P := parts_one (t := 22) (W := W) (g := W.heap.size) (cap := bcap) rfl (NB.out W h) Hnb.out hcb.1 hcb.2
            exact of_any _ AL nL cL L HnL.out (NLW.out _ hA) hc.1 hc.2.1 (by omega) HWL.out _ 1 1 _ ys r (by simp [flat]) HrL.out rfl (Nat.le_refl 1) (by decide) P HLb.out (by decide) HWb.out (KT.out _ hA))
          clear R9 HR10 hcb
          refine hd_start (fun W => Below wx0.heap.size wx0 W) (by kernel_rfl) (KD.out) (fun hHeld => ?_)
          refine hd_take (v := ?_) 0 rfl (by kernel_rfl) (by kernel_rfl) (by kernel_rfl) (fun _ _ _ h => h) hHeld (Or.inl ⟨by rfl, ?_⟩) ?_
          rotate_left
          · (intro W hSw; go_simp) <;> with_reducible rfl
          (try simp only [Act.put, List.setIfInBounds_toArray, List.set_cons_zero, List.set_cons_succ])
          refine hd_take (v := ?_) 1 rfl (by kernel_rfl) (by kernel_rfl) (by kernel_rfl) (fun _ _ _ h => h) hHeld (Or.inl ⟨by rfl, ?_⟩) ?_
          rotate_left
          · (intro W hSw; go_simp) <;> with_reducible rfl
          (try simp only [Act.put, List.setIfInBounds_toArray, List.set_cons_zero, List.set_cons_succ])
          refine hd_take (v := ?_) 2 rfl (by kernel_rfl) (by kernel_rfl) (by kernel_rfl) (fun _ _ _ h => h) hHeld (Or.inl ⟨by rfl, ?_⟩) ?_
          rotate_left
          · (intro W hSw; go_simp) <;> with_reducible rfl
          (try simp only [Act.put, List.setIfInBounds_toArray, List.set_cons_zero, List.set_cons_succ])
          refine hd_take (v := ?_) 3 rfl (by kernel_rfl) (by kernel_rfl) (by kernel_rfl) (fun _ _ _ h => h) hHeld (Or.inl ⟨by rfl, ?_⟩) ?_
          rotate_left
          · (intro W hSw; go_simp) <;> with_reducible rfl
          (try simp only [Act.put, List.setIfInBounds_toArray, List.set_cons_zero, List.set_cons_succ])
          refine hd_take (v := ?_) 4 rfl (by kernel_rfl) (by kernel_rfl) (by kernel_rfl) (fun _ _ _ h => h) hHeld (Or.inl ⟨by rfl, ?_⟩) ?_
          rotate_left
          · (intro W hSw; go_simp) <;> with_reducible rfl
          (try simp only [Act.put, List.setIfInBounds_toArray, List.set_cons_zero, List.set_cons_succ])
          refine hd_take (v := ?_) 5 rfl (by kernel_rfl) (by kernel_rfl) (by kernel_rfl) (fun _ _ _ h => h) hHeld (Or.inl ⟨by rfl, ?_⟩) ?_
          rotate_left
          · (intro W hSw; go_simp) <;> with_reducible rfl
          (try simp only [Act.put, List.setIfInBounds_toArray, List.set_cons_zero, List.set_cons_succ])
          refine hd_take (v := ?_) 6 rfl (by kernel_rfl) (by kernel_rfl) (by kernel_rfl) (fun _ _ _ h => h) hHeld (Or.inl ⟨by rfl, ?_⟩) ?_
          rotate_left
          · (intro W hSw; go_simp) <;> with_reducible rfl
          (try simp only [Act.put, List.setIfInBounds_toArray, List.set_cons_zero, List.set_cons_succ])
          refine hd_take (v := ?_) 7 rfl (by kernel_rfl) (by kernel_rfl) (by kernel_rfl) (fun _ _ _ h => h) hHeld (Or.inl ⟨by rfl, ?_⟩) ?_
          rotate_left
          · (intro W hSw; go_simp) <;> with_reducible rfl
          (try simp only [Act.put, List.setIfInBounds_toArray, List.set_cons_zero, List.set_cons_succ])
          refine hd_take (v := ?_) 8 rfl (by kernel_rfl) (by kernel_rfl) (by kernel_rfl) (fun _ _ _ h => h) hHeld (Or.inl ⟨by rfl, ?_⟩) ?_
          rotate_left
          · (intro W hSw; go_simp) <;> with_reducible rfl
          (try simp only [Act.put, List.setIfInBounds_toArray, List.set_cons_zero, List.set_cons_succ])
          refine hd_take 11 rfl (by kernel_rfl) (by kernel_rfl) (by kernel_rfl) (fun _ _ _ h => h) hHeld (hd_row Tryd.underlying24 rfl info_b32 (by rfl) (.tmp 10) rfl gs 0 rfl (nrow .u8 r) LR HRS.out) ?_
          (try simp only [Act.put, List.setIfInBounds_toArray, List.set_cons_zero, List.set_cons_succ])
          have hHeldOld := hHeld
          refine hd_one 9 rfl (by kernel_rfl) (fun K' hK => ?_)
          go_simp
          refine hK.out _ _ (KA.out _ _ hHeld) (fun hHeld => ?_)
          clear hK K'
          (try simp only [Act.put, List.setIfInBounds_toArray, List.set_cons_zero, List.set_cons_succ])
          have hHeldOld := hHeld
          refine hd_one 10 rfl (by kernel_rfl) (fun K' hK => ?_)
          go_simp
          refine (KO1.out wx0.drew KD.out).mono ?_
          rintro x W9 ⟨rfl, hb⟩
          go_wp2_with fail
          refine hK.out _ _ (KC.out _ _ (KA.out _ _ KD.out) hb) (fun hHeld => ?_)
          clear hK K'
          (try simp only [Act.put, List.setIfInBounds_toArray, List.set_cons_zero, List.set_cons_succ])
          refine hd_take (v := ?_) 12 rfl (by kernel_rfl) (by kernel_rfl) (by kernel_rfl) (fun _ _ _ h => h) hHeld (Or.inl ⟨by rfl, ?_⟩) ?_
          rotate_left
          · (intro W hSw; go_simp) <;> with_reducible rfl
          (try simp only [Act.put, List.setIfInBounds_toArray, List.set_cons_zero, List.set_cons_succ])
          refine hd_take (v := ?_) 13 rfl (by kernel_rfl) (by kernel_rfl) (by kernel_rfl) (fun _ _ _ h => h) hHeld (Or.inl ⟨by rfl, ?_⟩) ?_
          rotate_left
          · (intro W hSw; go_simp) <;> with_reducible rfl
          (try simp only [Act.put, List.setIfInBounds_toArray, List.set_cons_zero, List.set_cons_succ])
          refine hd_take (v := ?_) 14 rfl (by kernel_rfl) (by kernel_rfl) (by kernel_rfl) (fun _ _ _ h => h) hHeld (Or.inl ⟨by rfl, ?_⟩) ?_
          rotate_left
          · (intro W hSw; go_simp) <;> with_reducible rfl
          (try simp only [Act.put, List.setIfInBounds_toArray, List.set_cons_zero, List.set_cons_succ])
          refine hd_take (v := ?_) 15 rfl (by kernel_rfl) (by kernel_rfl) (by kernel_rfl) (fun _ _ _ h => h) hHeld (Or.inl ⟨by rfl, ?_⟩) ?_
          rotate_left
          · (intro W hSw; go_simp) <;> with_reducible rfl
          (try simp only [Act.put, List.setIfInBounds_toArray, List.set_cons_zero, List.set_cons_succ])
          refine hd_take (v := ?_) 16 rfl (by kernel_rfl) (by kernel_rfl) (by kernel_rfl) (fun _ _ _ h => h) hHeld (Or.inl ⟨by rfl, ?_⟩) ?_
          rotate_left
          · (intro W hSw; go_simp) <;> with_reducible rfl
          (try simp only [Act.put, List.setIfInBounds_toArray, List.set_cons_zero, List.set_cons_succ])
          refine hd_take 19 rfl (by kernel_rfl) (by kernel_rfl) (by kernel_rfl) (fun _ _ _ h => h) hHeld (hd_row Tryd.underlying24 rfl info_b32 (by rfl) (.tmp 10) rfl gs 0 rfl (nrow .u8 r) LR HRS.out) ?_
          (try simp only [Act.put, List.setIfInBounds_toArray, List.set_cons_zero, List.set_cons_succ])
          have hHeldOld2 := hHeld
          have hHeldOld := hHeld
          refine hd_one 17 rfl (by kernel_rfl) (fun K' hK => ?_)
          go_simp
          refine hK.out _ _ (KA.out _ _ hHeldOld) (fun hHeld => ?_)
          clear hK K'
          (try simp only [Act.put, List.setIfInBounds_toArray, List.set_cons_zero, List.set_cons_succ])
          have hHeldOld := hHeld
          refine hd_one 18 rfl (by kernel_rfl) (fun K' hK => ?_)
          go_simp
          refine (KO2.out _ hHeldOld2).mono ?_
          rintro x W10 ⟨rfl, hb⟩
          go_wp2_with fail
          refine hK.out _ _ (KC.out _ _ (KA.out _ _ hHeldOld2) hb) (fun hHeld => ?_)
          clear hK K'
          (try simp only [Act.put, List.setIfInBounds_toArray, List.set_cons_zero, List.set_cons_succ])
          refine hd_take (v := ?_) 20 rfl (by kernel_rfl) (by kernel_rfl) (by kernel_rfl) (fun _ _ _ h => h) hHeld (Or.inl ⟨by rfl, ?_⟩) ?_
          rotate_left
          · (intro W hSw; go_simp) <;> with_reducible rfl
          (try simp only [Act.put, List.setIfInBounds_toArray, List.set_cons_zero, List.set_cons_succ])
          refine hd_take (v := ?_) 21 rfl (by kernel_rfl) (by kernel_rfl) (by kernel_rfl) (fun _ _ _ h => h) hHeld (Or.inl ⟨by rfl, ?_⟩) ?_
          rotate_left
          · (intro W hSw; go_simp) <;> with_reducible rfl
          (try simp only [Act.put, List.setIfInBounds_toArray, List.set_cons_zero, List.set_cons_succ])
          refine hd_take (v := ?_) 22 rfl (by kernel_rfl) (by kernel_rfl) (by kernel_rfl) (fun _ _ _ h => h) hHeld (Or.inl ⟨by rfl, ?_⟩) ?_
          rotate_left
          · (intro W hSw; go_simp) <;> with_reducible rfl
          (try simp only [Act.put, List.setIfInBounds_toArray, List.set_cons_zero, List.set_cons_succ])
          refine wpAnyH_done (by kernel_rfl) ?_ _
          have B11 := HBw.out _ hHeld
          clear hHeld
          go_wp2
          go_ret
          exact ⟨rfl, B11⟩
theorem own : ownKnob Tryd.prog.godebug = none := by kernel_rfl
theorem laid : laidOutB Tryd.prog = true := by kernel_rfl

noncomputable def laidWorld (os : Os) : World := World.doorLaid Tryd.prog 400 os
theorem laid_met (os : Os) : laidMet Tryd.prog Rows.macPartsRow.laid ((laidWorld os).forCall (fun _ _ => 0) ⟨#[], #[.slice none 0 0, .slice none 0 0, .int .i64 0, .int .i64 0], []⟩).memory :=
  laidMet_of_run' 8 (by kernel_rfl) (by kernel_rfl)
theorem reads (os : Os) {H : Type} (enc : TypeId × Value → H) : ∃ places, DataW.whole enc Tryd.prog ((laidWorld os).forCall (fun _ _ => 0) ⟨#[], #[.slice none 0 0, .slice none 0 0, .int .i64 0, .int .i64 0], []⟩).memory Tryd.f4.params.toList Rows.macPartsSpec.vars false #[Value.slice none 0 0, .slice none 0 0, Value.int .i64 0, .int .i64 0].toList 8 = some ([.nil, .nil, .lit (.int .i64 0), .lit (.int .i64 0)], [], places) :=
  ⟨[], by kernel_rfl⟩

set_option maxRecDepth 100000 in
theorem lifted (os : Os) (started : os.Started) (H : Type) (enc : TypeId × Value → H) (F : Stop.Interp) :
    ReturnsInHanded {} Tryd.checked os 4 .any ((OpenSpec.ofChange Rows.macPartsSpec).preRow enc Tryd.prog Tryd.f4 Rows.macPartsRow.domain false Rows.macPartsRow.laid) (((OpenSpec.ofChange Rows.macPartsSpec).at F).post enc Tryd.prog Tryd.f4 false true false false) := by
  obtain ⟨places, hx⟩ := reads os enc
  refine law_lifted_laid (C := Tryd.checked) (s := Rows.macPartsSpec) (B := 4) own started (by kernel_rfl) Tryd.func4
    (witness_row_at (enc := enc) (C := Tryd.checked) false (laidWorld os) #[.slice none 0 0, .slice none 0 0, .int .i64 0, .int .i64 0] rfl (by kernel_rfl) (by kernel_rfl) (by kernel_rfl)
      (OpenSpec.preRow_of_cond 8 hx (by kernel_rfl) (fun k hk => by cases hk) (by kernel_rfl) (laid_met os)))
    rfl rfl Tryd.underlying4 laid (of_decide_eq_true (by kernel_rfl)) ?_ ?_
  · intro ds hl
    rw [Tryd.params4] at hl
    match ds, hl with
    | [d0, d1, d2, d3], _ => rfl
  · intro W base args ds ps hval hA hlt hz hL
    rw [Tryd.params4] at hA hval
    obtain ⟨v0, vs0, d0, ds0, p0, q0, hargs, rfl, rfl, h0, r0⟩ := trodAll_cons hA
    obtain ⟨v1, vs1, d1, ds1, p1, q1, rfl, rfl, rfl, h1, r1⟩ := trodAll_cons r0
    obtain ⟨v2, vs2, d2, ds2, p2, q2, rfl, rfl, rfl, h2, r2⟩ := trodAll_cons r1
    obtain ⟨v3, vs3, d3, ds3, p3, q3, rfl, rfl, rfl, h3, r3⟩ := trodAll_cons r2
    obtain ⟨rfl, rfl, rfl⟩ := trodAll_nil r3
    obtain rfl : args = #[v0, v1, v2, v3] := by cases args; simp_all
    obtain ⟨A0, n0, cap0, zs0, rfl, hl0, hm0, hn0, hN0, hw0⟩ := open_nums Tryd.underlying22 Tryd.underlying5 (by kernel_rfl) (hval 0 22 v0 rfl rfl) h0
    obtain ⟨A1, n1, cap1, zs1, rfl, hl1, hm1, hn1, hN1, hw1⟩ := open_nums Tryd.underlying22 Tryd.underlying5 (by kernel_rfl) (hval 1 22 v1 rfl rfl) h1
    obtain ⟨a2, rfl, rfl, rfl, w2⟩ := open_int Tryd.underlying3 (hval 2 3 v2 rfl rfl) h2
    obtain ⟨a3, rfl, rfl, rfl, w3⟩ := open_int Tryd.underlying3 (hval 3 3 v3 rfl rfl) h3
    exact walk W hL A0 n0 cap0 zs0 hl0 hm0 hn0 hN0 hw0 A1 n1 cap1 zs1 hl1 hm1 hn1 hN1 hw1 a2 w2 a3 w3

theorem said : Rows.MacPartsSaid :=
  OpenClaim.holds_of_cond 4 Tryd.f4 rfl rfl rfl rfl rfl rfl rfl ⟨rfl, rfl, rfl, rfl, rfl⟩ rfl rfl rfl rfl rfl (by kernel_rfl) Tryd.func4 (by kernel_rfl)
    (of_decide_eq_true (by kernel_rfl)) (by unfold Func.isWrapper; first | (rw [if_pos (by decide +kernel)]; kernel_rfl) | (rw [if_neg (by decide +kernel)]; exact ⟨rfl, rfl⟩))
    (fun os started H enc _ F => by rw [OpenClaim.pre_eq_preRow]; exact lifted os started H enc F)
theorem plain (f : FuncId) (fn : Func) (hf : Tryd.pinned.checked.prog.funcNamed "nightjar/nightjarlaw03.MacParts" = some f) (hfn : Tryd.pinned.checked.prog.funcs[f]? = some fn) :
    false = Tryd.pinned.checked.prog.looks [] ∧ ∀ (j : Nat) t, fn.params[j]? = some t → Tryd.pinned.checked.prog.wantsStandIn t = false := by
  obtain rfl : f = 4 := Option.some.inj ((show Tryd.prog.funcNamed "nightjar/nightjarlaw03.MacParts" = some 4 by kernel_rfl).symm.trans hf) |>.symm
  obtain rfl : fn = Tryd.f4 := (Option.some.inj (Tryd.func4.symm.trans hfn)).symm
  refine ⟨by kernel_rfl, fun j t ht => ?_⟩
  have hm : t ∈ Tryd.f4.params.toList := by simpa using Array.mem_of_getElem? ht
  have hall : (Tryd.f4.params.toList.all fun u => !Tryd.prog.wantsStandIn u) = true := by kernel_rfl
  exact (show Tryd.prog.wantsStandIn t = false by simpa using List.all_eq_true.1 hall t hm)

theorem proved : Rows.MacPartsCardSaid :=
  Claim7.holds_tied_plain_at .later [] _ _ _ _ said (fun _ h => by cases h) (by kernel_rfl) (fun _ h => by cases h) macParts_row_tie rfl ⟨rfl, rfl⟩ (by kernel_rfl) rfl plain (by kernel_rfl)
#print axioms proved
end Go.Proofs.YtmdlhcelibciiaaDoor.macParts
