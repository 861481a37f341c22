/- Cookies: what the document's own mints. -/
import Derived.Test.YthppbklbamakcaaDoorCookieRef
namespace Go.Proofs.YthppbklbamakcaaDoor
open Go.ChangeShapes Go.WideShapes Go.ChangeAt Go.RowKit
set_option maxRecDepth 100000 in
set_option maxHeartbeats 2000000 in
theorem rmint_any (w : World) (A : Option Addr) (n cap : Nat) (key : List Int) (hn : key.length = n) (hN : Nums .u8 w A key) (hlen : n ≤ 1000) (hwf : ∀ z ∈ key, 0 ≤ z ∧ z < 256)
    (a m e : Int) (wa : -9223372036854775808 ≤ a ∧ a ≤ 9223372036854775807) (wm : -9223372036854775808 ≤ m ∧ m ≤ 9223372036854775807) (we : -9223372036854775808 ≤ e ∧ e ≤ 9223372036854775807) (c : List Int) (hck : ck key a m e = c) :
    Calls Tryd.prog 10 #[.slice A n cap, .int .i64 a, .int .i64 m, .int .i64 e] w fun x w' => x = .returned (.agg (nrow .u8 c).toArray) ∧ Below w.heap.size w w' := by
  have z0 := zero_b32'
  have z1 := zero_b16
  obtain ⟨i0, hi, hz0, hz1, hz2⟩ := info_parts infoB
  have HI := Lib.hid (And.intro hi (And.intro hz0 (And.intro hz1 hz2)))
  clear hi hz0 hz1 hz2
  have HN := Lib.hid hN
  have Hn := Lib.hid hn
  have Hwf := Lib.hid hwf
  have HC := Lib.hid hlen
  obtain ⟨k1, hk1⟩ : ∃ k, Mac.hmac key (lay e 7) = k := ⟨_, rfl⟩
  obtain ⟨r, hr⟩ : ∃ r, Mac.hmac k1 (lay a 7 ++ lay m 7 ++ lay e 7) = r := ⟨_, rfl⟩
  have hk32 : k1.length = 32 := by rw [← hk1]; exact Mac.hmac_len _ _
  have hr32 : r.length = 32 := by rw [← hr]; exact Mac.hmac_len _ _
  have hcr : r.take 16 = c := by rw [← hck, ← hr, ← hk1]; rfl
  have SN := sha_new k1 hk32
  have LK : (nrow .u8 k1).length = 32 := by rw [nrow_len]; exact hk32
  have Hk1 := Lib.hid hk1
  have Hr := Lib.hid hr
  have Hk32 := Lib.hid hk32
  have Hr32 := Lib.hid hr32
  have Hcr := Lib.hid hcr
  have Wa := Lib.hid wa
  have Wm := Lib.hid wm
  have We := Lib.hid we
  have Hkw := Lib.hid (show ∀ z ∈ k1, 0 ≤ z ∧ z < 256 by rw [← hk1]; exact Mac.sha_wf _)
  have Hmw := Lib.hid (show ∀ z ∈ lay a 7 ++ lay m 7 ++ lay e 7, 0 ≤ z ∧ z < 256 from Mac.app_wf (Mac.app_wf (lay_wf _ _) (lay_wf _ _)) (lay_wf _ _))
  have Hl7 := Lib.hid (fun x => lay_len x 7)
  clear hN hn hwf hlen hk1 hr hk32 hr32 hcr hck wa wm we
  go_enter Tryd.func10, Tryd.ntmps10
  go_wp2_with fail
  have RR := row_new (W := w) (cs := (nrow .u8 z16).toArray) (t := b16T) (m := (0, 0))
  have B0 : Below w.heap.size w (w.alloc (.cells (nrow .u8 z16).toArray b16T)) := (Below.refl _ _).alloc (Nat.le_refl _) _
  generalize w.alloc (.cells (nrow .u8 z16).toArray b16T) = W0 at RR B0 ⊢
  refine (rnum_any W0 e We.out).mono ?_
  rintro x w1 ⟨A1, c1, rfl, hO1, hB1⟩
  have RR := row_kept RR hB1 (row_lt RR)
  have B1 := B0.trans (hB1.mono B0.size)
  have N1 := hO1.nums
  clear hB1 B0 hO1
  go_wp2_with fail
  refine (mof_any _ A n cap key Hn.out (HN.out.below B1) HC.out Hwf.out A1 7 c1 (lay e 7) k1 (Hl7.out e) N1 (by decide) (lay_wf _ _) Hk1.out).mono ?_
  rintro x w2 ⟨rfl, hB2⟩
  have RR := row_kept RR hB2 (row_lt RR)
  have B3 := B1.trans (hB2.mono B1.size)
  clear hB2 N1 B1
  go_upto_region 2 with (fail)
  have AN := (Below.refl w2.heap.size w2).alloc (Nat.le_refl _) (.cells (nrow .u8 k1).toArray b32T)
  have RK := row_new (W := w2) (cs := (nrow .u8 k1).toArray) (t := b32T) (m := (0, 0))
  have RR := row_kept RR AN (row_lt RR)
  have BV := B3.trans (AN.mono B3.size)
  generalize w2.alloc (.cells (nrow .u8 k1).toArray b32T) = V at RK RR BV ⊢
  obtain ⟨gK, hgK⟩ : ∃ g, g = w2.heap.size := ⟨_, rfl⟩
  have hV : w.heap.size < V.heap.size := row_lt RR
  rw [← hgK] at RK ⊢
  clear AN B3 SN hgK
  have HBV := Lib.hid BV
  have HRR := Lib.hid RR
  have HRK := Lib.hid RK
  have KD := Lib.hid (show Below V.heap.size V V.drew from below_drewN (Below.refl _ _) 1)
  have KA := Lib.hid (show ∀ (W : World) (o : Obj), Below V.heap.size V W → Below V.heap.size V (W.alloc o) from fun W o h => h.alloc h.size o)
  have KD0 := Lib.hid (show Below V.heap.size V (V.alloc zO).drew from below_drewN ((Below.refl _ _).alloc (Nat.le_refl _) _) 1)
  have KC := Lib.hid (show ∀ (W W' : World), Below V.heap.size V W → Below W.heap.size W W' → Below V.heap.size V W' from fun W W' h hb => h.trans (hb.mono h.size))
  have HLa := Lib.hid (show (lay a 7).length + 7 < 17592186044415 by rw [Hl7.out]; decide)
  have HLb := Lib.hid (show (lay a 7 ++ lay m 7).length + 7 < 17592186044415 by rw [List.length_append, Hl7.out, Hl7.out]; decide)
  have Hab := Lib.hid (show (lay a 7 ++ lay m 7).length = 14 by rw [List.length_append, Hl7.out, Hl7.out])
  have Hl21 := Lib.hid (show (lay a 7 ++ lay m 7 ++ lay e 7).length = 21 by rw [List.length_append, Hab.out, Hl7.out])
  have KO := Lib.hid (show ∀ (W : World) (c6 : Nat) (A6 : Option Addr), Below V.heap.size V W → Nums .u8 W A6 (lay a 7 ++ lay m 7 ++ lay e 7) →
      Calls Tryd.prog 15 #[.slice (some ⟨gK, 0, none⟩) 32 32, .slice A6 21 c6] W fun x w' => x = .returned (.agg (nrow .u8 r).toArray) ∧ Below W.heap.size W w' from fun W c6 A6 hW hP =>
    mof_any W _ 32 32 k1 Hk32.out (nums_row (row_kept HRK.out hW (row_lt HRK.out))) (by decide) Hkw.out A6 21 c6 (lay a 7 ++ lay m 7 ++ lay e 7) r Hl21.out hP (by decide) Hmw.out Hr.out)
  have KS := Lib.hid (show ∀ (W : World) (g : Nat), V.heap.size ≤ g → Below V.heap.size V W → Below V.heap.size V (W.setCells g 0 (nrow .u8 r)) from fun W g hg h => below_setCells hg _ _ _ h)
  have hone := nrow_one .u8 r
  have LR : (nrow .u8 r).length = 32 := by rw [nrow_len]; exact Hr32.out
  have hi4 : (Tryd.prog.info? b32T).map (·.size) = some (nrow .u8 r).length := by rw [info_b32, LR]
  have FIN := Lib.hid (show ∀ (W : World) (g : Nat), Below V.heap.size V W → RZ V.heap.size W g → (W.setCells g 0 (nrow .u8 r)).heap[g]? = some (.cells (nrow .u8 r).toArray b32T) ∧ (W.setCells g 0 (nrow .u8 r)).heap[w.heap.size]? = some (.cells (nrow .u8 z16).toArray b16T) ∧ Below w.heap.size w (W.setCells g 0 (nrow .u8 r)) from fun W g hW hz => by
    have hs := KS.out W g hz.le hW
    refine ⟨?_, row_kept HRR.out hs (row_lt HRR.out), HBV.out.trans (hs.mono HBV.out.size)⟩
    rw [hz.set Hr32.out]
    exact row_written hz.1)
  clear RR RK BV
  go_cut [8, 10] from 17 to 26 (fun s8 s10 wx => s8 = .pointer (some ⟨w.heap.size, 0, none⟩) ∧ ∃ g, s10 = .pointer (some ⟨g, 0, none⟩) ∧ wx.heap[g]? = some (.cells (nrow .u8 r).toArray b32T) ∧ wx.heap[w.heap.size]? = some (.cells (nrow .u8 z16).toArray b16T) ∧ Below w.heap.size w wx)
  case first =>
   go_region_held3 (fun W => Below V.heap.size V W)
     (first | (with_reducible exact KD.out) | (with_reducible exact KD0.out) | (with_reducible exact hX.out) | (with_reducible exact KA.out _ _ KD.out) | (with_reducible exact KA.out _ _ hX.out) | (with_reducible exact KS.out _ _ rz.le hX.out) | (with_reducible exact KS.out _ _ hX.out.size (KA.out _ _ hX.out)))
     (first
      | (go_at_call 16; with_reducible refine (rnum_any _ a Wa.out).mono ?_; rintro x W1 ⟨A1, c1, rfl, hO1, hb⟩; (try have rz := rz_1 (Nat.le_refl V.heap.size) hb); (try have rz := rz_d (Nat.le_refl V.heap.size) hb); have hX := Lib.hid (KC.out _ _ (by first | exact KD.out | exact KD0.out | exact KA.out _ _ KD.out) hb); have HO1 := Lib.hid (OwnN.lower (b2 := V.heap.size) hO1 (by first | exact KD.out.size | exact KD0.out.size | exact (KA.out _ _ KD.out).size)); clear hO1)
      | (go_at_call 16; with_reducible refine (rnum_any _ m Wm.out).mono ?_; rintro x W2 ⟨A2, c2, rfl, hO2, hb⟩; (try have rz := rz_1 hX.out.size hb); have u2 := Lib.hid (show Below W1.heap.size W1 W2 by first | exact hb | exact up_a hb); (try have rz := rz.keep u2.out); have hX := Lib.hid (KC.out _ _ hX.out u2.out); have HO1 := Lib.hid (HO1.out.up u2.out); have HN2 := Lib.hid hO2.nums; clear hO2)
      | (refine step_append_rowA rfl (.tmp 19) (.tmp 21) 22 rfl i0 1 Tryd.underlying22 HI.out.1 HI.out.2.1 HI.out.2.2.1 HI.out.2.2.2 (by decide) 7 (Hl7.out a) rfl HO1.out A2 7 c2 (lay m 7) rfl (Hl7.out m) HN2.out HLa.out V.heap.size V (Nat.le_refl _) hX.out ?_; intro A4 c4 W4 hO4 hb hG; (try have rz := rz.grown HO1.out hG); have hX := Lib.hid hb; have HO4 := Lib.hid hO4; clear hO4 hG; rw [show (7 + 7 : Nat) = 14 from rfl])
      | (refine step_append_rowA rfl (.tmp 19) (.tmp 21) 22 rfl i0 1 Tryd.underlying22 HI.out.1 HI.out.2.1 HI.out.2.2.1 HI.out.2.2.2 (by decide) 7 (Hl7.out a) rfl (HO1.out.alloc zO) A2 7 c2 (lay m 7) rfl (Hl7.out m) (HN2.out.alloc _) HLa.out V.heap.size V (Nat.le_refl _) (KA.out _ _ hX.out) ?_; intro A4 c4 W4 hO4 hb hG; have rz := (RZ.new hX.out.size).grown (HO1.out.alloc zO) hG; have hX := Lib.hid hb; have HO4 := Lib.hid hO4; clear hO4 hG; rw [show (7 + 7 : Nat) = 14 from rfl])
      | (go_at_call 16; with_reducible refine (rnum_any _ e We.out).mono ?_; rintro x W5 ⟨A5, c5, rfl, hO5, hb⟩; (try have rz := rz_1 hX.out.size hb); have u5 := Lib.hid (show Below W4.heap.size W4 W5 by first | exact hb | exact up_a hb); (try have rz := rz.keep u5.out); have hX := Lib.hid (KC.out _ _ hX.out u5.out); have HO4 := Lib.hid (HO4.out.up u5.out); have HN5 := Lib.hid hO5.nums; clear hO5)
      | (refine step_append_rowA rfl (.tmp 22) (.tmp 24) 22 rfl i0 1 Tryd.underlying22 HI.out.1 HI.out.2.1 HI.out.2.2.1 HI.out.2.2.2 (by decide) 14 Hab.out rfl HO4.out A5 7 c5 (lay e 7) rfl (Hl7.out e) HN5.out HLb.out V.heap.size V (Nat.le_refl _) hX.out ?_; intro A6 c6 W6 hO6 hb hG; (try have rz := rz.grown HO4.out hG); have hX := Lib.hid hb; have HN6 := Lib.hid hO6.nums; clear hO6 hG; rw [show (14 + 7 : Nat) = 21 from rfl])
      | (refine step_append_rowA rfl (.tmp 22) (.tmp 24) 22 rfl i0 1 Tryd.underlying22 HI.out.1 HI.out.2.1 HI.out.2.2.1 HI.out.2.2.2 (by decide) 14 Hab.out rfl (HO4.out.alloc zO) A5 7 c5 (lay e 7) rfl (Hl7.out e) (HN5.out.alloc _) HLb.out V.heap.size V (Nat.le_refl _) (KA.out _ _ hX.out) ?_; intro A6 c6 W6 hO6 hb hG; have rz := (RZ.new hX.out.size).grown (HO4.out.alloc zO) hG; have hX := Lib.hid hb; have HN6 := Lib.hid hO6.nums; clear hO6 hG; rw [show (14 + 7 : Nat) = 21 from rfl])
      | (go_at_call 15; with_reducible refine (KO.out _ c6 A6 hX.out HN6.out).mono ?_; rintro x W9 ⟨rfl, hb⟩; (try have rz := rz_1 hX.out.size hb); have u9 := Lib.hid (show Below W6.heap.size W6 W9 by first | exact hb | exact up_a hb); (try have rz := rz.keep u9.out); have thn := (RZ.new (W := W9) (Nat.le_refl _)).there; (try have th := rz.there); have hX := Lib.hid (KC.out _ _ hX.out u9.out))
      | (go_at_call 15; with_reducible refine (KO.out _ c6 A6 (KA.out _ _ hX.out) (HN6.out.alloc _)).mono ?_; rintro x W9 ⟨rfl, hb⟩; (try have rz := rz_1 hX.out.size hb); have u9 := Lib.hid (show Below W6.heap.size W6 W9 by first | exact hb | exact up_a hb); (try have rz := rz.keep u9.out); have thn := (RZ.new (W := W9) (Nat.le_refl _)).there; (try have th := rz.there); have hX := Lib.hid (KC.out _ _ hX.out u9.out)))
   all_goals
     go_wp2_with fail
     go_meet
     case rel =>
       first
         | exact ⟨rfl, _, rfl, FIN.out _ _ hX.out rz⟩
         | exact ⟨rfl, _, rfl, FIN.out _ _ (KA.out _ _ hX.out) (RZ.new hX.out.size)⟩
  case rest =>
    obtain ⟨rfl, g, rfl, RG, RC, BW⟩ := hcut
    have hc16 : c.length = 16 := by rw [← Hcr.out, List.length_take, Hr32.out]; rfl
    have LC : (nrow .u8 c).length = 16 := by rw [nrow_len]; exact hc16
    have Hcg := Lib.hid (show ∀ k : Nat, k < 16 → r.getD k 0 = c.getD k 0 from fun k hk => by
      rw [← Hcr.out]
      simp only [List.getD, List.getElem?_take, hk, if_true])
    have hgl := row_lt RG
    have hwl := row_lt RC
    clear KO KS FIN hone LR hi4 hV HBV HRR HRK HN Hk1 Hr Hkw Hmw HI HLa HLb Hab Hl21
    go_upto_region 4 with (fail)
    have AN := (Below.refl wc.heap.size wc).alloc (Nat.le_refl _) (.cells (nrow .u8 z16).toArray b16T)
    have RN := row_new (W := wc) (cs := (nrow .u8 z16).toArray) (t := b16T) (m := (0, 0))
    have RG := row_kept RG AN hgl
    have RC := row_kept RC AN hwl
    have BW := BW.trans (AN.mono BW.size)
    generalize wc.alloc (.cells (nrow .u8 z16).toArray b16T) = V2 at RN RG RC BW ⊢
    obtain ⟨g2, hg2⟩ : ∃ g2, g2 = wc.heap.size := ⟨_, rfl⟩
    rw [← hg2] at RN hgl hwl ⊢
    clear AN hg2
    have HR0 := Lib.hid (And.intro RN (And.intro RG (And.intro RC BW)))
    clear RN RG RC BW
    go_wp2_with fail
    go_loopw [12] (fun i wr => ∃ n : Nat, n ≤ 16 ∧ i = .int .i64 n ∧ wr.heap[g]? = some (.cells (nrow .u8 r).toArray b32T) ∧ wr.heap[w.heap.size]? = some (.cells (nrow .u8 z16).toArray b16T) ∧ wr.heap[g2]? = some (.cells (ncs .u8 (Sha.filled c n 16)) b16T) ∧ Below w.heap.size w wr) (fun i _ => 16 - (intOf i).toNat)
    case atStart => exact ⟨0, by omega, rfl, HR0.out.2.1, HR0.out.2.2.1, HR0.out.1, HR0.out.2.2.2⟩
    case round =>
      obtain ⟨k, hk, rfl, R0, R1, R2, hB⟩ := hrel
      clear HR0
      by_cases hlt : k < 16
      · have q1 : (k : Int) < 16 := by omega
        have q2 : (k : Int) < 32 := by omega
        have q0 : (0 : Int) ≤ (k : Int) := by omega
        have Hset := Lib.hid (Sha.filled_set c k 16 (by rw [hc16]; exact hlt) hlt)
        have Hnset := Lib.hid (ncs_set .u8 (Sha.filled c k 16) k (c.getD k 0))
        have M0 := ncs_at .u8 (Sha.filled c k 16) k (by rw [Sha.len_filled _ _ _ (by omega) (by omega)]; exact hlt)
        have C0 := (row_cells R0 k).trans (ncs_at .u8 r k (by rw [Hr32.out]; omega))
        rw [Hcg.out k hlt] at C0
        generalize (Sha.filled c k 16).getD k 0 = y at M0
        generalize hL : ncs .u8 (Sha.filled c k 16) = L at R2 M0 Hnset
        generalize hx : c.getD k 0 = x at C0 Hset Hnset
        obtain ⟨s0, s1, d0, d1, f0, f1, z1⟩ := rows1 R2
        clear hL hx
        go_wp2
        go_roundw
        case rel =>
          refine ⟨k + 1, by omega, by go_num, (setRow_far (by omega)).trans R0, (setRow_far (by omega)).trans R1, ?_, setRow_below hB (by omega)⟩
          rw [← Hset.out, ← Hnset.out]
          exact row_written R2
        case measure => simp [intOf]; omega
      · obtain rfl : k = 16 := by omega
        rw [show ((16 : Nat) : Int) = 16 from rfl]
        rw [Sha.filled_all _ _ hc16] at R2
        have R2' : wr.heap[g2]? = some (.cells (nrow .u8 c).toArray b16T) := R2
        have HO := Lib.hid (nrow_one .u8 c)
        clear R2 R0
        go_wp2_with (first
          | ((with_reducible refine wpl_arr Tryd.underlying23 info_b16 ?_ (.tmp 11) ?_ g2 (nrow .u8 c) LC ?_ R2' ?_); (rfl); (rfl); (rfl))
          | ((with_reducible refine wpl_arr_store info_b16 ?_ (.tmp 8) (.tmp 36) ?_ w.heap.size (nrow .u8 c) (nrow .u8 z16) LC z16_len HO.out ?_ ?_ R1 ?_); (rfl); (rfl); (rfl); (rfl)))
        exact bodyPost_ret (arr_results Tryd.underlying23 info_b16 Tryd.results10 LC rfl (row_written R1)) rfl ⟨rfl, setRow_below hB (Nat.le_refl _)⟩
end Go.Proofs.YthppbklbamakcaaDoor
