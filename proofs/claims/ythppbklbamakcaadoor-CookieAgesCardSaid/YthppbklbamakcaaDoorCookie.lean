/- Cookies: a number's bytes, and what is minted. -/
import Derived.Test.YthppbklbamakcaaDoorMac3
import Derived.Test.YthppbklbamakcaaDoorPut
import Derived.Deep.CutRange
namespace Go.Proofs.YthppbklbamakcaaDoor
open Go.ChangeShapes Go.WideShapes Go.ChangeAt Go.RowKit
abbrev b16T : TypeId := 23
abbrev z16 : List Int := List.replicate 16 0
theorem zero_b16 (W : World) : (zeroValue b16T).run Tryd.prog W = .ok (.agg (nrow .u8 z16).toArray) W := by kernel_rfl
theorem info_b16 : (Tryd.prog.info? b16T).map (·.size) = some 16 := by kernel_rfl
theorem z16_len : (nrow .u8 z16).length = 16 := rfl
/-- The bytes of a cookie. -/
def ck (key : List Int) (a n e : Int) : List Int := (Mac.hmac (Mac.hmac key (lay e 7)) (lay a 7 ++ lay n 7 ++ lay e 7)).take 16
theorem lay_wf (x : Int) (k : Nat) : ∀ z ∈ lay x k, 0 ≤ z ∧ z < 256 := fun z hz => by have := lay_byte x k z hz; omega
theorem ck_len (key : List Int) (a n e : Int) : (ck key a n e).length = 16 := by
  unfold ck
  rw [List.length_take, Mac.hmac_len]; rfl
theorem up_a {W W' : World} {o : Obj} (h : Below (W.alloc o).heap.size (W.alloc o) W') : Below W.heap.size W W' := ((Below.refl _ _).alloc (Nat.le_refl _) o).trans (h.mono (by simp))
theorem up_d {W W' : World} (h : Below W.drew.heap.size W.drew W') : Below W.heap.size W W' := (below_drewN (Below.refl _ _) 1).trans h
theorem number_any (w : World) (x : Int) (wx : -9223372036854775808 ≤ x ∧ x ≤ 9223372036854775807) :
    Calls Tryd.prog 14 #[.int .i64 x] w fun e w' => ∃ A' c', e = .returned (.slice A' 7 c') ∧ (7 ≤ c' ∧ c' ≤ maxLen) ∧ Nums .u8 w' A' (lay x 7) ∧ Below w.heap.size w w' := by
  go_enter Tryd.func14, Tryd.ntmps14
  go_wp2_with fail
  refine (put_any w none 0 0 [] rfl Nums.nil (by decide) x 7 wx 7 rfl).mono ?_
  rintro e w' ⟨A', c', rfl, hO, hB⟩
  have HO := Lib.hid hO
  clear hO
  rw [show (0 + 7 : Nat) = 7 from rfl]
  go_wp2
  go_ret
  have hl := HO.out.len
  rw [List.nil_append, lay_len] at hl
  exact ⟨A', c', rfl, hl, HO.out.nums, hB⟩
theorem arr16_at (W : World) (x : Option Addr) (n c : Nat) (h : 16 ≤ n) : (Instr.arrayAt b16T (.slice x n c)).run Tryd.prog W = .ok (.pointer x) W := by
  have h2 : ¬ n < 16 := by omega
  simp [Instr.arrayAt, run_underlying Tryd.underlying23, h2]
theorem range_take {W : World} {g m : Nat} {L : List Value} {t : TypeId} (h : W.heap[g]? = some (.cells L.toArray t)) : W.rangeAt g 0 (L.take m) := fun j v hv => by
  have h2 : L[j]? = some v := by
    rw [List.getElem?_take] at hv
    split at hv
    · exact hv
    · cases hv
  exact range_row h j v h2

abbrev zO : Obj := .cells (ncs .u8 z32) b32T
/-- The new array lies in block g. -/
structure RZ (B : Nat) (W : World) (g : Nat) : Prop where
  row : W.heap[g]? = some zO
  le : B ≤ g
theorem RZ.keep {B g : Nat} {W W' : World} (h : RZ B W g) (u : Below W.heap.size W W') : RZ B W' g := ⟨row_kept h.1 u (row_lt h.1), h.2⟩
theorem RZ.new {B : Nat} {W : World} (h : B ≤ W.heap.size) : RZ B (W.alloc zO) W.heap.size := ⟨row_new, h⟩
theorem rz_1 {B : Nat} {W W' : World} (h : B ≤ W.heap.size) (hb : Below (W.alloc zO).heap.size (W.alloc zO) W') : RZ B W' W.heap.size := (RZ.new h).keep hb
theorem rz_d {B : Nat} {W W' : World} (h : B ≤ W.heap.size) (hb : Below (W.alloc zO).drew.heap.size (W.alloc zO).drew W') : RZ B W' W.heap.size := (RZ.new h).keep (up_d hb)
theorem rz_2 {B : Nat} {W W' : World} {o : Obj} (h : B ≤ W.heap.size) (hb : Below ((W.alloc zO).alloc o).heap.size ((W.alloc zO).alloc o) W') : RZ B W' W.heap.size := (RZ.new h).keep (up_a hb)
theorem rz_3 {B : Nat} {W W' : World} {o : Obj} (h : B ≤ W.heap.size) (hb : Below ((W.alloc o).alloc zO).heap.size ((W.alloc o).alloc zO) W') : RZ B W' (W.heap.size + 1) := by
  have := rz_1 (B := B) (W := W.alloc o) (by simp; omega) hb
  simpa using this
theorem RZ.there {B g : Nat} {W : World} (h : RZ B W g) : W.there g 0 32 := there_row h.1 rfl
theorem RZ.set {B g : Nat} {W : World} (h : RZ B W g) {r : List Int} (hr : r.length = 32) : W.setCells g 0 (nrow .u8 r) = setRow W g b32T (nrow .u8 r).toArray :=
  setCells_arr info_b32 (by rw [nrow_len]; exact hr) rfl (nrow_one _ _) h.1

set_option maxRecDepth 100000 in
set_option maxHeartbeats 2000000 in
theorem mint_any (w : World) (A : Option Addr) (n cap : Nat) (key : List Int) (hn : key.length = n) (hN : Nums .u8 w A key) (hc : n ≤ cap) (hm : cap ≤ maxLen) (hlen : n ≤ 1000000) (hwf : ∀ z ∈ key, 0 ≤ z ∧ z < 256)
    (a m e : Int) (wa : -9223372036854775808 ≤ a ∧ a ≤ 9223372036854775807) (wm : -9223372036854775808 ≤ m ∧ m ≤ 9223372036854775807) (we : -9223372036854775808 ≤ e ∧ e ≤ 9223372036854775807) (c : List Int) (hck : ck key a m e = c) (ht : Kt w) :
    Calls Tryd.prog 9 #[.slice A n cap, .int .i64 a, .int .i64 m, .int .i64 e] w fun x w' => x = .returned (.agg (nrow .u8 c).toArray) ∧ Below w.heap.size w w' := by
  have z0 := zero_b32'
  have z1 := zero_b16
  have HN := Lib.hid hN
  have Hn := Lib.hid hn
  have Hwf := Lib.hid hwf
  have HT := Lib.hid ht
  have HC := Lib.hid (And.intro hc (And.intro hm hlen))
  obtain ⟨k1, hk1⟩ : ∃ k, Mac.hmac key (lay e 7) = k := ⟨_, rfl⟩
  obtain ⟨r, hr⟩ : ∃ r, Mac.hmac k1 (lay a 7 ++ lay m 7 ++ lay e 7) = r := ⟨_, rfl⟩
  have hk32 : k1.length = 32 := by rw [← hk1]; exact Mac.hmac_len _ _
  have hr32 : r.length = 32 := by rw [← hr]; exact Mac.hmac_len _ _
  have hcr : r.take 16 = c := by rw [← hck, ← hr, ← hk1]; rfl
  have SN := sha_new k1 hk32
  have LK : (nrow .u8 k1).length = 32 := by rw [nrow_len]; exact hk32
  have Hk1 := Lib.hid hk1
  have Hr := Lib.hid hr
  have Hk32 := Lib.hid hk32
  have Hr32 := Lib.hid hr32
  have Hcr := Lib.hid hcr
  have Wa := Lib.hid wa
  have Wm := Lib.hid wm
  have We := Lib.hid we
  have Hkw := Lib.hid (show ∀ z ∈ k1, 0 ≤ z ∧ z < 256 by rw [← hk1]; exact Mac.sha_wf _)
  have Hmw := Lib.hid (show ∀ z ∈ lay a 7 ++ lay m 7 ++ lay e 7, 0 ≤ z ∧ z < 256 from Mac.app_wf (Mac.app_wf (lay_wf _ _) (lay_wf _ _)) (lay_wf _ _))
  have Hl7 := Lib.hid (fun x => lay_len x 7)
  clear hN hn hwf ht hc hm hlen hk1 hr hk32 hr32 hcr hck wa wm we
  go_enter Tryd.func9, Tryd.ntmps9
  go_wp2_with fail
  have RR := row_new (W := w) (cs := (nrow .u8 z16).toArray) (t := b16T) (m := (0, 0))
  have B0 : Below w.heap.size w (w.alloc (.cells (nrow .u8 z16).toArray b16T)) := (Below.refl _ _).alloc (Nat.le_refl _) _
  generalize w.alloc (.cells (nrow .u8 z16).toArray b16T) = W0 at RR B0 ⊢
  refine (number_any W0 e We.out).mono ?_
  rintro x w1 ⟨A1, c1, rfl, hc1, hN1, hB1⟩
  have RR := row_kept RR hB1 (row_lt RR)
  have B1 := B0.trans (hB1.mono B0.size)
  have P1 := parts_one (t := 22) (cap := c1) (g := w1.heap.size) rfl hN1 (Hl7.out e) hc1.1 hc1.2
  have A1' := (Below.refl w1.heap.size w1).alloc (Nat.le_refl _) (.cells #[.slice A1 7 c1] 22)
  have B2 := B1.trans (A1'.mono B1.size)
  have RR := row_kept RR A1' (row_lt RR)
  have K2 := HT.out.keep B2 HT.out.2
  clear hB1 B0 B1 hN1 A1'
  go_wp2_with fail
  refine (of_any _ A n cap key Hn.out (HN.out.below B2) HC.out.1 HC.out.2.1 HC.out.2.2 Hwf.out _ 1 1 _ (lay e 7) k1 (by simp [flat]) Hk1.out rfl (Nat.le_refl _) (show (1 : Nat) ≤ maxLen by decide) P1 (by rw [Hl7.out]; decide) (by decide) (lay_wf _ _) K2).mono ?_
  rintro x w2 ⟨rfl, hB2⟩
  have RR := row_kept RR hB2 (row_lt RR)
  have B3 := B2.trans (hB2.mono B2.size)
  have hlt := row_lt RR
  clear hB2 K2 P1 B2
  go_upto_region 2 with (fail)
  have AN := (Below.refl w2.heap.size w2).alloc (Nat.le_refl _) (.cells (nrow .u8 k1).toArray b32T)
  have RK := row_new (W := w2) (cs := (nrow .u8 k1).toArray) (t := b32T) (m := (0, 0))
  have RR := row_kept RR AN (row_lt RR)
  have BV := B3.trans (AN.mono B3.size)
  generalize w2.alloc (.cells (nrow .u8 k1).toArray b32T) = V at RK RR BV ⊢
  obtain ⟨gK, hgK⟩ : ∃ g, g = w2.heap.size := ⟨_, rfl⟩
  have hV : w.heap.size < V.heap.size := row_lt RR
  rw [← hgK] at RK ⊢
  clear AN B3 hlt SN hgK
  have HBV := Lib.hid BV
  have HRR := Lib.hid RR
  have HRK := Lib.hid RK
  have KD := Lib.hid (show Below V.heap.size V V.drew from below_drewN (Below.refl _ _) 1)
  have KA := Lib.hid (show ∀ (W : World) (o : Obj), Below V.heap.size V W → Below V.heap.size V (W.alloc o) from fun W o h => h.alloc h.size o)
  have KD0 := Lib.hid (show Below V.heap.size V (V.alloc zO).drew from below_drewN ((Below.refl _ _).alloc (Nat.le_refl _) _) 1)
  have KC := Lib.hid (show ∀ (W W' : World), Below V.heap.size V W → Below W.heap.size W W' → Below V.heap.size V W' from fun W W' h hb => h.trans (hb.mono h.size))
  have KT := Lib.hid (show ∀ W : World, Below V.heap.size V W → Kt W from fun W h => (HT.out.keep HBV.out HT.out.2).keep h (Nat.lt_of_lt_of_le HT.out.2 HBV.out.size))
  have KO := Lib.hid (show ∀ (W : World) (g c1 c2 c3 : Nat) (A1 A2 A3 : Option Addr), Below V.heap.size V W → Parts W (some ⟨g, 0, none⟩) [⟨A1, c1, lay a 7⟩, ⟨A2, c2, lay m 7⟩, ⟨A3, c3, lay e 7⟩] →
      Calls Tryd.prog 13 #[.slice (some ⟨gK, 0, none⟩) 32 32, .slice (some ⟨g, 0, none⟩) 3 3] W fun x w' => x = .returned (.agg (nrow .u8 r).toArray) ∧ Below W.heap.size W w' from fun W g c1 c2 c3 A1 A2 A3 hW hP =>
    of_any W _ 32 32 k1 Hk32.out (nums_row (row_kept HRK.out hW (row_lt HRK.out))) (Nat.le_refl 32) (by decide) (by decide) Hkw.out _ 3 3 _ (lay a 7 ++ lay m 7 ++ lay e 7) r (by simp [flat]) Hr.out rfl (Nat.le_refl 3) (by decide) hP (by simp [Hl7.out]) (by decide) Hmw.out (KT.out _ hW))
  have HPp := Lib.hid (show ∀ (W1 W2 W3 : World) (A1 A2 A3 : Option Addr) (c1 c2 c3 : Nat), (7 ≤ c1 ∧ c1 ≤ maxLen) → (7 ≤ c2 ∧ c2 ≤ maxLen) → (7 ≤ c3 ∧ c3 ≤ maxLen) → Nums .u8 W1 A1 (lay a 7) → Nums .u8 W2 A2 (lay m 7) → Nums .u8 W3 A3 (lay e 7) → Below W1.heap.size W1 W2 → Below W2.heap.size W2 W3 →
      ∀ (W : World) (g : Nat), Below W3.heap.size W3 W → g = W.heap.size → Parts (W.alloc (.cells #[.slice A1 7 c1, .slice A2 7 c2, .slice A3 7 c3] 22)) (some ⟨g, 0, none⟩) [⟨A1, c1, lay a 7⟩, ⟨A2, c2, lay m 7⟩, ⟨A3, c3, lay e 7⟩] from fun W1 W2 W3 A1 A2 A3 c1 c2 c3 h1 h2 h3 n1 n2 n3 u2 u3 W g hW hg =>
    parts_three hg (n1.below ((u2.trans (u3.mono u2.size)).trans (hW.mono (Nat.le_trans u2.size u3.size)))) (Hl7.out a) h1.1 h1.2 (n2.below (u3.trans (hW.mono u3.size))) (Hl7.out m) h2.1 h2.2 (n3.below hW) (Hl7.out e) h3.1 h3.2)
  have KS := Lib.hid (show ∀ (W : World) (g : Nat), V.heap.size ≤ g → Below V.heap.size V W → Below V.heap.size V (W.setCells g 0 (nrow .u8 r)) from fun W g hg h => below_setCells hg _ _ _ h)
  have hone := nrow_one .u8 r
  have LR : (nrow .u8 r).length = 32 := by rw [nrow_len]; exact Hr32.out
  have hi4 : (Tryd.prog.info? b32T).map (·.size) = some (nrow .u8 r).length := by rw [info_b32, LR]
  have FIN := Lib.hid (show ∀ (W : World) (g : Nat), Below V.heap.size V W → RZ V.heap.size W g → (W.setCells g 0 (nrow .u8 r)).heap[g]? = some (.cells (nrow .u8 r).toArray b32T) ∧ (W.setCells g 0 (nrow .u8 r)).heap[w.heap.size]? = some (.cells (nrow .u8 z16).toArray b16T) ∧ Below w.heap.size w (W.setCells g 0 (nrow .u8 r)) from fun W g hW hz => by
    have hs := KS.out W g hz.2 hW
    refine ⟨?_, row_kept HRR.out hs (row_lt HRR.out), HBV.out.trans (hs.mono HBV.out.size)⟩
    rw [hz.set Hr32.out]
    exact row_written hz.1)
  clear RR RK BV
  go_cut [8, 10] from 16 to 24 (fun s8 s10 wx => s8 = .pointer (some ⟨w.heap.size, 0, none⟩) ∧ ∃ g, s10 = .pointer (some ⟨g, 0, none⟩) ∧ wx.heap[g]? = some (.cells (nrow .u8 r).toArray b32T) ∧ wx.heap[w.heap.size]? = some (.cells (nrow .u8 z16).toArray b16T) ∧ Below w.heap.size w wx)
  case first =>
   go_region_held3 (fun W => Below V.heap.size V W)
     (first | (with_reducible exact KD.out) | (with_reducible exact KD0.out) | (with_reducible exact hX.out) | (with_reducible exact KA.out _ _ KD.out) | (with_reducible exact KA.out _ _ hX.out) | (with_reducible exact KA.out _ _ (KA.out _ _ hX.out)) | (with_reducible exact KS.out _ _ rz.le hX.out) | (with_reducible exact KS.out _ _ hX.out.size (KA.out _ _ hX.out)))
     (first
      | (go_at_call 14; with_reducible refine (number_any _ a Wa.out).mono ?_; rintro x W1 ⟨A1, c1, rfl, hc1, hN1, hb⟩; (try have rz := rz_1 (Nat.le_refl V.heap.size) hb); (try have rz := rz_d (Nat.le_refl V.heap.size) hb); have HN1 := Lib.hid hN1; have hX := Lib.hid (KC.out _ _ (by first | exact KD.out | exact KD0.out | exact KA.out _ _ KD.out) hb); clear hN1)
      | (go_at_call 14; with_reducible refine (number_any _ m Wm.out).mono ?_; rintro x W2 ⟨A2, c2, rfl, hc2, hN2, hb⟩; (try have rz := rz_1 hX.out.size hb); have u2 := Lib.hid (show Below W1.heap.size W1 W2 by first | exact hb | exact up_a hb); have HN2 := Lib.hid hN2; (try have rz := rz.keep u2.out); have hX := Lib.hid (KC.out _ _ hX.out u2.out); clear hN2)
      | (go_at_call 14; with_reducible refine (number_any _ e We.out).mono ?_; rintro x W3 ⟨A3, c3, rfl, hc3, hN3, hb⟩; (try have rz := rz_1 hX.out.size hb); have u3 := Lib.hid (show Below W2.heap.size W2 W3 by first | exact hb | exact up_a hb); have HN3 := Lib.hid hN3; (try have rz := rz.keep u3.out); have hX := Lib.hid (KC.out _ _ hX.out u3.out); have HP := Lib.hid (HPp.out W1 W2 W3 A1 A2 A3 c1 c2 c3 hc1 hc2 hc3 HN1.out HN2.out HN3.out u2.out u3.out); clear hN3)
      | (go_at_call 13; with_reducible refine (KO.out _ _ c1 c2 c3 A1 A2 A3 (KA.out _ _ hX.out) (HP.out _ _ (Below.refl _ _) rfl)).mono ?_; rintro x W9 ⟨rfl, hb⟩; have u9 := Lib.hid (show Below W3.heap.size W3 W9 from up_a hb); (try have rz := rz.keep u9.out); have thn := (RZ.new (W := W9) (Nat.le_refl _)).there; (try have th := rz.there); have hX := Lib.hid (KC.out _ _ hX.out u9.out))
      | (go_at_call 13; with_reducible refine (KO.out _ _ c1 c2 c3 A1 A2 A3 (KA.out _ _ (KA.out _ _ hX.out)) (HP.out _ _ ((Below.refl _ _).alloc (Nat.le_refl _) _) (by simp))).mono ?_; rintro x W9 ⟨rfl, hb⟩; have u9 := Lib.hid (show Below W3.heap.size W3 W9 from up_a (up_a hb)); have rz := rz_2 hX.out.size hb; have th := rz.there; have hX := Lib.hid (KC.out _ _ hX.out u9.out))
      | (go_at_call 13; with_reducible refine (KO.out _ _ c1 c2 c3 A1 A2 A3 (KA.out _ _ (KA.out _ _ hX.out)) ((HP.out _ _ (Below.refl _ _) rfl).below ((Below.refl _ _).alloc (Nat.le_refl _) _))).mono ?_; rintro x W9 ⟨rfl, hb⟩; have u9 := Lib.hid (show Below W3.heap.size W3 W9 from up_a (up_a hb)); have rz := rz_3 hX.out.size hb; have th := rz.there; have hX := Lib.hid (KC.out _ _ hX.out u9.out)))
   all_goals
     go_wp2_with fail
     go_meet
     case rel =>
       first
         | exact ⟨rfl, _, rfl, FIN.out _ _ hX.out rz⟩
         | exact ⟨rfl, _, rfl, FIN.out _ _ (KA.out _ _ hX.out) (RZ.new hX.out.size)⟩
  case rest =>
    obtain ⟨rfl, g, rfl, RG, RC, BW⟩ := hcut
    have RT := Lib.hid (range_take (m := 16) RG)
    have LT : (nrow .u8 r).take 16 = nrow .u8 c := by rw [← Hcr.out]; simp [nrow, List.map_take]
    have LC : (nrow .u8 c).length = 16 := by rw [← LT, List.length_take, LR]; rfl
    rw [LT] at RT
    have hAA := fun W x c => arr16_at W x 16 c (Nat.le_refl 16)
    go_wp2_with (first
      | (refine wpList_load_mid rfl b16T (.tmp 26) rfl g 0 rfl (nrow .u8 c) _ RT.out Tryd.underlying23 rfl (by rw [info_b16, LC]) ?_)
      | (refine wpl_arr_store info_b16 rfl (.tmp 8) (.tmp 27) rfl w.heap.size (nrow .u8 c) (nrow .u8 z16) LC z16_len (nrow_one _ _) rfl rfl RC ?_))
    exact bodyPost_ret (arr_results Tryd.underlying23 info_b16 Tryd.results9 LC rfl (row_written RC)) rfl ⟨rfl, setRow_below BW (Nat.le_refl _)⟩
end Go.Proofs.YthppbklbamakcaaDoor
