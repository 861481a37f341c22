/- WireTells holds for any packet, any bytes and any kind: which packets are right, their bytes, and bytes that are read, are as the document says. No condition. -/
import Derived.Test.YtnfdfnkhjlkdhaaWireLaw
import Derived.Test.YtnfdfnkhjlkdhaaWRef5
namespace Go.Proofs.Ytnfdfnkhjlkdhaa.wireTells
open Go.ChangeShapes Go.WideShapes Go.ChangeAt Go.RowKit

theorem rtagged_any (k : Int) (w : World) : Calls Try.prog 18 #[.int .i64 k] w fun e w' => e = .returned (.bool (decide (5 ≤ k) && decide (k ≤ 11))) ∧ w = w' := by
  by_cases h1 : 5 ≤ k
  · by_cases h2 : k ≤ 11
    · have d1 : decide (5 ≤ k) = true := decide_eq_true h1
      have d2 : decide (k ≤ 11) = true := decide_eq_true h2
      go_enter Try.func18, Try.ntmps18
      go_wp2
      go_ret
      exact ⟨ret_bool (by first | rfl | simp [d1, d2]), rfl⟩
    · have d1 : decide (5 ≤ k) = true := decide_eq_true h1
      have d2 : decide (k ≤ 11) = false := decide_eq_false h2
      go_enter Try.func18, Try.ntmps18
      go_wp2
      go_ret
      exact ⟨ret_bool (by first | rfl | simp [d1, d2]), rfl⟩
  · have d1 : decide (5 ≤ k) = false := decide_eq_false h1
    go_enter Try.func18, Try.ntmps18
    go_wp2
    go_ret
    exact ⟨ret_bool (by first | rfl | simp [d1]), rfl⟩
theorem e_any (p : Pk) (hp : p.Wf) (hrg : p.Rng) (l : List Int) (hz : (if p.right = true then p.enc else []) = l) (ec : Int) (hec : (if p.right = true then (0 : Int) else 1) = ec) (w : World) :
    Calls Try.prog 11 #[.agg (pcs p).toArray] w fun e w' => ∃ A c, e = .returned (.tuple #[.slice A l.length c, .int .i64 ec]) ∧ Nums .u8 w' A l ∧ Below w.heap.size w w' := by
  subst hz; subst hec
  cases hr : p.right
  · refine (enc_bad p hp hr w).mono ?_
    rintro e w' ⟨rfl, hB⟩
    exact ⟨none, 0, rfl, Nums.nil, hB⟩
  · refine (enc_ok p hp hrg hr w).mono ?_
    rintro e w' ⟨A, c, rfl, hO, hB⟩
    exact ⟨A, c, rfl, hO.nums, hB⟩
theorem r_any (p : Pk) (hp : p.Wf) (hrg : p.Rng) (l : List Int) (hz : (if p.right = true then p.enc else []) = l) (ec : Int) (hec : (if p.right = true then (0 : Int) else 1) = ec) (w : World) :
    Calls Try.prog 12 #[.agg (pcs p).toArray] w fun e w' => ∃ A c, e = .returned (.tuple #[.slice A l.length c, .int .i64 ec]) ∧ Nums .u8 w' A l ∧ Below w.heap.size w w' := by
  subst hz; subst hec
  cases hr : p.right
  · refine (rwenc_bad p hp hr w).mono ?_
    rintro e w' ⟨rfl, hB⟩
    exact ⟨none, 0, rfl, Nums.nil, hB⟩
  · refine (rwenc_ok p hp hrg hr w).mono ?_
    rintro e w' ⟨A, c, rfl, hO, hB⟩
    exact ⟨A, c, rfl, hO.nums, hB⟩
theorem dec_pkwf {bs : List Int} (hb : ∀ x ∈ bs, 0 ≤ x ∧ x ≤ 255) (hl : bs.length ≤ 1000000) : (decPk bs).Wf := by
  unfold decPk
  split
  · exact ((dec0_fine hb hl).go _).wf
  · exact pk0_wf
set_option maxRecDepth 100000 in
set_option maxHeartbeats 2000000 in
theorem walk (w : World) (p : Pk) (hp : p.Wf) (hpr : p.Rng) (hps : ∀ z ∈ p.s, 0 ≤ z ∧ z < 256) (hpt : ∀ z ∈ p.t, 0 ≤ z ∧ z < 256) (A : Option Addr) (n cap : Nat) (zs : List Int) (hl : n ≤ cap) (hm : cap ≤ maxLen) (hn : zs.length = n) (hN : Nums .u8 w A zs) (hw : ∀ z ∈ zs, (Lit.int .u8 z).wf = true) (k : Int) (wk : (Lit.int .i64 k).wf = true) :
    Calls Try.prog 3 #[.agg (pcs p).toArray, .slice A n cap, .int .i64 k] w fun e w' => e = .returned (.bool true) ∧ Below w.heap.size w w' := by
  have R0 := row_new (W := w) (cs := (pcs p).toArray) (t := pkT) (m := (0, 0))
  have B0 : Below w.heap.size w (w.alloc (.cells (pcs p).toArray pkT)) := (Below.refl _ _).alloc (Nat.le_refl _) _
  have HNz := Lib.hid hN
  have Hn := Lib.hid hn
  have HBy := Lib.hid (show ∀ z ∈ zs, 0 ≤ z ∧ z ≤ 255 from fun z hz => by have := byte_in (hw z hz); omega)
  have HP := Lib.hid hp
  have HPR := Lib.hid hpr
  have KJ := Lib.hid (fun (w : World) (o : Obj) => (Below.refl w.heap.size w).alloc (Nat.le_refl _) o)
  have zpk := zero_pk
  clear hN hn hw hl hm wk hp hpr hps hpt
  by_cases h3 : 200 < n
  · have d1 : decide ((200 : Int) < (n : Int)) = true := decide_eq_true (by omega)
    go_enter Try.func3, Try.ntmps3
    go_wp2_with fail
    generalize w.alloc (.cells (pcs p).toArray pkT) = V at R0 B0 ⊢
    refine (small_any V).mono ?_
    rintro e w1 ⟨rfl, hB⟩
    have A2 := B0.trans (hB.mono B0.size)
    go_wp2
    go_ret
    exact ⟨rfl, A2⟩
  have h1 : n ≤ 200 := by omega
  have d1 : decide ((200 : Int) < (n : Int)) = false := decide_eq_false (by omega)
  clear h3
  obtain ⟨q, hq⟩ : ∃ q, decPk zs = q := ⟨_, rfl⟩
  obtain ⟨er, her⟩ : ∃ er, (if decOk zs = true then (0 : Int) else 2) = er := ⟨_, rfl⟩
  obtain ⟨l, hl⟩ : ∃ l, (if p.right = true then p.enc else []) = l := ⟨_, rfl⟩
  obtain ⟨ec, hec⟩ : ∃ ec, (if p.right = true then (0 : Int) else 1) = ec := ⟨_, rfl⟩
  have hqw : q.Wf := by rw [← hq]; exact dec_pkwf HBy.out (by rw [Hn.out]; omega)
  have HQ := Lib.hid hqw
  have pkq := fun W => pk_new hqw W
  have LQ := pcs_len hqw
  have Hq := Lib.hid hq
  have Her := Lib.hid her
  have Hl := Lib.hid hl
  have Hec := Lib.hid hec
  clear hq her hl hec hqw
  go_enter Try.func3, Try.ntmps3
  go_wp2_with fail
  generalize w.alloc (.cells (pcs p).toArray pkT) = V at R0 B0 ⊢
  refine (small_any V).mono ?_
  rintro e w1 ⟨rfl, hB⟩
  have R0 := row_kept R0 hB (row_lt R0)
  have B1 := B0.trans (hB.mono B0.size)
  clear hB B0
  go_wp2_with (first
    | ((refine wpl_pk ?_ (.tmp 3) ?_ w.heap.size p HP.out ?_ R0 ?_); (rfl); (rfl); (rfl)))
  refine (e_any p HP.out HPR.out l Hl.out ec Hec.out _).mono ?_
  rintro e w2 ⟨A2, c2, rfl, hN2, hB⟩
  have R0 := row_kept R0 hB (row_lt R0)
  have B2 := B1.trans (hB.mono B1.size)
  have N2 := Lib.hid hN2
  clear hB B1 hN2
  go_wp2_with (first
    | ((refine wpl_pk ?_ (.tmp 3) ?_ w.heap.size p HP.out ?_ R0 ?_); (rfl); (rfl); (rfl)))
  refine (r_any p HP.out HPR.out l Hl.out ec Hec.out _).mono ?_
  rintro e w3 ⟨A3, c3, rfl, hN3, hB⟩
  have R0 := row_kept R0 hB (row_lt R0)
  have B3 := B2.trans (hB.mono B2.size)
  have N2 := Lib.hid (N2.out.below hB)
  have N3 := Lib.hid hN3
  clear hB B2 hN3
  go_wp2_with fail
  refine (dec_any zs HBy.out (by rw [Hn.out]; omega) _ A n cap Hn.out (HNz.out.below B3) q Hq.out er Her.out).mono ?_
  rintro e w4 ⟨rfl, hB⟩
  have R0 := row_kept R0 hB (row_lt R0)
  have B4 := B3.trans (hB.mono B3.size)
  have N2 := Lib.hid (N2.out.below hB)
  have N3 := Lib.hid (N3.out.below hB)
  clear hB B3
  go_upto_region 7 with (fail)
  have AN := KJ.out w4 (.cells (pcs q).toArray pkT)
  have RQ := row_new (W := w4) (cs := (pcs q).toArray) (t := pkT) (m := (0, 0))
  have R0 := row_kept R0 AN (row_lt R0)
  have B5 := B4.trans (AN.mono B4.size)
  have N2 := Lib.hid (N2.out.below AN)
  have N3 := Lib.hid (N3.out.below AN)
  generalize w4.alloc (.cells (pcs q).toArray pkT) = V1 at R0 RQ B5 N2 N3 ⊢
  obtain ⟨gq, hgq'⟩ : ∃ g, g = w4.heap.size := ⟨_, rfl⟩
  rw [← hgq'] at RQ ⊢
  clear AN B4 hgq'
  go_wp2_with fail
  refine (rdec_any zs HBy.out (by rw [Hn.out]; omega) _ A n cap Hn.out (HNz.out.below B5) q Hq.out er Her.out).mono ?_
  rintro e w5 ⟨rfl, hB⟩
  have R0 := row_kept R0 hB (row_lt R0)
  have RQ := row_kept RQ hB (row_lt RQ)
  have B6 := B5.trans (hB.mono B5.size)
  have N2 := Lib.hid (N2.out.below hB)
  have N3 := Lib.hid (N3.out.below hB)
  clear hB B5
  go_upto_region 8 with (fail)
  have AN := KJ.out w5 (.cells (pcs q).toArray pkT)
  have RR := row_new (W := w5) (cs := (pcs q).toArray) (t := pkT) (m := (0, 0))
  have R0 := row_kept R0 AN (row_lt R0)
  have RQ := row_kept RQ AN (row_lt RQ)
  have B7 := B6.trans (AN.mono B6.size)
  have N2 := Lib.hid (N2.out.below AN)
  have N3 := Lib.hid (N3.out.below AN)
  generalize w5.alloc (.cells (pcs q).toArray pkT) = V2 at R0 RQ RR B7 N2 N3 ⊢
  obtain ⟨gr, hgr'⟩ : ∃ g, g = w5.heap.size := ⟨_, rfl⟩
  rw [← hgr'] at RR ⊢
  clear AN B6 hgr' pkq
  obtain ⟨T, hT⟩ : ∃ T, strOfNums l = T := ⟨_, rfl⟩
  obtain ⟨b, hb⟩ : ∃ b, p.right = b := ⟨_, rfl⟩
  have Hb := Lib.hid hb
  obtain ⟨tg, htg⟩ : ∃ b, (decide (5 ≤ k) && decide (k ≤ 11)) = b := ⟨_, rfl⟩
  have Htg := Lib.hid htg
  have EP := fun W => eql_pk W HQ.out HQ.out
  rw [decide_eq_true rfl] at EP
  have ebb : (b == b) = true := by cases b <;> rfl
  have ebt : (tg == tg) = true := by cases tg <;> rfl
  have U1 : ∀ u : Over V2.heap.size V2, (convert 26 9 (.slice A2 l.length c2)).run Try.prog u.val = .ok (.string T) u.val := fun u => by
    rw [← hT]; exact text_of_nums Try.underlying26 Try.underlying5 Try.underlying9 (N2.out.below u.below) rfl
  have U2 : ∀ u : Over V2.heap.size V2, (convert 26 9 (.slice A3 l.length c3)).run Try.prog u.val = .ok (.string T) u.val := fun u => by
    rw [← hT]; exact text_of_nums Try.underlying26 Try.underlying5 Try.underlying9 (N3.out.below u.below) rfl
  have HUP := Lib.hid (show ∀ u : Over V2.heap.size V2, u.val.heap[w.heap.size]? = some (.cells (pcs p).toArray pkT) from fun u => row_kept R0 u.below (row_lt R0))
  have HUQ := Lib.hid (show ∀ u : Over V2.heap.size V2, u.val.heap[gq]? = some (.cells (pcs q).toArray pkT) from fun u => row_kept RQ u.below (row_lt RQ))
  have HUR := Lib.hid (show ∀ u : Over V2.heap.size V2, u.val.heap[gr]? = some (.cells (pcs q).toArray pkT) from fun u => row_kept RR u.below (row_lt RR))
  have HB := Lib.hid (show ∀ u : Over V2.heap.size V2, Below w.heap.size w u.val from fun u => B7.trans (u.below.mono B7.size))
  have F1 := Lib.hid (show ∀ u : Over V2.heap.size V2, Calls Try.prog 15 #[.agg (pcs p).toArray] u.val fun e w' => e = .returned (.bool b) ∧ Below u.val.heap.size u.val w' from fun u => by rw [← Hb.out]; exact wright_any p HP.out u.val)
  have F2 := Lib.hid (show ∀ u : Over V2.heap.size V2, Calls Try.prog 16 #[.agg (pcs p).toArray] u.val fun e w' => e = .returned (.bool b) ∧ Below u.val.heap.size u.val w' from fun u => by rw [← Hb.out]; exact rwright_any p HP.out u.val)
  have F3 := Lib.hid (show ∀ u : Over V2.heap.size V2, Calls Try.prog 17 #[.int .i64 k] u.val fun e w' => e = .returned (.bool tg) ∧ Below u.val.heap.size u.val w' from fun u => by
    rw [← Htg.out]
    refine (tagged_any k u.val).mono ?_
    rintro e w' ⟨rfl, rfl⟩
    exact ⟨rfl, Below.refl _ _⟩)
  have F4 := Lib.hid (show ∀ u : Over V2.heap.size V2, Calls Try.prog 18 #[.int .i64 k] u.val fun e w' => e = .returned (.bool tg) ∧ Below u.val.heap.size u.val w' from fun u => by
    rw [← Htg.out]
    refine (rtagged_any k u.val).mono ?_
    rintro e w' ⟨rfl, rfl⟩
    exact ⟨rfl, Below.refl _ _⟩)
  clear R0 RQ RR B7 N2 N3 hT hb htg
  refine region_class (fun u : Over V2.heap.size V2 => u.val) ⟨V2.drew, below_drewN (Below.refl _ _) 1⟩ rfl (by kernel_rfl) (by kernel_rfl) ?_
  repeat (first
    | ((with_reducible refine wpQuiet_pk' ?_ (.tmp 3) ?_ w.heap.size p HP.out ?_ (fun u => HUP.out u) ?_); (rfl); (rfl); (rfl); (conv => arg 6; simp only [Act.put, List.setIfInBounds_toArray, List.set_cons_succ, List.set_cons_zero]))
    | ((with_reducible refine wpQuiet_pk' ?_ (.tmp 12) ?_ gq q HQ.out ?_ (fun u => HUQ.out u) ?_); (rfl); (rfl); (rfl); (conv => arg 6; simp only [Act.put, List.setIfInBounds_toArray, List.set_cons_succ, List.set_cons_zero]))
    | ((with_reducible refine wpQuiet_pk' ?_ (.tmp 14) ?_ gr q HQ.out ?_ (fun u => HUR.out u) ?_); (rfl); (rfl); (rfl); (conv => arg 6; simp only [Act.put, List.setIfInBounds_toArray, List.set_cons_succ, List.set_cons_zero]))
    | go_big_quiet_step ((first
      | (go_at_call 15; with_reducible exact over_left (Nat.le_refl _) (F1.out _))
      | (go_at_call 16; with_reducible exact over_left (Nat.le_refl _) (F2.out _))
      | (go_at_call 17; with_reducible exact over_left (Nat.le_refl _) (F3.out _))
      | (go_at_call 18; with_reducible exact over_left (Nat.le_refl _) (F4.out _)))))
  with_reducible refine wpQuiet_nil ?_
  rintro _ ⟨u, rfl⟩
  have B2 := HB.out u
  generalize u.val = W at B2 ⊢
  go_wp2
  go_ret
  exact ⟨ret_bool (by simp), B2⟩
theorem own : ownKnob Try.prog.godebug = none := by kernel_rfl
theorem laid : laidOutB Try.prog = true := by kernel_rfl

set_option maxRecDepth 100000 in
theorem lifted (os : Os) (started : os.Started) (H : Type) (enc : TypeId × Value → H) :
    ReturnsInHanded {} Try.checked os 3 .any (Rows.wireTellsSpec.pre6 enc Try.prog Try.f3 Rows.wireTellsRow.domain false) (Rows.wireTellsSpec.post enc Try.prog Try.f3 false true false false) := by
  refine law_lifted (C := Try.checked) (B := 4) own started (by kernel_rfl) Try.func3
    (ChangeSpec.witness6 (enc := enc) (C := Try.checked) false ⟨#[], #[.agg #[.int .i64 0, .int .i64 0, .int .i64 0, .int .i64 0, .int .i64 0, .int .i64 0, .int .i64 0, .int .i64 0, .int .i64 0, .int .i64 0, .int .i64 0, .int .i64 0, .int .u8 0, .int .u8 0, .int .u8 0, .int .u8 0, .int .u8 0, .int .u8 0, .int .u8 0, .int .u8 0, .int .u8 0, .int .u8 0, .int .u8 0, .int .u8 0, .int .u8 0, .int .u8 0, .int .u8 0, .int .u8 0, .int .u8 0, .int .u8 0, .int .u8 0, .int .u8 0, .int .u8 0, .int .u8 0, .int .u8 0, .int .u8 0], .slice none 0 0, .int .i64 0], []⟩ 8 (by kernel_rfl) (by kernel_rfl) (by kernel_rfl) (by kernel_rfl))
    rfl rfl Try.underlying4 laid (of_decide_eq_true (by kernel_rfl)) ?_ ?_
  · intro ds hl
    rw [Try.params3] at hl
    match ds, hl with
    | [d0, d1, d2], _ => rfl
  · intro W base args ds ps hval hA hlt hz
    rw [Try.params3] at hA hval
    obtain ⟨v0, vs0, d0, ds0, p0, q0, hargs, rfl, rfl, h0, r0⟩ := trodAll_cons hA
    obtain ⟨v1, vs1, d1, ds1, p1, q1, rfl, rfl, rfl, h1, r1⟩ := trodAll_cons r0
    obtain ⟨v2, vs2, d2, ds2, p2, q2, rfl, rfl, rfl, h2, r2⟩ := trodAll_cons r1
    obtain ⟨rfl, rfl, rfl⟩ := trodAll_nil r2
    obtain rfl : args = #[v0, v1, v2] := by cases args; simp_all
    obtain ⟨p'0, rfl, hwf0, hrg0, hs0, ht0⟩ := open_packet (hval 0 25 v0 rfl rfl) h0
    obtain ⟨A1, n1, cap1, zs1, rfl, hl1, hm1, hn1, hN1, hw1⟩ := open_nums Try.underlying26 Try.underlying5 (by kernel_rfl) (hval 1 26 v1 rfl rfl) h1
    obtain ⟨a2, rfl, rfl, rfl, w2⟩ := open_int Try.underlying3 (hval 2 3 v2 rfl rfl) h2
    exact walk W p'0 hwf0 hrg0 hs0 ht0 A1 n1 cap1 zs1 hl1 hm1 hn1 hN1 hw1 a2 w2

theorem over : Rows.wireTellsRow.holds Try.pinned (OpenSpec.ofChange Rows.wireTellsSpec) :=
  OpenClaim.holds_of_wide 3 Try.f3 rfl rfl rfl rfl rfl rfl rfl ⟨rfl, rfl, rfl, rfl, rfl⟩ rfl rfl rfl rfl rfl (by kernel_rfl) Try.func3 (by kernel_rfl)
    (of_decide_eq_true (by kernel_rfl)) (by unfold Func.isWrapper; first | (rw [if_pos (by decide +kernel)]; kernel_rfl) | (rw [if_neg (by decide +kernel)]; exact ⟨rfl, rfl⟩))
    (fun os started H enc _ => lifted os started H enc)

theorem proved : Rows.WireTellsSaid := over
#print axioms proved
end Go.Proofs.Ytnfdfnkhjlkdhaa.wireTells
