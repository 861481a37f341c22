/- WireApart holds for any two packets: unlike packets have unlike bytes. No condition. -/
import Derived.Test.YtnfdfnkhjlkdhaaWireLaw
namespace Go.Proofs.Ytnfdfnkhjlkdhaa.wireApart
open Go.ChangeShapes Go.WideShapes Go.ChangeAt Go.RowKit

set_option maxRecDepth 100000 in
set_option maxHeartbeats 2000000 in
theorem walk (w : World) (p : Pk) (hp : p.Wf) (hpr : p.Rng) (hps : ∀ z ∈ p.s, 0 ≤ z ∧ z < 256) (hpt : ∀ z ∈ p.t, 0 ≤ z ∧ z < 256) (q : Pk) (hq : q.Wf) (hqr : q.Rng) (hqs : ∀ z ∈ q.s, 0 ≤ z ∧ z < 256) (hqt : ∀ z ∈ q.t, 0 ≤ z ∧ z < 256) :
    Calls Try.prog 8 #[.agg (pcs p).toArray, .agg (pcs q).toArray] w fun e w' => e = .returned (.bool true) ∧ Below w.heap.size w w' := by
  have R0 := row_new (W := w) (cs := (pcs p).toArray) (t := pkT) (m := (0, 0))
  have A0 : Below w.heap.size w (w.alloc (.cells (pcs p).toArray pkT)) := (Below.refl _ _).alloc (Nat.le_refl _) _
  have A1 := (Below.refl (w.alloc (.cells (pcs p).toArray pkT)).heap.size _).alloc (Nat.le_refl _) (.cells (pcs q).toArray pkT)
  have R1 : ((w.alloc (.cells (pcs p).toArray pkT)).alloc (.cells (pcs q).toArray pkT)).heap[w.heap.size + 1]? = some (.cells (pcs q).toArray pkT) := by
    have := row_new (W := w.alloc (.cells (pcs p).toArray pkT)) (cs := (pcs q).toArray) (t := pkT) (m := (0, 0))
    simpa using this
  have R0 := row_kept R0 A1 (row_lt R0)
  have B0 := A0.trans (A1.mono A0.size)
  have HP := Lib.hid hp
  have HQ := Lib.hid hq
  have HPR := Lib.hid hpr
  have HQR := Lib.hid hqr
  have Hinj := Lib.hid (show p.right = true → q.right = true → ((strOfNums p.enc).toList == (strOfNums q.enc).toList) = decide (p = q) from fun h h' => by
    rw [text_beq (enc_byte hps hpt) (enc_byte hqs hqt)]
    exact decide_eq_decide.2 ⟨enc_inj hp hq h h', fun h => by rw [h]⟩)
  have EQ := fun W => eql_pk W hp hq
  clear hp hq hpr hqr hps hpt hqs hqt A0 A1
  go_enter Try.func8, Try.ntmps8
  go_wp2_with fail
  generalize (w.alloc (.cells (pcs p).toArray pkT)).alloc (.cells (pcs q).toArray pkT) = V at R0 R1 B0 ⊢
  refine (small_any V).mono ?_
  rintro e w1 ⟨rfl, hB⟩
  have R0 := row_kept R0 hB (row_lt R0)
  have R1 := row_kept R1 hB (row_lt R1)
  have B1 := B0.trans (hB.mono B0.size)
  clear hB B0
  cases hr : p.right
  · have Hr := Lib.hid hr
    clear hr
    go_wp2_with (first
      | ((refine wpl_pk ?_ (.tmp 2) ?_ w.heap.size p HP.out ?_ R0 ?_); (rfl); (rfl); (rfl)))
    refine (enc_bad p HP.out Hr.out _).mono ?_
    rintro e w2 ⟨rfl, hB⟩
    have R1 := row_kept R1 hB (row_lt R1)
    have B2 := B1.trans (hB.mono B1.size)
    clear hB B1 R0
    go_wp2_with (first
      | ((refine wpl_pk ?_ (.tmp 3) ?_ (w.heap.size + 1) q HQ.out ?_ R1 ?_); (rfl); (rfl); (rfl)))
    cases hr' : q.right
    · refine (enc_bad q HQ.out hr' _).mono ?_
      rintro e w3 ⟨rfl, hB⟩
      have B3 := B2.trans (hB.mono B2.size)
      clear hB B2 hr'
      go_wp2_with fail
      go_quiet (fail)
      go_wp2
      go_ret
      exact ⟨rfl, below_drewN B3 _⟩
    · refine (enc_ok q HQ.out HQR.out hr' _).mono ?_
      rintro e w3 ⟨A', c', rfl, -, hB⟩
      have B3 := B2.trans (hB.mono B2.size)
      clear hB B2 hr'
      go_wp2_with fail
      go_quiet (fail)
      go_wp2
      go_ret
      exact ⟨rfl, below_drewN B3 _⟩
  · have Hr := Lib.hid hr
    clear hr
    go_wp2_with (first
      | ((refine wpl_pk ?_ (.tmp 2) ?_ w.heap.size p HP.out ?_ R0 ?_); (rfl); (rfl); (rfl)))
    refine (enc_ok p HP.out HPR.out Hr.out _).mono ?_
    rintro e w2 ⟨A', c', rfl, hO, hB⟩
    have R0 := row_kept R0 hB (row_lt R0)
    have R1 := row_kept R1 hB (row_lt R1)
    have B2 := B1.trans (hB.mono B1.size)
    have HO := Lib.hid hO.nums
    clear hB B1 hO
    go_wp2_with (first
      | ((refine wpl_pk ?_ (.tmp 3) ?_ (w.heap.size + 1) q HQ.out ?_ R1 ?_); (rfl); (rfl); (rfl)))
    cases hr' : q.right
    · refine (enc_bad q HQ.out hr' _).mono ?_
      rintro e w3 ⟨rfl, hB⟩
      have B3 := B2.trans (hB.mono B2.size)
      clear hB B2 hr'
      go_wp2_with fail
      go_quiet (fail)
      go_wp2
      go_ret
      exact ⟨rfl, below_drewN B3 _⟩
    · have Hr' := Lib.hid hr'
      clear hr'
      refine (enc_ok q HQ.out HQR.out Hr'.out _).mono ?_
      rintro e X ⟨A2, c2, rfl, hO2, hB⟩
      have B3 := B2.trans (hB.mono B2.size)
      have R0 := row_kept R0 hB (row_lt R0)
      have R1 := row_kept R1 hB (row_lt R1)
      have N1 := HO.out.below hB
      have N2 := hO2.nums
      obtain ⟨Tp, hTp⟩ : ∃ T, strOfNums p.enc = T := ⟨_, rfl⟩
      obtain ⟨Tq, hTq⟩ : ∃ T, strOfNums q.enc = T := ⟨_, rfl⟩
      obtain ⟨b, hb⟩ : ∃ b, decide (p = q) = b := ⟨_, rfl⟩
      have EB := Hinj.out Hr.out Hr'.out
      rw [hTp, hTq, hb] at EB
      rw [hb] at EQ
      have HU := Lib.hid (And.intro (show ∀ u : Over X.heap.size X, u.val.heap[w.heap.size]? = some (.cells (pcs p).toArray pkT) from fun u => row_kept R0 u.below (row_lt R0)) (show ∀ u : Over X.heap.size X, u.val.heap[w.heap.size + 1]? = some (.cells (pcs q).toArray pkT) from fun u => row_kept R1 u.below (row_lt R1)))
      have U1 : ∀ u : Over X.heap.size X, (convert 26 9 (.slice A' p.enc.length c')).run Try.prog u.val = .ok (.string Tp) u.val := fun u => by
        rw [← hTp]; exact text_of_nums Try.underlying26 Try.underlying5 Try.underlying9 (N1.below u.below) rfl
      have U2 : ∀ u : Over X.heap.size X, (convert 26 9 (.slice A2 q.enc.length c2)).run Try.prog u.val = .ok (.string Tq) u.val := fun u => by
        rw [← hTq]; exact text_of_nums Try.underlying26 Try.underlying5 Try.underlying9 (N2.below u.below) rfl
      have HB := Lib.hid (show ∀ u : Over X.heap.size X, Below w.heap.size w u.val from fun u => B3.trans (u.below.mono B3.size))
      clear hB B2 hTp hTq hb R0 R1 N1 N2 hO2 HO Hinj B3
      go_wp2_with fail
      refine region_class (fun u : Over X.heap.size X => u.val) ⟨X.drew, below_drewN (Below.refl _ _) 1⟩ rfl (by kernel_rfl) (by kernel_rfl) ?_
      repeat (first
        | ((with_reducible refine wpQuiet_pk ?_ (.tmp 2) ?_ w.heap.size p HP.out ?_ HU.out.1 ?_); (rfl); (rfl); (rfl); (conv => arg 6; simp only [Act.put, List.setIfInBounds_toArray, List.set_cons_succ, List.set_cons_zero]))
        | ((with_reducible refine wpQuiet_pk ?_ (.tmp 3) ?_ (w.heap.size + 1) q HQ.out ?_ HU.out.2 ?_); (rfl); (rfl); (rfl); (conv => arg 6; simp only [Act.put, List.setIfInBounds_toArray, List.set_cons_succ, List.set_cons_zero]))
        | go_big_quiet_step (fail))
      with_reducible refine wpQuiet_nil ?_
      rintro _ ⟨u, rfl⟩
      have B2 := HB.out u
      generalize u.val = W at B2 ⊢
      go_wp2
      go_ret
      exact ⟨ret_bool (by simp), B2⟩
theorem own : ownKnob Try.prog.godebug = none := by kernel_rfl
theorem laid : laidOutB Try.prog = true := by kernel_rfl

set_option maxRecDepth 100000 in
theorem lifted (os : Os) (started : os.Started) (H : Type) (enc : TypeId × Value → H) :
    ReturnsInHanded {} Try.checked os 8 .any (Rows.wireApartSpec.pre6 enc Try.prog Try.f8 Rows.wireApartRow.domain false) (Rows.wireApartSpec.post enc Try.prog Try.f8 false true false false) := by
  refine law_lifted (C := Try.checked) (B := 4) own started (by kernel_rfl) Try.func8
    (ChangeSpec.witness6 (enc := enc) (C := Try.checked) false ⟨#[], #[.agg #[.int .i64 0, .int .i64 0, .int .i64 0, .int .i64 0, .int .i64 0, .int .i64 0, .int .i64 0, .int .i64 0, .int .i64 0, .int .i64 0, .int .i64 0, .int .i64 0, .int .u8 0, .int .u8 0, .int .u8 0, .int .u8 0, .int .u8 0, .int .u8 0, .int .u8 0, .int .u8 0, .int .u8 0, .int .u8 0, .int .u8 0, .int .u8 0, .int .u8 0, .int .u8 0, .int .u8 0, .int .u8 0, .int .u8 0, .int .u8 0, .int .u8 0, .int .u8 0, .int .u8 0, .int .u8 0, .int .u8 0, .int .u8 0], .agg #[.int .i64 0, .int .i64 0, .int .i64 0, .int .i64 0, .int .i64 0, .int .i64 0, .int .i64 0, .int .i64 0, .int .i64 0, .int .i64 0, .int .i64 0, .int .i64 0, .int .u8 0, .int .u8 0, .int .u8 0, .int .u8 0, .int .u8 0, .int .u8 0, .int .u8 0, .int .u8 0, .int .u8 0, .int .u8 0, .int .u8 0, .int .u8 0, .int .u8 0, .int .u8 0, .int .u8 0, .int .u8 0, .int .u8 0, .int .u8 0, .int .u8 0, .int .u8 0, .int .u8 0, .int .u8 0, .int .u8 0, .int .u8 0]], []⟩ 8 (by kernel_rfl) (by kernel_rfl) (by kernel_rfl) (by kernel_rfl))
    rfl rfl Try.underlying4 laid (of_decide_eq_true (by kernel_rfl)) ?_ ?_
  · intro ds hl
    rw [Try.params8] at hl
    match ds, hl with
    | [d0, d1], _ => rfl
  · intro W base args ds ps hval hA hlt hz
    rw [Try.params8] at hA hval
    obtain ⟨v0, vs0, d0, ds0, p0, q0, hargs, rfl, rfl, h0, r0⟩ := trodAll_cons hA
    obtain ⟨v1, vs1, d1, ds1, p1, q1, rfl, rfl, rfl, h1, r1⟩ := trodAll_cons r0
    obtain ⟨rfl, rfl, rfl⟩ := trodAll_nil r1
    obtain rfl : args = #[v0, v1] := by cases args; simp_all
    obtain ⟨p'0, rfl, hwf0, hrg0, hs0, ht0⟩ := open_packet (hval 0 25 v0 rfl rfl) h0
    obtain ⟨p'1, rfl, hwf1, hrg1, hs1, ht1⟩ := open_packet (hval 1 25 v1 rfl rfl) h1
    exact walk W p'0 hwf0 hrg0 hs0 ht0 p'1 hwf1 hrg1 hs1 ht1

theorem over : Rows.wireApartRow.holds Try.pinned (OpenSpec.ofChange Rows.wireApartSpec) :=
  OpenClaim.holds_of_wide 8 Try.f8 rfl rfl rfl rfl rfl rfl rfl ⟨rfl, rfl, rfl, rfl, rfl⟩ rfl rfl rfl rfl rfl (by kernel_rfl) Try.func8 (by kernel_rfl)
    (of_decide_eq_true (by kernel_rfl)) (by unfold Func.isWrapper; first | (rw [if_pos (by decide +kernel)]; kernel_rfl) | (rw [if_neg (by decide +kernel)]; exact ⟨rfl, rfl⟩))
    (fun os started H enc _ => lifted os started H enc)

theorem proved : Rows.WireApartSaid := over
#print axioms proved
end Go.Proofs.Ytnfdfnkhjlkdhaa.wireApart
