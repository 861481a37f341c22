/- SendLosts holds for any right Send: a loss halves how many may be on their way, and four bring that to one. No condition. -/
import Derived.Test.YtcppblgoojjpgaaOpen11
import Derived.Test.YtcppblgoojjpgaaTail2
import Derived.Test.YtcppblgoojjpgaaLaw
namespace Go.Proofs.Ytcppblgoojjpgaa.sendLosts
open Go.ChangeShapes Go.WideShapes Go.ChangeAt Go.RowKit Go.Shelf
attribute [-go_sem] run_eql_struct run_neq_struct

theorem right_bd {n ww cc : Int} {l : List Fl} (h : Sd.right ⟨n, l, ww, cc⟩ = true) : (1 ≤ n ∧ n ≤ 1073741824) ∧ (1 ≤ ww ∧ ww ≤ 8) ∧ (0 ≤ cc ∧ cc ≤ 7) ∧ l.length ≤ 8 ∧ Sd.chain n (Sd.least ⟨n, l, ww, cc⟩) l = true := by
  unfold Sd.right at h
  simp only [Bool.and_eq_true, decide_eq_true_eq] at h
  exact ⟨h.1, h.2.1, h.2.2.1, h.2.2.2.1, h.2.2.2.2⟩
theorem chain_all (n : Int) : ∀ (l : List Fl) (least : Int), Sd.chain n least l = true → ∀ f ∈ l, least ≤ f.q ∧ f.q ≤ n - 1 ∧ (1 ≤ f.t ∧ f.t ≤ 1073741824) ∧ 0 ≤ f.a ∧ f.a ≤ 1099511627776
  | [], _, _, f, hf => by cases hf
  | g :: r, least, h, f, hf => by
    rw [Sd.chain, Bool.and_eq_true, decide_eq_true_eq] at h
    obtain ⟨h1, h2⟩ := h
    unfold Fl.ok at h1
    rcases List.mem_cons.1 hf with rfl | hf
    · omega
    · have := chain_all n r _ h2 f hf
      omega
theorem right_all {n ww cc : Int} {l : List Fl} (h : Sd.right ⟨n, l, ww, cc⟩ = true) : (∀ f ∈ l, 0 ≤ f.q ∧ f.q ≤ 1099511627776) ∧ (∀ f ∈ l, 0 ≤ f.a ∧ f.a ≤ 1099511627776) ∧ ∀ f ∈ l, 1 ≤ f.q ∧ f.q ≤ n - 1 ∧ (1 ≤ f.t ∧ f.t ≤ 1073741824) := by
  obtain ⟨h1, -, -, -, h5⟩ := right_bd h
  have := chain_all n l _ h5
  have hl : 1 ≤ Sd.least ⟨n, l, ww, cc⟩ := by unfold Sd.least; omega
  exact ⟨fun f hf => by have := this f hf; omega, fun f hf => (this f hf).2.2.2, fun f hf => by have := this f hf; omega⟩
theorem room_mono (n : Int) (l : List Fl) (ww ww' cc cc' : Int) (h : ww ≤ ww') : Sd.room ⟨n, l, ww, cc⟩ ≤ Sd.room ⟨n, l, ww', cc'⟩ := by
  unfold Sd.room
  have : Sd.span ⟨n, l, ww, cc⟩ = Sd.span ⟨n, l, ww', cc'⟩ := rfl
  dsimp only
  omega

set_option maxRecDepth 100000 in
set_option maxHeartbeats 4000000 in
theorem walk (w : World) (n : Int) (A : Option Addr) (k c : Nat) (l : List Fl) (ww cc : Int) (hl : k ≤ c) (hm : c ≤ maxLen) (hn : l.length = k) (hN : Fls w A l) (hb : -9223372036854775808 ≤ n ∧ n ≤ 9223372036854775807) (hw : -9223372036854775808 ≤ ww ∧ ww ≤ 9223372036854775807) (hc : -9223372036854775808 ≤ cc ∧ cc ≤ 9223372036854775807) (hf : ∀ f ∈ l, f.wf) :
    Calls Try.prog 8 #[.agg #[.int .i64 n, .slice A k c, .int .i64 ww, .int .i64 cc]] w fun e w' => e = .returned (.bool true) ∧ Below w.heap.size w w' := by
  unfold maxLen at hm
  have z0 := zero_send
  have z1 := zero_fl
  have Hn := Lib.hid hn
  have HN := Lib.hid hN
  obtain ⟨W0, hW0⟩ : ∃ V, w.alloc (seO n A k c ww cc) = V := ⟨_, rfl⟩
  have R0 : W0.heap[w.heap.size]? = some (seO n A k c ww cc) := by rw [← hW0]; exact a_new w _
  have BW : Below w.heap.size w W0 := by rw [← hW0]; exact (Below.refl _ _).alloc (Nat.le_refl _) _
  clear hn hN hb hw hc hf
  cases hr : Sd.right ⟨n, l, ww, cc⟩
  · have HR := Lib.hid hr
    clear hr
    go_enter Try.func8, Try.ntmps8
    go_wp2_with fail
    refine (small_any _).mono ?_
    rintro e w1 ⟨rfl, hb⟩
    have R0 := row_kept R0 hb (row_lt R0)
    have BW := BW.trans (hb.mono BW.size)
    have K0 := row_cells R0
    clear hb
    go_wp2_with fail
    refine (right_to _ n ww cc A k c l Hn.out (HN.out.below BW) (by omega) HR.out).mono ?_
    rintro e w2 ⟨rfl, hb⟩
    go_wp2_with fail
    go_ret
    exact ⟨rfl, BW.trans (hb.mono BW.size)⟩
  · obtain ⟨h1, h2, h3, h4, h5⟩ := right_bd hr
    obtain ⟨a1, a2, a3⟩ := right_all hr
    have HR := Lib.hid hr
    have HA := Lib.hid a1
    have h8 : k ≤ 8 := by rw [← Hn.out]; exact h4
    clear hr a1 a2 a3 h5 h4
    obtain ⟨v, hv⟩ : ∃ v, max (ww / 2) 1 = v := ⟨_, rfl⟩
    obtain ⟨v2, hv2⟩ : ∃ v2, max (v / 2) 1 = v2 := ⟨_, rfl⟩
    obtain ⟨v3, hv3⟩ : ∃ v3, max (v2 / 2) 1 = v3 := ⟨_, rfl⟩
    have hv4 : max (v3 / 2) 1 = 1 := by omega
    have hvb : 1 ≤ v ∧ v ≤ ww := by omega
    have hvb2 : 1 ≤ v2 ∧ v2 ≤ 8 := by omega
    have hvb3 : 1 ≤ v3 ∧ v3 ≤ 8 := by omega
    obtain ⟨x, hx⟩ : ∃ x, Sd.room ⟨n, l, v, 0⟩ = x := ⟨_, rfl⟩
    obtain ⟨y, hy⟩ : ∃ y, Sd.room ⟨n, l, ww, cc⟩ = y := ⟨_, rfl⟩
    have hxy : x ≤ y := by rw [← hx, ← hy]; exact room_mono n l v ww 0 cc hvb.2
    have HV := Lib.hid (And.intro hv (And.intro hv2 (And.intro hv3 (And.intro hv4 (And.intro hx hy)))))
    have eq1 : IntKind.i64.wrap (ww.tdiv 2) = ww / 2 := by rw [Int.tdiv_eq_ediv_of_nonneg (by omega)]; exact IntWalk.i64_in _ (by omega)
    have eq2 : (if ww / 2 < 1 then 1 else ww / 2) = v := by omega
    have EQ := Lib.hid (And.intro eq1 eq2)
    clear hv hv2 hv3 hv4 hx hy eq1 eq2
    go_enter Try.func8, Try.ntmps8
    go_wp2_with fail
    refine (small_any _).mono ?_
    rintro e w1 ⟨rfl, hb⟩
    have R0 := row_kept R0 hb (row_lt R0)
    have BW := BW.trans (hb.mono BW.size)
    have K0 := row_cells R0
    clear hb
    go_wp2_with fail
    refine (right_to _ n ww cc A k c l Hn.out (HN.out.below BW) (by omega) HR.out).mono ?_
    rintro e w2 ⟨rfl, hb⟩
    have R0 := row_kept R0 hb (row_lt R0)
    have BW := BW.trans (hb.mono BW.size)
    clear hb K0
    have K0 := row_cells R0
    go_wp2_with fail
    refine (lost_any _ n ww cc A k c l Hn.out (HN.out.below BW) (by omega) (by omega) HV.out.1).mono ?_
    rintro e w3 ⟨A1, c1, rfl, hO, hb⟩
    have R0 := a_lift (p := seO n A1 k c1 v 0) (row_kept R0 hb (row_lt R0))
    have BW := (BW.trans (hb.mono BW.size)).alloc (BW.trans (hb.mono BW.size)).size (seO n A1 k c1 v 0)
    have N1 := Nums.alloc hO.fls (seO n A1 k c1 v 0)
    have R1 := a_new w3 (seO n A1 k c1 v 0)
    clear hb K0 hO
    have K1 := row_cells R1
    go_wp2_with fail
    refine (lost_any _ n v 0 A1 k c1 l Hn.out N1 (by omega) (by omega) HV.out.2.1).mono ?_
    rintro e w4 ⟨A2, c2, rfl, hO, hb⟩
    have R0 := row_kept R0 hb (row_lt R0)
    have R1 := row_kept R1 hb (row_lt R1)
    have N1 := Nums.below N1 hb
    have BW := BW.trans (hb.mono BW.size)
    clear hb K1
    go_wp2_with fail
    refine (lost_any _ n v2 0 A2 k c2 l Hn.out hO.fls (by omega) (by omega) HV.out.2.2.1).mono ?_
    clear hO
    rintro e w5 ⟨A3, c3, rfl, hO, hb⟩
    have R0 := row_kept R0 hb (row_lt R0)
    have R1 := row_kept R1 hb (row_lt R1)
    have N1 := Nums.below N1 hb
    have BW := BW.trans (hb.mono BW.size)
    clear hb
    go_wp2_with fail
    refine (lost_any _ n v3 0 A3 k c3 l Hn.out hO.fls (by omega) (by omega) HV.out.2.2.2.1).mono ?_
    clear hO
    rintro e w6 ⟨A4, c4, rfl, hO, hb⟩
    have R0 := row_kept R0 hb (row_lt R0)
    have R1 := row_kept R1 hb (row_lt R1)
    have N1 := Nums.below N1 hb
    have BW := BW.trans (hb.mono BW.size)
    clear hb hO
    have K0 := fun o => row_cells (a_lift (p := o) R0)
    go_wp2_with fail
    have R0 := a_lift (p := seO n A k c 1 0) R0
    have R1 := a_lift (p := seO n A k c 1 0) R1
    have R2 := a_new w6 (seO n A k c 1 0)
    have N1 := Nums.alloc N1 (seO n A k c 1 0)
    have BW := BW.alloc BW.size (seO n A k c 1 0)
    obtain ⟨W, hW⟩ : ∃ W, w6.alloc (seO n A k c 1 0) = W := ⟨_, rfl⟩
    rw [hW] at R0 R1 R2 N1 BW
    change Code.wp _ _ _ _ (w6.alloc (seO n A k c 1 0))
    rw [hW]
    clear hW K0
    have N0 := HN.out.below BW
    have U0 : ∀ (u : Over W.heap.size W) i, u.val.cell? ⟨w.heap.size, i, none⟩ = #[.int .i64 n, .slice A k c, .int .i64 ww, .int .i64 cc][i]? := fun u => row_cells (row_kept R0 u.below (row_lt R0))
    have U1 : ∀ (u : Over W.heap.size W) i, u.val.cell? ⟨w3.heap.size, i, none⟩ = #[.int .i64 n, .slice A1 k c1, .int .i64 v, .int .i64 0][i]? := fun u => row_cells (row_kept R1 u.below (row_lt R1))
    have U2 : ∀ (u : Over W.heap.size W) i, u.val.cell? ⟨w6.heap.size, i, none⟩ = #[.int .i64 n, .slice A k c, .int .i64 1, .int .i64 0][i]? := fun u => row_cells (row_kept R2 u.below (row_lt R2))
    have hmax : ∀ W : World, (Builtin.max_ #[3, 3] 3 #[.int .i64 1, .int .i64 (ww / 2)]).run Try.prog W = .ok (.int .i64 v) W := fun W => by
      have := HV.out.1
      rcases Int.lt_or_le 1 (ww / 2) with h | h
      · simp [Builtin.max_, Builtin.max2, h]; omega
      · simp [Builtin.max_, Builtin.max2, show ¬ 1 < ww / 2 by omega]; omega
    have P := Lib.hid (And.intro (show k ≤ 1000000 by omega) (And.intro (show 0 ≤ n ∧ n ≤ 1099511627776 by omega) (And.intro (show 0 ≤ v ∧ v ≤ 1099511627776 by omega) (show 0 ≤ ww ∧ ww ≤ 1099511627776 by omega))))
    have he1 := EQ.out.1
    have hle : decide (x ≤ y) = true := decide_eq_true hxy
    have b1 : n ≤ 1099511627776 := by omega
    have b2 : v ≤ 1099511627776 := by omega
    have b3 : ww ≤ 1099511627776 := by omega
    have N0 := Lib.hid N0
    have N1 := Lib.hid (show Fls W A1 l from N1)
    refine region_class (fun u : Over W.heap.size W => u.val) ⟨W.drew, below_drewN (Below.refl _ _) 1⟩ rfl (by kernel_rfl) (by kernel_rfl) ?_
    repeat (go_big_quiet_step ((first
      | (go_at_call 14; with_reducible exact over_left (Nat.le_refl _) (send_same _ n 1 0 A k c l n 1 0 A k c l Hn.out Hn.out (N0.out.below (Over.below _)) (N0.out.below (Over.below _)) P.out.1 (r := true) (by simp)))
      | (go_at_call 17; with_reducible exact over_left (Nat.le_refl _) (room_to _ n v 0 A1 k c1 l Hn.out (N1.out.below (Over.below _)) P.out.1 P.out.2.1 P.out.2.2.1 HA.out (v := x) HV.out.2.2.2.2.1))
      | (go_at_call 17; with_reducible exact over_left (Nat.le_refl _) (room_to _ n ww cc A k c l Hn.out (N0.out.below (Over.below _)) P.out.1 P.out.2.1 P.out.2.2.2 HA.out (v := y) HV.out.2.2.2.2.2)))))
    with_reducible refine wpQuiet_nil ?_
    rintro _ ⟨⟨w7, B7⟩, rfl⟩
    go_wp2
    go_ret
    exact ⟨rfl, BW.trans (B7.mono BW.size)⟩
theorem own : ownKnob Try.prog.godebug = none := by kernel_rfl
theorem laid : laidOutB Try.prog = true := by kernel_rfl

set_option maxRecDepth 100000 in
theorem lifted (os : Os) (started : os.Started) (H : Type) (enc : TypeId × Value → H) :
    ReturnsInHanded {} Try.checked os 8 .any (Rows.sendLostsSpec.pre6 enc Try.prog Try.f8 Rows.sendLostsRow.domain false) (Rows.sendLostsSpec.post enc Try.prog Try.f8 false true false false) := by
  refine law_lifted (C := Try.checked) (B := 4) own started (by kernel_rfl) Try.func8
    (ChangeSpec.witness6 (enc := enc) (C := Try.checked) false ⟨#[], #[.agg #[.int .i64 0, .slice none 0 0, .int .i64 0, .int .i64 0]], []⟩ 8 (by kernel_rfl) (by kernel_rfl) (by kernel_rfl) (by kernel_rfl))
    rfl rfl Try.underlying4 laid (of_decide_eq_true (by kernel_rfl)) ?_ ?_
  · intro ds hl
    rw [Try.params8] at hl
    match ds, hl with
    | [d0], _ => rfl
  · intro W base args ds ps hval hA hlt hz
    rw [Try.params8] at hA hval
    obtain ⟨v0, vs0, d0, ds0, p0, q0, hargs, rfl, rfl, h0, r0⟩ := trodAll_cons hA
    obtain ⟨rfl, rfl, rfl⟩ := trodAll_nil r0
    obtain rfl : args = #[v0] := by cases args; simp_all
    obtain ⟨n0, A0, k0, c0, l0, ww0, cc0, rfl, hl0, hm0, hn0, hN0, hb0, hw0, hc0, hf0⟩ := open_send (hval 0 24 v0 rfl rfl) h0
    exact walk W n0 A0 k0 c0 l0 ww0 cc0 hl0 hm0 hn0 hN0 hb0 hw0 hc0 hf0

theorem over : Rows.sendLostsRow.holds Try.pinned (OpenSpec.ofChange Rows.sendLostsSpec) :=
  OpenClaim.holds_of_wide 8 Try.f8 rfl rfl rfl rfl rfl rfl rfl ⟨rfl, rfl, rfl, rfl, rfl⟩ rfl rfl rfl rfl rfl (by kernel_rfl) Try.func8 (by kernel_rfl)
    (of_decide_eq_true (by kernel_rfl)) (by unfold Func.isWrapper; first | (rw [if_pos (by decide +kernel)]; kernel_rfl) | (rw [if_neg (by decide +kernel)]; exact ⟨rfl, rfl⟩))
    (fun os started H enc _ => lifted os started H enc)

theorem proved : Rows.SendLostsSaid := over
#print axioms proved
end Go.Proofs.Ytcppblgoojjpgaa.sendLosts
