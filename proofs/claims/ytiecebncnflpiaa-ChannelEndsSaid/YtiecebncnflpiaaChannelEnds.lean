/- ChannelEnds holds for any right channel, any two times from 0 to 2^40: a channel of which all is acknowledged is idle, sends nothing again, and has room. No condition. -/
import Derived.Test.YtiecebncnflpiaaOpen12
import Derived.Test.YtiecebncnflpiaaLaw
namespace Go.Proofs.Ytiecebncnflpiaa.channelEnds
open Go.ChangeShapes Go.WideShapes Go.ChangeAt Go.RowKit Go.Shelf
open sendUni2
attribute [-go_sem] run_eql_struct run_neq_struct

theorem room_nil {n wf cf : Int} (h : Sd.right ⟨n, [], wf, cf⟩ = true) : Sd.room ⟨n, [], wf, cf⟩ = (if 1073741824 - n < wf then 1073741824 - n else wf) := by
  obtain ⟨h1, h2, h3, h4, h5⟩ := right_bd h
  unfold Sd.room
  have : Sd.span ⟨n, [], wf, cf⟩ = 0 := rfl
  dsimp only [List.length_nil]
  rw [this]
  split <;> omega
theorem tick_nil {n wf cf : Int} {e : Rtt} (later : Int) : Ch.tick ⟨⟨n, [], wf, cf⟩, e⟩ later 100 = (⟨⟨n, [], wf, cf⟩, e⟩, []) := by
  unfold Ch.tick
  dsimp only
  rw [if_pos (Or.inl (show Sd.due ([] : List Fl) later e.rto = [] from rfl))]

set_option maxRecDepth 100000 in
set_option maxHeartbeats 8000000 in
theorem walk (w : World) (n : Int) (A : Option Addr) (k c : Nat) (l : List Fl) (ww cc s v r f : Int) (h : Bool) (hl : k ≤ c) (hm : c ≤ maxLen) (hn : l.length = k) (hN : Fls w A l) (now : Int) (w1' : (Lit.int .i64 now).wf = true) (later : Int) (w2' : (Lit.int .i64 later).wf = true) :
    Calls Try.prog 5 #[chV n A k c ww cc s v r f h, .int .i64 now, .int .i64 later] w fun e w' => e = .returned (.bool true) ∧ Below w.heap.size w w' := by
  unfold maxLen at hm
  have zc := zero_chan
  have z1 := zero_fl
  have Hn := Lib.hid hn
  have HN := Lib.hid hN
  obtain ⟨W0, hW0⟩ : ∃ V, w.alloc (chO n A k c ww cc s v r f h) = V := ⟨_, rfl⟩
  have R0 : W0.heap[w.heap.size]? = some (chO n A k c ww cc s v r f h) := by rw [← hW0]; exact a_new w _
  have BW : Below w.heap.size w W0 := by rw [← hW0]; exact (Below.refl _ _).alloc (Nat.le_refl _) _
  clear hn hN w1' w2'
  obtain ⟨x, hx⟩ : ∃ x, (Sd.right ⟨n, l, ww, cc⟩ && Rtt.right ⟨s, v, r, f, h⟩) = x := ⟨_, rfl⟩
  have HX := Lib.hid hx
  by_cases hgood : x = true ∧ 0 ≤ now ∧ now ≤ 1099511627776 ∧ 0 ≤ later ∧ later ≤ 1099511627776
  · obtain ⟨rfl, n0, n1, n2, n3⟩ := hgood
    rw [Bool.and_eq_true] at hx
    obtain ⟨hr, hR⟩ := hx
    obtain ⟨h1, h2, h3, h4, h5⟩ := right_bd hr
    have h8 : k ≤ 8 := by rw [← Hn.out]; exact h4
    obtain ⟨wf, cf, tk, hp⟩ := acked_all hr now
    obtain ⟨g1, g2, -, -⟩ := acked_right hr (n - 1) 0 now
    rw [hp] at g1 g2
    dsimp only at g1 g2
    obtain ⟨k1, k2, k3, k4, k5⟩ := right_bd g1
    obtain ⟨s', v', r', f', h', he⟩ : ∃ s' v' r' f' h', (if tk = -1 then (⟨s, v, r, f, h⟩ : Rtt) else Rtt.sample ⟨s, v, r, f, h⟩ tk) = ⟨s', v', r', f', h'⟩ := ⟨_, _, _, _, _, rfl⟩
    have hR' : Rtt.right ⟨s', v', r', f', h'⟩ = true := by
      rw [← he]
      split
      · exact hR
      · exact Rtt.ok_right (Rtt.sample_ok _ _)
    have HR := Lib.hid hr
    have HP := Lib.hid hp
    have HE := Lib.hid he
    have HRd := Lib.hid g1
    have HRt := Lib.hid hR'
    have HTK := Lib.hid (tick_nil (n := n) (wf := wf) (cf := cf) (e := ⟨s', v', r', f', h'⟩) later)
    have hrm := room_nil g1
    obtain ⟨rv, hrv⟩ : ∃ rv, Sd.room ⟨n, [], wf, cf⟩ = rv := ⟨_, rfl⟩
    rw [hrv] at hrm
    have HRV := Lib.hid hrv
    have hsub : IntKind.i64.wrap (1073741824 - n) = 1073741824 - n := IntWalk.i64_in _ (by omega)
    have hmin : ∀ W : World, (Builtin.min_ #[3, 3] 3 #[.int .i64 wf, .int .i64 (1073741824 - n)]).run Try.prog W = .ok (.int .i64 rv) W := fun W => by
      rw [hrm]
      by_cases h : 1073741824 - n < wf
      · simp [Builtin.min_, Builtin.min2, h]
      · simp [Builtin.min_, Builtin.min2, h]
    have hge : decide (ww ≤ wf) = true := decide_eq_true g2
    have HMM := Lib.hid (And.intro hsub (And.intro hmin hge))
    clear hr hR hp he g1 hR' hrm hrv h5 h4 k5 k4 hsub hmin hge
    have d0 : decide (now < 0) = false := decide_eq_false (by omega)
    have d1 : decide (1099511627776 < now) = false := decide_eq_false (by omega)
    have d2 : decide (later < 0) = false := decide_eq_false (by omega)
    have d3 : decide (1099511627776 < later) = false := decide_eq_false (by omega)
    go_enter Try.func5, Try.ntmps5
    go_wp2_with fail
    refine (small_any _).mono ?_
    rintro e w1 ⟨rfl, hb⟩
    have R0 := row_kept R0 hb (row_lt R0)
    have BW := BW.trans (hb.mono BW.size)
    have K0 := row_cells R0
    clear hb
    go_wp2_with fail
    refine (chright_to Hn.out (HN.out.below BW) (by omega) HX.out).mono ?_
    rintro e w2 ⟨rfl, hb⟩
    have R0 := row_kept R0 hb (row_lt R0)
    have BW := BW.trans (hb.mono BW.size)
    clear hb K0
    have K0 := row_cells R0
    go_wp2_with fail
    refine (chack_to HR.out Hn.out (HN.out.below BW) ⟨n0, n1⟩ HP.out (k' := 0) rfl HE.out).mono ?_
    rintro e w3 ⟨A1, c1, rfl, hO, hb⟩
    have R0 := a_lift (p := chO n A1 0 c1 wf cf s' v' r' f' h') (row_kept R0 hb (row_lt R0))
    have BW := (BW.trans (hb.mono BW.size)).alloc (BW.trans (hb.mono BW.size)).size (chO n A1 0 c1 wf cf s' v' r' f' h')
    have N1 : Fls _ A1 [] := Nums.alloc hO.fls (chO n A1 0 c1 wf cf s' v' r' f' h')
    have R8 := a_new w3 (chO n A1 0 c1 wf cf s' v' r' f' h')
    clear hb K0 hO
    have K8 := row_cells R8
    go_wp2_with fail
    refine (tick_to HRd.out HRt.out (k := 0) rfl N1 ⟨n2, n3⟩ HTK.out (k' := 0) rfl (m := 0) rfl).mono ?_
    rintro e w4 ⟨A2, c2, B2, d2', rfl, ⟨hO, -⟩, hb⟩
    have R0 := a_lift (p := chO n A2 0 c2 wf cf s' v' r' f' h') (row_kept R0 hb (row_lt R0))
    have R8 := a_lift (p := chO n A2 0 c2 wf cf s' v' r' f' h') (row_kept R8 hb (row_lt R8))
    have BW := (BW.trans (hb.mono BW.size)).alloc (BW.trans (hb.mono BW.size)).size (chO n A2 0 c2 wf cf s' v' r' f' h')
    have N1 : Fls _ A1 [] := Nums.alloc (Nums.below N1 hb) (chO n A2 0 c2 wf cf s' v' r' f' h')
    have N2 : Fls _ A2 [] := Nums.alloc hO.fls (chO n A2 0 c2 wf cf s' v' r' f' h')
    have R9 := a_new w4 (chO n A2 0 c2 wf cf s' v' r' f' h')
    clear hb K8 hO
    obtain ⟨W, hW⟩ : ∃ W, w4.alloc (chO n A2 0 c2 wf cf s' v' r' f' h') = W := ⟨_, rfl⟩
    rw [hW] at R0 R8 R9 N1 N2 BW
    go_wp2_with fail
    clear hW
    have U0 : ∀ (u : Over W.heap.size W) i, u.val.cell? ⟨w.heap.size, i, none⟩ = #[.int .i64 n, .slice A k c, .int .i64 ww, .int .i64 cc, .int .i64 s, .int .i64 v, .int .i64 r, .int .i64 f, .bool h][i]? := fun u => row_cells (row_kept R0 u.below (row_lt R0))
    have U8 : ∀ (u : Over W.heap.size W) i, u.val.cell? ⟨w3.heap.size, i, none⟩ = #[.int .i64 n, .slice A1 0 c1, .int .i64 wf, .int .i64 cf, .int .i64 s', .int .i64 v', .int .i64 r', .int .i64 f', .bool h'][i]? := fun u => row_cells (row_kept R8 u.below (row_lt R8))
    have U9 : ∀ (u : Over W.heap.size W) i, u.val.cell? ⟨w4.heap.size, i, none⟩ = #[.int .i64 n, .slice A2 0 c2, .int .i64 wf, .int .i64 cf, .int .i64 s', .int .i64 v', .int .i64 r', .int .i64 f', .bool h'][i]? := fun u => row_cells (row_kept R9 u.below (row_lt R9))
    have N1 := Lib.hid N1
    have N2 := Lib.hid N2
    have L0 := Lib.hid (show ([] : List Fl).length = 0 from rfl)
    have P1 := Lib.hid (show 0 ≤ 1000000 by decide)
    have D0 := Lib.hid (show decide (0 = 0) = true from rfl)
    have HSM := Lib.hid (show decide ((s' = s' ∧ v' = v' ∧ r' = r' ∧ f' = f' ∧ h' = h') ∧ n = n ∧ wf = wf ∧ cf = cf ∧ ([] : List Fl) = []) = true by simp)
    obtain ⟨hsub, hmin, hge⟩ := HMM.out
    try simp only [List.append_eq, List.cons_append, List.nil_append]
    refine region_class (fun u : Over W.heap.size W => u.val) ⟨W.drew, below_drewN (Below.refl _ _) 1⟩ rfl (by kernel_rfl) (by kernel_rfl) ?_
    repeat (go_big_quiet_step ((first
      | (go_at_call 12; with_reducible exact over_left (Nat.le_refl _) (chsame_to L0.out L0.out (N2.out.below (Over.below _)) (N1.out.below (Over.below _)) P1.out HSM.out))
      | (go_at_call 17; with_reducible exact over_left (Nat.le_refl _) (chidle_to D0.out))
      | (go_at_call 15; with_reducible exact over_left (Nat.le_refl _) (chroom_to HRd.out L0.out (N1.out.below (Over.below _)) HRV.out)))))
    with_reducible refine wpQuiet_nil ?_
    rintro _ ⟨⟨w7, B7⟩, rfl⟩
    clear hsub hmin hge
    go_wp2
    go_ret
    exact ⟨rfl, BW.trans (B7.mono BW.size)⟩
  · have h3 : x = false ∨ (x = true ∧ now < 0) ∨ (x = true ∧ 0 ≤ now ∧ 1099511627776 < now) ∨ (x = true ∧ 0 ≤ now ∧ now ≤ 1099511627776 ∧ later < 0) ∨ (x = true ∧ 0 ≤ now ∧ now ≤ 1099511627776 ∧ 0 ≤ later ∧ 1099511627776 < later) := by
      cases x
      · exact Or.inl rfl
      · simp at hgood ⊢; omega
    clear hgood hx
    rcases h3 with rfl | ⟨rfl, n0⟩ | ⟨rfl, n0, n1⟩ | ⟨rfl, n0, n1, n2⟩ | ⟨rfl, n0, n1, n2, n3⟩
    all_goals
      go_enter Try.func5, Try.ntmps5
      go_wp2_with fail
      refine (small_any _).mono ?_
      rintro e w1 ⟨rfl, hb⟩
      have R0 := row_kept R0 hb (row_lt R0)
      have BW := BW.trans (hb.mono BW.size)
      have K0 := row_cells R0
      clear hb
      go_wp2_with fail
      refine (chright_to Hn.out (HN.out.below BW) (by omega) HX.out).mono ?_
      rintro e w2 ⟨rfl, hb⟩
      go_wp2_with fail
      go_ret
      exact ⟨rfl, BW.trans (hb.mono BW.size)⟩
theorem own : ownKnob Try.prog.godebug = none := by kernel_rfl
theorem laid : laidOutB Try.prog = true := by kernel_rfl

set_option maxRecDepth 100000 in
theorem lifted (os : Os) (started : os.Started) (H : Type) (enc : TypeId × Value → H) :
    ReturnsInHanded {} Try.checked os 5 .any (Rows.channelEndsSpec.pre6 enc Try.prog Try.f5 Rows.channelEndsRow.domain false) (Rows.channelEndsSpec.post enc Try.prog Try.f5 false true false false) := by
  refine law_lifted (C := Try.checked) (B := 4) own started (by kernel_rfl) Try.func5
    (ChangeSpec.witness6 (enc := enc) (C := Try.checked) false ⟨#[], #[.agg #[.int .i64 0, .slice none 0 0, .int .i64 0, .int .i64 0, .int .i64 0, .int .i64 0, .int .i64 0, .int .i64 0, .bool false], .int .i64 0, .int .i64 0], []⟩ 8 (by kernel_rfl) (by kernel_rfl) (by kernel_rfl) (by kernel_rfl))
    rfl rfl Try.underlying4 laid (of_decide_eq_true (by kernel_rfl)) ?_ ?_
  · intro ds hl
    rw [Try.params5] at hl
    match ds, hl with
    | [d0, d1, d2], _ => rfl
  · intro W base args ds ps hval hA hlt hz
    rw [Try.params5] at hA hval
    obtain ⟨v0, vs0, d0, ds0, p0, q0, hargs, rfl, rfl, h0, r0⟩ := trodAll_cons hA
    obtain ⟨v1, vs1, d1, ds1, p1, q1, rfl, rfl, rfl, h1, r1⟩ := trodAll_cons r0
    obtain ⟨v2, vs2, d2, ds2, p2, q2, rfl, rfl, rfl, h2, r2⟩ := trodAll_cons r1
    obtain ⟨rfl, rfl, rfl⟩ := trodAll_nil r2
    obtain rfl : args = #[v0, v1, v2] := by cases args; simp_all
    obtain ⟨n0, A0, k0, c0, l0, ww0, cc0, sx0, ux0, rx0, fx0, gx0, rfl, hl0, hm0, hn0, hN0⟩ := open_chan (hval 0 28 v0 rfl rfl) h0
    obtain ⟨a1, rfl, rfl, rfl, w1⟩ := open_int Try.underlying3 (hval 1 3 v1 rfl rfl) h1
    obtain ⟨a2, rfl, rfl, rfl, w2⟩ := open_int Try.underlying3 (hval 2 3 v2 rfl rfl) h2
    exact walk W n0 A0 k0 c0 l0 ww0 cc0 sx0 ux0 rx0 fx0 gx0 hl0 hm0 hn0 hN0 a1 w1 a2 w2

theorem over : Rows.channelEndsRow.holds Try.pinned (OpenSpec.ofChange Rows.channelEndsSpec) :=
  OpenClaim.holds_of_wide 5 Try.f5 rfl rfl rfl rfl rfl rfl rfl ⟨rfl, rfl, rfl, rfl, rfl⟩ rfl rfl rfl rfl rfl (by kernel_rfl) Try.func5 (by kernel_rfl)
    (of_decide_eq_true (by kernel_rfl)) (by unfold Func.isWrapper; first | (rw [if_pos (by decide +kernel)]; kernel_rfl) | (rw [if_neg (by decide +kernel)]; exact ⟨rfl, rfl⟩))
    (fun os started H enc _ => lifted os started H enc)

theorem proved : Rows.ChannelEndsSaid := over
#print axioms proved
end Go.Proofs.Ytiecebncnflpiaa.channelEnds
