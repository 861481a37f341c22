/- SendFills holds for any right Send, any note, any time from 0 to 2^40: as many may be pushed as there is room, they have numbers one by one, and where all are acknowledged nothing is on its way. No condition. -/
import Derived.Test.YtcppblgoojjpgaaSendUni
import Derived.Test.YtcppblgoojjpgaaLaw
namespace Go.Proofs.Ytcppblgoojjpgaa.sendFills
open Go.ChangeShapes Go.WideShapes Go.ChangeAt Go.RowKit Go.Shelf
attribute [-go_sem] run_eql_struct run_neq_struct

theorem push_eq {n ww cc : Int} {l : List Fl} {u v x y now : Int} (hr : Sd.right ⟨n, l, ww, cc⟩ = true) (hp : 0 < Sd.room ⟨n, l, ww, cc⟩) :
    Sd.push ⟨n, l, ww, cc⟩ u v x y now = (⟨n + 1, l ++ [⟨n, u, v, x, y, now, 1⟩], ww, cc⟩, ⟨n, u, v, x, y, now, 1⟩, true) ∧ Sd.room ⟨n + 1, l ++ [⟨n, u, v, x, y, now, 1⟩], ww, cc⟩ = Sd.room ⟨n, l, ww, cc⟩ - 1 := by
  refine ⟨by unfold Sd.push; rw [if_neg (by omega)], ?_⟩
  unfold Sd.room at hp ⊢
  dsimp only at hp ⊢
  rw [List.length_append]
  cases l with
  | nil =>
    have e1 : Sd.span ⟨n, [], ww, cc⟩ = 0 := rfl
    have e2 : Sd.span ⟨n + 1, [] ++ [⟨n, u, v, x, y, now, 1⟩], ww, cc⟩ = n + 1 - n := rfl
    rw [e1] at hp ⊢
    rw [e2]
    simp only [List.length_nil, List.length_cons] at hp ⊢
    omega
  | cons f r =>
    have e1 : Sd.span ⟨n, f :: r, ww, cc⟩ = n - f.q := rfl
    have e2 : Sd.span ⟨n + 1, (f :: r) ++ [⟨n, u, v, x, y, now, 1⟩], ww, cc⟩ = n + 1 - f.q := rfl
    rw [e1] at hp ⊢
    rw [e2]
    simp only [List.length_nil, List.length_cons] at hp ⊢
    omega
theorem push_no {n ww cc : Int} {l : List Fl} {u v x y now : Int} (hp : Sd.room ⟨n, l, ww, cc⟩ = 0) : Sd.push ⟨n, l, ww, cc⟩ u v x y now = (⟨n, l, ww, cc⟩, .zero, false) := by
  unfold Sd.push
  rw [if_pos hp]
theorem acked_all {n ww cc : Int} {l : List Fl} (hr : Sd.right ⟨n, l, ww, cc⟩ = true) (now : Int) : ∃ wf cf tk, Sd.acked ⟨n, l, ww, cc⟩ (n - 1) 0 now = (⟨n, [], wf, cf⟩, tk) := by
  obtain ⟨h1, -, -, -, -⟩ := right_bd hr
  have ha := (right_all hr).2.2
  have hF : l.filter (fun x => !Sd.gone (n - 1) 0 x) = [] := by
    rw [List.filter_eq_nil_iff]
    intro x hx
    have := (ha x hx).2.1
    unfold Sd.gone
    rw [decide_eq_true (show x.q ≤ n - 1 from this)]
    simp
  unfold Sd.acked
  dsimp only
  rw [if_neg (by omega), hF]
  exact ⟨_, _, _, rfl⟩
/-- Flights that lie elsewhere than in block g. -/
def FlsN (g : Nat) (w : World) (A : Option Addr) (l : List Fl) : Prop := Fls w A l ∧ (l = [] ∨ ∀ b off, A = some ⟨b, off, none⟩ → b ≠ g)
theorem FlsN.set {g : Nat} {w : World} {A : Option Addr} {l : List Fl} {t : TypeId} {cs : Array Value} (h : FlsN g w A l) : FlsN g (setRow w g t cs) A l := by
  refine ⟨?_, h.2⟩
  rcases h.2 with rfl | h2
  · exact Or.inl rfl
  · exact Fls.setRow h.1 h2

set_option maxRecDepth 100000 in
set_option maxHeartbeats 8000000 in
theorem walk (w : World) (n : Int) (A : Option Addr) (k c : Nat) (l : List Fl) (ww cc : Int) (hl : k ≤ c) (hm : c ≤ maxLen) (hn : l.length = k) (hN : Fls w A l) (hb : -9223372036854775808 ≤ n ∧ n ≤ 9223372036854775807) (hw : -9223372036854775808 ≤ ww ∧ ww ≤ 9223372036854775807) (hc : -9223372036854775808 ≤ cc ∧ cc ≤ 9223372036854775807) (hf : ∀ f ∈ l, f.wf) (u v x y : Int) (now : Int) (wn : (Lit.int .i64 now).wf = true) :
    Calls Try.prog 10 #[.agg #[.int .i64 n, .slice A k c, .int .i64 ww, .int .i64 cc], noteV u v x y, .int .i64 now] w fun e w' => e = .returned (.bool true) ∧ Below w.heap.size w w' := by
  unfold maxLen at hm
  have z0 := zero_send
  have z1 := zero_fl
  have Hn := Lib.hid hn
  have HN := Lib.hid hN
  have R0 := a_lift (p := nO u v x y) (a_new w (seO n A k c ww cc))
  have R4 := a_new2 w (seO n A k c ww cc) (nO u v x y)
  have BW := below_alloc2 w (seO n A k c ww cc) (nO u v x y)
  have HNb := Lib.hid (show l = [] ∨ ∀ b off, A = some ⟨b, off, none⟩ → b < w.heap.size by
    rcases hN with h | ⟨b, off, rfl, h, -⟩
    · exact Or.inl (List.eq_nil_of_length_eq_zero (by have := flf_len l; rw [h] at this; simp at this; omega))
    · exact Or.inr fun b' off' e => by injection e with e; injection e with e _; omega)
  clear hn hN hb hw hc hf wn
  obtain ⟨r, hr⟩ : ∃ r, Sd.right ⟨n, l, ww, cc⟩ = r := ⟨_, rfl⟩
  have HR := Lib.hid hr
  by_cases hgood : r = true ∧ 0 ≤ now ∧ now ≤ 1099511627776
  · obtain ⟨rfl, n0, n1⟩ := hgood
    obtain ⟨h1, h2, h3, h4, h5⟩ := right_bd hr
    have h8 : k ≤ 8 := by rw [← Hn.out]; exact h4
    have hrb := room_bd _ hr
    obtain ⟨q, hq⟩ : ∃ q : Nat, Sd.room ⟨n, l, ww, cc⟩ = q := ⟨(Sd.room ⟨n, l, ww, cc⟩).toNat, by omega⟩
    have HQ := Lib.hid hq
    have q8 : q ≤ 8 := by omega
    have hqn : n + q ≤ 1073741824 := by
      have := hq
      unfold Sd.room at this
      dsimp only at this
      omega
    clear hr h5 h4 hrb hq
    have d0 : decide (now < 0) = false := decide_eq_false (by omega)
    have d1 : decide (1099511627776 < now) = false := decide_eq_false (by omega)
    go_enter Try.func10, Try.ntmps10
    go_wp2_with fail
    refine (small_any _).mono ?_
    rintro e w1 ⟨rfl, hb⟩
    have R0 := row_kept R0 hb (row_lt R0)
    have R4 := row_kept R4 hb (row_lt R4)
    have BW := BW.trans (hb.mono BW.size)
    have K0 := row_cells R0
    clear hb
    go_wp2_with fail
    refine (right_to _ n ww cc A k c l Hn.out (HN.out.below BW) (by omega) HR.out).mono ?_
    rintro e w2 ⟨rfl, hb⟩
    have R0 := row_kept R0 hb (row_lt R0)
    have R4 := row_kept R4 hb (row_lt R4)
    have BW := BW.trans (hb.mono BW.size)
    clear hb K0
    have K0 := row_cells R0
    go_wp2_with fail
    refine (room_right HR.out Hn.out (HN.out.below BW) HQ.out).mono ?_
    rintro e w3 ⟨rfl, hb⟩
    have R0 := row_kept R0 hb (row_lt R0)
    have R4 := row_kept R4 hb (row_lt R4)
    have BW := BW.trans (hb.mono BW.size)
    clear hb K0
    have K0 := row_cells R0
    have R0' := a_lift (p := seO n A k c ww cc) R0
    have R4' := a_lift (p := seO n A k c ww cc) R4
    have R9 := a_new w3 (seO n A k c ww cc)
    have BW9 := BW.alloc BW.size (seO n A k c ww cc)
    have hg0 : w.heap.size < w3.heap.size := row_lt R0
    have N9 : FlsN w3.heap.size (w3.alloc (seO n A k c ww cc)) A l := ⟨HN.out.below BW9, by
      rcases HNb.out with h | h
      · exact Or.inl h
      · exact Or.inr fun b off e => by have := h b off e; omega⟩
    have H9 := Lib.hid (And.intro R0' (And.intro R4' (And.intro R9 (And.intro BW9 N9))))
    clear R0 R4 BW R0' R4' R9 BW9 N9
    go_wp2
    clear K0
    go_loopw [10] (fun i wr => ∃ (j : Nat) (nj : Int) (kj : Nat) (L : List Fl) (A' : Option Addr) (c' : Nat), j ≤ q ∧ i = .int .i64 j ∧ Hid (nj = n + j ∧ kj = k + j) ∧ Hid (Sd.right ⟨nj, L, ww, cc⟩ = true) ∧ Hid (Sd.room ⟨nj, L, ww, cc⟩ = (q : Int) - j) ∧ Hid (L.length = kj) ∧ wr.heap[w.heap.size]? = some (seO n A k c ww cc) ∧ wr.heap[w.heap.size + 1]? = some (nO u v x y) ∧ wr.heap[w3.heap.size]? = some (seO nj A' kj c' ww cc) ∧ Hid (FlsN w3.heap.size wr A' L) ∧ Below w.heap.size w wr) (fun i _ => q - (intOf i).toNat)
    case atStart =>
      obtain ⟨R0, R4, R9, BW, N9⟩ := H9.out
      exact ⟨0, n, k, l, A, c, Nat.zero_le _, rfl, (⟨by omega, by omega⟩ : n = n + ((0 : Nat) : Int) ∧ k = k + 0), HR, (by rw [HQ.out]; omega : Sd.room ⟨n, l, ww, cc⟩ = (q : Int) - ((0 : Nat) : Int)), Hn, R0, R4, R9, N9, BW⟩
    case round =>
      obtain ⟨j, nj, kj, L, A', c', hj, rfl, HJ, HRj, HQj, HLj, R0, R4, R9, HNj, BW⟩ := hrel
      obtain ⟨rfl, rfl⟩ := HJ.out
      have K0 := row_cells R0
      have K4 := row_cells R4
      have K9 := row_cells R9
      by_cases hjq : j < q
      · obtain ⟨p1, p2⟩ := push_eq (u := u) (v := v) (x := x) (y := y) (now := now) HRj.out (by rw [HQj.out]; omega)
        have p3 := push_right (u := u) (v := v) (x := x) (y := y) (now := now) HRj.out ⟨n0, n1⟩
        rw [p1] at p3
        have P1 := Lib.hid p1
        have P4 := Lib.hid (show (L ++ [(⟨n + j, u, v, x, y, now, 1⟩ : Fl)]).length = k + j + 1 by rw [List.length_append, HLj.out]; rfl)
        have P2 := Lib.hid (And.intro p2 p3)
        clear p1 p2 p3
        have q1 : (j : Int) < (q : Int) := by omega
        go_wp2_with fail
        refine (push_to HRj.out HLj.out HNj.out.1 P1.out P4.out).mono ?_
        rintro e w4 ⟨A2, c2, rfl, hO, hb⟩
        have R0 := alloc2 (row_kept R0 hb (row_lt R0)) (seO (n + j + 1) A2 (k + j + 1) c2 ww cc) (flO (n + j) u v x y now 1)
        have R4 := alloc2 (row_kept R4 hb (row_lt R4)) (seO (n + j + 1) A2 (k + j + 1) c2 ww cc) (flO (n + j) u v x y now 1)
        have hg9 := row_lt R9
        have hOb : ∀ b off, A2 = some ⟨b, off, none⟩ → b ≠ w3.heap.size := fun b off e => by have := (hO.block' e).1; simp only at this; omega
        have R9 := alloc2 (row_kept R9 hb (row_lt R9)) (seO (n + j + 1) A2 (k + j + 1) c2 ww cc) (flO (n + j) u v x y now 1)
        have BW := (BW.trans (hb.mono BW.size)).trans ((below_alloc2 w4 (seO (n + j + 1) A2 (k + j + 1) c2 ww cc) (flO (n + j) u v x y now 1)).mono (BW.trans (hb.mono BW.size)).size)
        have N2 : FlsN w3.heap.size _ A2 _ := ⟨Fls.alloc2 hO.fls (seO (n + j + 1) A2 (k + j + 1) c2 ww cc) (flO (n + j) u v x y now 1), Or.inr hOb⟩
        clear K0 K4 K9 hb hO hOb
        have K11 := row_cells (a_lift (p := flO (n + j) u v x y now 1) (a_new w4 (seO (n + j + 1) A2 (k + j + 1) c2 ww cc)))
        have K12 := row_cells (a_new2 w4 (seO (n + j + 1) A2 (k + j + 1) c2 ww cc) (flO (n + j) u v x y now 1))
        have K0 := row_cells R0
        obtain ⟨s0, s1, x0, x1, f0, f1, sz⟩ := rows1 R9
        have hne0 : w.heap.size ≠ w3.heap.size := by omega
        have hne4 : w.heap.size + 1 ≠ w3.heap.size := fun e => by
          rw [e] at R4
          rw [R4] at R9
          injection R9 with R9
          injection R9 with _ h
          exact absurd h (by decide)
        have F0 := (setRow_far (t := seT) (cs := #[.int .i64 (n + j + 1), .slice A2 (k + j + 1) c2, .int .i64 ww, .int .i64 cc]) hne0).trans R0
        have F4 := (setRow_far (t := seT) (cs := #[.int .i64 (n + j + 1), .slice A2 (k + j + 1) c2, .int .i64 ww, .int .i64 cc]) hne4).trans R4
        have F9 := setRow_row (t := seT) (cs := #[.int .i64 (n + j + 1), .slice A2 (k + j + 1) c2, .int .i64 ww, .int .i64 cc]) (row_lt R9)
        have FN := N2.set (t := seT) (cs := #[.int .i64 (n + j + 1), .slice A2 (k + j + 1) c2, .int .i64 ww, .int .i64 cc])
        have FB := setRow_below (g := w3.heap.size) (t := seT) (cs := #[.int .i64 (n + j + 1), .slice A2 (k + j + 1) c2, .int .i64 ww, .int .i64 cc]) BW (by omega)
        have HFIN := Lib.hid (And.intro F0 (And.intro F4 (And.intro F9 (And.intro FN FB))))
        clear F0 F4 F9 FN FB R0 R4 R9 BW N2 hne0 hne4 hg9
        go_wp2
        go_roundw
        case rel =>
          obtain ⟨F0, F4, F9, FN, FB⟩ := HFIN.out
          exact ⟨j + 1, n + j + 1, k + j + 1, _, A2, c2, by omega, by go_num, (⟨by omega, by omega⟩ : n + j + 1 = n + ((j + 1 : Nat) : Int) ∧ k + j + 1 = k + (j + 1)), P2.out.2, (by have := P2.out.1; rw [HQj.out] at this; rw [this]; omega : Sd.room _ = (q : Int) - ((j + 1 : Nat) : Int)), P4.out, F0, F4, F9, FN, FB⟩
        case measure => simp [intOf]; omega
      · obtain rfl : j = q := by omega
        have p1 := push_no (u := u) (v := v) (x := x) (y := y) (now := now) (show Sd.room ⟨n + j, L, ww, cc⟩ = 0 by rw [HQj.out]; omega)
        obtain ⟨wf, cf, tk, p2⟩ := acked_all HRj.out now
        have P1 := Lib.hid p1
        have P2 := Lib.hid p2
        clear p1 p2
        go_wp2_with fail
        refine (push_to HRj.out HLj.out HNj.out.1 P1.out HLj.out).mono ?_
        rintro e w4 ⟨A2, c2, rfl, -, hb⟩
        have R0 := alloc2 (row_kept R0 hb (row_lt R0)) (seO (n + j) A2 (k + j) c2 ww cc) (flO Fl.zero.q Fl.zero.u Fl.zero.v Fl.zero.s Fl.zero.c Fl.zero.a Fl.zero.t)
        have R9 := alloc2 (row_kept R9 hb (row_lt R9)) (seO (n + j) A2 (k + j) c2 ww cc) (flO Fl.zero.q Fl.zero.u Fl.zero.v Fl.zero.s Fl.zero.c Fl.zero.a Fl.zero.t)
        have BW := (BW.trans (hb.mono BW.size)).trans ((below_alloc2 w4 (seO (n + j) A2 (k + j) c2 ww cc) (flO Fl.zero.q Fl.zero.u Fl.zero.v Fl.zero.s Fl.zero.c Fl.zero.a Fl.zero.t)).mono (BW.trans (hb.mono BW.size)).size)
        have N2 : Fls _ A' L := Fls.alloc2 (HNj.out.1.below hb) (seO (n + j) A2 (k + j) c2 ww cc) (flO Fl.zero.q Fl.zero.u Fl.zero.v Fl.zero.s Fl.zero.c Fl.zero.a Fl.zero.t)
        clear K0 K4 K9 hb
        have K9 := row_cells R9
        go_wp2_with fail
        refine (acked_to HRj.out HLj.out N2 ⟨n0, n1⟩ P2.out (k' := 0) rfl).mono ?_
        rintro e w5 ⟨A3, c3, rfl, -, hb⟩
        have R0 := a_lift (p := seO (n + j) A3 0 c3 wf cf) (row_kept R0 hb (row_lt R0))
        have R9 := a_lift (p := seO (n + j) A3 0 c3 wf cf) (row_kept R9 hb (row_lt R9))
        have R17 := a_new w5 (seO (n + j) A3 0 c3 wf cf)
        have N3 : Fls _ A' L := Nums.alloc (N2.below hb) (seO (n + j) A3 0 c3 wf cf)
        have BW := (BW.trans (hb.mono BW.size)).alloc (BW.trans (hb.mono BW.size)).size (seO (n + j) A3 0 c3 wf cf)
        clear K9 hb
        have K9 := row_cells R9
        go_wp2_with fail
        refine (room_right HRj.out HLj.out N3 (v := 0) (by rw [HQj.out]; omega)).mono ?_
        rintro e w6 ⟨rfl, hb⟩
        have R0 := row_kept R0 hb (row_lt R0)
        have R9 := row_kept R9 hb (row_lt R9)
        have R17 := row_kept R17 hb (row_lt R17)
        have BW := BW.trans (hb.mono BW.size)
        clear K9 hb
        have K0 := row_cells R0
        have K9 := row_cells R9
        have K17 := row_cells R17
        go_wp2
        go_ret
        exact ⟨rfl, BW⟩
  · have h3 : r = false ∨ (r = true ∧ now < 0) ∨ (r = true ∧ 0 ≤ now ∧ 1099511627776 < now) := by
      cases r
      · exact Or.inl rfl
      · simp at hgood ⊢; omega
    clear hgood hr
    rcases h3 with rfl | ⟨rfl, n0⟩ | ⟨rfl, n0, n1⟩
    all_goals
      go_enter Try.func10, Try.ntmps10
      go_wp2_with fail
      refine (small_any _).mono ?_
      rintro e w1 ⟨rfl, hb⟩
      have R0 := row_kept R0 hb (row_lt R0)
      have BW := BW.trans (hb.mono BW.size)
      have K0 := row_cells R0
      clear hb
      go_wp2_with fail
      refine (right_to _ n ww cc A k c l Hn.out (HN.out.below BW) (by omega) HR.out).mono ?_
      rintro e w2 ⟨rfl, hb⟩
      go_wp2_with fail
      go_ret
      exact ⟨rfl, BW.trans (hb.mono BW.size)⟩
theorem own : ownKnob Try.prog.godebug = none := by kernel_rfl
theorem laid : laidOutB Try.prog = true := by kernel_rfl

set_option maxRecDepth 100000 in
theorem lifted (os : Os) (started : os.Started) (H : Type) (enc : TypeId × Value → H) :
    ReturnsInHanded {} Try.checked os 10 .any (Rows.sendFillsSpec.pre6 enc Try.prog Try.f10 Rows.sendFillsRow.domain false) (Rows.sendFillsSpec.post enc Try.prog Try.f10 false true false false) := by
  refine law_lifted (C := Try.checked) (B := 4) own started (by kernel_rfl) Try.func10
    (ChangeSpec.witness6 (enc := enc) (C := Try.checked) false ⟨#[], #[.agg #[.int .i64 0, .slice none 0 0, .int .i64 0, .int .i64 0], .agg #[.int .i64 0, .int .i64 0, .int .i64 0, .int .i64 0], .int .i64 0], []⟩ 8 (by kernel_rfl) (by kernel_rfl) (by kernel_rfl) (by kernel_rfl))
    rfl rfl Try.underlying4 laid (of_decide_eq_true (by kernel_rfl)) ?_ ?_
  · intro ds hl
    rw [Try.params10] at hl
    match ds, hl with
    | [d0, d1, d2], _ => rfl
  · intro W base args ds ps hval hA hlt hz
    rw [Try.params10] at hA hval
    obtain ⟨v0, vs0, d0, ds0, p0, q0, hargs, rfl, rfl, h0, r0⟩ := trodAll_cons hA
    obtain ⟨v1, vs1, d1, ds1, p1, q1, rfl, rfl, rfl, h1, r1⟩ := trodAll_cons r0
    obtain ⟨v2, vs2, d2, ds2, p2, q2, rfl, rfl, rfl, h2, r2⟩ := trodAll_cons r1
    obtain ⟨rfl, rfl, rfl⟩ := trodAll_nil r2
    obtain rfl : args = #[v0, v1, v2] := by cases args; simp_all
    obtain ⟨n0, A0, k0, c0, l0, ww0, cc0, rfl, hl0, hm0, hn0, hN0, hb0, hw0, hc0, hf0⟩ := open_send (hval 0 24 v0 rfl rfl) h0
    obtain ⟨a1, b1, c1, e1, rfl⟩ := open_note (hval 1 30 v1 rfl rfl) h1
    obtain ⟨a2, rfl, rfl, rfl, w2⟩ := open_int Try.underlying3 (hval 2 3 v2 rfl rfl) h2
    exact walk W n0 A0 k0 c0 l0 ww0 cc0 hl0 hm0 hn0 hN0 hb0 hw0 hc0 hf0 a1 b1 c1 e1 a2 w2

theorem over : Rows.sendFillsRow.holds Try.pinned (OpenSpec.ofChange Rows.sendFillsSpec) :=
  OpenClaim.holds_of_wide 10 Try.f10 rfl rfl rfl rfl rfl rfl rfl ⟨rfl, rfl, rfl, rfl, rfl⟩ rfl rfl rfl rfl rfl (by kernel_rfl) Try.func10 (by kernel_rfl)
    (of_decide_eq_true (by kernel_rfl)) (by unfold Func.isWrapper; first | (rw [if_pos (by decide +kernel)]; kernel_rfl) | (rw [if_neg (by decide +kernel)]; exact ⟨rfl, rfl⟩))
    (fun os started H enc _ => lifted os started H enc)

theorem proved : Rows.SendFillsSaid := over
#print axioms proved
end Go.Proofs.Ytcppblgoojjpgaa.sendFills
