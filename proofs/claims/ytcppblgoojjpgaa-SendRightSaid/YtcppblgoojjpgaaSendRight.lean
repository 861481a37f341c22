/- SendRight holds for any right Send, any acts, at times from 0 to 2^40: what is right stays right, no more are on their way than 8, and none is pushed beyond Cwnd, each has a number of its own, and the next one's rises just by what is pushed. No condition. -/
import Derived.Test.YtcppblgoojjpgaaSendUni2
import Derived.Test.YtcppblgoojjpgaaLaw
namespace Go.Proofs.Ytcppblgoojjpgaa.sendRight
open Go.ChangeShapes Go.WideShapes Go.ChangeAt Go.RowKit Go.Shelf
open sendUni2
attribute [-go_sem] run_eql_struct run_neq_struct

set_option maxRecDepth 100000 in
set_option maxHeartbeats 16000000 in
theorem walk (w : World) (n : Int) (A : Option Addr) (k c : Nat) (l : List Fl) (ww cc : Int) (hl : k ≤ c) (hm : c ≤ maxLen) (hn : l.length = k) (hN : Fls w A l) (hb : -9223372036854775808 ≤ n ∧ n ≤ 9223372036854775807) (hw : -9223372036854775808 ≤ ww ∧ ww ≤ 9223372036854775807) (hc : -9223372036854775808 ≤ cc ∧ cc ≤ 9223372036854775807) (hf : ∀ f ∈ l, f.wf)
    (B : Option Addr) (m cap : Nat) (zs : List Int) (hml : m ≤ cap) (hmc : cap ≤ maxLen) (hz : zs.length = m * 8) (hZ : Nums .i64 w B zs) :
    Calls Try.prog 4 #[.agg #[.int .i64 n, .slice A k c, .int .i64 ww, .int .i64 cc], .slice B m cap] w fun e w' => e = .returned (.bool true) ∧ Below w.heap.size w w' := by
  unfold maxLen at hm hmc
  have z0 := zero_send
  have z1 := zero_fl
  have Hn := Lib.hid hn
  have HN := Lib.hid hN
  have HZ := Lib.hid hZ
  have Hz := Lib.hid hz
  obtain ⟨W0, hW0⟩ : ∃ V, w.alloc (seO n A k c ww cc) = V := ⟨_, rfl⟩
  have R0 : W0.heap[w.heap.size]? = some (seO n A k c ww cc) := by rw [← hW0]; exact a_new w _
  have BW : Below w.heap.size w W0 := by rw [← hW0]; exact (Below.refl _ _).alloc (Nat.le_refl _) _
  have HNb := Lib.hid (show FlsN w.heap.size w A l from ⟨hN, by
    rcases hN with h | ⟨b, off, rfl, h, -⟩
    · exact Or.inl (List.eq_nil_of_length_eq_zero (by have := flf_len l; rw [h] at this; simp at this; omega))
    · exact Or.inr fun b' off' e => by injection e with e; injection e with e _; omega⟩)
  have HZb := Lib.hid (show ∀ w' : World, Below w.heap.size w w' → Nums .i64 w' B zs from fun w' h => hZ.below h)
  clear hn hN hb hw hc hf hZ hz
  by_cases h200 : 200 < m
  · have h200' : (200 : Int) < (m : Int) := by omega
    go_enter Try.func4, Try.ntmps4
    go_wp2_with fail
    refine (small_any _).mono ?_
    rintro e w1 ⟨rfl, hb⟩
    go_wp2_with fail
    go_ret
    exact ⟨rfl, BW.trans (hb.mono BW.size)⟩
  · have h200' : (m : Int) ≤ 200 := by omega
    cases hr : Sd.right ⟨n, l, ww, cc⟩
    · have HR := Lib.hid hr
      clear hr
      go_enter Try.func4, Try.ntmps4
      go_wp2_with fail
      refine (small_any _).mono ?_
      rintro e w1 ⟨rfl, hb⟩
      have R0 := row_kept R0 hb (row_lt R0)
      have BW := BW.trans (hb.mono BW.size)
      have K0 := row_cells R0
      clear hb
      go_wp2_with fail
      refine (right_to _ n ww cc A k c l Hn.out (HN.out.below BW) (by omega) HR.out).mono ?_
      rintro e w2 ⟨rfl, hb⟩
      go_wp2_with fail
      go_ret
      exact ⟨rfl, BW.trans (hb.mono BW.size)⟩
    · have HR := Lib.hid hr
      clear hr
      go_enter Try.func4, Try.ntmps4
      go_wp2_with fail
      refine (small_any _).mono ?_
      rintro e w1 ⟨rfl, hb⟩
      have R0 := row_kept R0 hb (row_lt R0)
      have BW := BW.trans (hb.mono BW.size)
      have K0 := row_cells R0
      clear hb
      go_wp2_with fail
      refine (right_to _ n ww cc A k c l Hn.out (HN.out.below BW) (by omega) HR.out).mono ?_
      rintro e w2 ⟨rfl, hb⟩
      have R0 := row_kept R0 hb (row_lt R0)
      have BW := BW.trans (hb.mono BW.size)
      have N0 : FlsN w.heap.size w2 A l := ⟨HN.out.below BW, HNb.out.2⟩
      clear hb K0
      go_wp2
      go_loopw [6] (fun i wr => ∃ (j : Nat) (n1 : Int) (A1 : Option Addr) (k1 c1 : Nat) (L1 : List Fl) (ww1 cc1 : Int), j ≤ m ∧ i = .int .i64 j ∧ Hid (Sd.right ⟨n1, L1, ww1, cc1⟩ = true) ∧ Hid (L1.length = k1) ∧ wr.heap[w.heap.size]? = some (seO n1 A1 k1 c1 ww1 cc1) ∧ Hid (FlsN w.heap.size wr A1 L1) ∧ Below w.heap.size w wr) (fun i _ => m - (intOf i).toNat)
      case atStart => exact ⟨0, n, A, k, c, l, ww, cc, Nat.zero_le _, rfl, HR, Hn, R0, N0, BW⟩
      case round =>
        clear R0 BW N0 HR Hn HN HNb
        obtain ⟨j, n1, A1, k1, c1, L1, ww1, cc1, hj, rfl, HR, Hn, R0, HNj, BW⟩ := hrel
        have K0 := row_cells R0
        by_cases hjm : j < m
        · obtain ⟨b, off, rfl, hbb, d, p, q, t, u, v, x, y, e0, e1, e2, e3, e4, e5, e6, e7⟩ := acts_at (HZb.out _ BW) Hz.out hjm
          have q0 : (0 : Int) ≤ (j : Int) := by omega
          have q1 : (j : Int) < (m : Int) := by omega
          have R7 := a_new wr (acO d p q t u v x y)
          have R0a := a_lift (p := acO d p q t u v x y) R0
          have K0a := row_cells R0a
          have K7 := row_cells (a_lift (p := seO n1 A1 k1 c1 ww1 cc1) R7)
          by_cases ht : t < 0
          · clear R7 R0a
            go_wp2
            go_ret
            exact ⟨rfl, (BW.alloc BW.size _).alloc (BW.alloc BW.size _).size _⟩
          · have ht' : decide (t < 0) = false := decide_eq_false ht
            by_cases ht2 : 1099511627776 < t
            · clear R7 R0a
              go_wp2
              go_ret
              exact ⟨rfl, (BW.alloc BW.size _).alloc (BW.alloc BW.size _).size _⟩
            · have ht3 : decide (1099511627776 < t) = false := decide_eq_false ht2
              have T0 : 0 ≤ t ∧ t ≤ 1099511627776 := by omega
              obtain ⟨h1, h2, h3, h4, h5⟩ := right_bd HR.out
              have h8 : k1 ≤ 8 := by rw [← Hn.out]; exact h4
              clear h5 h4
              have R0 := a_lift (p := seO n1 A1 k1 c1 ww1 cc1) R0a
              have R8 := a_new2 wr (acO d p q t u v x y) (seO n1 A1 k1 c1 ww1 cc1)
              have R7 := a_lift (p := seO n1 A1 k1 c1 ww1 cc1) R7
              have N1 : FlsN w.heap.size _ A1 L1 := HNj.out.kept (below_alloc2 wr (acO d p q t u v x y) (seO n1 A1 k1 c1 ww1 cc1))
              have BW := BW.trans ((below_alloc2 wr (acO d p q t u v x y) (seO n1 A1 k1 c1 ww1 cc1)).mono BW.size)
              have hg8 : w.heap.size < wr.heap.size := by
                have := BW.size
                have h := row_lt R0a
                rcases Nat.lt_or_ge w.heap.size wr.heap.size with h' | h'
                · exact h'
                · exfalso
                  have e : w.heap.size = wr.heap.size := by simp at h; omega
                  rw [e] at R0
                  rw [R0] at R7
                  injection R7 with R7
                  injection R7 with _ h
                  exact absurd h (by decide)
              have h0b : 0 ≤ n1 ∧ n1 ≤ 1073741824 := by omega
              clear R0a HNj hbb
              have K0' := row_cells R0
              have K8 := row_cells R8
              by_cases hd0 : d = 0
              · subst hd0
                have hrb := room_bd _ HR.out
                obtain ⟨rm, hrm⟩ : ∃ rm, Sd.room ⟨n1, L1, ww1, cc1⟩ = rm := ⟨_, rfl⟩
                rw [hrm] at hrb
                have HRM := Lib.hid hrm
                have hno := no_neq u v x y u v x y
                by_cases hr0 : rm = 0
                · subst hr0
                  have p1 := push_no (u := u) (v := v) (x := x) (y := y) (now := t) hrm
                  have P1 := Lib.hid p1
                  clear p1 hrm hrb
                  go_wp2_with fail
                  refine (room_right HR.out Hn.out N1.1 HRM.out).mono ?_
                  rintro e w4 ⟨rfl, hb⟩
                  have R0 := row_kept R0 hb (row_lt R0)
                  have R7 := row_kept R7 hb (row_lt R7)
                  have R8 := row_kept R8 hb (row_lt R8)
                  have N1 := N1.kept hb
                  have BW := BW.trans (hb.mono BW.size)
                  clear hb K0 K0a K0' K7 K8 e0 e1 e2 e3 e4 e5 e6 e7
                  have K0 := row_cells R0
                  have K7 := row_cells R7
                  go_wp2_with fail
                  refine (push_to HR.out Hn.out N1.1 P1.out Hn.out).mono ?_
                  rintro e w5 ⟨A2, c2, rfl, hO, hb⟩
                  have hlt0 := row_lt R0
                  have R0 := alloc2 (row_kept R0 hb (row_lt R0)) (seO n1 A2 k1 c2 ww1 cc1) (flO Fl.zero.q Fl.zero.u Fl.zero.v Fl.zero.s Fl.zero.c Fl.zero.a Fl.zero.t)
                  have R8 := alloc2 (row_kept R8 hb (row_lt R8)) (seO n1 A2 k1 c2 ww1 cc1) (flO Fl.zero.q Fl.zero.u Fl.zero.v Fl.zero.s Fl.zero.c Fl.zero.a Fl.zero.t)
                  have N2 := (FlsN.own hO hlt0).kept (below_alloc2 w5 (seO n1 A2 k1 c2 ww1 cc1) (flO Fl.zero.q Fl.zero.u Fl.zero.v Fl.zero.s Fl.zero.c Fl.zero.a Fl.zero.t))
                  have BW := (BW.trans (hb.mono BW.size)).trans ((below_alloc2 w5 (seO n1 A2 k1 c2 ww1 cc1) (flO Fl.zero.q Fl.zero.u Fl.zero.v Fl.zero.s Fl.zero.c Fl.zero.a Fl.zero.t)).mono (BW.trans (hb.mono BW.size)).size)
                  clear hb K0 K7 hO
                  have K11 := row_cells (a_lift (p := flO Fl.zero.q Fl.zero.u Fl.zero.v Fl.zero.s Fl.zero.c Fl.zero.a Fl.zero.t) (a_new w5 (seO n1 A2 k1 c2 ww1 cc1)))
                  obtain ⟨s0, s1, x0, x1, f0, f1, sz⟩ := rows1 R0
                  have F0 := setRow_row (t := seT) (cs := #[.int .i64 n1, .slice A2 k1 c2, .int .i64 ww1, .int .i64 cc1]) (row_lt R0)
                  have F8 := (setRow_far (t := seT) (cs := #[.int .i64 n1, .slice A2 k1 c2, .int .i64 ww1, .int .i64 cc1]) (show wr.heap.size + 1 ≠ w.heap.size by omega)).trans R8
                  have FN := N2.set (t := seT) (cs := #[.int .i64 n1, .slice A2 k1 c2, .int .i64 ww1, .int .i64 cc1])
                  have FB := setRow_below (g := w.heap.size) (t := seT) (cs := #[.int .i64 n1, .slice A2 k1 c2, .int .i64 ww1, .int .i64 cc1]) BW (Nat.le_refl _)
                  obtain ⟨rv, hrv⟩ : ∃ rv, Sd.room ⟨n1, L1, ww1, cc1⟩ = rv := ⟨_, rfl⟩
                  have hrb := room_bd _ HR.out
                  rw [hrv] at hrb
                  have HRV := Lib.hid hrv
                  have HF := Lib.hid (And.intro F0 (And.intro F8 (And.intro FN FB)))
                  clear R0 R8 N2 BW F0 F8 FN FB hrv
                  go_wp2_with fail
                  obtain ⟨R0, R8, N2, BW⟩ := HF.out
                  clear s0 s1 x0 x1 f0 f1 sz
                  refine (right_to _ n1 ww1 cc1 A2 k1 c2 L1 Hn.out N2.1 (by omega) HR.out).mono ?_
                  rintro e w6 ⟨rfl, hb⟩
                  have R0 := row_kept R0 hb (row_lt R0)
                  have R8 := row_kept R8 hb (row_lt R8)
                  have N2 := N2.kept hb
                  have BW := BW.trans (hb.mono BW.size)
                  clear hb
                  have K0 := row_cells R0
                  have K8 := row_cells R8
                  go_wp2_with fail
                  refine (room_right HR.out Hn.out N2.1 HRV.out).mono ?_
                  rintro e w7 ⟨rfl, hb⟩
                  have R0 := row_kept R0 hb (row_lt R0)
                  have N2 := N2.kept hb
                  have BW := BW.trans (hb.mono BW.size)
                  clear hb K0 K8 R8
                  have K0 := row_cells R0
                  have hv0 : ¬ rv < 0 := by omega
                  have hv8 : ¬ 8 < rv := by omega
                  go_wp2_with fail
                  refine (room_right HR.out Hn.out N2.1 HRV.out).mono ?_
                  rintro e w8 ⟨rfl, hb⟩
                  have R0 := row_kept R0 hb (row_lt R0)
                  have N2 := Lib.hid (N2.kept hb)
                  have BW := BW.trans (hb.mono BW.size)
                  clear hb K0
                  go_wp2
                  go_roundw
                  case rel => exact ⟨j + 1, n1, A2, k1, c2, L1, ww1, cc1, by omega, by go_num, HR, Hn, R0, N2, BW⟩
                  case measure => simp [intOf]; omega
                · obtain ⟨p1, -⟩ := push_eq (u := u) (v := v) (x := x) (y := y) (now := t) HR.out (by omega)
                  have p3 := push_right (u := u) (v := v) (x := x) (y := y) (now := t) HR.out T0
                  obtain ⟨-, p5, p6⟩ := span_first HR.out (by omega)
                  rw [p1] at p3
                  have P1 := Lib.hid p1
                  have P3 := Lib.hid p3
                  have P4 := Lib.hid (show (L1 ++ [(⟨n1, u, v, x, y, t, 1⟩ : Fl)]).length = k1 + 1 by rw [List.length_append, Hn.out]; rfl)
                  have p7 : ((k1 + 1 : Nat) : Int) ≤ ww1 := by rw [Hn.out] at p5; omega
                  have p8 : (k1 : Int) + 1 ≤ ww1 := by omega
                  have hr0' : 0 < rm := by omega
                  clear p1 p3 p5 hrm hr0
                  go_wp2_with fail
                  refine (room_right HR.out Hn.out N1.1 HRM.out).mono ?_
                  rintro e w4 ⟨rfl, hb⟩
                  have R0 := row_kept R0 hb (row_lt R0)
                  have R7 := row_kept R7 hb (row_lt R7)
                  have R8 := row_kept R8 hb (row_lt R8)
                  have N1 := N1.kept hb
                  have BW := BW.trans (hb.mono BW.size)
                  clear hb K0 K0a K0' K7 K8 e0 e1 e2 e3 e4 e5 e6 e7
                  have K0 := row_cells R0
                  have K7 := row_cells R7
                  go_wp2_with fail
                  refine (push_to HR.out Hn.out N1.1 P1.out P4.out).mono ?_
                  rintro e w5 ⟨A2, c2, rfl, hO, hb⟩
                  have hlt0 := row_lt R0
                  have R0 := alloc2 (row_kept R0 hb (row_lt R0)) (seO (n1 + 1) A2 (k1 + 1) c2 ww1 cc1) (flO n1 u v x y t 1)
                  have R7 := alloc2 (row_kept R7 hb (row_lt R7)) (seO (n1 + 1) A2 (k1 + 1) c2 ww1 cc1) (flO n1 u v x y t 1)
                  have R8 := alloc2 (row_kept R8 hb (row_lt R8)) (seO (n1 + 1) A2 (k1 + 1) c2 ww1 cc1) (flO n1 u v x y t 1)
                  have N2 := (FlsN.own hO hlt0).kept (below_alloc2 w5 (seO (n1 + 1) A2 (k1 + 1) c2 ww1 cc1) (flO n1 u v x y t 1))
                  have BW := (BW.trans (hb.mono BW.size)).trans ((below_alloc2 w5 (seO (n1 + 1) A2 (k1 + 1) c2 ww1 cc1) (flO n1 u v x y t 1)).mono (BW.trans (hb.mono BW.size)).size)
                  clear hb K0 K7 hO
                  have K0 := row_cells R0
                  have K7 := row_cells R7
                  have K11 := row_cells (a_lift (p := flO n1 u v x y t 1) (a_new w5 (seO (n1 + 1) A2 (k1 + 1) c2 ww1 cc1)))
                  have K12 := row_cells (a_new2 w5 (seO (n1 + 1) A2 (k1 + 1) c2 ww1 cc1) (flO n1 u v x y t 1))
                  obtain ⟨s0, s1, x0, x1, f0, f1, sz⟩ := rows1 R0
                  have F0 := setRow_row (t := seT) (cs := #[.int .i64 (n1 + 1), .slice A2 (k1 + 1) c2, .int .i64 ww1, .int .i64 cc1]) (row_lt R0)
                  have F8 := (setRow_far (t := seT) (cs := #[.int .i64 (n1 + 1), .slice A2 (k1 + 1) c2, .int .i64 ww1, .int .i64 cc1]) (show wr.heap.size + 1 ≠ w.heap.size by omega)).trans R8
                  have FN := N2.set (t := seT) (cs := #[.int .i64 (n1 + 1), .slice A2 (k1 + 1) c2, .int .i64 ww1, .int .i64 cc1])
                  have FB := setRow_below (g := w.heap.size) (t := seT) (cs := #[.int .i64 (n1 + 1), .slice A2 (k1 + 1) c2, .int .i64 ww1, .int .i64 cc1]) BW (Nat.le_refl _)
                  obtain ⟨rv, hrv⟩ : ∃ rv, Sd.room ⟨(n1 + 1), (L1 ++ [(⟨n1, u, v, x, y, t, 1⟩ : Fl)]), ww1, cc1⟩ = rv := ⟨_, rfl⟩
                  have hrb := room_bd _ P3.out
                  rw [hrv] at hrb
                  have HRV := Lib.hid hrv
                  have HF := Lib.hid (And.intro F0 (And.intro F8 (And.intro FN FB)))
                  clear R0 R8 N2 BW F0 F8 FN FB hrv
                  go_wp2_with fail
                  obtain ⟨R0, R8, N2, BW⟩ := HF.out
                  clear s0 s1 x0 x1 f0 f1 sz
                  refine (right_to _ (n1 + 1) ww1 cc1 A2 (k1 + 1) c2 (L1 ++ [(⟨n1, u, v, x, y, t, 1⟩ : Fl)]) P4.out N2.1 (by omega) P3.out).mono ?_
                  rintro e w6 ⟨rfl, hb⟩
                  have R0 := row_kept R0 hb (row_lt R0)
                  have R8 := row_kept R8 hb (row_lt R8)
                  have N2 := N2.kept hb
                  have BW := BW.trans (hb.mono BW.size)
                  clear hb
                  have K0 := row_cells R0
                  have K8 := row_cells R8
                  go_wp2_with fail
                  refine (room_right P3.out P4.out N2.1 HRV.out).mono ?_
                  rintro e w7 ⟨rfl, hb⟩
                  have R0 := row_kept R0 hb (row_lt R0)
                  have N2 := N2.kept hb
                  have BW := BW.trans (hb.mono BW.size)
                  clear hb K0 K8 R8
                  have K0 := row_cells R0
                  have hv0 : ¬ rv < 0 := by omega
                  have hv8 : ¬ 8 < rv := by omega
                  go_wp2_with fail
                  refine (room_right P3.out P4.out N2.1 HRV.out).mono ?_
                  rintro e w8 ⟨rfl, hb⟩
                  have R0 := row_kept R0 hb (row_lt R0)
                  have N2 := Lib.hid (N2.kept hb)
                  have BW := BW.trans (hb.mono BW.size)
                  clear hb K0
                  go_wp2
                  go_roundw
                  case rel => exact ⟨j + 1, (n1 + 1), A2, (k1 + 1), c2, (L1 ++ [(⟨n1, u, v, x, y, t, 1⟩ : Fl)]), ww1, cc1, by omega, by go_num, P3, P4, R0, N2, BW⟩
                  case measure => simp [intOf]; omega
              · have hd0' : (d == 0) = false := by simpa using hd0
                by_cases hd1 : d = 1
                · subst hd1
                  obtain ⟨n2, L2, ww2, cc2, tk, hp⟩ : ∃ n2 L2 ww2 cc2 tk, Sd.acked ⟨n1, L1, ww1, cc1⟩ p q t = (⟨n2, L2, ww2, cc2⟩, tk) := ⟨_, _, _, _, _, rfl⟩
                  obtain ⟨g1, g2, g3, g4⟩ := acked_right HR.out p q t
                  obtain ⟨g5, g6⟩ := tk_right HR.out p q t T0
                  rw [hp] at g1 g2 g3 g4 g5 g6
                  dsimp only at g1 g2 g3 g4 g5 g6
                  subst g4
                  obtain ⟨k2, hk2⟩ : ∃ k2, L2.length = k2 := ⟨_, rfl⟩
                  rw [hk2, Hn.out] at g3
                  have HP := Lib.hid hp
                  have HR2 := Lib.hid g1
                  have Hn2 := Lib.hid hk2
                  have g3' : (k2 : Int) ≤ (k1 : Int) := by omega
                  clear hp g1 hk2
                  go_wp2_with fail
                  refine (acked_to HR.out Hn.out N1.1 T0 HP.out Hn2.out).mono ?_
                  rintro e w5 ⟨A2, c2, rfl, hO, hb⟩
                  have hlt0 := row_lt R0
                  have R0 := a_lift (p := seO n2 A2 k2 c2 ww2 cc2) (row_kept R0 hb (row_lt R0))
                  have R8 := a_lift (p := seO n2 A2 k2 c2 ww2 cc2) (row_kept R8 hb (row_lt R8))
                  have N2 := (FlsN.own hO hlt0).kept ((Below.refl w5.heap.size w5).alloc (Nat.le_refl _) (seO n2 A2 k2 c2 ww2 cc2))
                  have BW := (BW.trans (hb.mono BW.size)).alloc (BW.trans (hb.mono BW.size)).size (seO n2 A2 k2 c2 ww2 cc2)
                  clear hb K0 K0a K0' K7 K8 hO e0 e1 e2 e3 e4 e5 e6 e7
                  have K0 := row_cells R0
                  have K14 := row_cells (a_new w5 (seO n2 A2 k2 c2 ww2 cc2))
                  obtain ⟨s0, s1, x0, x1, f0, f1, sz⟩ := rows1 R0
                  have F0 := setRow_row (t := seT) (cs := #[.int .i64 n2, .slice A2 k2 c2, .int .i64 ww2, .int .i64 cc2]) (row_lt R0)
                  have F8 := (setRow_far (t := seT) (cs := #[.int .i64 n2, .slice A2 k2 c2, .int .i64 ww2, .int .i64 cc2]) (show wr.heap.size + 1 ≠ w.heap.size by omega)).trans R8
                  have FN := N2.set (t := seT) (cs := #[.int .i64 n2, .slice A2 k2 c2, .int .i64 ww2, .int .i64 cc2])
                  have FB := setRow_below (g := w.heap.size) (t := seT) (cs := #[.int .i64 n2, .slice A2 k2 c2, .int .i64 ww2, .int .i64 cc2]) BW (Nat.le_refl _)
                  obtain ⟨rv, hrv⟩ : ∃ rv, Sd.room ⟨n2, L2, ww2, cc2⟩ = rv := ⟨_, rfl⟩
                  have hrb := room_bd _ HR2.out
                  rw [hrv] at hrb
                  have HRV := Lib.hid hrv
                  have HF := Lib.hid (And.intro F0 (And.intro F8 (And.intro FN FB)))
                  clear R0 R8 N2 BW F0 F8 FN FB hrv
                  go_wp2_with fail
                  obtain ⟨R0, R8, N2, BW⟩ := HF.out
                  clear s0 s1 x0 x1 f0 f1 sz
                  refine (right_to _ n2 ww2 cc2 A2 k2 c2 L2 Hn2.out N2.1 (by omega) HR2.out).mono ?_
                  rintro e w6 ⟨rfl, hb⟩
                  have R0 := row_kept R0 hb (row_lt R0)
                  have R8 := row_kept R8 hb (row_lt R8)
                  have N2 := N2.kept hb
                  have BW := BW.trans (hb.mono BW.size)
                  clear hb
                  have K0 := row_cells R0
                  have K8 := row_cells R8
                  go_wp2_with fail
                  refine (room_right HR2.out Hn2.out N2.1 HRV.out).mono ?_
                  rintro e w7 ⟨rfl, hb⟩
                  have R0 := row_kept R0 hb (row_lt R0)
                  have N2 := N2.kept hb
                  have BW := BW.trans (hb.mono BW.size)
                  clear hb K0 K8 R8
                  have K0 := row_cells R0
                  have hv0 : ¬ rv < 0 := by omega
                  have hv8 : ¬ 8 < rv := by omega
                  go_wp2_with fail
                  refine (room_right HR2.out Hn2.out N2.1 HRV.out).mono ?_
                  rintro e w8 ⟨rfl, hb⟩
                  have R0 := row_kept R0 hb (row_lt R0)
                  have N2 := Lib.hid (N2.kept hb)
                  have BW := BW.trans (hb.mono BW.size)
                  clear hb K0
                  go_wp2
                  go_roundw
                  case rel => exact ⟨j + 1, n2, A2, k2, c2, L2, ww2, cc2, by omega, by go_num, HR2, Hn2, R0, N2, BW⟩
                  case measure => simp [intOf]; omega
                · have hd1' : (d == 1) = false := by simpa using hd1
                  by_cases hd2 : d = 2
                  · subst hd2
                    obtain ⟨n2, L2, ww2, cc2, f, ok, hp⟩ : ∃ n2 L2 ww2 cc2 f ok, Sd.resend ⟨n1, L1, ww1, cc1⟩ p t = (⟨n2, L2, ww2, cc2⟩, f, ok) := ⟨_, _, _, _, _, _, rfl⟩
                    obtain ⟨g1, g4⟩ := resend_right HR.out p t T0
                    rw [hp] at g1 g4
                    dsimp only at g1 g4
                    subst g4
                    obtain ⟨k2, hk2⟩ : ∃ k2, L2.length = k2 := ⟨_, rfl⟩
                    have g8 : k2 ≤ 8 := by rw [← hk2]; exact (right_bd g1).2.2.2.1
                    have HP := Lib.hid hp
                    have HR2 := Lib.hid g1
                    have Hn2 := Lib.hid hk2
                    clear hp g1 hk2
                    go_wp2_with fail
                    refine (resend_to HR.out Hn.out N1.1 HP.out Hn2.out).mono ?_
                    rintro e w5 ⟨A2, c2, rfl, hO, hb⟩
                    have hlt0 := row_lt R0
                    have R0 := row_kept R0 hb (row_lt R0)
                    have R8 := row_kept R8 hb (row_lt R8)
                    have N2 := FlsN.own hO hlt0
                    have BW := BW.trans (hb.mono BW.size)
                    clear hb K0 K0a K0' K7 K8 hO e0 e1 e2 e3 e4 e5 e6 e7
                    obtain ⟨s0, s1, x0, x1, f0, f1, sz⟩ := rows1 R0
                    have F0 := setRow_row (t := seT) (cs := #[.int .i64 n2, .slice A2 k2 c2, .int .i64 ww2, .int .i64 cc2]) (row_lt R0)
                    have F8 := (setRow_far (t := seT) (cs := #[.int .i64 n2, .slice A2 k2 c2, .int .i64 ww2, .int .i64 cc2]) (show wr.heap.size + 1 ≠ w.heap.size by omega)).trans R8
                    have FN := N2.set (t := seT) (cs := #[.int .i64 n2, .slice A2 k2 c2, .int .i64 ww2, .int .i64 cc2])
                    have FB := setRow_below (g := w.heap.size) (t := seT) (cs := #[.int .i64 n2, .slice A2 k2 c2, .int .i64 ww2, .int .i64 cc2]) BW (Nat.le_refl _)
                    obtain ⟨rv, hrv⟩ : ∃ rv, Sd.room ⟨n2, L2, ww2, cc2⟩ = rv := ⟨_, rfl⟩
                    have hrb := room_bd _ HR2.out
                    rw [hrv] at hrb
                    have HRV := Lib.hid hrv
                    have HF := Lib.hid (And.intro F0 (And.intro F8 (And.intro FN FB)))
                    clear R0 R8 N2 BW F0 F8 FN FB hrv
                    go_wp2_with fail
                    obtain ⟨R0, R8, N2, BW⟩ := HF.out
                    clear s0 s1 x0 x1 f0 f1 sz
                    refine (right_to _ n2 ww2 cc2 A2 k2 c2 L2 Hn2.out N2.1 (by omega) HR2.out).mono ?_
                    rintro e w6 ⟨rfl, hb⟩
                    have R0 := row_kept R0 hb (row_lt R0)
                    have R8 := row_kept R8 hb (row_lt R8)
                    have N2 := N2.kept hb
                    have BW := BW.trans (hb.mono BW.size)
                    clear hb
                    have K0 := row_cells R0
                    have K8 := row_cells R8
                    go_wp2_with fail
                    refine (room_right HR2.out Hn2.out N2.1 HRV.out).mono ?_
                    rintro e w7 ⟨rfl, hb⟩
                    have R0 := row_kept R0 hb (row_lt R0)
                    have N2 := N2.kept hb
                    have BW := BW.trans (hb.mono BW.size)
                    clear hb K0 K8 R8
                    have K0 := row_cells R0
                    have hv0 : ¬ rv < 0 := by omega
                    have hv8 : ¬ 8 < rv := by omega
                    go_wp2_with fail
                    refine (room_right HR2.out Hn2.out N2.1 HRV.out).mono ?_
                    rintro e w8 ⟨rfl, hb⟩
                    have R0 := row_kept R0 hb (row_lt R0)
                    have N2 := Lib.hid (N2.kept hb)
                    have BW := BW.trans (hb.mono BW.size)
                    clear hb K0
                    go_wp2
                    go_roundw
                    case rel => exact ⟨j + 1, n2, A2, k2, c2, L2, ww2, cc2, by omega, by go_num, HR2, Hn2, R0, N2, BW⟩
                    case measure => simp [intOf]; omega
                  · have hd2' : (d == 2) = false := by simpa using hd2
                    by_cases hd3 : d = 3
                    · subst hd3
                      obtain ⟨n2, L2, ww2, cc2, hp⟩ : ∃ n2 L2 ww2 cc2, Sd.lost ⟨n1, L1, ww1, cc1⟩ = ⟨n2, L2, ww2, cc2⟩ := ⟨_, _, _, _, rfl⟩
                      have g1 := lost_right HR.out
                      have g4 : n1 = n2 := congrArg Sd.n hp
                      have hk2 : L2.length = k1 := by
                        have h := congrArg (fun s : Sd => s.l.length) hp
                        dsimp only [Sd.lost, Sd.void] at h
                        first
                          | (rw [List.length_map] at h; exact h.symm.trans Hn.out)
                          | exact h.symm.trans Hn.out
                      rw [hp] at g1
                      subst g4
                      have HP := Lib.hid hp
                      have HR2 := Lib.hid g1
                      have Hn2 := Lib.hid hk2
                      clear hp g1 hk2
                      go_wp2_with fail
                      refine (lost_to HR.out Hn.out N1.1 HP.out).mono ?_
                      rintro e w5 ⟨A2, c2, rfl, hO, hb⟩
                      have hlt0 := row_lt R0
                      have R0 := row_kept R0 hb (row_lt R0)
                      have R8 := row_kept R8 hb (row_lt R8)
                      have N2 := FlsN.own (hO : OwnF _ _ _ _ _ L2) hlt0
                      have BW := BW.trans (hb.mono BW.size)
                      clear hb K0 K0a K0' K7 K8 hO e0 e1 e2 e3 e4 e5 e6 e7
                      obtain ⟨s0, s1, x0, x1, f0, f1, sz⟩ := rows1 R0
                      have F0 := setRow_row (t := seT) (cs := #[.int .i64 n1, .slice A2 k1 c2, .int .i64 ww2, .int .i64 cc2]) (row_lt R0)
                      have F8 := (setRow_far (t := seT) (cs := #[.int .i64 n1, .slice A2 k1 c2, .int .i64 ww2, .int .i64 cc2]) (show wr.heap.size + 1 ≠ w.heap.size by omega)).trans R8
                      have FN := N2.set (t := seT) (cs := #[.int .i64 n1, .slice A2 k1 c2, .int .i64 ww2, .int .i64 cc2])
                      have FB := setRow_below (g := w.heap.size) (t := seT) (cs := #[.int .i64 n1, .slice A2 k1 c2, .int .i64 ww2, .int .i64 cc2]) BW (Nat.le_refl _)
                      obtain ⟨rv, hrv⟩ : ∃ rv, Sd.room ⟨n1, L2, ww2, cc2⟩ = rv := ⟨_, rfl⟩
                      have hrb := room_bd _ HR2.out
                      rw [hrv] at hrb
                      have HRV := Lib.hid hrv
                      have HF := Lib.hid (And.intro F0 (And.intro F8 (And.intro FN FB)))
                      clear R0 R8 N2 BW F0 F8 FN FB hrv
                      go_wp2_with fail
                      obtain ⟨R0, R8, N2, BW⟩ := HF.out
                      clear s0 s1 x0 x1 f0 f1 sz
                      refine (right_to _ n1 ww2 cc2 A2 k1 c2 L2 Hn2.out N2.1 (by omega) HR2.out).mono ?_
                      rintro e w6 ⟨rfl, hb⟩
                      have R0 := row_kept R0 hb (row_lt R0)
                      have R8 := row_kept R8 hb (row_lt R8)
                      have N2 := N2.kept hb
                      have BW := BW.trans (hb.mono BW.size)
                      clear hb
                      have K0 := row_cells R0
                      have K8 := row_cells R8
                      go_wp2_with fail
                      refine (room_right HR2.out Hn2.out N2.1 HRV.out).mono ?_
                      rintro e w7 ⟨rfl, hb⟩
                      have R0 := row_kept R0 hb (row_lt R0)
                      have N2 := N2.kept hb
                      have BW := BW.trans (hb.mono BW.size)
                      clear hb K0 K8 R8
                      have K0 := row_cells R0
                      have hv0 : ¬ rv < 0 := by omega
                      have hv8 : ¬ 8 < rv := by omega
                      go_wp2_with fail
                      refine (room_right HR2.out Hn2.out N2.1 HRV.out).mono ?_
                      rintro e w8 ⟨rfl, hb⟩
                      have R0 := row_kept R0 hb (row_lt R0)
                      have N2 := Lib.hid (N2.kept hb)
                      have BW := BW.trans (hb.mono BW.size)
                      clear hb K0
                      go_wp2
                      go_roundw
                      case rel => exact ⟨j + 1, n1, A2, k1, c2, L2, ww2, cc2, by omega, by go_num, HR2, Hn2, R0, N2, BW⟩
                      case measure => simp [intOf]; omega
                    · have hd3' : (d == 3) = false := by simpa using hd3
                      obtain ⟨n2, L2, ww2, cc2, hp⟩ : ∃ n2 L2 ww2 cc2, Sd.void ⟨n1, L1, ww1, cc1⟩ p = ⟨n2, L2, ww2, cc2⟩ := ⟨_, _, _, _, rfl⟩
                      have g1 := void_right HR.out p
                      have g4 : n1 = n2 := congrArg Sd.n hp
                      have hk2 : L2.length = k1 := by
                        have h := congrArg (fun s : Sd => s.l.length) hp
                        dsimp only [Sd.lost, Sd.void] at h
                        first
                          | (rw [List.length_map] at h; exact h.symm.trans Hn.out)
                          | exact h.symm.trans Hn.out
                      rw [hp] at g1
                      subst g4
                      have HP := Lib.hid hp
                      have HR2 := Lib.hid g1
                      have Hn2 := Lib.hid hk2
                      clear hp g1 hk2
                      go_wp2_with fail
                      refine (void_to HR.out Hn.out N1.1 HP.out).mono ?_
                      rintro e w5 ⟨A2, c2, rfl, hO, hb⟩
                      have hlt0 := row_lt R0
                      have R0 := row_kept R0 hb (row_lt R0)
                      have R8 := row_kept R8 hb (row_lt R8)
                      have N2 := FlsN.own (hO : OwnF _ _ _ _ _ L2) hlt0
                      have BW := BW.trans (hb.mono BW.size)
                      clear hb K0 K0a K0' K7 K8 hO e0 e1 e2 e3 e4 e5 e6 e7
                      obtain ⟨s0, s1, x0, x1, f0, f1, sz⟩ := rows1 R0
                      have F0 := setRow_row (t := seT) (cs := #[.int .i64 n1, .slice A2 k1 c2, .int .i64 ww2, .int .i64 cc2]) (row_lt R0)
                      have F8 := (setRow_far (t := seT) (cs := #[.int .i64 n1, .slice A2 k1 c2, .int .i64 ww2, .int .i64 cc2]) (show wr.heap.size + 1 ≠ w.heap.size by omega)).trans R8
                      have FN := N2.set (t := seT) (cs := #[.int .i64 n1, .slice A2 k1 c2, .int .i64 ww2, .int .i64 cc2])
                      have FB := setRow_below (g := w.heap.size) (t := seT) (cs := #[.int .i64 n1, .slice A2 k1 c2, .int .i64 ww2, .int .i64 cc2]) BW (Nat.le_refl _)
                      obtain ⟨rv, hrv⟩ : ∃ rv, Sd.room ⟨n1, L2, ww2, cc2⟩ = rv := ⟨_, rfl⟩
                      have hrb := room_bd _ HR2.out
                      rw [hrv] at hrb
                      have HRV := Lib.hid hrv
                      have HF := Lib.hid (And.intro F0 (And.intro F8 (And.intro FN FB)))
                      clear R0 R8 N2 BW F0 F8 FN FB hrv
                      go_wp2_with fail
                      obtain ⟨R0, R8, N2, BW⟩ := HF.out
                      clear s0 s1 x0 x1 f0 f1 sz
                      refine (right_to _ n1 ww2 cc2 A2 k1 c2 L2 Hn2.out N2.1 (by omega) HR2.out).mono ?_
                      rintro e w6 ⟨rfl, hb⟩
                      have R0 := row_kept R0 hb (row_lt R0)
                      have R8 := row_kept R8 hb (row_lt R8)
                      have N2 := N2.kept hb
                      have BW := BW.trans (hb.mono BW.size)
                      clear hb
                      have K0 := row_cells R0
                      have K8 := row_cells R8
                      go_wp2_with fail
                      refine (room_right HR2.out Hn2.out N2.1 HRV.out).mono ?_
                      rintro e w7 ⟨rfl, hb⟩
                      have R0 := row_kept R0 hb (row_lt R0)
                      have N2 := N2.kept hb
                      have BW := BW.trans (hb.mono BW.size)
                      clear hb K0 K8 R8
                      have K0 := row_cells R0
                      have hv0 : ¬ rv < 0 := by omega
                      have hv8 : ¬ 8 < rv := by omega
                      go_wp2_with fail
                      refine (room_right HR2.out Hn2.out N2.1 HRV.out).mono ?_
                      rintro e w8 ⟨rfl, hb⟩
                      have R0 := row_kept R0 hb (row_lt R0)
                      have N2 := Lib.hid (N2.kept hb)
                      have BW := BW.trans (hb.mono BW.size)
                      clear hb K0
                      go_wp2
                      go_roundw
                      case rel => exact ⟨j + 1, n1, A2, k1, c2, L2, ww2, cc2, by omega, by go_num, HR2, Hn2, R0, N2, BW⟩
                      case measure => simp [intOf]; omega
        · obtain rfl : j = m := by omega
          go_wp2
          go_ret
          exact ⟨rfl, BW⟩
theorem own : ownKnob Try.prog.godebug = none := by kernel_rfl
theorem laid : laidOutB Try.prog = true := by kernel_rfl

set_option maxRecDepth 100000 in
theorem lifted (os : Os) (started : os.Started) (H : Type) (enc : TypeId × Value → H) :
    ReturnsInHanded {} Try.checked os 4 .any (Rows.sendRightSpec.pre6 enc Try.prog Try.f4 Rows.sendRightRow.domain false) (Rows.sendRightSpec.post enc Try.prog Try.f4 false true false false) := by
  refine law_lifted (C := Try.checked) (B := 4) own started (by kernel_rfl) Try.func4
    (ChangeSpec.witness6 (enc := enc) (C := Try.checked) false ⟨#[], #[.agg #[.int .i64 0, .slice none 0 0, .int .i64 0, .int .i64 0], .slice none 0 0], []⟩ 8 (by kernel_rfl) (by kernel_rfl) (by kernel_rfl) (by kernel_rfl))
    rfl rfl Try.underlying4 laid (of_decide_eq_true (by kernel_rfl)) ?_ ?_
  · intro ds hl
    rw [Try.params4] at hl
    match ds, hl with
    | [d0, d1], _ => rfl
  · intro W base args ds ps hval hA hlt hz
    rw [Try.params4] at hA hval
    obtain ⟨v0, vs0, d0, ds0, p0, q0, hargs, rfl, rfl, h0, r0⟩ := trodAll_cons hA
    obtain ⟨v1, vs1, d1, ds1, p1, q1, rfl, rfl, rfl, h1, r1⟩ := trodAll_cons r0
    obtain ⟨rfl, rfl, rfl⟩ := trodAll_nil r1
    obtain rfl : args = #[v0, v1] := by cases args; simp_all
    obtain ⟨n0, A0, k0, c0, l0, ww0, cc0, rfl, hl0, hm0, hn0, hN0, hb0, hw0, hc0, hf0⟩ := open_send (hval 0 24 v0 rfl rfl) h0
    obtain ⟨B1, m1, cap1, zs1, rfl, hl1, hm1, hz1, hN1⟩ := sendUni2.open_acts (hval 1 25 v1 rfl rfl) h1
    exact walk W n0 A0 k0 c0 l0 ww0 cc0 hl0 hm0 hn0 hN0 hb0 hw0 hc0 hf0 B1 m1 cap1 zs1 hl1 hm1 hz1 hN1

theorem over : Rows.sendRightRow.holds Try.pinned (OpenSpec.ofChange Rows.sendRightSpec) :=
  OpenClaim.holds_of_wide 4 Try.f4 rfl rfl rfl rfl rfl rfl rfl ⟨rfl, rfl, rfl, rfl, rfl⟩ rfl rfl rfl rfl rfl (by kernel_rfl) Try.func4 (by kernel_rfl)
    (of_decide_eq_true (by kernel_rfl)) (by unfold Func.isWrapper; first | (rw [if_pos (by decide +kernel)]; kernel_rfl) | (rw [if_neg (by decide +kernel)]; exact ⟨rfl, rfl⟩))
    (fun os started H enc _ => lifted os started H enc)

theorem proved : Rows.SendRightSaid := over
#print axioms proved
end Go.Proofs.Ytcppblgoojjpgaa.sendRight
