/- ChannelSends holds for any right channel, any acts, at times from 0 to 2^40: what is right stays right; a tick sends again no more than it may, just what was sent long enough ago, and nothing that was acknowledged. No condition. -/
import Derived.Test.YtiecebncnflpiaaOpen12
import Derived.Test.YtiecebncnflpiaaLaw
namespace Go.Proofs.Ytiecebncnflpiaa.channelSends
open Go.ChangeShapes Go.WideShapes Go.ChangeAt Go.RowKit Go.Shelf
open sendUni2
attribute [-go_sem] run_eql_struct run_neq_struct

theorem run_max2 (ts : Array TypeId) (t : TypeId) (a b m : Int) (hm : (if a < b then b else a) = m) (W : World) : (Builtin.max_ ts t #[.int .i64 a, .int .i64 b]).run Try.prog W = .ok (.int .i64 m) W := by
  rw [← hm]
  by_cases h : a < b
  · simp [Builtin.max_, Builtin.max2, h]
  · simp [Builtin.max_, Builtin.max2, h]
/-- What a tick sends again: how many, and of which flights. -/
theorem tick_facts {s : Sd} {e : Rtt} (hs : Sd.right s = true) (he : e.right = true) {now most : Int} {c' : Ch} {G : List Fl} (hp : Ch.tick ⟨s, e⟩ now most = (c', G)) :
    (G.length : Int) ≤ (if most < 0 then 0 else most) ∧ (0 < G.length → 1 ≤ c'.e.fails ∧ e.rto ≤ c'.e.rto) ∧ ∀ j, j < G.length → ∃ p, p < s.l.length ∧ (s.l.getD p .zero).a + e.rto ≤ now ∧ G.getD j .zero = Sd.again (s.l.getD p .zero) now := by
  have ho := (Rtt.right_iff _).1 he
  by_cases h0 : Sd.due s.l now e.rto = [] ∨ most < 1
  · unfold Ch.tick at hp
    dsimp only at hp
    rw [if_pos h0] at hp
    simp only [Prod.mk.injEq] at hp
    obtain ⟨rfl, rfl⟩ := hp
    exact ⟨by split <;> simp <;> omega, fun h => by simp at h, fun j h => by simp at h⟩
  · have hd : dues s.l now e.rto ≠ [] := fun h => h0 (Or.inl (by rw [dues_q, h]; rfl))
    have hm : 1 ≤ most := by
      rcases Int.lt_or_le most 1 with h | h
      · exact absurd (Or.inr h) h0
      · exact h
    have ht := tick_l (c := ⟨s, e⟩) hs hd hm
    rw [hp] at ht
    simp only [Prod.mk.injEq] at ht
    obtain ⟨rfl, rfl⟩ := ht
    refine ⟨?_, fun _ => ?_, fun j hj => ?_⟩
    · rw [List.length_map, List.length_take]
      split <;> omega
    · have hb := Rtt.backoff_of e ho
      unfold Rtt.Ok at ho
      dsimp only
      rw [hb]
      dsimp only
      omega
    · have hj' : j < (dues s.l now e.rto).length ∧ j < most.toNat := by rw [List.length_map, List.length_take] at hj; omega
      have hmem : (dues s.l now e.rto)[j] ∈ dues s.l now e.rto := List.getElem_mem _
      obtain ⟨hm1, hm2⟩ := List.mem_filter.1 hmem
      obtain ⟨p, hpl, hpe⟩ := List.mem_iff_getElem.1 hm1
      refine ⟨p, hpl, ?_, ?_⟩
      · have : s.l.getD p .zero = (dues s.l now e.rto)[j] := by rw [← hpe]; simp [List.getD, hpl]
        rw [this]
        simpa using hm2
      · have : s.l.getD p .zero = (dues s.l now e.rto)[j] := by rw [← hpe]; simp [List.getD, hpl]
        rw [this]
        simp [List.getD, List.getElem?_take, hj'.2, hj'.1]

set_option maxRecDepth 100000 in
set_option maxHeartbeats 16000000 in
theorem walk (w : World) (n : Int) (A : Option Addr) (k c : Nat) (l : List Fl) (ww cc s v r f : Int) (h : Bool) (hl : k ≤ c) (hm : c ≤ maxLen) (hn : l.length = k) (hN : Fls w A l)
    (B : Option Addr) (m cap : Nat) (zs : List Int) (hml : m ≤ cap) (hmc : cap ≤ maxLen) (hz : zs.length = m * 8) (hZ : Nums .i64 w B zs) :
    Calls Try.prog 4 #[chV n A k c ww cc s v r f h, .slice B m cap] w fun e w' => e = .returned (.bool true) ∧ Below w.heap.size w w' := by
  unfold maxLen at hm hmc
  have zc := zero_chan
  have z1 := zero_fl
  have Hn := Lib.hid hn
  have HN := Lib.hid hN
  have Hz := Lib.hid hz
  obtain ⟨W0, hW0⟩ : ∃ V, w.alloc (chO n A k c ww cc s v r f h) = V := ⟨_, rfl⟩
  have R0 : W0.heap[w.heap.size]? = some (chO n A k c ww cc s v r f h) := by rw [← hW0]; exact a_new w _
  have BW : Below w.heap.size w W0 := by rw [← hW0]; exact (Below.refl _ _).alloc (Nat.le_refl _) _
  have HNb := Lib.hid (show FlsN w.heap.size w A l from ⟨hN, by
    rcases hN with h | ⟨b, off, rfl, h, -⟩
    · exact Or.inl (List.eq_nil_of_length_eq_zero (by have := flf_len l; rw [h] at this; simp at this; omega))
    · exact Or.inr fun b' off' e => by injection e with e; injection e with e _; omega⟩)
  have HZb := Lib.hid (show ∀ w' : World, Below w.heap.size w w' → Nums .i64 w' B zs from fun w' h => hZ.below h)
  clear hn hN hZ hz
  by_cases h200 : 200 < m
  · have h200' : (200 : Int) < (m : Int) := by omega
    go_enter Try.func4, Try.ntmps4
    go_wp2_with fail
    refine (small_any _).mono ?_
    rintro e w1 ⟨rfl, hb⟩
    go_wp2_with fail
    go_ret
    exact ⟨rfl, BW.trans (hb.mono BW.size)⟩
  · have h200' : (m : Int) ≤ 200 := by omega
    obtain ⟨x, hx⟩ : ∃ x, (Sd.right ⟨n, l, ww, cc⟩ && Rtt.right ⟨s, v, r, f, h⟩) = x := ⟨_, rfl⟩
    have HX := Lib.hid hx
    cases x
    · clear hx
      go_enter Try.func4, Try.ntmps4
      go_wp2_with fail
      refine (small_any _).mono ?_
      rintro e w1 ⟨rfl, hb⟩
      have R0 := row_kept R0 hb (row_lt R0)
      have BW := BW.trans (hb.mono BW.size)
      have K0 := row_cells R0
      clear hb
      go_wp2_with fail
      refine (chright_to Hn.out (HN.out.below BW) (by omega) HX.out).mono ?_
      rintro e w2 ⟨rfl, hb⟩
      go_wp2_with fail
      go_ret
      exact ⟨rfl, BW.trans (hb.mono BW.size)⟩
    · rw [Bool.and_eq_true] at hx
      have HR := Lib.hid hx.1
      have HRt := Lib.hid hx.2
      clear hx
      go_enter Try.func4, Try.ntmps4
      go_wp2_with fail
      refine (small_any _).mono ?_
      rintro e w1 ⟨rfl, hb⟩
      have R0 := row_kept R0 hb (row_lt R0)
      have BW := BW.trans (hb.mono BW.size)
      have K0 := row_cells R0
      clear hb
      go_wp2_with fail
      refine (chright_to Hn.out (HN.out.below BW) (by omega) HX.out).mono ?_
      rintro e w2 ⟨rfl, hb⟩
      have R0 := row_kept R0 hb (row_lt R0)
      have BW := BW.trans (hb.mono BW.size)
      have N0 : FlsN w.heap.size w2 A l := ⟨HN.out.below BW, HNb.out.2⟩
      clear hb K0
      go_wp2
      go_loopw [6] (fun i wr => ∃ (j : Nat) (n1 : Int) (A1 : Option Addr) (k1 c1 : Nat) (L1 : List Fl) (ww1 cc1 s1 v1 r1 f1 : Int) (h1 : Bool), j ≤ m ∧ i = .int .i64 j ∧ Hid (Sd.right ⟨n1, L1, ww1, cc1⟩ = true) ∧ Hid (Rtt.right ⟨s1, v1, r1, f1, h1⟩ = true) ∧ Hid (L1.length = k1) ∧ wr.heap[w.heap.size]? = some (chO n1 A1 k1 c1 ww1 cc1 s1 v1 r1 f1 h1) ∧ Hid (FlsN w.heap.size wr A1 L1) ∧ Below w.heap.size w wr) (fun i _ => m - (intOf i).toNat)
      case atStart => exact ⟨0, n, A, k, c, l, ww, cc, s, v, r, f, h, Nat.zero_le _, rfl, HR, HRt, Hn, R0, N0, BW⟩
      case round =>
        clear R0 BW N0 HR HRt Hn HN HNb HX
        obtain ⟨j, n1, A1, k1, c1, L1, ww1, cc1, s1, v1, r1, f1, h1, hj, rfl, HR, HRt, Hn, R0, HNj, BW⟩ := hrel
        obtain ⟨wo, hwo⟩ : ∃ wo, wo = wr := ⟨_, rfl⟩
        subst hwo
        have K0 := row_cells R0
        by_cases hjm : j < m
        · obtain ⟨b, off, rfl, hbb, d, p, q, t, a1, a2, a3, a4, e0, e1, e2, e3, e4, e5, e6, e7⟩ := acts_at (HZb.out _ BW) Hz.out hjm
          have q0 : (0 : Int) ≤ (j : Int) := by omega
          have q1 : (j : Int) < (m : Int) := by omega
          have R7 := a_new wo (acO d p q t a1 a2 a3 a4)
          have R0a := a_lift (p := acO d p q t a1 a2 a3 a4) R0
          have K7a := row_cells R7
          have K0a := row_cells R0a
          by_cases ht : t < 0
          · clear R7 R0a
            go_wp2
            go_ret
            exact ⟨rfl, BW.alloc BW.size _⟩
          · have ht' : decide (t < 0) = false := decide_eq_false ht
            by_cases ht2 : 1099511627776 < t
            · clear R7 R0a
              go_wp2
              go_ret
              exact ⟨rfl, BW.alloc BW.size _⟩
            · have ht3 : decide (1099511627776 < t) = false := decide_eq_false ht2
              have T0 : 0 ≤ t ∧ t ≤ 1099511627776 := by omega
              obtain ⟨g1, g2, g3, g4, g5⟩ := right_bd HR.out
              have h8 : k1 ≤ 8 := by rw [← Hn.out]; exact g4
              clear g5 g4
              have R0 := a_lift (p := chO n1 A1 k1 c1 ww1 cc1 s1 v1 r1 f1 h1) R0a
              have R8 := a_new2 wo (acO d p q t a1 a2 a3 a4) (chO n1 A1 k1 c1 ww1 cc1 s1 v1 r1 f1 h1)
              have R7 := a_lift (p := chO n1 A1 k1 c1 ww1 cc1 s1 v1 r1 f1 h1) R7
              have N1 : FlsN w.heap.size _ A1 L1 := HNj.out.kept (below_alloc2 wo (acO d p q t a1 a2 a3 a4) (chO n1 A1 k1 c1 ww1 cc1 s1 v1 r1 f1 h1))
              have BW := BW.trans ((below_alloc2 wo (acO d p q t a1 a2 a3 a4) (chO n1 A1 k1 c1 ww1 cc1 s1 v1 r1 f1 h1)).mono BW.size)
              have hg8 : w.heap.size < wo.heap.size := by
                have h := row_lt R0a
                rcases Nat.lt_or_ge w.heap.size wo.heap.size with h' | h'
                · exact h'
                · exfalso
                  have e : w.heap.size = wo.heap.size := by simp at h; omega
                  rw [e] at R0
                  rw [R0] at R7
                  injection R7 with R7
                  injection R7 with _ h
                  exact absurd h (by decide)
              have h0b : 0 ≤ n1 ∧ n1 ≤ 1073741824 := by omega
              clear R0a HNj hbb
              have K0' := row_cells R0
              have K7 := row_cells R7
              have K8 := row_cells R8
              by_cases hd0 : d = 0
              · subst hd0
                as_aux_lemma =>
                  have hrb := room_bd _ HR.out
                  obtain ⟨rm, hrm⟩ : ∃ rm, Sd.room ⟨n1, L1, ww1, cc1⟩ = rm := ⟨_, rfl⟩
                  rw [hrm] at hrb
                  have HRM := Lib.hid hrm
                  by_cases hr0 : rm = 0
                  · subst hr0
                    have p1 := push_no (u := a1) (v := a2) (x := a3) (y := a4) (now := t) hrm
                    have P1 := Lib.hid p1
                    clear p1 hrm hrb
                    go_wp2_with fail
                    refine (chpush_to HR.out Hn.out N1.1 P1.out Hn.out).mono ?_
                    rintro e w5 ⟨A2, c2, rfl, hO, hb⟩
                    have hlt0 := row_lt R0
                    have R0 := alloc2 (row_kept R0 hb (row_lt R0)) (chO n1 A2 k1 c2 ww1 cc1 s1 v1 r1 f1 h1) (flO Fl.zero.q Fl.zero.u Fl.zero.v Fl.zero.s Fl.zero.c Fl.zero.a Fl.zero.t)
                    have R7 := alloc2 (row_kept R7 hb (row_lt R7)) (chO n1 A2 k1 c2 ww1 cc1 s1 v1 r1 f1 h1) (flO Fl.zero.q Fl.zero.u Fl.zero.v Fl.zero.s Fl.zero.c Fl.zero.a Fl.zero.t)
                    have R8 := alloc2 (row_kept R8 hb (row_lt R8)) (chO n1 A2 k1 c2 ww1 cc1 s1 v1 r1 f1 h1) (flO Fl.zero.q Fl.zero.u Fl.zero.v Fl.zero.s Fl.zero.c Fl.zero.a Fl.zero.t)
                    have R9 := a_lift (p := flO Fl.zero.q Fl.zero.u Fl.zero.v Fl.zero.s Fl.zero.c Fl.zero.a Fl.zero.t) (a_new w5 (chO n1 A2 k1 c2 ww1 cc1 s1 v1 r1 f1 h1))
                    have R10 := a_new2 w5 (chO n1 A2 k1 c2 ww1 cc1 s1 v1 r1 f1 h1) (flO Fl.zero.q Fl.zero.u Fl.zero.v Fl.zero.s Fl.zero.c Fl.zero.a Fl.zero.t)
                    have N1 := (N1.kept hb).kept (below_alloc2 w5 (chO n1 A2 k1 c2 ww1 cc1 s1 v1 r1 f1 h1) (flO Fl.zero.q Fl.zero.u Fl.zero.v Fl.zero.s Fl.zero.c Fl.zero.a Fl.zero.t))
                    have N2 := (FlsN.own hO hlt0).kept (below_alloc2 w5 (chO n1 A2 k1 c2 ww1 cc1 s1 v1 r1 f1 h1) (flO Fl.zero.q Fl.zero.u Fl.zero.v Fl.zero.s Fl.zero.c Fl.zero.a Fl.zero.t))
                    have BW := (BW.trans (hb.mono BW.size)).trans ((below_alloc2 w5 (chO n1 A2 k1 c2 ww1 cc1 s1 v1 r1 f1 h1) (flO Fl.zero.q Fl.zero.u Fl.zero.v Fl.zero.s Fl.zero.c Fl.zero.a Fl.zero.t)).mono (BW.trans (hb.mono BW.size)).size)
                    clear hO
                    clear hb K0 K0a K0' K7 K7a K8 e0 e1 e2 e3 e4 e5 e6 e7
                    have K0 := row_cells R0
                    go_wp2_with fail
                    refine (chroom_to HR.out Hn.out N1.1 HRM.out).mono ?_
                    rintro e w4' ⟨rfl, hb⟩
                    have R0 := row_kept R0 hb (row_lt R0)
                    have R7 := row_kept R7 hb (row_lt R7)
                    have R8 := row_kept R8 hb (row_lt R8)
                    have R9 := row_kept R9 hb (row_lt R9)
                    have N2 := N2.kept hb
                    have BW := BW.trans (hb.mono BW.size)
                    clear hb K0
                    have K9 := row_cells R9
                    have HXX := Lib.hid (show (Sd.right ⟨n1, L1, ww1, cc1⟩ && Rtt.right ⟨s1, v1, r1, f1, h1⟩) = true by rw [HR.out, HRt.out]; rfl)
                    obtain ⟨s0, s1', x0, x1, f0, f1', sz⟩ := rows1 R0
                    have F0 := setRow_row (t := chT) (cs := #[.int .i64 n1, .slice A2 k1 c2, .int .i64 ww1, .int .i64 cc1, .int .i64 s1, .int .i64 v1, .int .i64 r1, .int .i64 f1, .bool h1]) (row_lt R0)
                    have F8 := (setRow_far (t := chT) (cs := #[.int .i64 n1, .slice A2 k1 c2, .int .i64 ww1, .int .i64 cc1, .int .i64 s1, .int .i64 v1, .int .i64 r1, .int .i64 f1, .bool h1]) (show wo.heap.size + 1 ≠ w.heap.size by omega)).trans R8
                    have F7 := (setRow_far (t := chT) (cs := #[.int .i64 n1, .slice A2 k1 c2, .int .i64 ww1, .int .i64 cc1, .int .i64 s1, .int .i64 v1, .int .i64 r1, .int .i64 f1, .bool h1]) (show wo.heap.size ≠ w.heap.size by omega)).trans R7
                    have FN := N2.set (t := chT) (cs := #[.int .i64 n1, .slice A2 k1 c2, .int .i64 ww1, .int .i64 cc1, .int .i64 s1, .int .i64 v1, .int .i64 r1, .int .i64 f1, .bool h1])
                    have FB := setRow_below (g := w.heap.size) (t := chT) (cs := #[.int .i64 n1, .slice A2 k1 c2, .int .i64 ww1, .int .i64 cc1, .int .i64 s1, .int .i64 v1, .int .i64 r1, .int .i64 f1, .bool h1]) BW (Nat.le_refl _)
                    have HF := Lib.hid (And.intro F0 (And.intro F7 (And.intro F8 (And.intro FN FB))))
                    clear R0 R7 R8 N2 BW F0 F7 F8 FN FB
                    go_wp2_with fail
                    obtain ⟨R0, R7, R8, N2, BW⟩ := HF.out
                    clear s0 s1' x0 x1 f0 f1' sz
                    refine (chright_to Hn.out N2.1 (by omega) HXX.out).mono ?_
                    rintro e w6 ⟨rfl, hb⟩
                    have R0 := row_kept R0 hb (row_lt R0)
                    have R7 := row_kept R7 hb (row_lt R7)
                    have R8 := row_kept R8 hb (row_lt R8)
                    have N2 := Lib.hid (N2.kept hb)
                    have BW := BW.trans (hb.mono BW.size)
                    clear hb
                    have K0 := row_cells R0
                    have K7 := row_cells R7
                    have K8 := row_cells R8
                    go_wp2
                    go_roundw
                    case rel => exact ⟨j + 1, n1, A2, k1, c2, L1, ww1, cc1, s1, v1, r1, f1, h1, by omega, by go_num, HR, HRt, Hn, R0, N2, BW⟩
                    case measure => simp [intOf]; omega
                  · obtain ⟨p1, -⟩ := push_eq (u := a1) (v := a2) (x := a3) (y := a4) (now := t) HR.out (by omega)
                    have p3 := push_right (u := a1) (v := a2) (x := a3) (y := a4) (now := t) HR.out T0
                    rw [p1] at p3
                    have P1 := Lib.hid p1
                    have P3 := Lib.hid p3
                    have P4 := Lib.hid (show (L1 ++ [(⟨n1, a1, a2, a3, a4, t, 1⟩ : Fl)]).length = k1 + 1 by rw [List.length_append, Hn.out]; rfl)
                    have hr0' : 0 < rm := by omega
                    clear p1 p3 hrm hr0
                    go_wp2_with fail
                    refine (chpush_to HR.out Hn.out N1.1 P1.out P4.out).mono ?_
                    rintro e w5 ⟨A2, c2, rfl, hO, hb⟩
                    have hlt0 := row_lt R0
                    have R0 := alloc2 (row_kept R0 hb (row_lt R0)) (chO (n1 + 1) A2 (k1 + 1) c2 ww1 cc1 s1 v1 r1 f1 h1) (flO n1 a1 a2 a3 a4 t 1)
                    have R7 := alloc2 (row_kept R7 hb (row_lt R7)) (chO (n1 + 1) A2 (k1 + 1) c2 ww1 cc1 s1 v1 r1 f1 h1) (flO n1 a1 a2 a3 a4 t 1)
                    have R8 := alloc2 (row_kept R8 hb (row_lt R8)) (chO (n1 + 1) A2 (k1 + 1) c2 ww1 cc1 s1 v1 r1 f1 h1) (flO n1 a1 a2 a3 a4 t 1)
                    have R9 := a_lift (p := flO n1 a1 a2 a3 a4 t 1) (a_new w5 (chO (n1 + 1) A2 (k1 + 1) c2 ww1 cc1 s1 v1 r1 f1 h1))
                    have R10 := a_new2 w5 (chO (n1 + 1) A2 (k1 + 1) c2 ww1 cc1 s1 v1 r1 f1 h1) (flO n1 a1 a2 a3 a4 t 1)
                    have N1 := (N1.kept hb).kept (below_alloc2 w5 (chO (n1 + 1) A2 (k1 + 1) c2 ww1 cc1 s1 v1 r1 f1 h1) (flO n1 a1 a2 a3 a4 t 1))
                    have N2 := (FlsN.own hO hlt0).kept (below_alloc2 w5 (chO (n1 + 1) A2 (k1 + 1) c2 ww1 cc1 s1 v1 r1 f1 h1) (flO n1 a1 a2 a3 a4 t 1))
                    have BW := (BW.trans (hb.mono BW.size)).trans ((below_alloc2 w5 (chO (n1 + 1) A2 (k1 + 1) c2 ww1 cc1 s1 v1 r1 f1 h1) (flO n1 a1 a2 a3 a4 t 1)).mono (BW.trans (hb.mono BW.size)).size)
                    clear hO
                    clear hb K0 K0a K0' K7 K7a K8 e0 e1 e2 e3 e4 e5 e6 e7
                    have K9 := row_cells R9
                    have K10 := row_cells R10
                    have K8 := row_cells R8
                    go_wp2_with fail
                    refine (chidle_yes (Nat.succ_pos k1)).mono ?_
                    rintro e w4 ⟨rfl, hb⟩
                    have R0 := row_kept R0 hb (row_lt R0)
                    have R7 := row_kept R7 hb (row_lt R7)
                    have R8 := row_kept R8 hb (row_lt R8)
                    have R9 := row_kept R9 hb (row_lt R9)
                    have N1 := N1.kept hb
                    have N2 := N2.kept hb
                    have BW := BW.trans (hb.mono BW.size)
                    clear hb K9 K10 K8 R10
                    have K0 := row_cells R0
                    go_wp2_with fail
                    refine (chroom_to HR.out Hn.out N1.1 HRM.out).mono ?_
                    rintro e w4' ⟨rfl, hb⟩
                    have R0 := row_kept R0 hb (row_lt R0)
                    have R7 := row_kept R7 hb (row_lt R7)
                    have R8 := row_kept R8 hb (row_lt R8)
                    have R9 := row_kept R9 hb (row_lt R9)
                    have N2 := N2.kept hb
                    have BW := BW.trans (hb.mono BW.size)
                    clear hb K0
                    have K9 := row_cells R9
                    have HXX := Lib.hid (show (Sd.right ⟨(n1 + 1), (L1 ++ [(⟨n1, a1, a2, a3, a4, t, 1⟩ : Fl)]), ww1, cc1⟩ && Rtt.right ⟨s1, v1, r1, f1, h1⟩) = true by rw [P3.out, HRt.out]; rfl)
                    obtain ⟨s0, s1', x0, x1, f0, f1', sz⟩ := rows1 R0
                    have F0 := setRow_row (t := chT) (cs := #[.int .i64 (n1 + 1), .slice A2 (k1 + 1) c2, .int .i64 ww1, .int .i64 cc1, .int .i64 s1, .int .i64 v1, .int .i64 r1, .int .i64 f1, .bool h1]) (row_lt R0)
                    have F8 := (setRow_far (t := chT) (cs := #[.int .i64 (n1 + 1), .slice A2 (k1 + 1) c2, .int .i64 ww1, .int .i64 cc1, .int .i64 s1, .int .i64 v1, .int .i64 r1, .int .i64 f1, .bool h1]) (show wo.heap.size + 1 ≠ w.heap.size by omega)).trans R8
                    have F7 := (setRow_far (t := chT) (cs := #[.int .i64 (n1 + 1), .slice A2 (k1 + 1) c2, .int .i64 ww1, .int .i64 cc1, .int .i64 s1, .int .i64 v1, .int .i64 r1, .int .i64 f1, .bool h1]) (show wo.heap.size ≠ w.heap.size by omega)).trans R7
                    have FN := N2.set (t := chT) (cs := #[.int .i64 (n1 + 1), .slice A2 (k1 + 1) c2, .int .i64 ww1, .int .i64 cc1, .int .i64 s1, .int .i64 v1, .int .i64 r1, .int .i64 f1, .bool h1])
                    have FB := setRow_below (g := w.heap.size) (t := chT) (cs := #[.int .i64 (n1 + 1), .slice A2 (k1 + 1) c2, .int .i64 ww1, .int .i64 cc1, .int .i64 s1, .int .i64 v1, .int .i64 r1, .int .i64 f1, .bool h1]) BW (Nat.le_refl _)
                    have HF := Lib.hid (And.intro F0 (And.intro F7 (And.intro F8 (And.intro FN FB))))
                    clear R0 R7 R8 N2 BW F0 F7 F8 FN FB
                    go_wp2_with fail
                    obtain ⟨R0, R7, R8, N2, BW⟩ := HF.out
                    clear s0 s1' x0 x1 f0 f1' sz
                    refine (chright_to P4.out N2.1 (by omega) HXX.out).mono ?_
                    rintro e w6 ⟨rfl, hb⟩
                    have R0 := row_kept R0 hb (row_lt R0)
                    have R7 := row_kept R7 hb (row_lt R7)
                    have R8 := row_kept R8 hb (row_lt R8)
                    have N2 := Lib.hid (N2.kept hb)
                    have BW := BW.trans (hb.mono BW.size)
                    clear hb
                    have K0 := row_cells R0
                    have K7 := row_cells R7
                    have K8 := row_cells R8
                    go_wp2
                    go_roundw
                    case rel => exact ⟨j + 1, (n1 + 1), A2, (k1 + 1), c2, (L1 ++ [(⟨n1, a1, a2, a3, a4, t, 1⟩ : Fl)]), ww1, cc1, s1, v1, r1, f1, h1, by omega, by go_num, P3, HRt, P4, R0, N2, BW⟩
                    case measure => simp [intOf]; omega
              · have hd0' : (d == 0) = false := by simpa using hd0
                have hd0n : (d != 0) = true := by simpa using hd0
                by_cases hd1 : d = 1
                · subst hd1
                  as_aux_lemma =>
                    obtain ⟨n2, L2, ww2, cc2, tk, hp⟩ : ∃ n2 L2 ww2 cc2 tk, Sd.acked ⟨n1, L1, ww1, cc1⟩ p q t = (⟨n2, L2, ww2, cc2⟩, tk) := ⟨_, _, _, _, _, rfl⟩
                    obtain ⟨y1, -, y3, y4⟩ := acked_right HR.out p q t
                    rw [hp] at y1 y3 y4
                    dsimp only at y1 y3 y4
                    subst y4
                    obtain ⟨k2, hk2⟩ : ∃ k2, L2.length = k2 := ⟨_, rfl⟩
                    rw [hk2, Hn.out] at y3
                    obtain ⟨s2, v2, r2, f2, h2, he⟩ : ∃ s2 v2 r2 f2 h2, (if tk = -1 then (⟨s1, v1, r1, f1, h1⟩ : Rtt) else Rtt.sample ⟨s1, v1, r1, f1, h1⟩ tk) = ⟨s2, v2, r2, f2, h2⟩ := ⟨_, _, _, _, _, rfl⟩
                    have hR2 : Rtt.right ⟨s2, v2, r2, f2, h2⟩ = true := by
                      rw [← he]
                      split
                      · exact HRt.out
                      · exact Rtt.ok_right (Rtt.sample_ok _ _)
                    have HP := Lib.hid hp
                    have HE := Lib.hid he
                    have HR2 := Lib.hid y1
                    have HRt2 := Lib.hid hR2
                    have Hn2 := Lib.hid hk2
                    clear hp y1 hk2 he hR2
                    go_wp2_with fail
                    refine (chack_to HR.out Hn.out N1.1 T0 HP.out Hn2.out HE.out).mono ?_
                    rintro e w5 ⟨A2, c2, rfl, hO, hb⟩
                    have hlt0 := row_lt R0
                    have R0 := row_kept R0 hb (row_lt R0)
                    have R7 := row_kept R7 hb (row_lt R7)
                    have R8 := row_kept R8 hb (row_lt R8)
                    have N2 := FlsN.own hO hlt0
                    have BW := BW.trans (hb.mono BW.size)
                    clear hO
                    clear hb K0 K0a K0' K7 K7a K8 e0 e1 e2 e3 e4 e5 e6 e7
                    have HXX := Lib.hid (show (Sd.right ⟨n2, L2, ww2, cc2⟩ && Rtt.right ⟨s2, v2, r2, f2, h2⟩) = true by rw [HR2.out, HRt2.out]; rfl)
                    obtain ⟨s0, s1', x0, x1, f0, f1', sz⟩ := rows1 R0
                    have F0 := setRow_row (t := chT) (cs := #[.int .i64 n2, .slice A2 k2 c2, .int .i64 ww2, .int .i64 cc2, .int .i64 s2, .int .i64 v2, .int .i64 r2, .int .i64 f2, .bool h2]) (row_lt R0)
                    have F8 := (setRow_far (t := chT) (cs := #[.int .i64 n2, .slice A2 k2 c2, .int .i64 ww2, .int .i64 cc2, .int .i64 s2, .int .i64 v2, .int .i64 r2, .int .i64 f2, .bool h2]) (show wo.heap.size + 1 ≠ w.heap.size by omega)).trans R8
                    have F7 := (setRow_far (t := chT) (cs := #[.int .i64 n2, .slice A2 k2 c2, .int .i64 ww2, .int .i64 cc2, .int .i64 s2, .int .i64 v2, .int .i64 r2, .int .i64 f2, .bool h2]) (show wo.heap.size ≠ w.heap.size by omega)).trans R7
                    have FN := N2.set (t := chT) (cs := #[.int .i64 n2, .slice A2 k2 c2, .int .i64 ww2, .int .i64 cc2, .int .i64 s2, .int .i64 v2, .int .i64 r2, .int .i64 f2, .bool h2])
                    have FB := setRow_below (g := w.heap.size) (t := chT) (cs := #[.int .i64 n2, .slice A2 k2 c2, .int .i64 ww2, .int .i64 cc2, .int .i64 s2, .int .i64 v2, .int .i64 r2, .int .i64 f2, .bool h2]) BW (Nat.le_refl _)
                    have HF := Lib.hid (And.intro F0 (And.intro F7 (And.intro F8 (And.intro FN FB))))
                    clear R0 R7 R8 N2 BW F0 F7 F8 FN FB
                    go_wp2_with fail
                    obtain ⟨R0, R7, R8, N2, BW⟩ := HF.out
                    clear s0 s1' x0 x1 f0 f1' sz
                    refine (chright_to Hn2.out N2.1 (by omega) HXX.out).mono ?_
                    rintro e w6 ⟨rfl, hb⟩
                    have R0 := row_kept R0 hb (row_lt R0)
                    have R7 := row_kept R7 hb (row_lt R7)
                    have R8 := row_kept R8 hb (row_lt R8)
                    have N2 := Lib.hid (N2.kept hb)
                    have BW := BW.trans (hb.mono BW.size)
                    clear hb
                    have K0 := row_cells R0
                    have K7 := row_cells R7
                    have K8 := row_cells R8
                    go_wp2
                    go_roundw
                    case rel => exact ⟨j + 1, n2, A2, k2, c2, L2, ww2, cc2, s2, v2, r2, f2, h2, by omega, by go_num, HR2, HRt2, Hn2, R0, N2, BW⟩
                    case measure => simp [intOf]; omega
                · have hd1' : (d == 1) = false := by simpa using hd1
                  by_cases hd2 : d = 2
                  · subst hd2
                    as_aux_lemma =>
                      obtain ⟨n2, L2, ww2, cc2, s2, v2, r2, f2, h2, G, hp⟩ : ∃ n2 L2 ww2 cc2 s2 v2 r2 f2 h2 G, Ch.tick ⟨⟨n1, L1, ww1, cc1⟩, ⟨s1, v1, r1, f1, h1⟩⟩ t p = (⟨⟨n2, L2, ww2, cc2⟩, ⟨s2, v2, r2, f2, h2⟩⟩, G) := ⟨_, _, _, _, _, _, _, _, _, _, rfl⟩
                      obtain ⟨y1, y4, y5⟩ := tick_right (most := p) HR.out HRt.out T0
                      obtain ⟨z2, z3, z4⟩ := tick_facts HR.out HRt.out hp
                      rw [hp] at y1 y4 y5
                      dsimp only at y1 y4 y5 z3 z4
                      subst y4
                      obtain ⟨k2, hk2⟩ : ∃ k2, L2.length = k2 := ⟨_, rfl⟩
                      obtain ⟨mg, hmg⟩ : ∃ mg, G.length = mg := ⟨_, rfl⟩
                      have k28 : k2 ≤ 8 := by rw [← hk2]; exact (right_bd y1).2.2.2.1
                      rw [hmg] at z2 z3 z4
                      have ho1 := (Rtt.right_iff _).1 HRt.out
                      have hr164 : 2 ≤ r1 ∧ r1 ≤ 64 := ⟨ho1.2.2.2.2.1, ho1.2.2.2.2.2.1⟩
                      have HP := Lib.hid hp
                      have HR2 := Lib.hid y1
                      have HRt2 := Lib.hid y5
                      have Hn2 := Lib.hid hk2
                      have HMG := Lib.hid hmg
                      have HZ4 := Lib.hid z4
                      have HAA := Lib.hid (right_all HR.out).2.1
                      obtain ⟨mx, hmx⟩ : ∃ mx, (if p < 0 then 0 else p) = mx := ⟨_, rfl⟩
                      rw [hmx] at z2
                      have hmax := run_max2 #[3, 3] 3 p 0 mx hmx
                      have hle : decide (mx < (mg : Int)) = false := decide_eq_false (by omega)
                      clear hp y1 y5 hk2 hmg z4 ho1 hmx
                      go_wp2_with fail
                      refine (tick_to HR.out HRt.out Hn.out N1.1 T0 HP.out Hn2.out HMG.out).mono ?_
                      rintro e w5 ⟨A2, c2, B2, d2, rfl, ⟨hO, hG⟩, hb⟩
                      have hlt0 := row_lt R0
                      have hmb := OwnR.len hG
                      unfold maxLen at hmb
                      have hmb : mg ≤ 9223372036854775807 := by omega
                      have R0 := a_lift (p := chO n2 A2 k2 c2 ww2 cc2 s2 v2 r2 f2 h2) (row_kept R0 hb (row_lt R0))
                      have R7 := a_lift (p := chO n2 A2 k2 c2 ww2 cc2 s2 v2 r2 f2 h2) (row_kept R7 hb (row_lt R7))
                      have R8 := a_lift (p := chO n2 A2 k2 c2 ww2 cc2 s2 v2 r2 f2 h2) (row_kept R8 hb (row_lt R8))
                      have R12 := a_new w5 (chO n2 A2 k2 c2 ww2 cc2 s2 v2 r2 f2 h2)
                      have N1 := (N1.kept hb).kept ((Below.refl w5.heap.size w5).alloc (Nat.le_refl _) (chO n2 A2 k2 c2 ww2 cc2 s2 v2 r2 f2 h2))
                      have N2 := (FlsN.own hO hlt0).kept ((Below.refl w5.heap.size w5).alloc (Nat.le_refl _) (chO n2 A2 k2 c2 ww2 cc2 s2 v2 r2 f2 h2))
                      have NG : Fls _ B2 G := Nums.alloc hG.fls (chO n2 A2 k2 c2 ww2 cc2 s2 v2 r2 f2 h2)
                      have BW := (BW.trans (hb.mono BW.size)).alloc (BW.trans (hb.mono BW.size)).size (chO n2 A2 k2 c2 ww2 cc2 s2 v2 r2 f2 h2)
                      clear hO hG
                      clear hb K0 K0a K0' K7 K7a K8 e0 e1 e2 e3 e4 e5 e6 e7
                      have K0 := row_cells R0
                      have K7 := row_cells R7
                      have K12 := row_cells R12
                      obtain ⟨V, hV⟩ : ∃ V, w5.alloc (chO n2 A2 k2 c2 ww2 cc2 s2 v2 r2 f2 h2) = V := ⟨_, rfl⟩
                      rw [hV] at R0 R7 R8 R12 N1 N2 NG BW K0 K7 K12
                      have hcase : mg = 0 ∨ (0 < mg ∧ 1 ≤ f2 ∧ r1 ≤ r2) := by
                        rcases Nat.eq_zero_or_pos mg with h0 | h0
                        · exact Or.inl h0
                        · exact Or.inr ⟨h0, z3 h0⟩
                      clear z3
                      rcases hcase with h0 | ⟨h0, hf2, hrr⟩
                      · have z5 : decide ((0 : Int) < (mg : Int)) = false := decide_eq_false (by omega)
                        obtain ⟨mi, hmi⟩ : ∃ mi : Int, (mg : Int) = mi := ⟨_, rfl⟩
                        have hmi0 : mi = 0 := by omega
                        subst h0
                        clear hmi hmi0
                        go_wp2
                        clear hV K0 K7 K12 hmax hle z5
                        go_loopw [14] (fun i wr => i = .int .i64 0 ∧ Below V.heap.size V wr) (fun _ _ => 0)
                        case atStart => exact ⟨rfl, Below.refl _ _⟩
                        case round =>
                          obtain ⟨rfl, hB⟩ := hrel
                          have R0 := row_kept R0 hB (row_lt R0)
                          have R7 := row_kept R7 hB (row_lt R7)
                          have R8 := row_kept R8 hB (row_lt R8)
                          have R12 := row_kept R12 hB (row_lt R12)
                          have N2 := N2.kept hB
                          have BW := BW.trans (hB.mono BW.size)
                          clear hB
                          have K12 := row_cells R12
                          have HXX := Lib.hid (show (Sd.right ⟨n2, L2, ww2, cc2⟩ && Rtt.right ⟨s2, v2, r2, f2, h2⟩) = true by rw [HR2.out, HRt2.out]; rfl)
                          obtain ⟨s0, s1', x0, x1, f0, f1', sz⟩ := rows1 R0
                          have F0 := setRow_row (t := chT) (cs := #[.int .i64 n2, .slice A2 k2 c2, .int .i64 ww2, .int .i64 cc2, .int .i64 s2, .int .i64 v2, .int .i64 r2, .int .i64 f2, .bool h2]) (row_lt R0)
                          have F8 := (setRow_far (t := chT) (cs := #[.int .i64 n2, .slice A2 k2 c2, .int .i64 ww2, .int .i64 cc2, .int .i64 s2, .int .i64 v2, .int .i64 r2, .int .i64 f2, .bool h2]) (show wo.heap.size + 1 ≠ w.heap.size by omega)).trans R8
                          have F7 := (setRow_far (t := chT) (cs := #[.int .i64 n2, .slice A2 k2 c2, .int .i64 ww2, .int .i64 cc2, .int .i64 s2, .int .i64 v2, .int .i64 r2, .int .i64 f2, .bool h2]) (show wo.heap.size ≠ w.heap.size by omega)).trans R7
                          have FN := N2.set (t := chT) (cs := #[.int .i64 n2, .slice A2 k2 c2, .int .i64 ww2, .int .i64 cc2, .int .i64 s2, .int .i64 v2, .int .i64 r2, .int .i64 f2, .bool h2])
                          have FB := setRow_below (g := w.heap.size) (t := chT) (cs := #[.int .i64 n2, .slice A2 k2 c2, .int .i64 ww2, .int .i64 cc2, .int .i64 s2, .int .i64 v2, .int .i64 r2, .int .i64 f2, .bool h2]) BW (Nat.le_refl _)
                          have HF := Lib.hid (And.intro F0 (And.intro F7 (And.intro F8 (And.intro FN FB))))
                          clear R0 R7 R8 N2 BW F0 F7 F8 FN FB
                          go_wp2_with fail
                          obtain ⟨R0, R7, R8, N2, BW⟩ := HF.out
                          clear s0 s1' x0 x1 f0 f1' sz
                          refine (chright_to Hn2.out N2.1 (by omega) HXX.out).mono ?_
                          rintro e w6 ⟨rfl, hb⟩
                          have R0 := row_kept R0 hb (row_lt R0)
                          have R7 := row_kept R7 hb (row_lt R7)
                          have R8 := row_kept R8 hb (row_lt R8)
                          have N2 := Lib.hid (N2.kept hb)
                          have BW := BW.trans (hb.mono BW.size)
                          clear hb
                          have K0 := row_cells R0
                          have K7 := row_cells R7
                          have K8 := row_cells R8
                          go_wp2
                          go_roundw
                          case rel => exact ⟨j + 1, n2, A2, k2, c2, L2, ww2, cc2, s2, v2, r2, f2, h2, by omega, by go_num, HR2, HRt2, Hn2, R0, N2, BW⟩
                          case measure => simp [intOf]; omega
                      · have z5 : decide ((0 : Int) < (mg : Int)) = true := decide_eq_true (by omega)
                        have z6 : (f2 == 0) = false := beq_eq_false_iff_ne.2 (by omega)
                        have z7 : decide (r2 < r1) = false := decide_eq_false (by omega)
                        go_wp2
                        clear hV K0 K7 K12 hmax hle h0
                        go_loopw [14] (fun i wr => ∃ kk : Nat, kk ≤ mg ∧ i = .int .i64 kk ∧ Below V.heap.size V wr) (fun i _ => mg - (intOf i).toNat)
                        case atStart => exact ⟨0, Nat.zero_le _, rfl, Below.refl _ _⟩
                        case round =>
                          as_aux_lemma =>
                            obtain ⟨kk, hkk, rfl, hB⟩ := hrel
                            by_cases hkm : kk < mg
                            · obtain ⟨gb, go', rfl, hgb, -, -, -, -, -, -, -⟩ := (Fls.below NG hB).at (i := kk) (by rw [HMG.out]; exact hkm)
                              obtain ⟨pp, hpl, hpa, hpg⟩ := HZ4.out kk hkm
                              have hpk : pp < k1 := by rw [← Hn.out]; exact hpl
                              have p0 : (0 : Int) ≤ (kk : Int) := by omega
                              have p1 : (kk : Int) < (mg : Int) := by omega
                              have CG := Lib.hid (fun (W : World) (hW : Below V.heap.size V W) => show W.cell? ⟨gb, go' + kk * 7, none⟩ = some (.int .i64 (G.getD kk .zero).q) ∧ W.cell? ⟨gb, go' + kk * 7 + 1, none⟩ = some (.int .i64 (G.getD kk .zero).u) ∧ W.cell? ⟨gb, go' + kk * 7 + 2, none⟩ = some (.int .i64 (G.getD kk .zero).v) ∧ W.cell? ⟨gb, go' + kk * 7 + 3, none⟩ = some (.int .i64 (G.getD kk .zero).s) ∧ W.cell? ⟨gb, go' + kk * 7 + 4, none⟩ = some (.int .i64 (G.getD kk .zero).c) ∧ W.cell? ⟨gb, go' + kk * 7 + 5, none⟩ = some (.int .i64 (G.getD kk .zero).a) from by
                                obtain ⟨b', o', e, -, d0, d1, d2, d3, d4, d5, -⟩ := (Fls.below NG hW).at (i := kk) (by rw [HMG.out]; exact hkm)
                                injection e with e
                                injection e with e1 e2
                                subst e1; subst e2
                                exact ⟨d0, d1, d2, d3, d4, d5⟩)
                              rw [hpg] at CG
                              unfold Sd.again at CG
                              dsimp only at CG
                              have HPP := Lib.hid (And.intro hpl hpa)
                              clear hpg hpl hpa
                              go_wp2
                              go_loopw [15, 16] (fun hd i wr => ∃ (nn : Nat) (hb : Bool), nn ≤ k1 ∧ i = .int .i64 nn ∧ hd = .bool hb ∧ Hid (pp < nn → hb = true) ∧ Below V.heap.size V wr) (fun _ i _ => k1 - (intOf i).toNat)
                              case atStart => exact ⟨0, false, Nat.zero_le _, rfl, rfl, (fun h => absurd h (Nat.not_lt_zero _) : pp < 0 → false = true), hB⟩
                              case round =>
                                as_aux_lemma =>
                                  obtain ⟨nn, hd, hnn, rfl, rfl, HD, hB2⟩ := hrel
                                  have k0 := row_kept R0 hB2 (row_lt R0)
                                  have k7 := row_kept R7 hB2 (row_lt R7)
                                  have K0 := row_cells k0
                                  by_cases hnk : nn < k1
                                  · obtain ⟨lb, lo, rfl, hlb, l0, l1, l2, l3, l4, l5, l6⟩ := (Fls.below N1.1 hB2).at (i := nn) (by rw [Hn.out]; exact hnk)
                                    have hnl : nn < L1.length := by rw [Hn.out]; exact hnk
                                    have hla := HAA.out (L1.getD nn .zero) (by simp [List.getD, hnl])
                                    have hpe : pp = nn → L1.getD pp .zero = L1.getD nn .zero := fun e => by rw [e]
                                    have hpa := HPP.out.2
                                    have p2 : (0 : Int) ≤ (nn : Int) := by omega
                                    have p3 : (nn : Int) < (k1 : Int) := by omega
                                    have KA := fun (o : Obj) => row_cells (a_lift (p := o) k0)
                                    have K7' := fun (o : Obj) => row_cells (a_lift (p := o) k7)
                                    generalize L1.getD nn .zero = fl at l0 l1 l2 l3 l4 l5 l6 hla hpe
                                    obtain ⟨fq, fu, fv, fs, fc, fa, ft⟩ := fl
                                    dsimp only at l0 l1 l2 l3 l4 l5 l6 hla
                                    generalize L1.getD pp .zero = gl at CG hpe hpa
                                    obtain ⟨gq, gu, gv, gs, gc, ga, gt⟩ := gl
                                    dsimp only at CG hpa
                                    have KF := row_cells (a_new wr (flO fq fu fv fs fc fa ft))
                                    obtain ⟨m0, m1, m2, m3, m4, m5⟩ := CG.out _ (hB2.alloc hB2.size (flO fq fu fv fs fc fa ft))
                                    have HFIN := Lib.hid (below_drewN (hB2.alloc hB2.size (flO fq fu fv fs fc fa ft)))
                                    have hadd : IntKind.i64.wrap (fa + r1) = fa + r1 := IntWalk.i64_in _ (by omega)
                                    have hno := no_eql fu fv fs fc gu gv gs gc
                                    have HPE := Lib.hid hpe
                                    clear hB2 hpe k0 k7
                                    cases hd
                                    · by_cases c1' : fq = gq
                                      · by_cases c2' : fu = gu ∧ fv = gv ∧ fs = gs ∧ fc = gc
                                        · rw [decide_eq_true c2'] at hno
                                          have c1b : (fq == gq) = true := by rw [c1']; exact beq_self_eq_true _
                                          by_cases c3' : fa + r1 ≤ t
                                          · have c3b : decide (fa + r1 ≤ t) = true := decide_eq_true c3'
                                            clear c1' c2' hpa
                                            go_wp2
                                            go_quiet (fail)
                                            go_wp2
                                            go_roundw
                                            case rel => exact ⟨nn + 1, true, by omega, by go_num, rfl, (fun _ => rfl : pp < nn + 1 → true = true), HFIN.out _⟩
                                            case measure => simp [intOf]; omega
                                          · have c3b : decide (fa + r1 ≤ t) = false := decide_eq_false c3'
                                            have HN' := Lib.hid (show pp < nn + 1 → false = true from fun h => by
                                              rcases Nat.lt_or_eq_of_le (Nat.lt_succ_iff.1 h) with h' | h'
                                              · exact HD.out h'
                                              · have := HPE.out h'
                                                simp only [Fl.mk.injEq] at this
                                                omega)
                                            clear c1' c2' hpa
                                            go_wp2
                                            go_quiet (fail)
                                            go_wp2
                                            go_roundw
                                            case rel => exact ⟨nn + 1, false, by omega, by go_num, rfl, HN', HFIN.out _⟩
                                            case measure => simp [intOf]; omega
                                        · rw [decide_eq_false c2'] at hno
                                          have c1b : (fq == gq) = true := by rw [c1']; exact beq_self_eq_true _
                                          have HN' := Lib.hid (show pp < nn + 1 → false = true from fun h => by
                                            rcases Nat.lt_or_eq_of_le (Nat.lt_succ_iff.1 h) with h' | h'
                                            · exact HD.out h'
                                            · have := HPE.out h'
                                              simp only [Fl.mk.injEq] at this
                                              exact absurd ⟨this.2.1.symm, this.2.2.1.symm, this.2.2.2.1.symm, this.2.2.2.2.1.symm⟩ c2')
                                          clear c1' c2' hpa
                                          go_wp2
                                          go_quiet (fail)
                                          go_wp2
                                          go_roundw
                                          case rel => exact ⟨nn + 1, false, by omega, by go_num, rfl, HN', HFIN.out _⟩
                                          case measure => simp [intOf]; omega
                                      · have c1b : (fq == gq) = false := beq_eq_false_iff_ne.2 c1'
                                        have HN' := Lib.hid (show pp < nn + 1 → false = true from fun h => by
                                          rcases Nat.lt_or_eq_of_le (Nat.lt_succ_iff.1 h) with h' | h'
                                          · exact HD.out h'
                                          · have := HPE.out h'
                                            simp only [Fl.mk.injEq] at this
                                            exact absurd this.1.symm c1')
                                        clear c1' hpa hno
                                        go_wp2
                                        go_quiet (fail)
                                        go_wp2
                                        go_roundw
                                        case rel => exact ⟨nn + 1, false, by omega, by go_num, rfl, HN', HFIN.out _⟩
                                        case measure => simp [intOf]; omega
                                    · clear hno hpa
                                      go_wp2
                                      go_quiet (fail)
                                      go_wp2
                                      go_roundw
                                      case rel => exact ⟨nn + 1, true, by omega, by go_num, rfl, (fun _ => rfl : pp < nn + 1 → true = true), HFIN.out _⟩
                                      case measure => simp [intOf]; omega
                                  · obtain rfl : nn = k1 := by omega
                                    obtain rfl := HD.out hpk
                                    have K7' := row_cells k7
                                    obtain ⟨m0, m1, m2, m3, m4, m5⟩ := CG.out _ hB2
                                    have HFIN := Lib.hid (below_drewN hB2)
                                    clear hB2 m0 m1 m2 m3 m4
                                    go_wp2
                                    go_quiet (fail)
                                    go_wp2
                                    go_roundw
                                    case rel => exact ⟨kk + 1, by omega, by go_num, HFIN.out _⟩
                                    case measure => simp [intOf]; omega
                            · obtain rfl : kk = mg := by omega
                              have R0 := row_kept R0 hB (row_lt R0)
                              have R7 := row_kept R7 hB (row_lt R7)
                              have R8 := row_kept R8 hB (row_lt R8)
                              have R12 := row_kept R12 hB (row_lt R12)
                              have N2 := N2.kept hB
                              have BW := BW.trans (hB.mono BW.size)
                              clear hB
                              have K12 := row_cells R12
                              have HXX := Lib.hid (show (Sd.right ⟨n2, L2, ww2, cc2⟩ && Rtt.right ⟨s2, v2, r2, f2, h2⟩) = true by rw [HR2.out, HRt2.out]; rfl)
                              obtain ⟨s0, s1', x0, x1, f0, f1', sz⟩ := rows1 R0
                              have F0 := setRow_row (t := chT) (cs := #[.int .i64 n2, .slice A2 k2 c2, .int .i64 ww2, .int .i64 cc2, .int .i64 s2, .int .i64 v2, .int .i64 r2, .int .i64 f2, .bool h2]) (row_lt R0)
                              have F8 := (setRow_far (t := chT) (cs := #[.int .i64 n2, .slice A2 k2 c2, .int .i64 ww2, .int .i64 cc2, .int .i64 s2, .int .i64 v2, .int .i64 r2, .int .i64 f2, .bool h2]) (show wo.heap.size + 1 ≠ w.heap.size by omega)).trans R8
                              have F7 := (setRow_far (t := chT) (cs := #[.int .i64 n2, .slice A2 k2 c2, .int .i64 ww2, .int .i64 cc2, .int .i64 s2, .int .i64 v2, .int .i64 r2, .int .i64 f2, .bool h2]) (show wo.heap.size ≠ w.heap.size by omega)).trans R7
                              have FN := N2.set (t := chT) (cs := #[.int .i64 n2, .slice A2 k2 c2, .int .i64 ww2, .int .i64 cc2, .int .i64 s2, .int .i64 v2, .int .i64 r2, .int .i64 f2, .bool h2])
                              have FB := setRow_below (g := w.heap.size) (t := chT) (cs := #[.int .i64 n2, .slice A2 k2 c2, .int .i64 ww2, .int .i64 cc2, .int .i64 s2, .int .i64 v2, .int .i64 r2, .int .i64 f2, .bool h2]) BW (Nat.le_refl _)
                              have HF := Lib.hid (And.intro F0 (And.intro F7 (And.intro F8 (And.intro FN FB))))
                              clear R0 R7 R8 N2 BW F0 F7 F8 FN FB
                              go_wp2_with fail
                              obtain ⟨R0, R7, R8, N2, BW⟩ := HF.out
                              clear s0 s1' x0 x1 f0 f1' sz
                              refine (chright_to Hn2.out N2.1 (by omega) HXX.out).mono ?_
                              rintro e w6 ⟨rfl, hb⟩
                              have R0 := row_kept R0 hb (row_lt R0)
                              have R7 := row_kept R7 hb (row_lt R7)
                              have R8 := row_kept R8 hb (row_lt R8)
                              have N2 := Lib.hid (N2.kept hb)
                              have BW := BW.trans (hb.mono BW.size)
                              clear hb
                              have K0 := row_cells R0
                              have K7 := row_cells R7
                              have K8 := row_cells R8
                              go_wp2
                              go_roundw
                              case rel => exact ⟨j + 1, n2, A2, k2, c2, L2, ww2, cc2, s2, v2, r2, f2, h2, by omega, by go_num, HR2, HRt2, Hn2, R0, N2, BW⟩
                              case measure => simp [intOf]; omega
                  · have hd2' : (d == 2) = false := by simpa using hd2
                    as_aux_lemma =>
                      obtain ⟨n2, L2, ww2, cc2, hp⟩ : ∃ n2 L2 ww2 cc2, Sd.void ⟨n1, L1, ww1, cc1⟩ p = ⟨n2, L2, ww2, cc2⟩ := ⟨_, _, _, _, rfl⟩
                      have y1 := void_right HR.out p
                      have y4 : n1 = n2 := congrArg Sd.n hp
                      have hk2 : L2.length = k1 := by
                        have h := congrArg (fun s : Sd => s.l.length) hp
                        dsimp only [Sd.void] at h
                        rw [List.length_map] at h
                        exact h.symm.trans Hn.out
                      rw [hp] at y1
                      subst y4
                      have HP := Lib.hid hp
                      have HR2 := Lib.hid y1
                      have Hn2 := Lib.hid hk2
                      clear hp y1 hk2
                      go_wp2_with fail
                      refine (chvoid_to HR.out Hn.out N1.1 HP.out).mono ?_
                      rintro e w5 ⟨A2, c2, rfl, hO, hb⟩
                      have hlt0 := row_lt R0
                      have R0 := row_kept R0 hb (row_lt R0)
                      have R7 := row_kept R7 hb (row_lt R7)
                      have R8 := row_kept R8 hb (row_lt R8)
                      have N2 := FlsN.own (hO : OwnF _ _ _ _ _ L2) hlt0
                      have BW := BW.trans (hb.mono BW.size)
                      clear hO
                      clear hb K0 K0a K0' K7 K7a K8 e0 e1 e2 e3 e4 e5 e6 e7
                      have HXX := Lib.hid (show (Sd.right ⟨n1, L2, ww2, cc2⟩ && Rtt.right ⟨s1, v1, r1, f1, h1⟩) = true by rw [HR2.out, HRt.out]; rfl)
                      obtain ⟨s0, s1', x0, x1, f0, f1', sz⟩ := rows1 R0
                      have F0 := setRow_row (t := chT) (cs := #[.int .i64 n1, .slice A2 k1 c2, .int .i64 ww2, .int .i64 cc2, .int .i64 s1, .int .i64 v1, .int .i64 r1, .int .i64 f1, .bool h1]) (row_lt R0)
                      have F8 := (setRow_far (t := chT) (cs := #[.int .i64 n1, .slice A2 k1 c2, .int .i64 ww2, .int .i64 cc2, .int .i64 s1, .int .i64 v1, .int .i64 r1, .int .i64 f1, .bool h1]) (show wo.heap.size + 1 ≠ w.heap.size by omega)).trans R8
                      have F7 := (setRow_far (t := chT) (cs := #[.int .i64 n1, .slice A2 k1 c2, .int .i64 ww2, .int .i64 cc2, .int .i64 s1, .int .i64 v1, .int .i64 r1, .int .i64 f1, .bool h1]) (show wo.heap.size ≠ w.heap.size by omega)).trans R7
                      have FN := N2.set (t := chT) (cs := #[.int .i64 n1, .slice A2 k1 c2, .int .i64 ww2, .int .i64 cc2, .int .i64 s1, .int .i64 v1, .int .i64 r1, .int .i64 f1, .bool h1])
                      have FB := setRow_below (g := w.heap.size) (t := chT) (cs := #[.int .i64 n1, .slice A2 k1 c2, .int .i64 ww2, .int .i64 cc2, .int .i64 s1, .int .i64 v1, .int .i64 r1, .int .i64 f1, .bool h1]) BW (Nat.le_refl _)
                      have HF := Lib.hid (And.intro F0 (And.intro F7 (And.intro F8 (And.intro FN FB))))
                      clear R0 R7 R8 N2 BW F0 F7 F8 FN FB
                      go_wp2_with fail
                      obtain ⟨R0, R7, R8, N2, BW⟩ := HF.out
                      clear s0 s1' x0 x1 f0 f1' sz
                      refine (chright_to Hn2.out N2.1 (by omega) HXX.out).mono ?_
                      rintro e w6 ⟨rfl, hb⟩
                      have R0 := row_kept R0 hb (row_lt R0)
                      have R7 := row_kept R7 hb (row_lt R7)
                      have R8 := row_kept R8 hb (row_lt R8)
                      have N2 := Lib.hid (N2.kept hb)
                      have BW := BW.trans (hb.mono BW.size)
                      clear hb
                      have K0 := row_cells R0
                      have K7 := row_cells R7
                      have K8 := row_cells R8
                      go_wp2
                      go_roundw
                      case rel => exact ⟨j + 1, n1, A2, k1, c2, L2, ww2, cc2, s1, v1, r1, f1, h1, by omega, by go_num, HR2, HRt, Hn2, R0, N2, BW⟩
                      case measure => simp [intOf]; omega
        · obtain rfl : j = m := by omega
          go_wp2
          go_ret
          exact ⟨rfl, BW⟩
theorem own : ownKnob Try.prog.godebug = none := by kernel_rfl
theorem laid : laidOutB Try.prog = true := by kernel_rfl

set_option maxRecDepth 100000 in
theorem lifted (os : Os) (started : os.Started) (H : Type) (enc : TypeId × Value → H) :
    ReturnsInHanded {} Try.checked os 4 .any (Rows.channelSendsSpec.pre6 enc Try.prog Try.f4 Rows.channelSendsRow.domain false) (Rows.channelSendsSpec.post enc Try.prog Try.f4 false true false false) := by
  refine law_lifted (C := Try.checked) (B := 4) own started (by kernel_rfl) Try.func4
    (ChangeSpec.witness6 (enc := enc) (C := Try.checked) false ⟨#[], #[.agg #[.int .i64 0, .slice none 0 0, .int .i64 0, .int .i64 0, .int .i64 0, .int .i64 0, .int .i64 0, .int .i64 0, .bool false], .slice none 0 0], []⟩ 8 (by kernel_rfl) (by kernel_rfl) (by kernel_rfl) (by kernel_rfl))
    rfl rfl Try.underlying4 laid (of_decide_eq_true (by kernel_rfl)) ?_ ?_
  · intro ds hl
    rw [Try.params4] at hl
    match ds, hl with
    | [d0, d1], _ => rfl
  · intro W base args ds ps hval hA hlt hz
    rw [Try.params4] at hA hval
    obtain ⟨v0, vs0, d0, ds0, p0, q0, hargs, rfl, rfl, h0, r0⟩ := trodAll_cons hA
    obtain ⟨v1, vs1, d1, ds1, p1, q1, rfl, rfl, rfl, h1, r1⟩ := trodAll_cons r0
    obtain ⟨rfl, rfl, rfl⟩ := trodAll_nil r1
    obtain rfl : args = #[v0, v1] := by cases args; simp_all
    obtain ⟨n0, A0, k0, c0, l0, ww0, cc0, sx0, ux0, rx0, fx0, gx0, rfl, hl0, hm0, hn0, hN0⟩ := open_chan (hval 0 28 v0 rfl rfl) h0
    obtain ⟨B1, m1, cap1, zs1, rfl, hl1, hm1, hz1, hN1⟩ := sendUni2.open_acts (hval 1 29 v1 rfl rfl) h1
    exact walk W n0 A0 k0 c0 l0 ww0 cc0 sx0 ux0 rx0 fx0 gx0 hl0 hm0 hn0 hN0 B1 m1 cap1 zs1 hl1 hm1 hz1 hN1

theorem over : Rows.channelSendsRow.holds Try.pinned (OpenSpec.ofChange Rows.channelSendsSpec) :=
  OpenClaim.holds_of_wide 4 Try.f4 rfl rfl rfl rfl rfl rfl rfl ⟨rfl, rfl, rfl, rfl, rfl⟩ rfl rfl rfl rfl rfl (by kernel_rfl) Try.func4 (by kernel_rfl)
    (of_decide_eq_true (by kernel_rfl)) (by unfold Func.isWrapper; first | (rw [if_pos (by decide +kernel)]; kernel_rfl) | (rw [if_neg (by decide +kernel)]; exact ⟨rfl, rfl⟩))
    (fun os started H enc _ => lifted os started H enc)

theorem proved : Rows.ChannelSendsSaid := over
#print axioms proved
end Go.Proofs.Ytiecebncnflpiaa.channelSends
