/- Package send: Acked. -/
import Derived.Test.YtiecebncnflpiaaSend6
namespace Go.Proofs.Ytiecebncnflpiaa
open Go.ChangeShapes Go.WideShapes Go.ChangeAt Go.RowKit Go.Shelf

namespace Sd
def tk1 (ack sack now : Int) (m : Int) (f : Fl) : Int := if gone ack sack f = true ∧ f.t = 1 then max (max m (now - f.a)) 0 else m
def tk (ack sack now : Int) (l : List Fl) : Int := l.foldl (tk1 ack sack now) (-1)
theorem tk_snoc (ack sack now : Int) (l : List Fl) (k : Nat) (h : k < l.length) : tk ack sack now (l.take (k + 1)) = tk1 ack sack now (tk ack sack now (l.take k)) (l.getD k .zero) := by
  unfold tk
  rw [List.take_succ_eq_append_getElem h, List.foldl_append]
  simp [List.getD, h]
theorem tk_bd (ack sack now : Int) (hn : 0 ≤ now ∧ now ≤ 1099511627776) : ∀ (l : List Fl) (_ : ∀ f ∈ l, 0 ≤ f.a ∧ f.a ≤ 1099511627776) (m : Int), -1 ≤ m → m ≤ 1099511627776 → -1 ≤ l.foldl (tk1 ack sack now) m ∧ l.foldl (tk1 ack sack now) m ≤ 1099511627776
  | [], _, m, h1, h2 => ⟨h1, h2⟩
  | f :: r, ha, m, h1, h2 => by
    have := ha f (List.mem_cons_self ..)
    rw [List.foldl_cons]
    refine tk_bd ack sack now hn r (fun x hx => ha x (List.mem_cons_of_mem _ hx)) _ ?_ ?_ <;> (unfold tk1; split <;> omega)
end Sd

/-- The four blocks that Acked begins with. -/
theorem four_rows (w : World) (c0 c1 c2 c3 : Array Value) (t0 t1 t2 t3 : TypeId) : ∃ V, (((w.alloc (.cells c0 t0)).alloc (.cells c1 t1)).alloc (.cells c2 t2)).alloc (.cells c3 t3) = V ∧ V.heap[w.heap.size]? = some (.cells c0 t0) ∧ V.heap[w.heap.size + 1]? = some (.cells c1 t1) ∧ V.heap[w.heap.size + 2]? = some (.cells c2 t2) ∧ V.heap[w.heap.size + 3]? = some (.cells c3 t3) ∧ Below w.heap.size w V ∧ V.heap.size = w.heap.size + 4 := by
  have h0 : (w.alloc (.cells c0 t0)).heap[w.heap.size]? = some (.cells c0 t0) := (MapKept.heap_alloc w _).1
  have h1 : ((w.alloc (.cells c0 t0)).alloc (.cells c1 t1)).heap[w.heap.size + 1]? = some (.cells c1 t1) := by
    have := (MapKept.heap_alloc (w.alloc (.cells c0 t0)) (.cells c1 t1)).1
    simpa using this
  have h2 : (((w.alloc (.cells c0 t0)).alloc (.cells c1 t1)).alloc (.cells c2 t2)).heap[w.heap.size + 2]? = some (.cells c2 t2) := by
    have := (MapKept.heap_alloc ((w.alloc (.cells c0 t0)).alloc (.cells c1 t1)) (.cells c2 t2)).1
    simpa using this
  have h3 : ((((w.alloc (.cells c0 t0)).alloc (.cells c1 t1)).alloc (.cells c2 t2)).alloc (.cells c3 t3)).heap[w.heap.size + 3]? = some (.cells c3 t3) := by
    have := (MapKept.heap_alloc (((w.alloc (.cells c0 t0)).alloc (.cells c1 t1)).alloc (.cells c2 t2)) (.cells c3 t3)).1
    simpa using this
  refine ⟨_, rfl, ?_, ?_, ?_, h3, ?_, by simp⟩
  · rw [Below.heap_alloc _ _ _ (by simp <;> omega), Below.heap_alloc _ _ _ (by simp <;> omega), Below.heap_alloc _ _ _ (by simp)]; exact h0
  · rw [Below.heap_alloc _ _ _ (by simp <;> omega), Below.heap_alloc _ _ _ (by simp <;> omega)]; exact h1
  · rw [Below.heap_alloc _ _ _ (by simp <;> omega)]; exact h2
  · exact ((((Below.refl _ _).alloc (Nat.le_refl _) _).alloc (by simp) _).alloc (by simp <;> omega) _).alloc (by simp <;> omega) _
theorem far_cells {w : World} {g b : Nat} {t t2 : TypeId} {cs : Array Value} (h : w.heap[b]? = some (.cells cs t2)) (hne : b ≠ g) : (∀ i, w.cell? ⟨b, i, none⟩ = cs[i]?) ∧ (∀ ds i, (setRow w g t ds).cell? ⟨b, i, none⟩ = cs[i]?) :=
  ⟨fun i => cell_of_row _ _ _ _ _ _ h, fun _ i => cell_of_row _ _ _ _ _ _ ((setRow_far hne).trans h)⟩

set_option maxRecDepth 10000 in
set_option maxHeartbeats 2000000 in
theorem acked_bad (w : World) (n ww cc : Int) (A : Option Addr) (k c : Nat) (l : List Fl) (hn : l.length = k) (hN : Fls w A l) (hk : k ≤ 1000000) (ack sack now : Int) (hbad : ack < 0 ∨ n ≤ ack) :
    Calls Try.prog 38 #[.agg #[.int .i64 n, .slice A k c, .int .i64 ww, .int .i64 cc], .int .i64 ack, .int .i64 sack, .int .i64 now] w fun e w' => ∃ A' c', e = .returned (.tuple #[.agg #[.int .i64 n, .slice A' k c', .int .i64 ww, .int .i64 cc], .int .i64 (-1)]) ∧ OwnF w.heap.size w' A' k c' l ∧ Below w.heap.size w w' := by
  have z0 := zero_send
  obtain ⟨V, hV, R0, R1, R2, R3, BV, SV⟩ := four_rows w #[.int .i64 n, .slice A k c, .int .i64 ww, .int .i64 cc] #[.int .i64 ack] #[.int .i64 sack] #[.int .i64 0, .slice none 0 0, .int .i64 0, .int .i64 0] seT 3 3 seT
  have Hn := Lib.hid hn
  have HN := Lib.hid (Fls.below hN BV)
  have K0 := row_cells R0
  clear hn hN
  have hcase : ack < 0 ∨ (0 ≤ ack ∧ n ≤ ack) := by omega
  clear hbad
  rcases hcase with h | ⟨h0, h⟩
  all_goals
    go_enter Try.func38, Try.ntmps38
    go_wp2_with fail
    refine (renewed_any _ n ww cc A k c l Hn.out HN.out hk).mono ?_
    rintro e w2 ⟨A2, c2, rfl, hO, hb⟩
    have R0 := row_kept R0 hb (by omega)
    have R1 := row_kept R1 hb (by omega)
    have R2 := row_kept R2 hb (by omega)
    have R3 := row_kept R3 hb (by omega)
    have HB := Lib.hid (BV.trans (hb.mono BV.size))
    have HO := Lib.hid (show OwnF (w.heap.size + 4) w2 A2 k c2 l from OwnR.lower hO (by omega))
    clear hO hb K0
    obtain ⟨s0, s1, c1, f1, c2', f2, s2, s3, c3, f3, z1, c0, f0, c02, f02⟩ := rows2 R0 R3 (by omega)
    obtain ⟨d0, d1⟩ := far_cells (g := w.heap.size) (t := seT) R1 (by omega)
    clear R0 R1 R2 R3
    go_wp2
    refine bodyPost_ret (v := .tuple #[.agg #[.int .i64 n, .slice A2 k c2, .int .i64 ww, .int .i64 cc], .int .i64 (-1)]) ?_ rfl ⟨_, _, rfl, ?_, ?_⟩
    · simp [results, Try.results38, go_sem, c3]
    · exact OwnR.lower ((OwnR.setRow (OwnR.setRow HO.out (by omega)) (by omega))) (by omega)
    · exact setRow_below (setRow_below HB.out (Nat.le_refl _)) (by omega)

set_option maxRecDepth 10000 in
set_option maxHeartbeats 1000000 in
theorem acked_ok (w : World) (n ww cc : Int) (A : Option Addr) (k c : Nat) (l : List Fl) (hn : l.length = k) (hN : Fls w A l) (hk : k ≤ 1000000) (hw : 1 ≤ ww ∧ ww ≤ 8) (hc : 0 ≤ cc ∧ cc ≤ 1073741824) (ack sack now : Int) (h0 : 0 ≤ ack) (hack : ack < n) (hnow : 0 ≤ now ∧ now ≤ 1099511627776) (ha : ∀ f ∈ l, 0 ≤ f.a ∧ f.a ≤ 1099511627776)
    {F : List Fl} {kf : Nat} {wf cf tk : Int} (hF : l.filter (fun x => !Sd.gone ack sack x) = F) (hkf : F.length = kf) (hG : Sd.grown ww (cc + ((k : Int) - kf)) = (wf, cf)) (htk : Sd.tk ack sack now l = tk) :
    Calls Try.prog 38 #[.agg #[.int .i64 n, .slice A k c, .int .i64 ww, .int .i64 cc], .int .i64 ack, .int .i64 sack, .int .i64 now] w fun e w' => ∃ A' c', e = .returned (.tuple #[.agg #[.int .i64 n, .slice A' kf c', .int .i64 wf, .int .i64 cf], .int .i64 tk]) ∧ OwnF w.heap.size w' A' kf c' F ∧ Below w.heap.size w w' := by
  have z0 := zero_send
  have z1 := zero_fl
  have m3 := run_max3
  have hkk : kf ≤ k := by rw [← hkf, ← hF, ← hn]; exact List.length_filter_le _ _
  obtain ⟨V, hV, R0, R1, R2, R3, BV, SV⟩ := four_rows w #[.int .i64 n, .slice A k c, .int .i64 ww, .int .i64 cc] #[.int .i64 ack] #[.int .i64 sack] #[.int .i64 0, .slice none 0 0, .int .i64 0, .int .i64 0] seT 3 3 seT
  have Hn := Lib.hid hn
  have HN := Lib.hid (Fls.below hN BV)
  have HF := Lib.hid hF
  have HKF := Lib.hid hkf
  have HG := Lib.hid hG
  have HTK := Lib.hid htk
  have HA := Lib.hid ha
  have K0 := row_cells R0
  clear hn hN hF hkf hG htk ha
  go_enter Try.func38, Try.ntmps38
  go_wp2_with fail
  refine (renewed_any _ n ww cc A k c l Hn.out HN.out hk).mono ?_
  rintro e w2 ⟨A2, c2, rfl, hO, hb⟩
  have R0 := row_kept R0 hb (by omega)
  have R1 := row_kept R1 hb (by omega)
  have R2 := row_kept R2 hb (by omega)
  have R3 := row_kept R3 hb (by omega)
  have HB := Lib.hid (BV.trans (hb.mono BV.size))
  have HO := Lib.hid (show OwnF (w.heap.size + 4) w2 A2 k c2 l from OwnR.lower hO (by omega))
  have SZ : w.heap.size + 4 ≤ w2.heap.size := by have := hb.size; omega
  clear hO hb K0
  obtain ⟨s0, s1, c1, f1, c2', f2, s2, s3, c3, f3, y1, c0, f0, c02, f02⟩ := rows2 R0 R3 (by omega)
  obtain ⟨d0, d1⟩ := far_cells (g := w.heap.size) (t := seT) R1 (by omega)
  obtain ⟨e0, e1⟩ := far_cells (g := w.heap.size) (t := seT) R2 (by omega)
  have HR := Lib.hid (And.intro R0 (And.intro R1 (And.intro R2 R3)))
  clear R0 R1 R2 R3
  have hXO : OwnF (w.heap.size + 4) (setRow w2 w.heap.size seT #[.int .i64 n, .slice A2 k c2, .int .i64 ww, .int .i64 cc]) A2 k c2 l := OwnR.setRow HO.out (by omega)
  have hXB := setRow_below (t := seT) (cs := #[.int .i64 n, .slice A2 k c2, .int .i64 ww, .int .i64 cc]) HB.out (Nat.le_refl _)
  have hX0 := setRow_row (t := seT) (cs := #[.int .i64 n, .slice A2 k c2, .int .i64 ww, .int .i64 cc]) (row_lt HR.out.1)
  have hX1 := (setRow_far (w := w2) (g := w.heap.size) (t := seT) (cs := #[.int .i64 n, .slice A2 k c2, .int .i64 ww, .int .i64 cc]) (k := w.heap.size + 1) (by omega)).trans HR.out.2.1
  have hX2 := (setRow_far (w := w2) (g := w.heap.size) (t := seT) (cs := #[.int .i64 n, .slice A2 k c2, .int .i64 ww, .int .i64 cc]) (k := w.heap.size + 2) (by omega)).trans HR.out.2.2.1
  have hX3 := (setRow_far (w := w2) (g := w.heap.size) (t := seT) (cs := #[.int .i64 n, .slice A2 k c2, .int .i64 ww, .int .i64 cc]) (k := w.heap.size + 3) (by omega)).trans HR.out.2.2.2
  go_wp2
  obtain ⟨X, hX⟩ : ∃ X, setRow w2 w.heap.size seT #[.int .i64 n, .slice A2 k c2, .int .i64 ww, .int .i64 cc] = X := ⟨_, rfl⟩
  rw [hX] at hXO hXB hX0 hX1 hX2 hX3 ⊢
  have XO := Lib.hid hXO
  have XB := Lib.hid hXB
  have XR := Lib.hid (And.intro hX0 (And.intro hX1 (And.intro hX2 hX3)))
  have XS : w.heap.size + 4 ≤ X.heap.size := by rw [← hX, setRow_size]; exact SZ
  clear hXO hXB hX0 hX1 hX2 hX3 hX HR HB HO s0 s1 c1 f1 c2' f2 s2 s3 c3 f3 y1 c0 f0 c02 f02 d0 d1 e0 e1 hV
  go_loopw [11, 30] (fun m i wr => ∃ j : Nat, j ≤ k ∧ i = .int .i64 j ∧ m = .int .i64 (Sd.tk ack sack now (l.take j)) ∧ Below X.heap.size X wr) (fun _ i _ => k - (intOf i).toNat)
  case atStart => exact ⟨0, Nat.zero_le _, rfl, rfl, Below.refl _ _⟩
  case round =>
    obtain ⟨j, hj, rfl, rfl, hb⟩ := hrel
    by_cases hjk : j < k
    · obtain ⟨b, off, rfl, hbb, c0, c1, c2, c3, c4, c5, c6⟩ := (Fls.below XO.out.fls hb).at (i := j) (by rw [Hn.out]; exact hjk)
      have HSn := Lib.hid (Sd.tk_snoc ack sack now l j (by rw [Hn.out]; exact hjk))
      have hbd := Sd.tk_bd ack sack now hnow (l.take j) (fun f hf => HA.out f (List.mem_of_mem_take hf)) (-1) (by omega) (by omega)
      have haj := HA.out (l.getD j .zero) (by
        have h1 : j < l.length := by rw [Hn.out]; exact hjk
        have e : l.getD j .zero = l[j] := by simp [List.getD, h1]
        rw [e]; exact List.getElem_mem h1)
      change -1 ≤ Sd.tk ack sack now (l.take j) ∧ Sd.tk ack sack now (l.take j) ≤ 1099511627776 at hbd
      generalize l.getD j .zero = f at c0 c1 c2 c3 c4 c5 c6 HSn haj
      generalize Sd.tk ack sack now (l.take j) = m at HSn hbd
      obtain ⟨fq, fu, fv, fs, fc, fa, ft⟩ := f
      simp only at c0 c1 c2 c3 c4 c5 c6 haj
      have hb1 := hb.alloc hb.size (.cells #[.int .i64 fq, .int .i64 fu, .int .i64 fv, .int .i64 fs, .int .i64 fc, .int .i64 fa, .int .i64 ft] flT)
      have HC := Lib.hid (gone_any _ ⟨fq, fu, fv, fs, fc, fa, ft⟩ (w.heap.size + 1) (w.heap.size + 2) ack sack (cell_of_row _ _ 0 _ _ _ (row_kept XR.out.2.1 hb1 (by omega))) (cell_of_row _ _ 0 _ _ _ (row_kept XR.out.2.2.1 hb1 (by omega))))
      obtain ⟨r, hr⟩ : ∃ r, Sd.gone ack sack ⟨fq, fu, fv, fs, fc, fa, ft⟩ = r := ⟨_, rfl⟩
      have hcall := HC.out
      rw [hr] at hcall
      have HCC := Lib.hid hcall
      have HR := Lib.hid hr
      have HB1 := Lib.hid hb1
      have RX := Lib.hid (MapKept.heap_alloc wr (.cells #[.int .i64 fq, .int .i64 fu, .int .i64 fv, .int .i64 fs, .int .i64 fc, .int .i64 fa, .int .i64 ft] flT)).1
      clear hcall HC hr hb1
      have q1 : (j : Int) < (k : Int) := by omega
      have q0 : (0 : Int) ≤ (j : Int) := by omega
      have e1 : IntKind.i64.wrap (now - fa) = now - fa := IntWalk.i64_in _ (by omega)
      have hr3 : r = false ∨ (r = true ∧ ¬ ft = 1) ∨ (r = true ∧ ft = 1) := by
        cases r
        · exact Or.inl rfl
        · by_cases h : ft = 1
          · exact Or.inr (Or.inr ⟨rfl, h⟩)
          · exact Or.inr (Or.inl ⟨rfl, h⟩)
      rcases hr3 with rfl | ⟨rfl, ht⟩ | ⟨rfl, ht⟩
      · have T1 := Lib.hid (show Sd.tk1 ack sack now m ⟨fq, fu, fv, fs, fc, fa, ft⟩ = m from if_neg (fun h => by rw [HR.out] at h; cases h.1))
        go_wp2_with fail
        refine HCC.out.mono ?_
        rintro e w5 ⟨rfl, hb5⟩
        have KX := row_cells (row_kept RX.out hb5 (row_lt RX.out))
        have HB5 := Lib.hid (HB1.out.trans (hb5.mono HB1.out.size))
        clear hb5
        go_wp2_with fail
        go_roundw
        case rel => exact ⟨j + 1, by omega, by go_num, by rw [HSn.out, T1.out], HB5.out⟩
        case measure => simp [intOf]; omega
      · have ht' : (ft == 1) = false := by simpa using ht
        have T1 := Lib.hid (show Sd.tk1 ack sack now m ⟨fq, fu, fv, fs, fc, fa, ft⟩ = m from if_neg (fun h => ht h.2))
        go_wp2_with fail
        refine HCC.out.mono ?_
        rintro e w5 ⟨rfl, hb5⟩
        have KX := row_cells (row_kept RX.out hb5 (row_lt RX.out))
        have HB5 := Lib.hid (HB1.out.trans (hb5.mono HB1.out.size))
        clear hb5
        go_wp2_with fail
        go_roundw
        case rel => exact ⟨j + 1, by omega, by go_num, by rw [HSn.out, T1.out], HB5.out⟩
        case measure => simp [intOf]; omega
      · have T1 := Lib.hid (show Sd.tk1 ack sack now m ⟨fq, fu, fv, fs, fc, fa, ft⟩ = max (max m (now - fa)) 0 from if_pos ⟨HR.out, ht⟩)
        subst ht
        obtain ⟨mx, hmx⟩ : ∃ mx, max (max m (now - fa)) 0 = mx := ⟨_, rfl⟩
        have m3' : ∀ ts t W, (Builtin.max_ ts t #[.int .i64 m, .int .i64 (now - fa), .int .i64 0]).run Try.prog W = .ok (.int .i64 mx) W := fun ts t W => by rw [run_max3, hmx]
        rw [hmx] at T1
        clear m3 hmx
        go_wp2_with fail
        refine HCC.out.mono ?_
        rintro e w5 ⟨rfl, hb5⟩
        have KX := row_cells (row_kept RX.out hb5 (row_lt RX.out))
        have HB5 := Lib.hid (HB1.out.trans (hb5.mono HB1.out.size))
        clear hb5
        go_wp2_with fail
        go_roundw
        case rel => exact ⟨j + 1, by omega, by go_num, by rw [HSn.out, T1.out], HB5.out⟩
        case measure => simp [intOf]; omega
    · obtain rfl : j = k := by omega
      rw [List.take_of_length_le (by rw [Hn.out]; exact Nat.le_refl _), HTK.out]
      have hO : OwnF (w.heap.size + 4) wr A2 j c2 l := OwnR.below XO.out hb
      have W0 := row_kept XR.out.1 hb (by omega)
      have W1 := row_kept XR.out.2.1 hb (by omega)
      have W2 := row_kept XR.out.2.2.1 hb (by omega)
      have W3 := row_kept XR.out.2.2.2 hb (by omega)
      have WB := Lib.hid (XB.out.trans (hb.mono XB.out.size))
      have WS := hb.size
      have K0 := row_cells W0
      have HD := Lib.hid (delete_any (Sd.gone ack sack) 60 #[.pointer (some ⟨w.heap.size + 1, 0, none⟩), .pointer (some ⟨w.heap.size + 2, 0, none⟩)] (fun _ _ => by kernel_rfl) wr (w.heap.size + 4) A2 j c2 l hO hk (fun W x hW => gone_any W x (w.heap.size + 1) (w.heap.size + 2) ack sack (cell_of_row _ _ 0 _ _ _ (row_kept W1 hW (by omega))) (cell_of_row _ _ 0 _ _ _ (row_kept W2 hW (by omega)))) HF.out HKF.out)
      have HW := Lib.hid (And.intro W0 W3)
      have e1 : IntKind.i64.wrap ((j : Int) - (kf : Int)) = (j : Int) - (kf : Int) := IntWalk.i64_in _ (by omega)
      have e2 : IntKind.i64.wrap (cc + ((j : Int) - (kf : Int))) = cc + ((j : Int) - (kf : Int)) := IntWalk.i64_in _ (by omega)
      clear hO W0 W1 W2 W3
      go_wp2_with (first
        | (go_at_call 62; refine HD.out.mono ?_; rintro e w5 ⟨rfl, hO5, hb5⟩; have HO5 := Lib.hid hO5; have HB5 := Lib.hid hb5; have V0 := row_kept HW.out.1 hb5 (by omega); have V3 := row_kept HW.out.2 hb5 (by omega); have HV3 := Lib.hid V3; have HV0 := Lib.hid V0; obtain ⟨s0, s1, c1, f1, c2', f2, s2, s3, c3, f3, y1, c0, f0, c02, f02⟩ := rows2 V0 V3 (by omega); clear hO5 hb5 V0 V3))
      have Q3 := (setRow_far (w := w5) (g := w.heap.size) (t := seT) (cs := #[.int .i64 n, .slice A2 kf c2, .int .i64 ww, .int .i64 (cc + ((j : Int) - (kf : Int)))]) (k := w.heap.size + 3) (by omega)).trans HV3.out
      have QO := OwnR.setRow (g := w.heap.size) (t := seT) (cs := #[.int .i64 n, .slice A2 kf c2, .int .i64 ww, .int .i64 (cc + ((j : Int) - (kf : Int)))]) HO5.out (by omega)
      have QB := setRow_below (t := seT) (cs := #[.int .i64 n, .slice A2 kf c2, .int .i64 ww, .int .i64 (cc + ((j : Int) - (kf : Int)))]) (WB.out.trans (HB5.out.mono (by omega))) (Nat.le_refl _)
      have Q3L := row_lt HV3.out
      refine (grown_any _ n ww (cc + ((j : Int) - (kf : Int))) A2 kf c2 hw (by omega) HG.out).mono ?_
      rintro e w6 ⟨rfl, hb6⟩
      have Q3 := row_kept Q3 hb6 (by rw [setRow_size]; exact Q3L)
      have QO := Lib.hid (OwnR.below QO hb6)
      have QB := Lib.hid (QB.trans (hb6.mono (by rw [setRow_size]; have := HB5.out.size; omega)))
      clear s0 s1 c1 f1 c2' f2 s2 s3 c3 f3 y1 c0 f0 c02 f02 hb6
      obtain ⟨s0, s1, c0, c1, f0, f1, y1⟩ := rows1 Q3
      clear Q3
      go_wp2
      refine bodyPost_ret (v := .tuple #[.agg #[.int .i64 n, .slice A2 kf c2, .int .i64 wf, .int .i64 cf], .int .i64 tk]) ?_ rfl ⟨_, _, rfl, ?_, ?_⟩
      · simp [results, Try.results38, go_sem, c1]
      · exact OwnR.lower (OwnR.setRow QO.out (by omega)) (by omega)
      · exact setRow_below QB.out (by omega)
end Go.Proofs.Ytiecebncnflpiaa
