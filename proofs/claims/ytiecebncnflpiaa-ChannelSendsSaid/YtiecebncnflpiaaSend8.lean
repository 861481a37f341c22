/- Package send: Push. -/
import Derived.Test.YtiecebncnflpiaaSend7
import Derived.Test.YtiecebncnflpiaaRecs4
import Derived.Test.YtiecebncnflpiaaMem9
namespace Go.Proofs.Ytiecebncnflpiaa
open Go.ChangeShapes Go.WideShapes Go.ChangeAt Go.RowKit Go.Shelf

abbrev noteV (u v s c : Int) : Value := .agg #[.int .i64 u, .int .i64 v, .int .i64 s, .int .i64 c]
theorem OwnR.alloc {base m n c : Nat} {w : World} {A : Option Addr} {E : TypeId} {zs : List Int} (h : OwnR m E base w A n c zs) (o : Obj) : OwnR m E base (w.alloc o) A n c zs := h.below ((Below.refl _ _).alloc (Nat.le_refl _) _)
theorem alloc2 {w : World} {g : Nat} {o : Obj} (h : w.heap[g]? = some o) (a b : Obj) : ((w.alloc a).alloc b).heap[g]? = some o := by
  have hl : g < w.heap.size := by
    rcases Nat.lt_or_ge g w.heap.size with h1 | h1
    · exact h1
    · rw [Array.getElem?_eq_none h1] at h; cases h
  rw [Below.heap_alloc _ _ _ (by simp; omega), Below.heap_alloc _ _ _ hl]
  exact h
theorem alloc_new (w : World) (a b : Obj) {g : Nat} (hg : g = w.heap.size) : ((w.alloc a).alloc b).heap[g]? = some a := by
  subst hg
  rw [Below.heap_alloc _ _ _ (by simp)]
  exact (MapKept.heap_alloc w a).1
theorem own_ne {A : Option Addr} {lo hi : Nat} (h : ∀ a, A = some a → lo ≤ a.block ∧ a.block < hi) : some hi ≠ A.map (·.block) := by
  intro e
  cases A with
  | none => cases e
  | some a =>
    have h2 := (h a rfl).2
    have e2 : hi = a.block := by simpa using e
    omega
theorem zero_note (W : World) : (zeroValue noT).run Try.prog W = .ok (.agg #[.int .i64 0, .int .i64 0, .int .i64 0, .int .i64 0]) W := by kernel_rfl

set_option maxRecDepth 10000 in
set_option maxHeartbeats 1000000 in
theorem push_full (w : World) (n ww cc : Int) (A : Option Addr) (k c : Nat) (l : List Fl) (hn : l.length = k) (hN : Fls w A l) (hk : k ≤ 1000000) (h1 : 0 ≤ n ∧ n ≤ 1099511627776) (h2 : 0 ≤ ww ∧ ww ≤ 1099511627776) (hq : ∀ f ∈ l, 0 ≤ f.q ∧ f.q ≤ 1099511627776) (u v s x now : Int) (hr : Sd.room ⟨n, l, ww, cc⟩ = 0) :
    Calls Try.prog 37 #[.agg #[.int .i64 n, .slice A k c, .int .i64 ww, .int .i64 cc], noteV u v s x, .int .i64 now] w fun e w' => ∃ A' c', e = .returned (.tuple #[.agg #[.int .i64 n, .slice A' k c', .int .i64 ww, .int .i64 cc], Fl.val .zero, .bool false]) ∧ OwnF w.heap.size w' A' k c' l ∧ Below w.heap.size w w' := by
  have z0 := zero_send
  have z1 := zero_fl
  obtain ⟨V, hV, R0, R1, R2, R3, BV, SV⟩ := four_rows w #[.int .i64 n, .slice A k c, .int .i64 ww, .int .i64 cc] #[.int .i64 u, .int .i64 v, .int .i64 s, .int .i64 x] #[.int .i64 0, .slice none 0 0, .int .i64 0, .int .i64 0] #[.int .i64 0, .int .i64 0, .int .i64 0, .int .i64 0, .int .i64 0, .int .i64 0, .int .i64 0] seT noT seT flT
  have Hn := Lib.hid hn
  have HN := Lib.hid (Fls.below hN BV)
  have HQ := Lib.hid hq
  have HR := Lib.hid hr
  have K0 := row_cells R0
  clear hn hN hq hr
  go_enter Try.func37, Try.ntmps37
  go_wp2_with fail
  refine (room_to _ n ww cc A k c l Hn.out HN.out hk h1 h2 HQ.out HR.out).mono ?_
  rintro e w2 ⟨rfl, hb⟩
  have R0 := row_kept R0 hb (by omega)
  have R1 := row_kept R1 hb (by omega)
  have R2 := row_kept R2 hb (by omega)
  have R3 := row_kept R3 hb (by omega)
  have BV := BV.trans (hb.mono BV.size)
  have SV : w.heap.size + 4 ≤ w2.heap.size := by have := hb.size; omega
  have HN2 := Lib.hid (Fls.below HN.out hb)
  clear hb K0
  have K0 := row_cells R0
  go_wp2_with fail
  refine (renewed_any _ n ww cc A k c l Hn.out HN2.out hk).mono ?_
  rintro e w3 ⟨A3, c3, rfl, hO, hb⟩
  have R0 := row_kept R0 hb (by omega)
  have R2 := row_kept R2 hb (by omega)
  have R3 := row_kept R3 hb (by omega)
  have HB := Lib.hid (BV.trans (hb.mono BV.size))
  have HO := Lib.hid (show OwnF (w.heap.size + 4) w3 A3 k c3 l from OwnR.lower hO (by omega))
  clear hO hb K0
  obtain ⟨s0, s1, s2, s3, s4, s5, c0, c1, c2', c3', c4, c5, c6, c7, f0, f1, f2, f3, f4, f5, y1⟩ := rows3 R0 R2 R3 (by omega) (by omega) (by omega)
  clear R0 R1 R2 R3
  go_wp2
  refine bodyPost_ret (v := .tuple #[.agg #[.int .i64 n, .slice A3 k c3, .int .i64 ww, .int .i64 cc], Fl.val .zero, .bool false]) ?_ rfl ⟨_, _, rfl, ?_, ?_⟩
  · simp [results, Try.results37, go_sem, c5, c6, Fl.zero]
  · exact OwnR.lower (OwnR.setRow (OwnR.setRow (OwnR.setRow HO.out (by omega)) (by omega)) (by omega)) (by omega)
  · exact setRow_below (setRow_below (setRow_below HB.out (Nat.le_refl _)) (by omega)) (by omega)

set_option maxRecDepth 10000 in
set_option maxHeartbeats 1000000 in
theorem push_room (w : World) (n ww cc : Int) (A : Option Addr) (k c : Nat) (l : List Fl) (hn : l.length = k) (hN : Fls w A l) (hk : k ≤ 1000000) (h1 : 0 ≤ n ∧ n ≤ 1099511627776) (h2 : 0 ≤ ww ∧ ww ≤ 1099511627776) (hq : ∀ f ∈ l, 0 ≤ f.q ∧ f.q ≤ 1099511627776) (u v s x now : Int) {r : Int} (hr : Sd.room ⟨n, l, ww, cc⟩ = r) (hr0 : 0 < r) :
    Calls Try.prog 37 #[.agg #[.int .i64 n, .slice A k c, .int .i64 ww, .int .i64 cc], noteV u v s x, .int .i64 now] w fun e w' => ∃ A' c', e = .returned (.tuple #[.agg #[.int .i64 (n + 1), .slice A' (k + 1) c', .int .i64 ww, .int .i64 cc], Fl.val ⟨n, u, v, s, x, now, 1⟩, .bool true]) ∧ OwnF w.heap.size w' A' (k + 1) c' (l ++ [⟨n, u, v, s, x, now, 1⟩]) ∧ Below w.heap.size w w' := by
  have z0 := zero_send
  have z1 := zero_fl
  obtain ⟨V, hV, R0, R1, R2, R3, BV, SV⟩ := four_rows w #[.int .i64 n, .slice A k c, .int .i64 ww, .int .i64 cc] #[.int .i64 u, .int .i64 v, .int .i64 s, .int .i64 x] #[.int .i64 0, .slice none 0 0, .int .i64 0, .int .i64 0] #[.int .i64 0, .int .i64 0, .int .i64 0, .int .i64 0, .int .i64 0, .int .i64 0, .int .i64 0] seT noT seT flT
  have Hn := Lib.hid hn
  have HN := Lib.hid (Fls.below hN BV)
  have HQ := Lib.hid hq
  have HR := Lib.hid hr
  have K0 := row_cells R0
  clear hn hN hq hr
  go_enter Try.func37, Try.ntmps37
  go_wp2_with fail
  refine (room_to _ n ww cc A k c l Hn.out HN.out hk h1 h2 HQ.out HR.out).mono ?_
  rintro e w2 ⟨rfl, hb⟩
  have R0 := row_kept R0 hb (by omega)
  have R1 := row_kept R1 hb (by omega)
  have R2 := row_kept R2 hb (by omega)
  have R3 := row_kept R3 hb (by omega)
  have BV := BV.trans (hb.mono BV.size)
  have SV : w.heap.size + 4 ≤ w2.heap.size := by have := hb.size; omega
  have HN2 := Lib.hid (Fls.below HN.out hb)
  clear hb K0
  have K0 := row_cells R0
  go_wp2_with fail
  refine (renewed_any _ n ww cc A k c l Hn.out HN2.out hk).mono ?_
  rintro e w3 ⟨A3, c3, rfl, hO, hb⟩
  have R0 := row_kept R0 hb (by omega)
  have R1 := row_kept R1 hb (by omega)
  have R2 := row_kept R2 hb (by omega)
  have R3 := row_kept R3 hb (by omega)
  have S3 : w.heap.size + 4 ≤ w3.heap.size := by have := hb.size; omega
  have HB := Lib.hid (BV.trans (hb.mono BV.size))
  have HO := Lib.hid (show OwnF (w.heap.size + 4) w3 A3 k c3 l from OwnR.lower hO (by omega))
  clear hO hb K0
  obtain ⟨i0, hi, hz0, hz1, hz2⟩ := info_parts infoF
  have HI := Lib.hid (And.intro hi (And.intro hz0 (And.intro hz1 hz2)))
  clear hi hz0 hz1 hz2
  obtain ⟨s0, s1, z0', c1, f0, f1, y1⟩ := rows1 R0
  obtain ⟨-, n1⟩ := far_cells (g := w.heap.size) (t := seT) R1 (by omega)
  have HRR := Lib.hid (And.intro R0 (And.intro R1 (And.intro R2 R3)))
  have hXO := OwnR.setRow (t := seT) (cs := #[.int .i64 n, .slice A3 k c3, .int .i64 ww, .int .i64 cc]) HO.out (show w.heap.size < w.heap.size + 4 by omega)
  have XO := Lib.hid hXO
  have n2 := fun ds (o : Obj) i => (World.cell?_alloc_lt (setRow w3 w.heap.size seT ds) o ⟨w.heap.size, i, none⟩ (by rw [setRow_size]; show w.heap.size < w3.heap.size; omega)).trans (c1 ds i)
  clear R0 R1 R2 R3 hXO
  have hr1 : (r == 0) = false := by simp; omega
  have hAb := fun a (h : A3 = some a) => OwnR.block' HO.out h
  have HAB := Lib.hid hAb
  clear hAb
  go_wp2_with (first
    | (at_builtin; refine wpList_append_recsG rfl _ _ 22 rfl i0 _ 56 Try.underlying22 HI.out.1 HI.out.2.1 HI.out.2.2.1 HI.out.2.2.2 (by decide) rfl (by decide) rfl (OwnR.alloc (OwnR.alloc XO.out _) _) _ 1 _ [n, u, v, s, x, now, 1] rfl rfl (Nums.new _ _ _ _ _ (by simp [setRow_size]) rfl) (by omega) (w.heap.size + 4) _ (Nat.le_refl _) (Below.refl _ _) ?_; intro A5 c5' w5 hO5 hb5 hG5; have Q0 := row_kept (alloc2 (setRow_row (t := seT) (cs := #[.int .i64 n, .slice A3 k c3, .int .i64 ww, .int .i64 cc]) (row_lt HRR.out.1)) _ _) hb5 (by omega); have Q2 := row_kept (alloc2 ((setRow_far (by omega)).trans HRR.out.2.2.1) _ _) hb5 (by omega); have Q3 := row_kept (alloc2 ((setRow_far (by omega)).trans HRR.out.2.2.2) _ _) hb5 (by omega); have QF := (hG5.block w3.heap.size (by simp [setRow_size] <;> omega) (own_ne HAB.out)).trans (alloc_new _ _ _ (by simp [setRow_size])); have HO5 := Lib.hid hO5; have HB5 := Lib.hid hb5; have Z5 := hb5.size; clear s0 s1 z0' c1 f0 f1 y1 n1 n2 hO5 hb5 hG5; obtain ⟨s0, s1, s2, s3, s4, s5, c0, c1, c2', c3', c4, c5, c6, c7, f0, f1, f2, f3, f4, f5, y1⟩ := rows3 Q0 Q2 Q3 (by omega) (by omega) (by omega); obtain ⟨n1, n2⟩ := far_cells (g := w.heap.size) (t := seT) QF (by omega); have HQ5 := Lib.hid (And.intro Q0 (And.intro Q2 (And.intro Q3 QF))); clear Q0 Q2 Q3 QF))
  have p0 := setRow_row (t := seT) (cs := #[.int .i64 (n + 1), .slice A5 (k + 1) c5', .int .i64 ww, .int .i64 cc]) (row_lt HQ5.out.1)
  have p2 := (setRow_far (w := w5) (g := w.heap.size) (t := seT) (cs := #[.int .i64 (n + 1), .slice A5 (k + 1) c5', .int .i64 ww, .int .i64 cc]) (k := w.heap.size + 2) (by omega)).trans HQ5.out.2.1
  have p3 := (setRow_far (w := w5) (g := w.heap.size) (t := seT) (cs := #[.int .i64 (n + 1), .slice A5 (k + 1) c5', .int .i64 ww, .int .i64 cc]) (k := w.heap.size + 3) (by omega)).trans HQ5.out.2.2.1
  have p4 := (setRow_far (w := w5) (g := w.heap.size) (t := seT) (cs := #[.int .i64 (n + 1), .slice A5 (k + 1) c5', .int .i64 ww, .int .i64 cc]) (k := w3.heap.size) (by omega)).trans HQ5.out.2.2.2
  have pO := OwnR.setRow (g := w.heap.size) (t := seT) (cs := #[.int .i64 (n + 1), .slice A5 (k + 1) c5', .int .i64 ww, .int .i64 cc]) HO5.out (by omega)
  have pB : Below w.heap.size w w5 := (setRow_below (t := seT) (cs := #[.int .i64 n, .slice A3 k c3, .int .i64 ww, .int .i64 cc]) HB.out (Nat.le_refl _)).trans ((((Below.refl _ _).alloc (by rw [setRow_size]; omega) _).alloc (by simp [setRow_size]; omega) _).trans (HB5.out.mono (by omega)))
  have pB := setRow_below (t := seT) (cs := #[.int .i64 (n + 1), .slice A5 (k + 1) c5', .int .i64 ww, .int .i64 cc]) pB (Nat.le_refl _)
  obtain ⟨Y, hY⟩ : ∃ Y, setRow w5 w.heap.size seT #[.int .i64 (n + 1), .slice A5 (k + 1) c5', .int .i64 ww, .int .i64 cc] = Y := ⟨_, rfl⟩
  rw [hY] at p0 p2 p3 p4 pO pB ⊢
  have PO := Lib.hid pO
  have PB := Lib.hid pB
  clear s0 s1 s2 s3 s4 s5 c0 c1 c2' c3' c4 c5 c6 c7 f0 f1 f2 f3 f4 f5 y1 n1 n2 pO pB hY HQ5
  have k0 := row_cells p0
  obtain ⟨s0, s1, c1, f1, c2', f2, s2, s3, c3', f3, y1, c0, f0, c02, f02⟩ := rows2 p2 p3 (by omega)
  obtain ⟨n1, n2⟩ := far_cells (g := w.heap.size + 2) (t := seT) p4 (by omega)
  have cF : ∀ ds es i, (setRow (setRow Y (w.heap.size + 2) seT ds) (w.heap.size + 3) flT es).cell? ⟨w.heap.size + 2, i, none⟩ = ds[i]? := fun ds es i => cell_of_row _ _ _ _ _ _ ((setRow_far (by omega)).trans (setRow_row (row_lt p2)))
  clear p0 p2 p3 p4
  go_region
  all_goals
    go_wp2
    refine bodyPost_ret (v := .tuple #[.agg #[.int .i64 (n + 1), .slice A5 (k + 1) c5', .int .i64 ww, .int .i64 cc], Fl.val ⟨n, u, v, s, x, now, 1⟩, .bool true]) ?_ rfl ⟨_, _, rfl, ?_, ?_⟩
    · simp [results, Try.results37, go_sem, c3', cF]
    · have h1 : flf (l ++ [⟨n, u, v, s, x, now, 1⟩]) = flf l ++ [n, u, v, s, x, now, 1] := by unfold flf; rw [flt_app, flt_one]; rfl
      unfold OwnF
      rw [h1]
      exact OwnR.lower (OwnR.setRow (OwnR.setRow (OwnR.drewN PO.out 1) (by omega)) (by omega)) (by omega)
    · exact setRow_below (setRow_below (below_drewN PB.out 1) (by omega)) (by omega)
end Go.Proofs.Ytiecebncnflpiaa
