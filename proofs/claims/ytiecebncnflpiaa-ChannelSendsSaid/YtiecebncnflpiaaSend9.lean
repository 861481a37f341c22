/- Package send: Resend. -/
import Derived.Test.YtiecebncnflpiaaSend8
namespace Go.Proofs.Ytiecebncnflpiaa
open Go.ChangeShapes Go.WideShapes Go.ChangeAt Go.RowKit Go.Shelf

abbrev isq (seq : Int) (f : Fl) : Bool := f.q == seq

set_option maxRecDepth 10000 in
set_option maxHeartbeats 1000000 in
theorem resend_none (w : World) (n ww cc : Int) (A : Option Addr) (k c : Nat) (l : List Fl) (hn : l.length = k) (hN : Fls w A l) (hk : k ≤ 1000000) (seq now : Int) (hi : idx (isq seq) l = -1) :
    Calls Try.prog 43 #[.agg #[.int .i64 n, .slice A k c, .int .i64 ww, .int .i64 cc], .int .i64 seq, .int .i64 now] w fun e w' => ∃ A' c', e = .returned (.tuple #[.agg #[.int .i64 n, .slice A' k c', .int .i64 ww, .int .i64 cc], Fl.val .zero, .bool false]) ∧ OwnF w.heap.size w' A' k c' l ∧ Below w.heap.size w w' := by
  have z0 := zero_send
  have z1 := zero_fl
  obtain ⟨V, hV, R0, R1, R2, R3, BV, SV⟩ := four_rows w #[.int .i64 n, .slice A k c, .int .i64 ww, .int .i64 cc] #[.int .i64 seq] #[.int .i64 0, .slice none 0 0, .int .i64 0, .int .i64 0] #[.int .i64 0, .int .i64 0, .int .i64 0, .int .i64 0, .int .i64 0, .int .i64 0, .int .i64 0] seT 3 seT flT
  have Hn := Lib.hid hn
  have HN := Lib.hid (Fls.below hN BV)
  have HI := Lib.hid hi
  have K0 := row_cells R0
  clear hn hN hi
  go_enter Try.func43, Try.ntmps43
  go_wp2_with fail
  refine (renewed_any _ n ww cc A k c l Hn.out HN.out hk).mono ?_
  rintro e w2 ⟨A2, c2, rfl, hO, hb⟩
  have R0 := row_kept R0 hb (by omega)
  have R1 := row_kept R1 hb (by omega)
  have R2 := row_kept R2 hb (by omega)
  have R3 := row_kept R3 hb (by omega)
  have SZ : w.heap.size + 4 ≤ w2.heap.size := by have := hb.size; omega
  have HB := Lib.hid (BV.trans (hb.mono BV.size))
  have HO := Lib.hid (show OwnF (w.heap.size + 4) w2 A2 k c2 l from OwnR.lower hO (by omega))
  clear hO hb K0
  obtain ⟨s0, s1, z0', c1, f0, f1, y1⟩ := rows1 R0
  have hXO : OwnF (w.heap.size + 4) (setRow w2 w.heap.size seT #[.int .i64 n, .slice A2 k c2, .int .i64 ww, .int .i64 cc]) A2 k c2 l := OwnR.setRow HO.out (by omega)
  have hXB := setRow_below (t := seT) (cs := #[.int .i64 n, .slice A2 k c2, .int .i64 ww, .int .i64 cc]) HB.out (Nat.le_refl _)
  have hX0 := setRow_row (t := seT) (cs := #[.int .i64 n, .slice A2 k c2, .int .i64 ww, .int .i64 cc]) (row_lt R0)
  have hX1 := (setRow_far (w := w2) (g := w.heap.size) (t := seT) (cs := #[.int .i64 n, .slice A2 k c2, .int .i64 ww, .int .i64 cc]) (k := w.heap.size + 1) (by omega)).trans R1
  have hX2 := (setRow_far (w := w2) (g := w.heap.size) (t := seT) (cs := #[.int .i64 n, .slice A2 k c2, .int .i64 ww, .int .i64 cc]) (k := w.heap.size + 2) (by omega)).trans R2
  have hX3 := (setRow_far (w := w2) (g := w.heap.size) (t := seT) (cs := #[.int .i64 n, .slice A2 k c2, .int .i64 ww, .int .i64 cc]) (k := w.heap.size + 3) (by omega)).trans R3
  have XO := Lib.hid hXO
  have XB := Lib.hid hXB
  have XR := Lib.hid (And.intro hX0 (And.intro hX1 (And.intro hX2 hX3)))
  have XS : w.heap.size + 4 ≤ (setRow w2 w.heap.size seT #[.int .i64 n, .slice A2 k c2, .int .i64 ww, .int .i64 cc]).heap.size := by rw [setRow_size]; exact SZ
  clear hXO hXB hX0 hX1 hX2 hX3 HB HO R0 R1 R2 R3 hV
  go_wp2_with fail
  obtain ⟨X, hX⟩ : ∃ X, setRow w2 w.heap.size seT #[.int .i64 n, .slice A2 k c2, .int .i64 ww, .int .i64 cc] = X := ⟨_, rfl⟩
  rw [hX] at XO XB XR XS ⊢
  clear s0 s1 z0' c1 f0 f1 y1 hX
  refine (index_any (isq seq) 66 #[.pointer (some ⟨w.heap.size + 1, 0, none⟩)] (fun _ _ => by kernel_rfl) X A2 k c2 l Hn.out XO.out.fls hk (fun W x hW => is_any W x (w.heap.size + 1) seq (cell_of_row _ _ 0 _ _ _ (row_kept XR.out.2.1 hW (by omega)))) HI.out).mono ?_
  rintro e w5 ⟨rfl, hb⟩
  have R0 := row_kept XR.out.1 hb (by omega)
  have R2 := row_kept XR.out.2.2.1 hb (by omega)
  have R3 := row_kept XR.out.2.2.2 hb (by omega)
  have HB := Lib.hid (XB.out.trans (hb.mono XB.out.size))
  have HO := Lib.hid (OwnR.below XO.out hb)
  clear hb XO XB XR
  have k0 := row_cells R0
  obtain ⟨s0, s1, c1, f1, c2', f2, s2, s3, c3', f3, y1, c0, f0, c02, f02⟩ := rows2 R2 R3 (by omega)
  have cF : ∀ ds es i, (setRow (setRow w5 (w.heap.size + 2) seT ds) (w.heap.size + 3) flT es).cell? ⟨w.heap.size + 2, i, none⟩ = ds[i]? := fun ds es i => cell_of_row _ _ _ _ _ _ ((setRow_far (by omega)).trans (setRow_row (row_lt R2)))
  clear R0 R2 R3
  go_wp2
  refine bodyPost_ret (v := .tuple #[.agg #[.int .i64 n, .slice A2 k c2, .int .i64 ww, .int .i64 cc], Fl.val .zero, .bool false]) ?_ rfl ⟨_, _, rfl, ?_, ?_⟩
  · simp [results, Try.results43, go_sem, c3', cF, Fl.zero]
  · exact OwnR.lower (OwnR.setRow (OwnR.setRow HO.out (by omega)) (by omega)) (by omega)
  · exact setRow_below (setRow_below HB.out (by omega)) (by omega)

theorem idx_at {α : Type} (p : α → Bool) (l : List α) (d : α) (i : Nat) (hi : i < l.length) (h : idx p l = i) : p (l.getD i d) = true := by
  rcases idx_spec p l d with ⟨h1, -⟩ | ⟨j, -, h1, h2, -⟩
  · omega
  · obtain rfl : j = i := by omega
    exact h2

set_option maxRecDepth 10000 in
set_option maxHeartbeats 1000000 in
theorem resend_one (w : World) (n ww cc : Int) (A : Option Addr) (k c : Nat) (l : List Fl) (hn : l.length = k) (hN : Fls w A l) (hk : k ≤ 1000000) (seq now : Int) (i : Nat) (hik : i < k) (hi : idx (isq seq) l = i) {q u v s x a t m : Int} (hf : l.getD i .zero = ⟨q, u, v, s, x, a, t⟩) (ht : 0 ≤ t ∧ t ≤ 1099511627776) (hm : min (t + 1) 1073741824 = m) :
    Calls Try.prog 43 #[.agg #[.int .i64 n, .slice A k c, .int .i64 ww, .int .i64 cc], .int .i64 seq, .int .i64 now] w fun e w' => ∃ A' c', e = .returned (.tuple #[.agg #[.int .i64 n, .slice A' k c', .int .i64 ww, .int .i64 cc], Fl.val ⟨q, u, v, s, x, now, m⟩, .bool true]) ∧ OwnF w.heap.size w' A' k c' (l.set i ⟨q, u, v, s, x, now, m⟩) ∧ Below w.heap.size w w' := by
  have z0 := zero_send
  have z1 := zero_fl
  obtain ⟨V, hV, R0, R1, R2, R3, BV, SV⟩ := four_rows w #[.int .i64 n, .slice A k c, .int .i64 ww, .int .i64 cc] #[.int .i64 seq] #[.int .i64 0, .slice none 0 0, .int .i64 0, .int .i64 0] #[.int .i64 0, .int .i64 0, .int .i64 0, .int .i64 0, .int .i64 0, .int .i64 0, .int .i64 0] seT 3 seT flT
  have Hn := Lib.hid hn
  have HN := Lib.hid (Fls.below hN BV)
  have HI := Lib.hid hi
  have HF := Lib.hid hf
  have K0 := row_cells R0
  clear hn hN hi hf
  go_enter Try.func43, Try.ntmps43
  go_wp2_with fail
  refine (renewed_any _ n ww cc A k c l Hn.out HN.out hk).mono ?_
  rintro e w2 ⟨A2, c2, rfl, hO, hb⟩
  have R0 := row_kept R0 hb (by omega)
  have R1 := row_kept R1 hb (by omega)
  have R2 := row_kept R2 hb (by omega)
  have R3 := row_kept R3 hb (by omega)
  have SZ : w.heap.size + 4 ≤ w2.heap.size := by have := hb.size; omega
  have HB := Lib.hid (BV.trans (hb.mono BV.size))
  have HO := Lib.hid (show OwnF (w.heap.size + 4) w2 A2 k c2 l from OwnR.lower hO (by omega))
  clear hO hb K0
  obtain ⟨s0, s1, z0', c1, f0, f1, y1⟩ := rows1 R0
  have hXO : OwnF (w.heap.size + 4) (setRow w2 w.heap.size seT #[.int .i64 n, .slice A2 k c2, .int .i64 ww, .int .i64 cc]) A2 k c2 l := OwnR.setRow HO.out (by omega)
  have hXB := setRow_below (t := seT) (cs := #[.int .i64 n, .slice A2 k c2, .int .i64 ww, .int .i64 cc]) HB.out (Nat.le_refl _)
  have hX0 := setRow_row (t := seT) (cs := #[.int .i64 n, .slice A2 k c2, .int .i64 ww, .int .i64 cc]) (row_lt R0)
  have hX1 := (setRow_far (w := w2) (g := w.heap.size) (t := seT) (cs := #[.int .i64 n, .slice A2 k c2, .int .i64 ww, .int .i64 cc]) (k := w.heap.size + 1) (by omega)).trans R1
  have hX2 := (setRow_far (w := w2) (g := w.heap.size) (t := seT) (cs := #[.int .i64 n, .slice A2 k c2, .int .i64 ww, .int .i64 cc]) (k := w.heap.size + 2) (by omega)).trans R2
  have hX3 := (setRow_far (w := w2) (g := w.heap.size) (t := seT) (cs := #[.int .i64 n, .slice A2 k c2, .int .i64 ww, .int .i64 cc]) (k := w.heap.size + 3) (by omega)).trans R3
  have XO := Lib.hid hXO
  have XB := Lib.hid hXB
  have XR := Lib.hid (And.intro hX0 (And.intro hX1 (And.intro hX2 hX3)))
  have XS : w.heap.size + 4 ≤ (setRow w2 w.heap.size seT #[.int .i64 n, .slice A2 k c2, .int .i64 ww, .int .i64 cc]).heap.size := by rw [setRow_size]; exact SZ
  clear hXO hXB hX0 hX1 hX2 hX3 HB HO R0 R1 R2 R3 hV
  go_wp2_with fail
  obtain ⟨X, hX⟩ : ∃ X, setRow w2 w.heap.size seT #[.int .i64 n, .slice A2 k c2, .int .i64 ww, .int .i64 cc] = X := ⟨_, rfl⟩
  rw [hX] at XO XB XR XS ⊢
  clear s0 s1 z0' c1 f0 f1 y1 hX
  refine (index_any (isq seq) 66 #[.pointer (some ⟨w.heap.size + 1, 0, none⟩)] (fun _ _ => by kernel_rfl) X A2 k c2 l Hn.out XO.out.fls hk (fun W x hW => is_any W x (w.heap.size + 1) seq (cell_of_row _ _ 0 _ _ _ (row_kept XR.out.2.1 hW (by omega)))) HI.out).mono ?_
  rintro e w5 ⟨rfl, hb⟩
  have R0 := row_kept XR.out.1 hb (by omega)
  have R2 := row_kept XR.out.2.2.1 hb (by omega)
  have R3 := row_kept XR.out.2.2.2 hb (by omega)
  have S5 : w.heap.size + 4 ≤ w5.heap.size := by have := hb.size; omega
  have HB := Lib.hid (XB.out.trans (hb.mono XB.out.size))
  have HO := Lib.hid (show OwnF (w.heap.size + 4) w5 A2 k c2 l from OwnR.below XO.out hb)
  clear hb XO XB XR
  obtain ⟨gb, cur, rfl, hg, hh, hcs, hct⟩ := HO.out.at0 (by omega)
  obtain ⟨b, off, hA, hbb, c0, c1, c2', c3, c4, c5, c6⟩ := HO.out.fls.at (i := i) (by rw [Hn.out]; exact hik)
  injection hA with hA
  injection hA with hA1 hA2
  subst hA1; subst hA2
  rw [HF.out] at c0 c1 c2' c3 c4 c5 c6
  simp only [Nat.zero_add] at c0 c1 c2' c3 c4 c5 c6
  obtain ⟨y0, y1, y2, y3, y4, y5, y6, g0, g1, g2, g3, g4, g5, g6⟩ := cur7 hct (by rw [flf_len, Hn.out]) hik
  have hgl := row_lt hh
  have H6 : (w5.alloc (.cells #[.int .i64 q, .int .i64 u, .int .i64 v, .int .i64 s, .int .i64 x, .int .i64 now, .int .i64 m] flT)).heap[gb]? = some (.cells cur flT) := (Below.heap_alloc _ _ _ hgl).trans hh
  have R06 : (w5.alloc (.cells #[.int .i64 q, .int .i64 u, .int .i64 v, .int .i64 s, .int .i64 x, .int .i64 now, .int .i64 m] flT)).heap[w.heap.size]? = _ := (Below.heap_alloc _ _ _ (row_lt R0)).trans R0
  have k0 := row_cells R0
  have k6 := row_cells R06
  have hfin := OwnR.lay (m := 7) (OwnR.below HO.out ((Below.refl w5.heap.size w5).alloc (Nat.le_refl _) (.cells #[.int .i64 q, .int .i64 u, .int .i64 v, .int .i64 s, .int .i64 x, .int .i64 now, .int .i64 m] flT))) hg H6 hcs hct (i * 7) (Fl.enc ⟨q, u, v, s, x, now, m⟩) (by rw [Fl.enc_len]; omega)
  rw [flf_set l i ⟨q, u, v, s, x, now, m⟩ (by rw [Hn.out]; exact hik)] at hfin
  have pO : OwnF (w.heap.size + 4) (setRow (w5.alloc (.cells #[.int .i64 q, .int .i64 u, .int .i64 v, .int .i64 s, .int .i64 x, .int .i64 now, .int .i64 m] flT)) gb flT (((((((cur.setIfInBounds (i * 7) (.int .i64 q)).setIfInBounds (i * 7 + 1) (.int .i64 u)).setIfInBounds (i * 7 + 2) (.int .i64 v)).setIfInBounds (i * 7 + 3) (.int .i64 s)).setIfInBounds (i * 7 + 4) (.int .i64 x)).setIfInBounds (i * 7 + 5) (.int .i64 now)).setIfInBounds (i * 7 + 6) (.int .i64 m))) (some ⟨gb, 0, none⟩) k c2 (l.set i ⟨q, u, v, s, x, now, m⟩) := hfin
  have p0 : (setRow (w5.alloc (.cells #[.int .i64 q, .int .i64 u, .int .i64 v, .int .i64 s, .int .i64 x, .int .i64 now, .int .i64 m] flT)) gb flT (((((((cur.setIfInBounds (i * 7) (.int .i64 q)).setIfInBounds (i * 7 + 1) (.int .i64 u)).setIfInBounds (i * 7 + 2) (.int .i64 v)).setIfInBounds (i * 7 + 3) (.int .i64 s)).setIfInBounds (i * 7 + 4) (.int .i64 x)).setIfInBounds (i * 7 + 5) (.int .i64 now)).setIfInBounds (i * 7 + 6) (.int .i64 m))).heap[w.heap.size]? = some (.cells #[.int .i64 n, .slice (some ⟨gb, 0, none⟩) k c2, .int .i64 ww, .int .i64 cc] seT) := (setRow_far (by omega)).trans R06
  have p2 : (setRow (w5.alloc (.cells #[.int .i64 q, .int .i64 u, .int .i64 v, .int .i64 s, .int .i64 x, .int .i64 now, .int .i64 m] flT)) gb flT (((((((cur.setIfInBounds (i * 7) (.int .i64 q)).setIfInBounds (i * 7 + 1) (.int .i64 u)).setIfInBounds (i * 7 + 2) (.int .i64 v)).setIfInBounds (i * 7 + 3) (.int .i64 s)).setIfInBounds (i * 7 + 4) (.int .i64 x)).setIfInBounds (i * 7 + 5) (.int .i64 now)).setIfInBounds (i * 7 + 6) (.int .i64 m))).heap[w.heap.size + 2]? = some (.cells #[.int .i64 0, .slice none 0 0, .int .i64 0, .int .i64 0] seT) := (setRow_far (by omega)).trans ((Below.heap_alloc _ _ _ (by omega)).trans R2)
  have p3 : (setRow (w5.alloc (.cells #[.int .i64 q, .int .i64 u, .int .i64 v, .int .i64 s, .int .i64 x, .int .i64 now, .int .i64 m] flT)) gb flT (((((((cur.setIfInBounds (i * 7) (.int .i64 q)).setIfInBounds (i * 7 + 1) (.int .i64 u)).setIfInBounds (i * 7 + 2) (.int .i64 v)).setIfInBounds (i * 7 + 3) (.int .i64 s)).setIfInBounds (i * 7 + 4) (.int .i64 x)).setIfInBounds (i * 7 + 5) (.int .i64 now)).setIfInBounds (i * 7 + 6) (.int .i64 m))).heap[w.heap.size + 3]? = some (.cells #[.int .i64 0, .int .i64 0, .int .i64 0, .int .i64 0, .int .i64 0, .int .i64 0, .int .i64 0] flT) := (setRow_far (by omega)).trans ((Below.heap_alloc _ _ _ (by omega)).trans R3)
  have p4 : (setRow (w5.alloc (.cells #[.int .i64 q, .int .i64 u, .int .i64 v, .int .i64 s, .int .i64 x, .int .i64 now, .int .i64 m] flT)) gb flT (((((((cur.setIfInBounds (i * 7) (.int .i64 q)).setIfInBounds (i * 7 + 1) (.int .i64 u)).setIfInBounds (i * 7 + 2) (.int .i64 v)).setIfInBounds (i * 7 + 3) (.int .i64 s)).setIfInBounds (i * 7 + 4) (.int .i64 x)).setIfInBounds (i * 7 + 5) (.int .i64 now)).setIfInBounds (i * 7 + 6) (.int .i64 m))).heap[w5.heap.size]? = some (.cells #[.int .i64 q, .int .i64 u, .int .i64 v, .int .i64 s, .int .i64 x, .int .i64 now, .int .i64 m] flT) := (setRow_far (by omega)).trans (MapKept.heap_alloc w5 _).1
  have pB : Below w.heap.size w (setRow (w5.alloc (.cells #[.int .i64 q, .int .i64 u, .int .i64 v, .int .i64 s, .int .i64 x, .int .i64 now, .int .i64 m] flT)) gb flT (((((((cur.setIfInBounds (i * 7) (.int .i64 q)).setIfInBounds (i * 7 + 1) (.int .i64 u)).setIfInBounds (i * 7 + 2) (.int .i64 v)).setIfInBounds (i * 7 + 3) (.int .i64 s)).setIfInBounds (i * 7 + 4) (.int .i64 x)).setIfInBounds (i * 7 + 5) (.int .i64 now)).setIfInBounds (i * 7 + 6) (.int .i64 m))) := setRow_below (HB.out.alloc (by omega) _) (by omega)
  have PP := Lib.hid (And.intro p0 (And.intro p2 (And.intro p3 (And.intro p4 (And.intro pO pB)))))
  obtain ⟨s0, s1, d0, d1, f0, f1, z2⟩ := rows1 H6
  have q0 : (0 : Int) ≤ (i : Int) := by omega
  have q2 : (i : Int) < (k : Int) := by omega
  have e1 : IntKind.i64.wrap (t + 1) = t + 1 := IntWalk.i64_in _ (by omega)
  clear H6 R06 hcs hct R0 R2 R3 hh hfin p0 p2 p3 p4 pO pB
  by_cases h30 : t + 1 ≤ 1073741824
  · obtain rfl : m = t + 1 := by omega
    go_wp2
    obtain ⟨Y, hY⟩ : ∃ Y, (setRow (w5.alloc (.cells #[.int .i64 q, .int .i64 u, .int .i64 v, .int .i64 s, .int .i64 x, .int .i64 now, .int .i64 (t + 1)] flT)) gb flT (((((((cur.setIfInBounds (i * 7) (.int .i64 q)).setIfInBounds (i * 7 + 1) (.int .i64 u)).setIfInBounds (i * 7 + 2) (.int .i64 v)).setIfInBounds (i * 7 + 3) (.int .i64 s)).setIfInBounds (i * 7 + 4) (.int .i64 x)).setIfInBounds (i * 7 + 5) (.int .i64 now)).setIfInBounds (i * 7 + 6) (.int .i64 (t + 1)))) = Y := ⟨_, rfl⟩
    rw [hY] at PP ⊢
    clear s0 s1 d0 d1 f0 f1 z2 k0 k6 c0 c1 c2' c3 c4 c5 c6 hY
    obtain ⟨p0, p2, p3, p4, pO, pB⟩ := PP.out
    have PO := Lib.hid (And.intro pO pB)
    have k0 := row_cells p0
    obtain ⟨s0, s1, c1, f1, c2', f2, s2, s3, c3', f3, y1, c0, f0, c02, f02⟩ := rows2 p2 p3 (by omega)
    obtain ⟨n1, n2⟩ := far_cells (g := w.heap.size + 2) (t := seT) p4 (by omega)
    have cF : ∀ ds es i, (setRow (setRow Y (w.heap.size + 2) seT ds) (w.heap.size + 3) flT es).cell? ⟨w.heap.size + 2, i, none⟩ = ds[i]? := fun ds es i => cell_of_row _ _ _ _ _ _ ((setRow_far (by omega)).trans (setRow_row (row_lt p2)))
    clear PP p0 p2 p3 p4 pO pB
    go_region
    all_goals
      go_wp2
      refine bodyPost_ret (v := .tuple #[.agg #[.int .i64 n, .slice (some ⟨gb, 0, none⟩) k c2, .int .i64 ww, .int .i64 cc], Fl.val ⟨q, u, v, s, x, now, (t + 1)⟩, .bool true]) ?_ rfl ⟨_, _, rfl, ?_, ?_⟩
      · simp [results, Try.results43, go_sem, c3', cF]
      · exact OwnR.lower (OwnR.setRow (OwnR.setRow (OwnR.drewN PO.out.1 1) (by omega)) (by omega)) (by omega)
      · exact setRow_below (setRow_below (below_drewN PO.out.2 1) (by omega)) (by omega)
  · obtain rfl : m = 1073741824 := by omega
    have h30' : 1073741824 < t + 1 := by omega
    go_wp2
    obtain ⟨Y, hY⟩ : ∃ Y, (setRow (w5.alloc (.cells #[.int .i64 q, .int .i64 u, .int .i64 v, .int .i64 s, .int .i64 x, .int .i64 now, .int .i64 1073741824] flT)) gb flT (((((((cur.setIfInBounds (i * 7) (.int .i64 q)).setIfInBounds (i * 7 + 1) (.int .i64 u)).setIfInBounds (i * 7 + 2) (.int .i64 v)).setIfInBounds (i * 7 + 3) (.int .i64 s)).setIfInBounds (i * 7 + 4) (.int .i64 x)).setIfInBounds (i * 7 + 5) (.int .i64 now)).setIfInBounds (i * 7 + 6) (.int .i64 1073741824))) = Y := ⟨_, rfl⟩
    rw [hY] at PP ⊢
    clear s0 s1 d0 d1 f0 f1 z2 k0 k6 c0 c1 c2' c3 c4 c5 c6 hY
    obtain ⟨p0, p2, p3, p4, pO, pB⟩ := PP.out
    have PO := Lib.hid (And.intro pO pB)
    have k0 := row_cells p0
    obtain ⟨s0, s1, c1, f1, c2', f2, s2, s3, c3', f3, y1, c0, f0, c02, f02⟩ := rows2 p2 p3 (by omega)
    obtain ⟨n1, n2⟩ := far_cells (g := w.heap.size + 2) (t := seT) p4 (by omega)
    have cF : ∀ ds es i, (setRow (setRow Y (w.heap.size + 2) seT ds) (w.heap.size + 3) flT es).cell? ⟨w.heap.size + 2, i, none⟩ = ds[i]? := fun ds es i => cell_of_row _ _ _ _ _ _ ((setRow_far (by omega)).trans (setRow_row (row_lt p2)))
    clear PP p0 p2 p3 p4 pO pB
    go_region
    all_goals
      go_wp2
      refine bodyPost_ret (v := .tuple #[.agg #[.int .i64 n, .slice (some ⟨gb, 0, none⟩) k c2, .int .i64 ww, .int .i64 cc], Fl.val ⟨q, u, v, s, x, now, 1073741824⟩, .bool true]) ?_ rfl ⟨_, _, rfl, ?_, ?_⟩
      · simp [results, Try.results43, go_sem, c3', cF]
      · exact OwnR.lower (OwnR.setRow (OwnR.setRow (OwnR.drewN PO.out.1 1) (by omega)) (by omega)) (by omega)
      · exact setRow_below (setRow_below (below_drewN PO.out.2 1) (by omega)) (by omega)
end Go.Proofs.Ytiecebncnflpiaa
