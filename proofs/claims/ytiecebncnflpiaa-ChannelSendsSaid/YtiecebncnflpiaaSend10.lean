/- Package send: Void, Same. -/
import Derived.Test.YtiecebncnflpiaaFlEq
namespace Go.Proofs.Ytiecebncnflpiaa
open Go.ChangeShapes Go.WideShapes Go.ChangeAt Go.RowKit Go.Shelf

/-- A flight, with nothing told of that user. -/
def Fl.void (user : Int) (f : Fl) : Fl := if f.u = user then ⟨f.q, 0, 0, 0, 0, f.a, f.t⟩ else f
theorem flf_void (M : List Fl) (j : Nat) (hj : j < M.length) {q u v s x a t : Int} (hf : M.getD j .zero = ⟨q, u, v, s, x, a, t⟩) :
    (flf M).take (j * 7 + 1) ++ [0, 0, 0, 0] ++ (flf M).drop (j * 7 + 1 + [(0 : Int), 0, 0, 0].length) = flf (M.set j ⟨q, 0, 0, 0, 0, a, t⟩) := by
  have hg : M[j] = ⟨q, u, v, s, x, a, t⟩ := by simpa [List.getD, hj] using hf
  have e : M = M.take j ++ [⟨q, u, v, s, x, a, t⟩] ++ M.drop (j + 1) := by
    rw [← hg, List.append_assoc, List.singleton_append, ← List.drop_eq_getElem_cons hj, List.take_append_drop]
  have e2 : M.set j ⟨q, 0, 0, 0, 0, a, t⟩ = M.take j ++ [⟨q, 0, 0, 0, 0, a, t⟩] ++ M.drop (j + 1) := by
    rw [List.set_eq_take_append_cons_drop, if_pos hj]; simp
  have eX : (flf (M.take j)).length = j * 7 := by rw [flf_len, List.length_take]; congr 1; omega
  have e3 : flf M = flf (M.take j) ++ ([q, u, v, s, x, a, t] ++ flf (M.drop (j + 1))) := by
    conv => lhs; rw [e]
    unfold flf
    rw [flt_app, flt_app, flt_one, List.append_assoc]
    rfl
  have e4 : flf (M.set j ⟨q, 0, 0, 0, 0, a, t⟩) = flf (M.take j) ++ ([q, 0, 0, 0, 0, a, t] ++ flf (M.drop (j + 1))) := by
    rw [e2]
    unfold flf
    rw [flt_app, flt_app, flt_one, List.append_assoc]
    rfl
  rw [e3, e4]
  generalize flf (M.take j) = X at eX
  generalize flf (M.drop (j + 1)) = Y
  rw [List.take_append, List.take_of_length_le (by omega), List.drop_append, List.drop_eq_nil_of_le (by omega), eX, show j * 7 + 1 - j * 7 = 1 by omega, show j * 7 + 1 + [(0 : Int), 0, 0, 0].length - j * 7 = 5 by simp; omega]
  simp
theorem getD_set (M : List Fl) (j t : Nat) (x : Fl) (hj : j < M.length) : (M.set j x).getD t .zero = if t = j then x else M.getD t .zero := by
  by_cases h : t = j
  · subst h; simp [List.getD, hj]
  · rw [if_neg h]
    have h' : j ≠ t := fun e => h e.symm
    simp [List.getD, List.getElem?_set, h']

set_option maxRecDepth 10000 in
set_option maxHeartbeats 1000000 in
theorem void_any (w : World) (n ww cc : Int) (A : Option Addr) (k c : Nat) (l : List Fl) (hn : l.length = k) (hN : Fls w A l) (hk : k ≤ 1000000) (user : Int) {L : List Fl} (hL : l.map (Fl.void user) = L) :
    Calls Try.prog 45 #[.agg #[.int .i64 n, .slice A k c, .int .i64 ww, .int .i64 cc], .int .i64 user] w fun e w' => ∃ A' c', e = .returned (.agg #[.int .i64 n, .slice A' k c', .int .i64 ww, .int .i64 cc]) ∧ OwnF w.heap.size w' A' k c' L ∧ Below w.heap.size w w' := by
  have z0 := zero_send
  have z1 := zero_fl
  have Hn := Lib.hid hn
  have HN := Lib.hid hN
  have HL := Lib.hid hL
  clear hn hN hL
  go_enter Try.func45, Try.ntmps45
  go_wp2_with fail
  refine (renewed_any _ n ww cc A k c l Hn.out ((HN.out.alloc _).alloc _) hk).mono ?_
  rintro e w2 ⟨A2, c2, rfl, hO, hb⟩
  obtain ⟨R1, R2, S2, hB⟩ := two_blocks hb
  have hO : OwnF (w.heap.size + 2) w2 A2 k c2 l := OwnR.lower hO (by simp)
  clear hb
  obtain ⟨s0, s1, z2, c1, f0, f1, y1⟩ := rows1 R1
  have hXO : OwnF (w.heap.size + 2) (setRow w2 w.heap.size seT #[.int .i64 n, .slice A2 k c2, .int .i64 ww, .int .i64 cc]) A2 k c2 l := OwnR.setRow hO (by omega)
  have hXB := setRow_below (t := seT) (cs := #[.int .i64 n, .slice A2 k c2, .int .i64 ww, .int .i64 cc]) hB (Nat.le_refl _)
  have hX0 := setRow_row (t := seT) (cs := #[.int .i64 n, .slice A2 k c2, .int .i64 ww, .int .i64 cc]) (row_lt R1)
  have hX1 := (setRow_far (w := w2) (g := w.heap.size) (t := seT) (cs := #[.int .i64 n, .slice A2 k c2, .int .i64 ww, .int .i64 cc]) (k := w.heap.size + 1) (by omega)).trans R2
  have XH := Lib.hid (And.intro hXO (And.intro hXB (And.intro hX0 hX1)))
  clear hO hB R1 R2 hXO hXB hX0 hX1
  go_wp2
  obtain ⟨X, hX⟩ : ∃ X, setRow w2 w.heap.size seT #[.int .i64 n, .slice A2 k c2, .int .i64 ww, .int .i64 cc] = X := ⟨_, rfl⟩
  rw [hX] at XH ⊢
  clear s0 s1 z2 c1 f0 f1 y1 hX S2
  go_loopw [12] (fun i wr => ∃ (j : Nat) (M : List Fl), j ≤ k ∧ i = .int .i64 j ∧ M.length = k ∧ Hid (∀ t, t < j → M.getD t .zero = Fl.void user (l.getD t .zero)) ∧ Hid (∀ t, j ≤ t → M.getD t .zero = l.getD t .zero) ∧ Hid (OwnF (w.heap.size + 2) wr A2 k c2 M ∧ Below w.heap.size w wr ∧ wr.heap[w.heap.size]? = some (.cells #[.int .i64 n, .slice A2 k c2, .int .i64 ww, .int .i64 cc] seT) ∧ wr.heap[w.heap.size + 1]? = some (.cells #[.int .i64 0, .slice none 0 0, .int .i64 0, .int .i64 0] seT))) (fun i _ => k - (intOf i).toNat)
  case atStart => exact ⟨0, l, Nat.zero_le _, rfl, Hn.out, (fun t ht => absurd ht (Nat.not_lt_zero _) : ∀ t, t < 0 → _), (fun _ _ => rfl : ∀ t, 0 ≤ t → _), XH.out⟩
  case round =>
    obtain ⟨j, M, hj, rfl, hMl, HM1, HM2, HW⟩ := hrel
    by_cases hjk : j < k
    · obtain ⟨hO, hB, h0, h1⟩ := HW.out
      obtain ⟨gb, cur, rfl, hg, hh, hcs, hct⟩ := hO.at0 (by omega)
      obtain ⟨b, off, hA, hbb, c0, c1, c2', c3, c4, c5, c6⟩ := hO.fls.at (i := j) (by rw [hMl]; exact hjk)
      injection hA with hA
      injection hA with hA1 hA2
      subst hA1; subst hA2
      simp only [Nat.zero_add] at c0 c1 c2' c3 c4 c5 c6
      have hMj : M.getD j .zero = l.getD j .zero := HM2.out j (Nat.le_refl _)
      obtain ⟨f, hf⟩ : ∃ f, M.getD j .zero = f := ⟨_, rfl⟩
      rw [hf] at c0 c1 c2' c3 c4 c5 c6 hMj
      have HF := Lib.hid hf
      have HMj := Lib.hid hMj
      clear hf hMj
      obtain ⟨fq, fu, fv, fs, fc, fa, ft⟩ := f
      dsimp only at c0 c1 c2' c3 c4 c5 c6
      obtain ⟨y0, y1, y2, y3, y4, y5, y6, g0, g1, g2, g3, g4, g5, g6⟩ := cur7 hct (by rw [flf_len, hMl]) hjk
      have hgl := row_lt hh
      have H6 : (wr.alloc (.cells #[.int .i64 fq, .int .i64 fu, .int .i64 fv, .int .i64 fs, .int .i64 fc, .int .i64 fa, .int .i64 ft] flT)).heap[gb]? = some (.cells cur flT) := (Below.heap_alloc _ _ _ hgl).trans hh
      have R06 : (wr.alloc (.cells #[.int .i64 fq, .int .i64 fu, .int .i64 fv, .int .i64 fs, .int .i64 fc, .int .i64 fa, .int .i64 ft] flT)).heap[w.heap.size]? = _ := (Below.heap_alloc _ _ _ (row_lt h0)).trans h0
      have R16 : (wr.alloc (.cells #[.int .i64 fq, .int .i64 fu, .int .i64 fv, .int .i64 fs, .int .i64 fc, .int .i64 fa, .int .i64 ft] flT)).heap[w.heap.size + 1]? = _ := (Below.heap_alloc _ _ _ (row_lt h1)).trans h1
      have k6 := row_cells R06
      have hO6 := OwnR.below hO ((Below.refl wr.heap.size wr).alloc (Nat.le_refl _) (.cells #[.int .i64 fq, .int .i64 fu, .int .i64 fv, .int .i64 fs, .int .i64 fc, .int .i64 fa, .int .i64 ft] flT))
      have hB6 := hB.alloc hB.size (.cells #[.int .i64 fq, .int .i64 fu, .int .i64 fv, .int .i64 fs, .int .i64 fc, .int .i64 fa, .int .i64 ft] flT)
      have q0 : (0 : Int) ≤ (j : Int) := by omega
      have q1 : (j : Int) < (k : Int) := by omega
      by_cases hu : fu = user
      · have hfin := OwnR.lay (m := 7) hO6 hg H6 hcs hct (j * 7 + 1) [0, 0, 0, 0] (by simp; omega)
        rw [flf_void M j (by omega) HF.out] at hfin
        have hfB := setRow_below (t := flT) (cs := Lib.lay cur (j * 7 + 1) ([(0 : Int), 0, 0, 0].map (Value.int .i64))) hB6 (show w.heap.size ≤ gb by omega)
        have hf0 := (setRow_far (t := flT) (cs := Lib.lay cur (j * 7 + 1) ([(0 : Int), 0, 0, 0].map (Value.int .i64))) (show w.heap.size ≠ gb by omega)).trans R06
        have hf1 := (setRow_far (t := flT) (cs := Lib.lay cur (j * 7 + 1) ([(0 : Int), 0, 0, 0].map (Value.int .i64))) (show w.heap.size + 1 ≠ gb by omega)).trans R16
        have HFIN := Lib.hid (And.intro hfin (And.intro hfB (And.intro hf0 hf1)))
        obtain ⟨s0, s1, d0, d1, f0, f1, z2⟩ := rows1 H6
        clear hO hB h0 h1 hh hcs hct H6 R06 R16 hO6 hB6 hfin hfB hf0 hf1 HW
        subst hu
        go_wp2
        go_roundw
        case rel => exact ⟨j + 1, M.set j ⟨fq, 0, 0, 0, 0, fa, ft⟩, by omega, by go_num, by rw [List.length_set]; exact hMl, (fun t ht => by
          rw [getD_set M j t _ (by omega)]
          by_cases e : t = j
          · subst e; rw [if_pos rfl, ← HMj.out]; unfold Fl.void; rw [if_pos rfl]
          · rw [if_neg e]; exact HM1.out t (by omega) : ∀ t, t < j + 1 → _), (fun t ht => by
          rw [getD_set M j t _ (by omega), if_neg (by omega)]; exact HM2.out t (by omega) : ∀ t, j + 1 ≤ t → _), HFIN.out⟩
        case measure => simp [intOf]; omega
      · have HFIN := Lib.hid (And.intro hO6 (And.intro hB6 (And.intro R06 R16)))
        have hu' : (fu == user) = false := by simpa using hu
        clear hO hB h0 h1 hh hcs hct H6 R06 R16 hO6 hB6 HW
        go_wp2
        go_roundw
        case rel => exact ⟨j + 1, M, by omega, by go_num, hMl, (fun t ht => by
          by_cases e : t = j
          · subst e; rw [HF.out, ← HMj.out]; unfold Fl.void; rw [if_neg hu]
          · exact HM1.out t (by omega) : ∀ t, t < j + 1 → _), (fun t ht => HM2.out t (by omega) : ∀ t, j + 1 ≤ t → _), HFIN.out⟩
        case measure => simp [intOf]; omega
    · obtain rfl : j = k := by omega
      have hML : M = L := by
        rw [← HL.out]
        refine fls_ext (by rw [List.length_map, hMl, Hn.out]) fun t ht => ?_
        rw [HM1.out t (by omega)]
        have ht2 : t < l.length := by rw [Hn.out]; omega
        simp [List.getD, ht2]
      subst hML
      obtain ⟨hO, hB, h0, h1⟩ := HW.out
      have k0 := row_cells h0
      obtain ⟨s0, s1, d0, d1, f0, f1, z2⟩ := rows1 h1
      have HO := Lib.hid (And.intro hO hB)
      clear hO hB h0 h1 HW
      go_wp2
      refine bodyPost_ret (v := .agg #[.int .i64 n, .slice A2 j c2, .int .i64 ww, .int .i64 cc]) ?_ rfl ⟨_, _, rfl, ?_, ?_⟩
      · simp [results, Try.results45, go_sem, d1]
      · exact OwnR.lower (OwnR.setRow HO.out.1 (by omega)) (by omega)
      · exact setRow_below HO.out.2 (by omega)
end Go.Proofs.Ytiecebncnflpiaa
