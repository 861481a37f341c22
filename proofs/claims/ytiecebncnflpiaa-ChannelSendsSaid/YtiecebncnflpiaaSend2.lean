/- Package send: Room, Due, Start, Lost. -/
import Derived.Test.YtiecebncnflpiaaSend
import Derived.Test.YtiecebncnflpiaaMem3
namespace Go.Proofs.Ytiecebncnflpiaa
open Go.ChangeShapes Go.WideShapes Go.ChangeAt Go.RowKit

theorem run_min3 (ts : Array TypeId) (t : TypeId) (a b c : Int) (w : World) : (Builtin.min_ ts t #[.int .i64 a, .int .i64 b, .int .i64 c]).run Try.prog w = .ok (.int .i64 (min (min a b) c)) w := by
  have h : ∀ x y : Int, (Builtin.min2 (.int .i64 x) (.int .i64 y)).run Try.prog w = .ok (.int .i64 (min x y)) w := fun x y => by
    simp only [Builtin.min2]
    by_cases hh : y < x
    · rw [show min x y = y by omega]; simp [hh]
    · rw [show min x y = x by omega]; simp [hh]
  simp [Builtin.min_, h]
theorem run_max3 (ts : Array TypeId) (t : TypeId) (a b c : Int) (w : World) : (Builtin.max_ ts t #[.int .i64 a, .int .i64 b, .int .i64 c]).run Try.prog w = .ok (.int .i64 (max (max a b) c)) w := by
  have h : ∀ x y : Int, (Builtin.max2 (.int .i64 x) (.int .i64 y)).run Try.prog w = .ok (.int .i64 (max x y)) w := fun x y => by
    simp only [Builtin.max2]
    by_cases hh : x < y
    · rw [show max x y = y by omega]; simp [hh]
    · rw [show max x y = x by omega]; simp [hh]
  simp [Builtin.max_, h]
/-- The one block that a function of a Send begins with. -/
theorem one_send (w : World) (cs : Array Value) (t : TypeId) : ∃ V, w.alloc (.cells cs t) = V ∧ V.heap[w.heap.size]? = some (.cells cs t) ∧ Below w.heap.size w V ∧ V.heap.size = w.heap.size + 1 :=
  ⟨_, rfl, (MapKept.heap_alloc w _).1, (Below.refl _ _).alloc (Nat.le_refl _) _, by simp⟩

set_option maxHeartbeats 1000000 in
theorem room_to (w : World) (n ww cc : Int) (A : Option Addr) (k c : Nat) (l : List Fl) (hn : l.length = k) (hN : Fls w A l) (hk : k ≤ 1000000) (h1 : 0 ≤ n ∧ n ≤ 1099511627776) (h2 : 0 ≤ ww ∧ ww ≤ 1099511627776) (hq : ∀ f ∈ l, 0 ≤ f.q ∧ f.q ≤ 1099511627776) {v : Int} (hv : Sd.room ⟨n, l, ww, cc⟩ = v) :
    Calls Try.prog 35 #[.agg #[.int .i64 n, .slice A k c, .int .i64 ww, .int .i64 cc]] w fun e w' => e = .returned (.int .i64 v) ∧ Below w.heap.size w w' := by
  obtain ⟨V, hV, R1, BV, SV⟩ := one_send w #[.int .i64 n, .slice A k c, .int .i64 ww, .int .i64 cc] seT
  have K1 := row_cells R1
  have m3 := run_min3
  have HN := Lib.hid (Fls.below hN BV)
  have e2 : IntKind.i64.wrap (ww - (k : Int)) = ww - (k : Int) := IntWalk.i64_in _ (by omega)
  have e3 : IntKind.i64.wrap (1073741824 - n) = 1073741824 - n := IntWalk.i64_in _ (by omega)
  unfold Sd.room at hv
  dsimp only at hv
  rw [hn] at hv
  cases l with
  | nil =>
    obtain rfl : k = 0 := by simpa using hn.symm
    have hs : Sd.span ⟨n, [], ww, cc⟩ = 0 := rfl
    rw [hs] at hv
    have HV := Lib.hid hv
    clear R1 hn hN hv hs hq
    go_enter Try.func35, Try.ntmps35
    go_wp2
    all_goals (go_ret; exact ⟨ret_int (by have := HV.out; omega), BV⟩)
  | cons f r =>
    have hs : Sd.span ⟨n, f :: r, ww, cc⟩ = n - f.q := rfl
    rw [hs] at hv
    obtain ⟨b, off, rfl, hb, c0, -⟩ := HN.out.at (i := 0) (by simp)
    have hfq := hq f (List.mem_cons_self ..)
    have hg : (f :: r).getD 0 Fl.zero = f := rfl
    rw [hg, Nat.zero_mul, Nat.add_zero] at c0
    generalize f.q = q at c0 hv hfq
    have e1 : IntKind.i64.wrap (n - q) = n - q := IntWalk.i64_in _ (by omega)
    have e4 : IntKind.i64.wrap (8 - (n - q)) = 8 - (n - q) := IntWalk.i64_in _ (by omega)
    have k0 : (0 : Int) < (k : Int) := by rw [← hn]; simp only [List.length_cons]; omega
    have HV := Lib.hid hv
    clear R1 hn hN hv hs hq hg HN
    go_enter Try.func35, Try.ntmps35
    go_wp2
    go_quiet (fail)
    have K1 : ∀ m i, (V.drewN m).cell? ⟨w.heap.size, i, none⟩ = #[.int .i64 n, .slice (some ⟨b, off, none⟩) k c, .int .i64 ww, .int .i64 cc][i]? := fun _ i => K1 i
    go_wp2
    all_goals (go_ret; exact ⟨ret_int (by have := HV.out; omega), below_drewN BV _⟩)

theorem OwnN.lower {k : IntKind} {E : TypeId} {base c b2 : Nat} {w : World} {A : Option Addr} {l : List Int} (h : OwnN k E base w A c l) (hb : b2 ≤ base) : OwnN k E b2 w A c l := by
  refine ⟨⟨h.1.1, ?_⟩, by have := h.2; omega⟩
  rcases h.1.2 with h1 | ⟨g, cap, cur, hv, hg, r⟩
  · exact Or.inl h1
  · exact Or.inr ⟨g, cap, cur, hv, by omega, r⟩
theorem infoI : (Try.prog.info? 3).map (fun i => (i.zero, i.size, i.bytes)) = some (some (.int .i64 0), 1, 8) := by kernel_rfl
set_option maxHeartbeats 1000000 in
theorem due_to (w : World) (n ww cc : Int) (A : Option Addr) (k c : Nat) (l : List Fl) (hn : l.length = k) (hN : Fls w A l) (hk : k ≤ 1000000) (now rto : Int) (hr : 0 ≤ rto ∧ rto ≤ 1099511627776) (ha : ∀ f ∈ l, 0 ≤ f.a ∧ f.a ≤ 1099511627776) {ds : List Int} (hd : Sd.due l now rto = ds) :
    Calls Try.prog 40 #[.agg #[.int .i64 n, .slice A k c, .int .i64 ww, .int .i64 cc], .int .i64 now, .int .i64 rto] w fun e w' => ∃ A' c', e = .returned (.slice A' ds.length c') ∧ OwnN .i64 3 w.heap.size w' A' c' ds ∧ Below w.heap.size w w' := by
  have z1 := zero_fl
  obtain ⟨i0, hi, hz0, hz1, hz2⟩ := info_parts infoI
  have HI := Lib.hid (And.intro hi (And.intro hz0 (And.intro hz1 hz2)))
  clear hi hz0 hz1 hz2
  obtain ⟨V, hV, R1, BV, SV⟩ := one_send w #[.int .i64 n, .slice A k c, .int .i64 ww, .int .i64 cc] seT
  have K1 := row_cells R1
  have HN := Lib.hid (Fls.below hN BV)
  have Hn := Lib.hid hn
  have HD := Lib.hid hd
  have HA := Lib.hid ha
  clear R1 hn hN hd ha
  go_enter Try.func40, Try.ntmps40
  go_wp2
  go_loopw [7, 13] (fun d i wr => ∃ (j : Nat) (A' : Option Addr) (c' : Nat), j ≤ k ∧ i = .int .i64 j ∧ d = .slice A' (Sd.due (l.take j) now rto).length c' ∧ OwnN .i64 3 V.heap.size wr A' c' (Sd.due (l.take j) now rto) ∧ Below V.heap.size V wr) (fun _ i _ => k - (intOf i).toNat)
  case atStart => exact ⟨0, none, 0, Nat.zero_le _, rfl, rfl, OwnN.nil (Nat.le_refl _), Below.refl _ _⟩
  case round =>
    clear K1
    obtain ⟨j, A', c', hj, rfl, rfl, hO, hBV⟩ := hrel
    by_cases hjk : j < k
    · obtain ⟨b, off, rfl, hb, c0, c1, c2, c3, c4, c5, c6⟩ := (Fls.below HN.out hBV).at (i := j) (by rw [Hn.out]; exact hjk)
      have HS := Lib.hid (Sd.due_snoc l now rto j (by rw [Hn.out]; exact hjk))
      have haj := HA.out (l.getD j .zero) (by
        have h1 : j < l.length := by rw [Hn.out]; exact hjk
        have e : l.getD j .zero = l[j] := by simp [List.getD, h1]
        rw [e]; exact List.getElem_mem h1)
      have hlen := Sd.due_len (l.take j) now rto
      rw [List.length_take] at hlen
      generalize l.getD j .zero = f at c0 c1 c2 c3 c4 c5 c6 HS haj
      generalize Sd.due (l.take j) now rto = D at hO HS hlen
      obtain ⟨fq, fu, fv, fs, fc, fa, ft⟩ := f
      simp only at c0 c1 c2 c3 c4 c5 c6 haj
      have HSS := HS.out
      dsimp only at HSS
      have HSS := Lib.hid HSS
      have e1 : IntKind.i64.wrap (fa + rto) = fa + rto := IntWalk.i64_in _ (by omega)
      have q1 : (j : Int) < (k : Int) := by omega
      have q0 : (0 : Int) ≤ (j : Int) := by omega
      have hb2 := hBV.alloc hBV.size (.cells #[.int .i64 fq, .int .i64 fu, .int .i64 fv, .int .i64 fs, .int .i64 fc, .int .i64 fa, .int .i64 ft] flT)
      have hO1 := hO.alloc (.cells #[.int .i64 fq, .int .i64 fu, .int .i64 fv, .int .i64 fs, .int .i64 fc, .int .i64 fa, .int .i64 ft] flT)
      clear HS hO
      by_cases hdue : fa + rto ≤ now
      · have hT := HSS.out
        rw [if_pos hdue] at hT
        have HT := Lib.hid hT
        have HOO := Lib.hid hO1
        clear hT hO1
        go_wp2_with (first
          | (at_builtin; refine wpList_append_num rfl _ _ 63 rfl i0 8 Try.underlying63 HI.out.1 HI.out.2.1 HI.out.2.2.1 HI.out.2.2.2 (by decide) D.length rfl rfl (OwnN.alloc HOO.out _) _ _ fq rfl (alloc_cell0 _ _ _ _ (by simp)) (by omega) V.heap.size V (Nat.le_refl _) (hb2.alloc hb2.size _) ?_; intro A5 c5 w5 hO5 hb5)
          )
        go_roundw
        case rel => exact ⟨j + 1, A5, c5, by omega, by go_num, by rw [HT.out]; simp, by rw [HT.out]; exact hO5, hb5⟩
        case measure => simp [intOf]; omega
      · have hT := HSS.out
        rw [if_neg hdue, List.append_nil] at hT
        have HT := Lib.hid hT
        clear hT
        go_wp2
        go_roundw
        case rel => exact ⟨j + 1, A', c', by omega, by go_num, by rw [HT.out], by rw [HT.out]; exact hO1, hb2⟩
        case measure => simp [intOf]; omega
    · obtain rfl : j = k := by omega
      rw [List.take_of_length_le (by rw [Hn.out]; exact Nat.le_refl _), HD.out] at hO
      rw [List.take_of_length_le (by rw [Hn.out]; exact Nat.le_refl _), HD.out]
      go_wp2
      go_ret
      exact ⟨A', c', rfl, OwnN.lower hO BV.size, BV.trans (hBV.mono BV.size)⟩

set_option maxHeartbeats 1000000 in
theorem lost_any (w : World) (n ww cc : Int) (A : Option Addr) (k c : Nat) (l : List Fl) (hn : l.length = k) (hN : Fls w A l) (hk : k ≤ 1000000) (hw : 0 ≤ ww ∧ ww ≤ 1099511627776) {v : Int} (hv : max (ww / 2) 1 = v) :
    Calls Try.prog 42 #[.agg #[.int .i64 n, .slice A k c, .int .i64 ww, .int .i64 cc]] w fun e w' => ∃ A' c', e = .returned (.agg #[.int .i64 n, .slice A' k c', .int .i64 v, .int .i64 0]) ∧ OwnF w.heap.size w' A' k c' l ∧ Below w.heap.size w w' := by
  have z0 := zero_send
  have Hn := Lib.hid hn
  have HN := Lib.hid hN
  have HV := Lib.hid hv
  have e1 : IntKind.i64.wrap (ww.tdiv 2) = ww / 2 := by rw [Int.tdiv_eq_ediv_of_nonneg (by omega)]; exact IntWalk.i64_in _ (by omega)
  clear hn hN hv
  go_enter Try.func42, Try.ntmps42
  go_wp2_with fail
  refine (renewed_any _ n ww cc A k c l Hn.out ((HN.out.alloc _).alloc _) hk).mono ?_
  rintro e w2 ⟨A2, c2, rfl, hO, hb⟩
  obtain ⟨R1, R2, -, hB⟩ := two_blocks hb
  have hO : OwnF (w.heap.size + 2) w2 A2 k c2 l := OwnR.lower hO (by simp)
  clear hb
  obtain ⟨s0, s1, c1, f1, c2', f2, s2, s3, c3, f3, z1, c0, f0, c02, f02⟩ := rows2 R1 R2 (by omega)
  have HO := Lib.hid hO
  have HB := Lib.hid hB
  clear hO hB R1 R2
  go_wp2
  all_goals
    refine bodyPost_ret (v := .agg #[.int .i64 n, .slice A2 k c2, .int .i64 v, .int .i64 0]) ?_ rfl ⟨_, _, rfl, ?_, ?_⟩
    · simp [results, Try.results42, go_sem, c3]
      try (have := HV.out; omega)
    · exact OwnR.lower ((OwnR.setRow (OwnR.setRow HO.out (by omega)) (by omega))) (by omega)
    · exact setRow_below (setRow_below HB.out (Nat.le_refl _)) (by omega)
theorem start_any (w : World) : Calls Try.prog 46 #[] w fun e w' => e = .returned (.agg #[.int .i64 1, .slice none 0 0, .int .i64 1, .int .i64 0]) ∧ Below w.heap.size w w' := by
  have z0 := zero_send
  go_enter Try.func46, Try.ntmps46
  go_wp2
  refine bodyPost_ret (v := .agg #[.int .i64 1, .slice none 0 0, .int .i64 1, .int .i64 0]) ?_ rfl ⟨rfl, ?_⟩
  · simp [results, Try.results46, go_sem]
  · exact (Below.refl _ _).alloc (Nat.le_refl _) _
end Go.Proofs.Ytiecebncnflpiaa
