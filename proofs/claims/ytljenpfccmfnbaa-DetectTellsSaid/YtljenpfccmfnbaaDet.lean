/- What the functions of package detect come to, one contract each. -/
import Derived.Test.YtljenpfccmfnbaaSat
import Derived.Test.YtljenpfccmfnbaaRecs
import Derived.Test.YtljenpfccmfnbaaTail
import Derived.Test.YtljenpfccmfnbaaDetMath
import Derived.BigQuiet
import Derived.Laws.MakeOwn
import Derived.Laws.OwnMore
import Derived.Lib.SliceRun
import Derived.Deep.RegionLaw
namespace Go.Proofs.Ytljenpfccmfnbaa
open Go.ChangeShapes Go.WideShapes Go.ChangeAt Go.RowKit

abbrev beT : TypeId := 30
theorem infoB : (Try.prog.info? beT).map (fun i => (i.zero, i.size, i.bytes)) = some (some (.agg #[.int .i64 0, .int .i64 0]), 2, 16) := by kernel_rfl
/-- A row of beats. -/
def Beats (w : World) (A : Option Addr) (l : Det.Row) : Prop := Nums .i64 w A (flat l)
/-- A row of beats of the call's own. -/
def OwnB (base : Nat) (w : World) (A : Option Addr) (n c : Nat) (l : Det.Row) : Prop := OwnR 2 beT base w A n c (flat l)
theorem OwnB.beats {base : Nat} {w : World} {A : Option Addr} {n c : Nat} {l : Det.Row} (h : OwnB base w A n c l) : Beats w A l := h.nums
theorem Beats.at {w : World} {A : Option Addr} {l : Det.Row} (h : Beats w A l) (hl : 0 < l.length) : ∃ b off, A = some ⟨b, off, none⟩ ∧ b < w.heap.size ∧ ∀ i, i < l.length → w.cell? ⟨b, off + i * 2, none⟩ = some (.int .i64 (l.getD i (0, 0)).1) ∧ w.cell? ⟨b, off + i * 2 + 1, none⟩ = some (.int .i64 (l.getD i (0, 0)).2) := by
  rcases h with h | ⟨b, off, hA, hb, hc⟩
  · have := flat_len l; rw [h] at this; simp at this; omega
  · refine ⟨b, off, hA, hb, fun i hi => ⟨?_, ?_⟩⟩
    · rw [hc (i * 2) (by rw [flat_len]; omega), flat_0]
    · rw [Nat.add_assoc, hc (i * 2 + 1) (by rw [flat_len]; omega), flat_1]

theorem last_any (w : World) (A : Option Addr) (n c : Nat) (l : Det.Row) (hn : l.length = n) (hN : Beats w A l) (hlen : n ≤ 1000000) :
    Calls Try.prog 21 #[.slice A n c] w fun e w' => e = .returned (.agg #[.int .i64 (Det.last l).1, .int .i64 (Det.last l).2]) ∧ Below w.heap.size w w' := by
  have z0 : ∀ W, (zeroValue beT).run Try.prog W = .ok (.agg #[.int .i64 0, .int .i64 0]) W := fun W => by kernel_rfl
  by_cases h0 : n = 0
  · obtain rfl : l = [] := List.eq_nil_of_length_eq_zero (by omega)
    subst h0
    clear hn hN
    go_enter Try.func21, Try.ntmps21
    go_wp2
    refine bodyPost_ret (v := .agg #[.int .i64 0, .int .i64 0]) ?_ rfl ⟨rfl, (Below.refl _ _).alloc (Nat.le_refl _) _⟩
    simp [results, Try.results21, go_sem]
  · obtain ⟨b, off, rfl, hb, hc⟩ := hN.at (by omega)
    obtain ⟨k, rfl⟩ : ∃ k, n = k + 1 := ⟨n - 1, by omega⟩
    obtain ⟨g0, g1⟩ := hc k (by omega)
    have e : Det.last l = l.getD k (0, 0) := by unfold Det.last; rw [hn]; rfl
    rw [← e] at g0 g1
    have e1 : IntKind.i64.wrap (((k + 1 : Nat) : Int) - 1) = (k : Int) := by rw [IntWalk.i64_in _ (by omega)]; omega
    generalize Det.last l = p at g0 g1 ⊢
    clear hc hN e hn
    go_enter Try.func21, Try.ntmps21
    go_wp2
    refine bodyPost_ret (v := .agg #[.int .i64 p.1, .int .i64 p.2]) ?_ rfl ⟨rfl, (Below.refl _ _).alloc (Nat.le_refl _) _⟩
    simp [results, Try.results21, go_sem]

theorem clone_any (w : World) (A : Option Addr) (n c : Nat) (l : Det.Row) (hn : l.length = n) (hN : Beats w A l) (hlen : n ≤ 1000000) :
    Calls Try.prog 22 #[.slice A n c] w fun e w' => ∃ A' c', e = .returned (.slice A' n c') ∧ OwnB w.heap.size w' A' n c' l ∧ Below w.heap.size w w' := by
  obtain ⟨i0, hi, hz0, hz1, hz2⟩ := info_parts infoB
  have HI := Lib.hid (And.intro hi (And.intro hz0 (And.intro hz1 hz2)))
  have Hn := Lib.hid (show (flat l).length = n * 2 by rw [flat_len, hn])
  have HN := Lib.hid hN
  clear hi hz0 hz1 hz2 hN
  cases A with
  | none =>
    obtain rfl : l = [] := by
      rcases HN.out with h | ⟨b, off, h, _⟩
      · have := flat_len l; rw [h] at this; simp at this; exact List.eq_nil_of_length_eq_zero (by omega)
      · cases h
    obtain rfl : n = 0 := by simpa using hn.symm
    have hq : (binOp .eql 22 (.slice none 0 c) (.slice none 0 0)).run Try.prog w = .ok (.bool true) w := by kernel_rfl
    clear hn
    go_enter Try.func22, Try.ntmps22
    go_wp2
    go_ret
    exact ⟨none, 0, rfl, OwnR.nil (Nat.le_refl _), Below.refl _ _⟩
  | some a =>
    have hq : (binOp .eql 22 (.slice (some a) n c) (.slice none 0 0)).run Try.prog w = .ok (.bool false) w := by kernel_rfl
    clear hn
    go_enter Try.func22, Try.ntmps22
    go_wp2_with (first
      | (at_builtin; refine wpList_append_recs rfl _ _ 22 rfl i0 _ 16 Try.underlying22 HI.out.1 HI.out.2.1 HI.out.2.2.1 HI.out.2.2.2 (by decide) rfl (by decide) rfl (OwnR.lit (n := 0) (m := 2) (zs := []) #[] (Nat.le_refl _) (Nat.zero_le _) rfl rfl) a n _ (flat l) rfl Hn.out (HN.out.alloc _) (by omega) w.heap.size w (Nat.le_refl _) ((Below.refl _ _).alloc (Nat.le_refl _) _) ?_; intro A4 c4 w4 hO4 hB4)
      )
    go_ret
    exact ⟨A4, c4, by simp, by unfold OwnB; simpa using hO4, hB4⟩

theorem clear_one (W : World) (ty : TypeId) (g o n c : Nat) (cs : Array Value) (h1 : n = 1) (h : W.heap[g]? = some (.cells cs beT)) (hs : o + 2 ≤ cs.size) :
    (Builtin.clear_ #[22] ty #[.slice (some ⟨g, o, none⟩) n c]).run Try.prog W = .ok (.tuple #[]) (W.setCells g o [.int .i64 0, .int .i64 0]) := by
  subst h1
  have hv : ∀ W, (zeroValue beT).run Try.prog W = .ok (.agg #[.int .i64 0, .int .i64 0]) W := fun W => by kernel_rfl
  have hzc : (Builtin.zeroCells (Value.agg #[.int .i64 0, .int .i64 0]).cells 1).toList = [.int .i64 0, .int .i64 0] := by kernel_rfl
  have hst := run_storeCells_cells (P := Try.prog) g o [.int .i64 0, .int .i64 0] 0 W (fun j hj => by
      simp at hj
      rw [cell_of_row _ _ _ _ _ _ h]
      simp; omega) (fun j _ => frozen_row h _) (by
      intro v hv'; simp at hv'; subst hv'; rfl)
  simp only [Nat.add_zero] at hst
  simp [Builtin.clear_, run_underlying Try.underlying22, hv, hzc, hst]

theorem delete_any (w : World) (base : Nat) (A : Option Addr) (n c i j : Nat) (l : Det.Row) (hO : OwnB base w A n c l) (hj : j = i + 1) (hn : j ≤ n) :
    Calls Try.prog 23 #[.slice A n c, .int .i64 i, .int .i64 j] w fun e w' => e = .returned (.slice A (n - 1) c) ∧ OwnB base w' A (n - 1) c (l.take i ++ l.drop j) ∧ (∀ B W0, B ≤ base → Below B W0 w → Below B W0 w') := by
  obtain ⟨g, cur, rfl, hg, hh, hs, ht⟩ := hO.at0 (by omega)
  obtain ⟨i0, hi0, hz0, hz1, hz2⟩ := info_parts infoB
  obtain ⟨h3, h4⟩ := hO.len
  unfold maxLen at h4
  have hl : l.length = n := by have := hO.zlen; rw [flat_len] at this; omega
  obtain ⟨news, hnews⟩ : ∃ news, news = (flat (l.drop j)).map (Value.int .i64) := ⟨_, rfl⟩
  have hlen : news.length = (n - j) * 2 := by rw [hnews, List.length_map, flat_len, List.length_drop, hl]
  have hcur : ∀ t, t < n * 2 → cur[t]? = some (.int .i64 ((flat l).getD t 0)) := by
    intro t h
    have h2 : (cur.toList.take (n * 2))[t]? = some (.int .i64 ((flat l).getD t 0)) := by
      rw [ht]; simp [List.getD, flat_len, hl, h]
    rw [List.getElem?_take, if_pos h] at h2
    simpa using h2
  have hget : ∀ t, t < (n - j) * 2 → news[t]? = cur[j * 2 + t]? := by
    intro t h
    rw [hcur _ (by omega), hnews, ← flat_drop, List.getElem?_map, List.getElem?_drop]
    simp [List.getD, flat_len, hl, show j * 2 + t < n * 2 by omega]
  obtain ⟨A', hA, hsrc⟩ : ∃ A' : Addr, (if c = j then (some ⟨g, 0, none⟩ : Option Addr) else some ⟨g, j * 2, none⟩) = some A' ∧ Hid (∀ t u, news[t]? = some u → w.drew.cell? (A'.add t) = some u) := by
    by_cases h : c = j
    · refine ⟨⟨g, 0, none⟩, by simp [h], Lib.hid fun t u hu => ?_⟩
      have h0 : news.length = 0 := by rw [hlen]; omega
      rw [List.length_eq_zero_iff.1 h0] at hu
      simp at hu
    · refine ⟨⟨g, j * 2, none⟩, by simp [h], Lib.hid fun t u hu => ?_⟩
      have h1 : t < (n - j) * 2 := by
        have := (List.getElem?_eq_some_iff.1 hu).1
        rwa [hlen] at this
      rw [hget t h1] at hu
      rw [add_plain]
      exact (cell_of_row _ _ _ _ _ _ hh).trans hu
  have s2 := Lib.hid (show ∀ u ∈ news, u.oneCell' = true by
    intro u hu
    rw [hnews] at hu
    obtain ⟨x, _, rfl⟩ := List.mem_map.1 hu
    rfl)
  have s3 := Lib.hid (show ∀ t, t < news.length → (w.drew.cell? ⟨g, 0 + i * 2 + t, none⟩).isSome = true ∧ w.drew.frozen? ⟨g, 0 + i * 2 + t, none⟩ = false by
    intro t h
    rw [hlen] at h
    refine ⟨?_, frozen_row (w := w) hh _⟩
    show (w.cell? _).isSome = true
    rw [cell_of_row _ _ _ _ _ _ hh, hcur _ (by omega)]
    rfl)
  have s1 := Lib.hid hlen
  obtain ⟨W1, hW1⟩ : ∃ W1, W1 = w.drew.setCells g (0 + i * 2) news := ⟨_, rfl⟩
  have hW1' : W1 = setRow w.drew g beT (Lib.lay cur (i * 2) news) := by
    rw [hW1, Nat.zero_add]
    exact setCells_row _ _ w.drew cur hh
  have hh1 : W1.heap[g]? = some (.cells (Lib.lay cur (i * 2) news) beT) := by
    rw [hW1']
    exact setRow_row (show g < w.drew.heap.size from row_lt hh)
  have hcl : ∀ ty, (Builtin.clear_ #[22] ty #[.slice (some ⟨g, (n - 1) * 2, none⟩) (n - (n - 1)) (c - (n - 1))]).run Try.prog W1 = .ok (.tuple #[]) (W1.setCells g ((n - 1) * 2) [.int .i64 0, .int .i64 0]) :=
    fun ty => clear_one W1 ty g _ _ _ _ (by omega) hh1 (by rw [Lib.lay_size, hs]; omega)
  obtain ⟨W2, hW2⟩ : ∃ W2, W2 = W1.setCells g ((n - 1) * 2) [.int .i64 0, .int .i64 0] := ⟨_, rfl⟩
  have hW2' : W2 = setRow w.drew g beT (Lib.lay (Lib.lay cur (i * 2) news) ((n - 1) * 2) [.int .i64 0, .int .i64 0]) := by
    rw [hW2, setCells_row _ _ W1 _ hh1, hW1', setRow_twice]
  rw [← hW2] at hcl
  have fin : OwnB base W2 (some ⟨g, 0, none⟩) (n - 1) c (l.take i ++ l.drop j) ∧ (∀ B W0, B ≤ base → Below B W0 w → Below B W0 W2) := by
    rw [hW2']
    have el : (flat (l.take i ++ l.drop j)).length = (n - 1) * 2 := by rw [flat_len, List.length_append, List.length_take, List.length_drop, hl]; omega
    refine ⟨OwnR.of_row hg (setRow_row (show g < w.drew.heap.size from row_lt hh)) (by omega) (by unfold maxLen; omega) (by rw [Lib.lay_size, Lib.lay_size, hs]) ?_ el, fun B W0 hB hb => setRow_below (show Below B W0 (w.drewN 1) from below_drewN hb 1) (by omega)⟩
    apply List.ext_getElem?
    intro t
    rw [List.getElem?_take]
    by_cases h1 : t < (n - 1) * 2
    · rw [if_pos h1, Array.getElem?_toList, Lib.lay_get? _ _ _ _ (by rw [Lib.lay_size, hs]; simp; omega), if_neg (by omega), Lib.lay_get? _ _ _ _ (by rw [hs, hlen]; omega), hlen]
      rw [flat_app, ← flat_take, ← flat_drop, List.getElem?_map]
      by_cases h2 : t < i * 2
      · rw [if_neg (by omega), hcur _ (by omega), List.getElem?_append_left (by rw [List.length_take, flat_len, hl]; omega), List.getElem?_take, if_pos h2]
        simp [List.getD, flat_len, hl, show t < n * 2 by omega]
      · rw [if_pos (by omega), hget _ (by omega), hcur _ (by omega), List.getElem?_append_right (by rw [List.length_take, flat_len, hl]; omega), List.getElem?_drop, List.length_take, flat_len, hl]
        rw [show j * 2 + (t - min (i * 2) (n * 2)) = j * 2 + (t - i * 2) by omega]
        simp [List.getD, flat_len, hl, show j * 2 + (t - i * 2) < n * 2 by omega]
    · rw [if_neg h1, List.getElem?_eq_none (by rw [List.length_map, el]; omega)]
  have Fin := Lib.hid fin
  have HW1 := Lib.hid hW1
  have Hj := Lib.hid hj
  have hij : i ≤ j := by omega
  have hne : (i : Int) ≠ (j : Int) := by omega
  have hic : i ≤ c := by omega
  have hjc : j ≤ c := by omega
  have e1 : i + (n - j) = n - 1 := by omega
  clear fin hW1 hW2 hW1' hW2' hh1 hh hget hcur hnews hlen ht hs hO hz0 hz2 hj
  go_enter Try.func23, Try.ntmps23
  go_wp2_with fail
  go_region_law (refine step_append_room rfl (.tmp 22) (.tmp 25) 22 rfl beT i0 2 Try.underlying22 hi0 hz1 g 0 i c (by simp [Act.eval, Act.put]) A' (n - j) (c - j) news (by simp [Act.eval, Act.put]) s1.out hsrc.out s2.out (by omega) s3.out ?_; rw [← HW1.out])
  go_wp2
  go_ret
  exact ⟨rfl, Fin.out⟩
end Go.Proofs.Ytljenpfccmfnbaa
