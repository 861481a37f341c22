/- Rows of heartbeats, in plain reckoning: what the laws say. No program in it. -/
import Derived.Test.YtljenpfccmfnbaaDetMath
namespace Go.Proofs.Ytljenpfccmfnbaa
namespace Det
theorem last_app (l : Row) (p : Int × Int) : last (l ++ [p]) = p := by
  unfold last
  simp [List.getD]
theorem rf_weak : ∀ (l : Row) (s t s' t' : Int), s' ≤ s → t' ≤ t → rightFrom s t l = true → rightFrom s' t' l = true
  | [], _, _, _, _, _, _, _ => rfl
  | p :: r, s, t, s', t', h1, h2, h => by
    unfold rightFrom at h ⊢
    split at h
    · cases h
    · rw [if_neg (by omega)]
      exact h
theorem rf_app : ∀ (l : Row) (s t : Int) (p : Int × Int), l ≠ [] → rightFrom s t (l ++ [p]) = (rightFrom s t l && rightFrom ((last l).1 + 1) (last l).2 [p])
  | [], _, _, _, h => absurd rfl h
  | [q], s, t, p, _ => by
    have e : last [q] = q := rfl
    rw [e]
    simp only [List.cons_append, List.nil_append, rightFrom]
    by_cases h : q.1 < s ∨ 1073741824 < q.1 ∨ q.2 < t ∨ 1099511627776 < q.2
    · rw [if_pos h, if_pos h, Bool.false_and]
    · rw [if_neg h, if_neg h, Bool.true_and]
  | q :: r :: l, s, t, p, _ => by
    have e : last (q :: r :: l) = last (r :: l) := by simp [last, List.getD]
    rw [e]
    have ih := rf_app (r :: l) (q.1 + 1) q.2 p (by simp)
    rw [List.cons_append, rightFrom, ih]
    conv => rhs; rw [rightFrom]
    split
    · simp
    · rfl
theorem rf_last : ∀ (l : Row) (s t : Int), l ≠ [] → rightFrom s t l = true → s ≤ (last l).1 ∧ (last l).1 ≤ 1073741824 ∧ t ≤ (last l).2 ∧ (last l).2 ≤ 1099511627776
  | [], _, _, h, _ => absurd rfl h
  | [q], s, t, _, h => by
    unfold rightFrom at h
    split at h
    · cases h
    · simp [last, List.getD]; omega
  | q :: r :: l, s, t, _, h => by
    have e : last (q :: r :: l) = last (r :: l) := by simp [last, List.getD]
    rw [e]
    unfold rightFrom at h
    split at h
    · cases h
    · have := rf_last (r :: l) (q.1 + 1) q.2 (by simp) h
      omega
theorem rf_all : ∀ (l : Row) (s t : Int), rightFrom s t l = true → ∀ p ∈ l, s ≤ p.1 ∧ t ≤ p.2 ∧ p.1 ≤ 1073741824 ∧ p.2 ≤ 1099511627776 ∧ p.1 ≤ (last l).1 ∧ p.2 ≤ (last l).2
  | [], _, _, _, p, hp => by cases hp
  | q :: r, s, t, h, p, hp => by
    have h0 := h
    unfold rightFrom at h
    split at h
    · cases h
    · rcases List.mem_cons.1 hp with rfl | hp
      · rcases r with _ | ⟨x, r⟩
        · simp [last, List.getD]; omega
        · have e : last (p :: x :: r) = last (x :: r) := by simp [last, List.getD]
          rw [e]
          have := rf_last (x :: r) (p.1 + 1) p.2 (by simp) h
          omega
      · have h2 := rf_all r (q.1 + 1) q.2 h p hp
        rcases r with _ | ⟨x, r⟩
        · cases hp
        · have e : last (q :: x :: r) = last (x :: r) := by simp [last, List.getD]
          rw [e]
          omega
theorem right_of (l : Row) : right l = true ↔ 1 ≤ l.length ∧ l.length ≤ 8 ∧ rightFrom 0 0 l = true := by
  unfold right
  split
  · constructor
    · intro h; cases h
    · intro h; omega
  · constructor
    · intro h; exact ⟨by omega, by omega, h⟩
    · intro h; exact h.2.2
theorem may_of (l : Row) (seq now : Int) : may l seq now = true ↔ (last l).1 < seq ∧ seq ≤ 1073741824 ∧ (last l).2 ≤ now ∧ now ≤ 1099511627776 := by
  unfold may
  simp <;> omega
theorem ne_nil {l : Row} (h : 1 ≤ l.length) : l ≠ [] := by
  intro e
  subst e
  simp at h
theorem push_right {l : Row} {seq now : Int} (h : right l = true) (hm : may l seq now = true) : right (push l seq now) = true := by
  obtain ⟨h1, h2, h3⟩ := (right_of l).1 h
  obtain ⟨m1, m2, m3, m4⟩ := (may_of l seq now).1 hm
  have hl := rf_last l 0 0 (ne_nil h1) h3
  refine (right_of _).2 ?_
  unfold push
  split
  · rename_i h8
    rcases l with _ | ⟨q, l⟩
    · simp at h1
    · simp only [List.drop_succ_cons, List.drop_zero, List.length_append, List.length_cons, List.length_nil] at *
      have hr : rightFrom 0 0 l = true := by
        unfold rightFrom at h3
        split at h3
        · cases h3
        · exact rf_weak l _ _ 0 0 (by omega) (by omega) h3
      have hne : l ≠ [] := ne_nil (by omega)
      have e : last (q :: l) = last l := by
        rcases l with _ | ⟨x, r⟩
        · exact absurd rfl hne
        · simp [last, List.getD]
      rw [e] at hl m1 m3
      refine ⟨by omega, by omega, ?_⟩
      rw [rf_app l 0 0 _ hne, hr, Bool.true_and]
      unfold rightFrom
      rw [if_neg (by simp only; omega)]
      rfl
  · refine ⟨by simp, by simp; omega, ?_⟩
    rw [rf_app l 0 0 _ (ne_nil h1), h3, Bool.true_and]
    unfold rightFrom
    rw [if_neg (by simp only; omega)]
    rfl
theorem push_last (l : Row) (seq now : Int) : last (push l seq now) = (seq, now) := last_app _ _
theorem beat_right {l : Row} {seq now : Int} (h : right l = true) : right (beat l seq now) = true := by
  unfold beat
  split
  · rename_i hm; exact push_right h hm
  · exact h
theorem right_len {l : Row} (h : right l = true) : 1 ≤ l.length ∧ l.length ≤ 8 := ⟨((right_of l).1 h).1, ((right_of l).1 h).2.1⟩
theorem right_last {l : Row} (h : right l = true) : 0 ≤ (last l).1 ∧ (last l).1 ≤ 1073741824 ∧ 0 ≤ (last l).2 ∧ (last l).2 ≤ 1099511627776 := by
  obtain ⟨h1, h2, h3⟩ := (right_of l).1 h
  exact rf_last l 0 0 (ne_nil h1) h3
theorem deadline_bd {l : Row} (h : right l = true) : min ((last l).2 + 1) 1099511627776 ≤ deadline l ∧ deadline l ≤ (last l).2 + 40 ∧ deadline l ≤ 1099511627776 := by
  obtain ⟨_, _, h3, h4⟩ := right_last h
  have e := Sat.clamp_of (last l).2 h3 h4
  have a1 : Sat.add (last l).2 1 = min ((last l).2 + 1) 1099511627776 := by rw [Sat.add_min, e]; rfl
  have a2 : Sat.add (last l).2 40 = min ((last l).2 + 40) 1099511627776 := by rw [Sat.add_min, e]; rfl
  unfold deadline
  rw [a1, a2]
  omega
theorem deadline_0 {l : Row} (h : right l = true) : 0 ≤ deadline l := by
  have := deadline_bd h
  have := right_last h
  omega
theorem awaited_push (l : Row) (seq now : Int) : ∃ xs : List Int, xs.length = (if 8 ≤ l.length then l.drop 1 else l).length ∧ ∀ now, awaited (push l seq now) = xs ++ [Sat.add now (Sat.mul 4 (Sat.sub seq seq))] := by
  refine ⟨(if 8 ≤ l.length then l.drop 1 else l).map fun p => Sat.add p.2 (Sat.mul 4 (Sat.sub seq p.1)), by simp, fun now => ?_⟩
  unfold awaited
  rw [push_last]
  unfold push
  simp
theorem sum_mono (xs : List Int) {a b : Int} (h : a ≤ b) : Sat.sum (xs ++ [a]) ≤ Sat.sum (xs ++ [b]) := by
  rw [Sat.sum_append, Sat.sum_append, Sat.sum_one, Sat.sum_one, Sat.add_comm, Sat.add_comm (Sat.sum xs)]
  exact Sat.add_mono _ (Sat.clamp_mono h)
theorem later_le {l : Row} {seq now later : Int} (h : now ≤ later) : deadline (push l seq now) ≤ deadline (push l seq later) := by
  obtain ⟨xs, _, hx⟩ := awaited_push l seq now
  unfold deadline
  rw [hx now, hx later, push_last, push_last]
  have h1 : Sat.mean (xs ++ [Sat.add now (Sat.mul 4 (Sat.sub seq seq))]) ≤ Sat.mean (xs ++ [Sat.add later (Sat.mul 4 (Sat.sub seq seq))]) := by
    unfold Sat.mean
    rw [if_neg (by simp), if_neg (by simp), List.length_append, List.length_append]
    exact Int.ediv_le_ediv (by simp <;> omega) (sum_mono xs (Sat.add_mono _ h))
  generalize Sat.mean (xs ++ [Sat.add now (Sat.mul 4 (Sat.sub seq seq))]) = a at h1
  generalize Sat.mean (xs ++ [Sat.add later (Sat.mul 4 (Sat.sub seq seq))]) = b at h1
  have h2 : Sat.sum [a, 4, 6] ≤ Sat.sum [b, 4, 6] := by
    unfold Sat.sum
    simp only [List.foldl_cons, List.foldl_nil]
    refine Sat.add_mono _ (Sat.add_mono _ ?_)
    rw [Sat.add_comm, Sat.add_comm 0 b]
    exact Sat.add_mono _ h1
  have h3 := Sat.add_mono 1 h
  have h4 := Sat.add_mono 40 h
  simp only
  omega
end Det
end Go.Proofs.Ytljenpfccmfnbaa
