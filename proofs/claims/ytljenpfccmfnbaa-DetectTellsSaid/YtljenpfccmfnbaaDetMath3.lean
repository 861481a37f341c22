/- Rows of heartbeats, in plain reckoning: even beats, shifted rows, rows that forget. No program in it. -/
import Derived.Test.YtljenpfccmfnbaaDetMath2
namespace Go.Proofs.Ytljenpfccmfnbaa
namespace Sat
theorem total_rep (v : Int) : ∀ k : Nat, total (List.replicate k v) = k * clamp v
  | 0 => by simp [total]
  | k + 1 => by
    rw [List.replicate_succ, total, total_rep v k, Int.natCast_add, Int.add_mul]
    omega
theorem mean_rep (k : Nat) (v : Int) (hk : 1 ≤ k) (hk8 : k ≤ 8) (h0 : 0 ≤ v) (h1 : v ≤ 137438953472) : mean (List.replicate k v) = v := by
  have e := clamp_of v h0 (by omega)
  have h2 : (k : Int) * v ≤ 8 * v := Int.mul_le_mul_of_nonneg_right (by omega) h0
  have h3 : (0 : Int) ≤ k * v := Int.mul_nonneg (by omega) h0
  unfold mean
  rw [if_neg (by simp; omega), sum_eq, total_rep, e, List.length_replicate, show min ((k : Int) * v) 1099511627776 = k * v by omega]
  exact Int.mul_ediv_cancel_left v (by omega)
theorem add_in (a b : Int) (ha : 0 ≤ a) (hb : 0 ≤ b) (h : a + b ≤ 1099511627776) : add a b = a + b := by
  rw [add_min, clamp_of a ha (by omega), clamp_of b hb (by omega)]
  omega
theorem sub_in (a b : Int) (ha : a ≤ 1099511627776) (hb : 0 ≤ b) (h : b ≤ a) : sub a b = a - b := by
  unfold sub
  rw [clamp_of a (by omega) ha, clamp_of b hb (by omega)]
  exact clamp_of _ (by omega) (by omega)
theorem mul4_in (a : Int) (ha : 0 ≤ a) (h : a ≤ 274877906944) : mul 4 a = 4 * a := by
  rw [mul_min, clamp_of a ha (by omega), show clamp 4 = 4 from rfl]
  omega
theorem sum3_in (m : Int) (h0 : 0 ≤ m) (h1 : m ≤ 549755813888) : sum [m, 4, 6] = m + 10 := by
  have e : sum [m, 4, 6] = add (add (add 0 m) 4) 6 := rfl
  rw [e, add_in 0 m (by omega) h0 (by omega), add_in (0 + m) 4 (by omega) (by omega) (by omega), add_in (0 + m + 4) 6 (by omega) (by omega) (by omega)]
  omega
end Sat
namespace Det
theorem deadline_in {l : Row} (m t : Int) (hm : Sat.mean (awaited l) = m) (ht : (last l).2 = t) (h0 : 0 ≤ m) (h1 : m ≤ 549755813888) (t0 : 0 ≤ t) (t1 : t ≤ 549755813888) : deadline l = min (max (m + 10) (t + 1)) (t + 40) := by
  unfold deadline
  rw [hm, ht, Sat.sum3_in m h0 h1, Sat.add_in t 1 t0 (by omega) (by omega), Sat.add_in t 40 t0 (by omega) (by omega)]
def even (now : Int) (t : Nat) : Row := (List.range' (t - 7) (min (t + 1) 8)).map fun (i : Nat) => ((i : Int), now + 4 * (i : Int))
theorem even_len (now : Int) (t : Nat) : (even now t).length = min (t + 1) 8 := by simp [even]
theorem even_last (now : Int) (t : Nat) : last (even now t) = ((t : Int), now + 4 * (t : Int)) := by
  unfold last
  rw [even_len]
  have h : min (t + 1) 8 - 1 < min (t + 1) 8 := by omega
  have e : t - 7 + (min (t + 1) 8 - 1) = t := by omega
  simp [even, List.getD, h, e]
theorem even_may (now : Int) (t : Nat) (h0 : 0 ≤ now) (h1 : now ≤ 1073741824) (ht : t < 100) : may (even now t) ((t + 1 : Nat) : Int) (now + 4 * ((t + 1 : Nat) : Int)) = true := by
  refine (may_of _ _ _).2 ?_
  rw [even_last]
  simp only
  omega
theorem even_push (now : Int) (t : Nat) : push (even now t) ((t + 1 : Nat) : Int) (now + 4 * ((t + 1 : Nat) : Int)) = even now (t + 1) := by
  unfold push
  rw [even_len]
  by_cases h : 7 ≤ t
  · rw [if_pos (by omega)]
    unfold even
    have e1 : List.range' (t - 7) (7 + 1) = (t - 7) :: List.range' (t - 7 + 1) 7 := List.range'_succ ..
    have e2 : List.range' (t - 7 + 1) (7 + 1) = List.range' (t - 7 + 1) 7 ++ [t - 7 + 1 + 7] := List.range'_1_concat ..
    rw [show min (t + 1) 8 = 7 + 1 by omega, show min (t + 1 + 1) 8 = 7 + 1 by omega, show t + 1 - 7 = t - 7 + 1 by omega, e1, e2, show t - 7 + 1 + 7 = t + 1 by omega, List.map_cons, List.map_append]
    rfl
  · rw [if_neg (by omega)]
    unfold even
    have e1 : List.range' 0 (t + 1 + 1) = List.range' 0 (t + 1) ++ [0 + (t + 1)] := by
      have := List.range'_1_concat (s := 0) (n := t + 1)
      exact this
    rw [show min (t + 1) 8 = t + 1 by omega, show min (t + 1 + 1) 8 = t + 1 + 1 by omega, show t - 7 = 0 by omega, show t + 1 - 7 = 0 by omega, e1, Nat.zero_add, List.map_append]
    rfl
theorem even_beat (now : Int) (t : Nat) (h0 : 0 ≤ now) (h1 : now ≤ 1073741824) (ht : t < 100) : beat (even now t) ((t + 1 : Nat) : Int) (now + 4 * ((t + 1 : Nat) : Int)) = even now (t + 1) := by
  unfold beat
  rw [if_pos (even_may now t h0 h1 ht), even_push]
theorem even_deadline (now : Int) (t : Nat) (h0 : 0 ≤ now) (h1 : now ≤ 1073741824) (ht : t ≤ 100) : deadline (even now t) = now + 4 * (t : Int) + 10 := by
  have ha : awaited (even now t) = List.replicate (min (t + 1) 8) (now + 4 * (t : Int)) := by
    refine List.eq_replicate_iff.2 ⟨by simp [awaited, even_len], fun b hb => ?_⟩
    unfold awaited at hb
    rw [even_last] at hb
    simp only [even, List.map_map, List.mem_map, List.mem_range'_1] at hb
    obtain ⟨i, hi, rfl⟩ := hb
    simp only [Function.comp]
    have hit : (i : Int) ≤ t := by omega
    rw [Sat.sub_in _ _ (by omega) (by omega) hit, Sat.mul4_in _ (by omega) (by omega), Sat.add_in _ _ (by omega) (by omega) (by omega)]
    omega
  have hm : Sat.mean (awaited (even now t)) = now + 4 * (t : Int) := by
    rw [ha]
    exact Sat.mean_rep _ _ (by omega) (by omega) (by omega) (by omega)
  rw [deadline_in (now + 4 * (t : Int)) (now + 4 * (t : Int)) hm (by rw [even_last]) (by omega) (by omega) (by omega) (by omega)]
  omega
theorem even_0 (now : Int) (h0 : 0 ≤ now) (h1 : now ≤ 1073741824) : [(0, Sat.clamp now)] = even now 0 := by
  rw [Sat.clamp_of now h0 (by omega)]
  simp [even]

def shift (k : Int) (l : Row) : Row := l.map fun p => (p.1, p.2 + k)
theorem shift_len (k : Int) (l : Row) : (shift k l).length = l.length := by simp [shift]
theorem shift_at (k : Int) (l : Row) (i : Nat) (h : i < l.length) : (shift k l).getD i (0, 0) = ((l.getD i (0, 0)).1, (l.getD i (0, 0)).2 + k) := by
  simp [shift, List.getD, h]
theorem shift_last (k : Int) {l : Row} (h : 1 ≤ l.length) : last (shift k l) = ((last l).1, (last l).2 + k) := by
  unfold last
  rw [shift_len]
  exact shift_at k l _ (by omega)
theorem rf_shift (k : Int) (h0 : 0 ≤ k) (h1 : k ≤ 1073741824) : ∀ (l : Row) (s t : Int), (∀ p ∈ l, p.2 ≤ 1073741824) → rightFrom s t l = true → rightFrom s (t + k) (shift k l) = true
  | [], _, _, _, _ => rfl
  | p :: r, s, t, ha, h => by
    unfold rightFrom at h
    split at h
    · cases h
    · have hp := ha p (List.mem_cons_self ..)
      show rightFrom s (t + k) ((p.1, p.2 + k) :: shift k r) = true
      unfold rightFrom
      rw [if_neg (by simp only; omega)]
      exact rf_shift k h0 h1 r (p.1 + 1) p.2 (fun q hq => ha q (List.mem_cons_of_mem _ hq)) h
theorem shift_right (k : Int) {l : Row} (h0 : 0 ≤ k) (h1 : k ≤ 1073741824) (ha : ∀ p ∈ l, p.2 ≤ 1073741824) (h : right l = true) : right (shift k l) = true := by
  obtain ⟨a, b, c⟩ := (right_of l).1 h
  refine (right_of _).2 ⟨by rw [shift_len]; exact a, by rw [shift_len]; exact b, ?_⟩
  exact rf_weak _ 0 (0 + k) 0 0 (by omega) (by omega) (rf_shift k h0 h1 l 0 0 ha c)
theorem total_shift (k : Int) (xs : List Int) (h0 : 0 ≤ k) (h1 : k ≤ 1073741824) (hx : ∀ x ∈ xs, 0 ≤ x ∧ x ≤ 4294967296) : Sat.total (xs.map (· + k)) = Sat.total xs + xs.length * k := by
  induction xs with
  | nil => simp [Sat.total]
  | cons x r ih =>
    have hx0 := hx x (List.mem_cons_self ..)
    rw [List.map_cons, Sat.total, Sat.total, ih (fun y hy => hx y (List.mem_cons_of_mem _ hy)), Sat.clamp_of (x + k) (by omega) (by omega), Sat.clamp_of x (by omega) (by omega), List.length_cons, Int.natCast_add, Int.add_mul]
    omega
theorem shift_deadline (k : Int) {l : Row} (h0 : 0 ≤ k) (h1 : k ≤ 1073741824) (ha : ∀ p ∈ l, p.2 ≤ 1073741824) (h : right l = true) (hs : (last l).1 - (l.getD 0 (0, 0)).1 ≤ 1048576) : deadline (shift k l) = deadline l + k := by
  obtain ⟨l1, l8, hrf⟩ := (right_of l).1 h
  have hlast := right_last h
  have hall : ∀ p ∈ l, 0 ≤ p.2 ∧ p.2 ≤ 1073741824 ∧ 0 ≤ p.1 ∧ p.1 ≤ (last l).1 ∧ (last l).1 - p.1 ≤ 1048576 := by
    intro p hp
    have hp1 := rf_all l 0 0 hrf p hp
    refine ⟨by omega, ha p hp, by omega, by omega, ?_⟩
    rcases l with _ | ⟨q, r⟩
    · cases hp
    · have e : (q :: r).getD 0 (0, 0) = q := rfl
      rw [e] at hs
      rcases List.mem_cons.1 hp with rfl | hp
      · exact hs
      · unfold rightFrom at hrf
        split at hrf
        · cases hrf
        · have := rf_all r (q.1 + 1) q.2 hrf p hp
          omega
  have hv : ∀ x ∈ awaited l, 0 ≤ x ∧ x ≤ 1077936128 := by
    intro x hx
    simp only [awaited, List.mem_map] at hx
    obtain ⟨p, hp, rfl⟩ := hx
    have := hall p hp
    rw [Sat.sub_in _ _ (by omega) (by omega) (by omega), Sat.mul4_in _ (by omega) (by omega), Sat.add_in _ _ (by omega) (by omega) (by omega)]
    omega
  have hsh : awaited (shift k l) = (awaited l).map (· + k) := by
    unfold awaited
    rw [shift_last k l1, List.map_map, shift, List.map_map]
    refine List.map_congr_left fun p hp => ?_
    have := hall p hp
    simp only [Function.comp]
    rw [Sat.sub_in _ _ (by omega) (by omega) (by omega), Sat.mul4_in _ (by omega) (by omega), Sat.add_in _ _ (by omega) (by omega) (by omega), Sat.add_in _ _ (by omega) (by omega) (by omega)]
    omega
  have hal : (awaited l).length = l.length := by simp [awaited]
  have hlo : (0 : Int) ≤ Sat.total (awaited l) := Sat.total_lo _
  have hhi : Sat.total (awaited l) ≤ 1077936128 * (awaited l).length := Sat.total_le _ _ fun x hx => by
    have := hv x hx
    rw [Sat.clamp_of x (by omega) (by omega)]
    omega
  have hn : (1 : Int) ≤ l.length := by omega
  have hn8 : (l.length : Int) ≤ 8 := by omega
  have hT := total_shift k (awaited l) h0 h1 fun x hx => by have := hv x hx; omega
  rw [hal] at hhi hT
  have hk8 : (l.length : Int) * k ≤ 8 * k := Int.mul_le_mul_of_nonneg_right hn8 h0
  have hk0 : (0 : Int) ≤ (l.length : Int) * k := Int.mul_nonneg (by omega) h0
  have m1 : Sat.mean (awaited l) = Sat.total (awaited l) / l.length := by
    unfold Sat.mean
    rw [if_neg (by omega), Sat.sum_eq, hal, show min (Sat.total (awaited l)) 1099511627776 = Sat.total (awaited l) by omega]
  have m2 : Sat.mean (awaited (shift k l)) = Sat.total (awaited l) / l.length + k := by
    rw [hsh]
    unfold Sat.mean
    rw [if_neg (by rw [List.length_map, hal]; omega), Sat.sum_eq, hT, List.length_map, hal, show min (Sat.total (awaited l) + (l.length : Int) * k) 1099511627776 = Sat.total (awaited l) + (l.length : Int) * k by omega]
    exact Int.add_mul_ediv_left _ _ (by omega)
  have q0 : 0 ≤ Sat.total (awaited l) / l.length := Int.ediv_nonneg hlo (by omega)
  have q1 : Sat.total (awaited l) / l.length ≤ Sat.total (awaited l) := Int.ediv_le_self _ hlo
  have hl2 : (last l).2 ≤ 1073741824 := by
    have hm : last l ∈ l := by
      unfold last
      simp [List.getD, show l.length - 1 < l.length by omega]
    exact ha _ hm
  rw [deadline_in _ _ m1 rfl q0 (by omega) (by omega) (by omega), deadline_in _ _ m2 rfl (by omega) (by omega) (by rw [shift_last k l1]; simp only; omega) (by rw [shift_last k l1]; simp only; omega), shift_last k l1]
  simp only
  omega

/-- Two rows that end alike. -/
def Alike (j : Nat) (l m : Row) : Prop := ∃ la ma s, l = la ++ s ∧ m = ma ++ s ∧ s.length = min j 8
theorem alike_0 (l m : Row) : Alike 0 l m := ⟨l, m, [], by simp, by simp, rfl⟩
theorem alike_end {j : Nat} {l m : Row} (h : Alike j l m) (hj : 8 ≤ j) (hl : l.length ≤ 8) (hm : m.length ≤ 8) : l = m := by
  obtain ⟨la, ma, s, rfl, rfl, hs⟩ := h
  have a : la = [] := List.eq_nil_of_length_eq_zero (by simp at hl; omega)
  have b : ma = [] := List.eq_nil_of_length_eq_zero (by simp at hm; omega)
  rw [a, b]
theorem push_tail (la s : Row) (seq now : Int) (j : Nat) (hj : j < 8) (hs : s.length = j) (hl : (la ++ s).length ≤ 8) : ∃ la', push (la ++ s) seq now = la' ++ (s ++ [(seq, now)]) := by
  unfold push
  by_cases h8 : 8 ≤ (la ++ s).length
  · rw [if_pos h8, List.drop_append_of_le_length (by simp at h8; omega)]
    exact ⟨la.drop 1, by simp⟩
  · rw [if_neg h8]
    exact ⟨la, by simp⟩
theorem push_full (la s : Row) (seq now : Int) (hs : s.length = 8) (hl : (la ++ s).length ≤ 8) : push (la ++ s) seq now = s.drop 1 ++ [(seq, now)] := by
  have a : la = [] := List.eq_nil_of_length_eq_zero (by simp at hl; omega)
  subst a
  unfold push
  rw [if_pos (by simp; omega)]
  rfl
theorem alike_push {j : Nat} {l m : Row} (h : Alike j l m) (hl : l.length ≤ 8) (hm : m.length ≤ 8) (seq now : Int) : Alike (j + 1) (push l seq now) (push m seq now) := by
  obtain ⟨la, ma, s, rfl, rfl, hs⟩ := h
  by_cases hj : j < 8
  · obtain ⟨la', h1⟩ := push_tail la s seq now j hj (by omega) hl
    obtain ⟨ma', h2⟩ := push_tail ma s seq now j hj (by omega) hm
    exact ⟨la', ma', _, h1, h2, by simp; omega⟩
  · refine ⟨[], [], s.drop 1 ++ [(seq, now)], push_full la s seq now (by omega) hl, push_full ma s seq now (by omega) hm, ?_⟩
    simp
    omega
end Det
end Go.Proofs.Ytljenpfccmfnbaa
