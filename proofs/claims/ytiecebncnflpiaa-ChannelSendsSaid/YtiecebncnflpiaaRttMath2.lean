/- More on round trips: no program in it. -/
import Derived.Test.YtiecebncnflpiaaRttMath
namespace Go.Proofs.Ytiecebncnflpiaa
namespace Rtt
theorem ok_right {e : Rtt} (h : e.Ok) : e.right = true := (right_iff e).2 h
theorem or_id {e : Rtt} (h : e.Ok) : e.or = e := or_of e (ok_right h)
theorem first_like (r : Int) (h0 : 0 ≤ r) (h1 : r ≤ 4096) : (sample start r).s = 8 * r ∧ (sample start r).has = true := by
  unfold sample
  rw [or_id start_ok, cut_of r h0 h1]
  exact ⟨rfl, rfl⟩
theorem more_like (e : Rtt) (r : Int) (h0 : 0 ≤ r) (h1 : r ≤ 4096) (ho : e.Ok) (hh : e.has = true) (hs : e.s = 8 * r) : (sample e r).s = 8 * r ∧ (sample e r).has = true ∧ (sample e r).v ≤ e.v := by
  have ho' := ho
  obtain ⟨a1, a2, a3, a4, _⟩ := ho'
  unfold sample
  rw [or_id ho, cut_of r h0 h1]
  unfold step
  rw [if_pos hh]
  simp only [hs]
  refine ⟨by omega, trivial, by omega⟩
theorem near (e : Rtt) (r : Int) (h0 : 0 ≤ r) (h1 : r ≤ 4096) (ho : e.Ok) (hh : e.has = true) : min (e.s / 8) r ≤ (sample e r).s / 8 ∧ (sample e r).s / 8 ≤ max (e.s / 8) r ∧ (e.s / 8 = r → (sample e r).s = e.s) ∧ (sample e r).v ≤ max e.v (4 * max (r - e.s / 8) (e.s / 8 - r) + 3) := by
  have ho' := ho
  obtain ⟨a1, a2, a3, a4, _⟩ := ho'
  unfold sample
  rw [or_id ho, cut_of r h0 h1]
  unfold step
  rw [if_pos hh]
  simp only
  omega
/-- Backed off so often. -/
def backs (e : Rtt) : Nat → Rtt
  | 0 => e
  | n + 1 => (backs e n).backoff
theorem backs_ok (e : Rtt) (h : e.Ok) : ∀ n, (backs e n).Ok
  | 0 => h
  | _n + 1 => backoff_ok _
theorem backoff_of (e : Rtt) (h : e.Ok) : e.backoff = { e with rto := min (2 * e.rto) 64, fails := min (e.fails + 1) 100 } := by unfold backoff; rw [or_id h]
theorem backs_same (e : Rtt) (h : e.Ok) : ∀ n, (backs e n).s = e.s ∧ (backs e n).v = e.v ∧ (backs e n).has = e.has ∧ (backs e n).fails = min (e.fails + n) 100
  | 0 => by
    obtain ⟨_, _, _, _, _, _, a7, a8, _⟩ := h
    refine ⟨rfl, rfl, rfl, ?_⟩
    simp only [backs]; omega
  | n + 1 => by
    obtain ⟨i1, i2, i3, i4⟩ := backs_same e h n
    simp only [backs]
    rw [backoff_of _ (backs_ok e h n)]
    refine ⟨i1, i2, i3, ?_⟩
    simp only [i4]
    omega
/-- The wait doubled so often, up to 64. -/
def wants (r : Int) : Nat → Int
  | 0 => r
  | n + 1 => min (2 * wants r n) 64
theorem wants_bd (r : Int) (h1 : 2 ≤ r) (h2 : r ≤ 64) : ∀ n, 2 ≤ wants r n ∧ wants r n ≤ 64
  | 0 => ⟨h1, h2⟩
  | n + 1 => by have := wants_bd r h1 h2 n; simp only [wants]; omega
theorem backs_rto (e : Rtt) (h : e.Ok) : ∀ n, (backs e n).rto = wants e.rto n
  | 0 => rfl
  | n + 1 => by
    simp only [backs, wants]
    rw [backoff_of _ (backs_ok e h n), backs_rto e h n]
theorem six (e : Rtt) : (backs e 6).rto = 64 ∧ 6 ≤ (backs e 6).fails ∧ (backs e 6).fails ≤ 100 := by
  have h : ∀ x : Rtt, x.backoff.Ok := backoff_ok
  have e1 : backs e 6 = backs e.backoff 5 := rfl
  have ho := backoff_ok e
  have ho' := ho
  obtain ⟨_, _, _, _, a5, a6, a7, a8, _⟩ := ho'
  have e2 := backs_rto e.backoff ho 5
  have e3 := (backs_same e.backoff ho 5).2.2.2
  have e4 : 1 ≤ e.backoff.fails := by
    obtain ⟨_, _, _, _, _, _, b7, b8, _⟩ := or_ok e
    simp only [backoff]; omega
  rw [e1, e2, e3]
  simp only [wants]
  omega
theorem six_sample (e : Rtt) (r : Int) (h0 : 0 ≤ r) (h1 : r ≤ 10) (hh : (backs e 6).has = false) : (sample (backs e 6) r).rto = max 2 (r + max 1 (2 * r)) := by
  have ho : (backs e 6).Ok := backoff_ok _
  unfold sample
  rw [or_id ho, cut_of r h0 (by omega)]
  unfold step
  rw [hh]
  simp only [wait]
  simp
  omega
end Rtt
end Go.Proofs.Ytiecebncnflpiaa
