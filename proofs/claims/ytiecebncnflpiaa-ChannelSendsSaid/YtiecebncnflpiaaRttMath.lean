/- Plain reckoning of round trips: no program in it. -/
namespace Go.Proofs.Ytiecebncnflpiaa
structure Rtt where
  s : Int
  v : Int
  rto : Int
  fails : Int
  has : Bool
namespace Rtt
def start : Rtt := ⟨0, 0, 8, 0, false⟩
/-- Is n from lo to hi? -/
def win (n lo hi : Int) : Bool := decide (lo ≤ n ∧ n ≤ hi)
def right (e : Rtt) : Bool := win e.s 0 32768 && win e.v 0 16384 && win e.rto 2 64 && win e.fails 0 100 && (e.has || (e.s == 0 && e.v == 0))
/-- What 'right' says, to be used. -/
def Ok (e : Rtt) : Prop := 0 ≤ e.s ∧ e.s ≤ 32768 ∧ 0 ≤ e.v ∧ e.v ≤ 16384 ∧ 2 ≤ e.rto ∧ e.rto ≤ 64 ∧ 0 ≤ e.fails ∧ e.fails ≤ 100 ∧ (e.has = true ∨ (e.s = 0 ∧ e.v = 0))
theorem right_iff (e : Rtt) : e.right = true ↔ e.Ok := by
  unfold right Ok win
  simp only [Bool.and_eq_true, Bool.or_eq_true, decide_eq_true_eq, beq_iff_eq]
  constructor
  · rintro ⟨⟨⟨⟨⟨h1, h2⟩, h3, h4⟩, h5, h6⟩, h7, h8⟩, h9⟩
    exact ⟨h1, h2, h3, h4, h5, h6, h7, h8, h9⟩
  · rintro ⟨h1, h2, h3, h4, h5, h6, h7, h8, h9⟩
    exact ⟨⟨⟨⟨⟨h1, h2⟩, h3, h4⟩, h5, h6⟩, h7, h8⟩, h9⟩
def or (e : Rtt) : Rtt := if e.right then e else start
theorem start_ok : start.Ok := by unfold Ok start; simp
theorem or_ok (e : Rtt) : e.or.Ok := by
  unfold or
  split
  · exact (right_iff e).1 ‹_›
  · exact start_ok
theorem or_of (e : Rtt) (h : e.right = true) : e.or = e := by unfold or; rw [if_pos h]
theorem or_not (e : Rtt) (h : e.right = false) : e.or = start := by unfold or; rw [h]; rfl
theorem or_or (e : Rtt) : e.or.or = e.or := or_of _ ((right_iff _).2 (or_ok e))
def cut (r : Int) : Int := min (max r 0) 4096
theorem cut_bd (r : Int) : 0 ≤ cut r ∧ cut r ≤ 4096 := by unfold cut; omega
theorem cut_of (r : Int) (h0 : 0 ≤ r) (h : r ≤ 4096) : cut r = r := by unfold cut; omega
theorem cut_cut (r : Int) : cut (cut r) = cut r := cut_of _ (cut_bd r).1 (cut_bd r).2
def wait (s v : Int) : Int := min (max (s / 8 + max v 1) 2) 64
/-- Sample of a right one, the time cut already. -/
def step (e : Rtt) (r : Int) : Rtt :=
  if e.has then
    { s := e.s + (r - e.s / 8), v := e.v + (max (r - e.s / 8) (-(r - e.s / 8)) - e.v / 4), rto := wait (e.s + (r - e.s / 8)) (e.v + (max (r - e.s / 8) (-(r - e.s / 8)) - e.v / 4)), fails := 0, has := true }
  else { s := 8 * r, v := 2 * r, rto := wait (8 * r) (2 * r), fails := 0, has := true }
def sample (e : Rtt) (r : Int) : Rtt := step e.or (cut r)
def backoff (e : Rtt) : Rtt := { e.or with rto := min (2 * e.or.rto) 64, fails := min (e.or.fails + 1) 100 }
theorem wait_bd (s v : Int) : 2 ≤ wait s v ∧ wait s v ≤ 64 := by unfold wait; omega
theorem step_ok (e : Rtt) (r : Int) (h : e.Ok) (h0 : 0 ≤ r) (h1 : r ≤ 4096) : (step e r).Ok := by
  obtain ⟨a1, a2, a3, a4, _⟩ := h
  unfold step
  split
  · have := wait_bd (e.s + (r - e.s / 8)) (e.v + (max (r - e.s / 8) (-(r - e.s / 8)) - e.v / 4))
    refine ⟨?_, ?_, ?_, ?_, this.1, this.2, ?_, ?_, Or.inl rfl⟩ <;> simp only <;> omega
  · have := wait_bd (8 * r) (2 * r)
    refine ⟨?_, ?_, ?_, ?_, this.1, this.2, ?_, ?_, Or.inl rfl⟩ <;> simp only <;> omega
theorem sample_ok (e : Rtt) (r : Int) : (e.sample r).Ok := step_ok _ _ (or_ok e) (cut_bd r).1 (cut_bd r).2
theorem backoff_ok (e : Rtt) : e.backoff.Ok := by
  obtain ⟨a1, a2, a3, a4, a5, a6, a7, a8, a9⟩ := or_ok e
  refine ⟨a1, a2, a3, a4, ?_, ?_, ?_, ?_, a9⟩ <;> simp only [backoff] <;> omega
theorem sample_fails (e : Rtt) (r : Int) : (e.sample r).fails = 0 ∧ (e.sample r).has = true := by
  unfold sample step; split <;> exact ⟨rfl, rfl⟩
end Rtt
end Go.Proofs.Ytiecebncnflpiaa
