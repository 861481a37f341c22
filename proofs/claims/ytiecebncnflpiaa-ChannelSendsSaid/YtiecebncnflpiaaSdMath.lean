/- What package send does to a Send, as one function each, and what stays right. No program in it. -/
import Derived.Test.YtiecebncnflpiaaOpen11
namespace Go.Proofs.Ytiecebncnflpiaa
namespace Sd
def push (s : Sd) (u v x y now : Int) : Sd × Fl × Bool :=
  if Sd.room s = 0 then (s, .zero, false) else (⟨s.n + 1, s.l ++ [⟨s.n, u, v, x, y, now, 1⟩], s.w, s.c⟩, ⟨s.n, u, v, x, y, now, 1⟩, true)
def acked (s : Sd) (ack sack now : Int) : Sd × Int :=
  if ack < 0 ∨ s.n ≤ ack then (s, -1)
  else (⟨s.n, s.l.filter (fun x => !Sd.gone ack sack x), (Sd.grown s.w (s.c + ((s.l.length : Int) - ((s.l.filter (fun x => !Sd.gone ack sack x)).length : Int)))).1, (Sd.grown s.w (s.c + ((s.l.length : Int) - ((s.l.filter (fun x => !Sd.gone ack sack x)).length : Int)))).2⟩, Sd.tk ack sack now s.l)
def again (f : Fl) (now : Int) : Fl := ⟨f.q, f.u, f.v, f.s, f.c, now, min (f.t + 1) 1073741824⟩
def resend (s : Sd) (seq now : Int) : Sd × Fl × Bool :=
  if idx (isq seq) s.l < 0 then (s, .zero, false)
  else (⟨s.n, s.l.set (idx (isq seq) s.l).toNat (again (s.l.getD (idx (isq seq) s.l).toNat .zero) now), s.w, s.c⟩, again (s.l.getD (idx (isq seq) s.l).toNat .zero) now, true)
def lost (s : Sd) : Sd := ⟨s.n, s.l, max (s.w / 2) 1, 0⟩
def void (s : Sd) (user : Int) : Sd := ⟨s.n, s.l.map (Fl.void user), s.w, s.c⟩
end Sd

theorem chain_lower (n : Int) : ∀ (l : List Fl) (a b : Int), a ≤ b → Sd.chain n b l = true → Sd.chain n a l = true
  | [], _, _, _, _ => rfl
  | f :: r, a, b, h, hc => by
    rw [Sd.chain, Bool.and_eq_true, decide_eq_true_eq] at hc ⊢
    unfold Fl.ok at hc ⊢
    exact ⟨by omega, hc.2⟩
theorem chain_filter (n : Int) (p : Fl → Bool) : ∀ (l : List Fl) (a : Int), Sd.chain n a l = true → Sd.chain n a (l.filter p) = true
  | [], _, _ => rfl
  | f :: r, a, hc => by
    rw [Sd.chain, Bool.and_eq_true, decide_eq_true_eq] at hc
    rw [List.filter_cons]
    split
    · rw [Sd.chain, Bool.and_eq_true, decide_eq_true_eq]
      exact ⟨hc.1, chain_filter n p r _ hc.2⟩
    · refine chain_lower n _ a (f.q + 1) ?_ (chain_filter n p r _ hc.2)
      have := hc.1
      unfold Fl.ok at this
      omega
theorem chain_map (n : Int) (g : Fl → Fl) (hq : ∀ f, (g f).q = f.q) : ∀ (l : List Fl) (a : Int), (∀ f ∈ l, (1 ≤ (g f).t ∧ (g f).t ≤ 1073741824) ∧ 0 ≤ (g f).a ∧ (g f).a ≤ 1099511627776) → Sd.chain n a l = true → Sd.chain n a (l.map g) = true
  | [], _, _, _ => rfl
  | f :: r, a, ha, hc => by
    rw [Sd.chain, Bool.and_eq_true, decide_eq_true_eq] at hc
    rw [List.map_cons, Sd.chain, Bool.and_eq_true, decide_eq_true_eq, hq]
    have := ha f (List.mem_cons_self ..)
    refine ⟨?_, chain_map n g hq r _ (fun x hx => ha x (List.mem_cons_of_mem _ hx)) hc.2⟩
    have h1 := hc.1
    unfold Fl.ok at h1 ⊢
    rw [hq]
    omega
theorem chain_set (n : Int) (x : Fl) : ∀ (l : List Fl) (a : Int) (i : Nat), i < l.length → x.q = (l.getD i .zero).q → (1 ≤ x.t ∧ x.t ≤ 1073741824) → (0 ≤ x.a ∧ x.a ≤ 1099511627776) → Sd.chain n a l = true → Sd.chain n a (l.set i x) = true
  | [], _, _, h, _, _, _, _ => by cases h
  | f :: r, a, 0, _, hq, ht, hx, hc => by
    rw [Sd.chain, Bool.and_eq_true, decide_eq_true_eq] at hc
    rw [List.set_cons_zero, Sd.chain, Bool.and_eq_true, decide_eq_true_eq]
    have e : x.q = f.q := hq
    rw [e]
    refine ⟨?_, hc.2⟩
    have h1 := hc.1
    unfold Fl.ok at h1 ⊢
    rw [e]
    omega
  | f :: r, a, i + 1, h, hq, ht, hx, hc => by
    rw [Sd.chain, Bool.and_eq_true, decide_eq_true_eq] at hc
    rw [List.set_cons_succ, Sd.chain, Bool.and_eq_true, decide_eq_true_eq]
    exact ⟨hc.1, chain_set n x r _ i (by simpa using h) hq ht hx hc.2⟩
theorem chain_snoc (n : Int) (x : Fl) (hx : x.q = n ∧ (1 ≤ x.t ∧ x.t ≤ 1073741824) ∧ 0 ≤ x.a ∧ x.a ≤ 1099511627776) : ∀ (l : List Fl) (a : Int), a ≤ n → Sd.chain n a l = true → Sd.chain (n + 1) a (l ++ [x]) = true
  | [], a, h, _ => by
    rw [List.nil_append, Sd.chain, Sd.chain, Bool.and_true, decide_eq_true_eq]
    unfold Fl.ok
    omega
  | f :: r, a, h, hc => by
    rw [Sd.chain, Bool.and_eq_true, decide_eq_true_eq] at hc
    rw [List.cons_append, Sd.chain, Bool.and_eq_true, decide_eq_true_eq]
    have h1 := hc.1
    unfold Fl.ok at h1
    refine ⟨?_, chain_snoc n x hx r _ (by omega) hc.2⟩
    unfold Fl.ok
    omega
theorem chain_rise (n : Int) : ∀ (l : List Fl) (a : Int), Sd.chain n a l = true → ∀ i j, i < j → j < l.length → (l.getD i .zero).q < (l.getD j .zero).q
  | [], _, _, _, _, _, h => by cases h
  | f :: r, a, hc, 0, j + 1, _, hj => by
    rw [Sd.chain, Bool.and_eq_true] at hc
    have hj' : j < r.length := by simpa using hj
    have := chain_all n r _ hc.2 (r.getD j .zero) (by simp [List.getD, hj'])
    show f.q < (r.getD j .zero).q
    omega
  | f :: r, a, hc, i + 1, j + 1, hij, hj => by
    rw [Sd.chain, Bool.and_eq_true] at hc
    exact chain_rise n r _ hc.2 i j (by omega) (by simpa using hj)
theorem right_mk {n ww cc : Int} {l : List Fl} (h1 : 1 ≤ n ∧ n ≤ 1073741824) (h2 : 1 ≤ ww ∧ ww ≤ 8) (h3 : 0 ≤ cc ∧ cc ≤ 7) (h4 : l.length ≤ 8) (h5 : Sd.chain n (max 1 (n - 8)) l = true) : Sd.right ⟨n, l, ww, cc⟩ = true := by
  unfold Sd.right Sd.least
  simp only [Bool.and_eq_true, decide_eq_true_eq]
  exact ⟨h1, h2, h3, h4, h5⟩
theorem room_bd (s : Sd) (h : Sd.right s = true) : 0 ≤ Sd.room s ∧ Sd.room s ≤ 8 := by
  obtain ⟨n, l, ww, cc⟩ := s
  obtain ⟨h1, h2, h3, h4, h5⟩ := right_bd h
  unfold Sd.room
  dsimp only
  omega
theorem span_first {n ww cc : Int} {l : List Fl} (h : Sd.right ⟨n, l, ww, cc⟩ = true) (hr : 0 < Sd.room ⟨n, l, ww, cc⟩) : Sd.chain n (max 1 (n + 1 - 8)) l = true ∧ (l.length : Int) < ww ∧ n < 1073741824 := by
  obtain ⟨h1, h2, h3, h4, h5⟩ := right_bd h
  unfold Sd.room at hr
  dsimp only at hr
  refine ⟨?_, by omega, by omega⟩
  cases l with
  | nil => rfl
  | cons f r =>
    have hs : Sd.span ⟨n, f :: r, ww, cc⟩ = n - f.q := rfl
    rw [hs] at hr
    rw [Sd.chain, Bool.and_eq_true, decide_eq_true_eq] at h5 ⊢
    refine ⟨?_, h5.2⟩
    have := h5.1
    unfold Sd.least Fl.ok at this
    unfold Fl.ok
    dsimp only at this
    omega
theorem push_right {s : Sd} (h : Sd.right s = true) {u v x y now : Int} (hn : 0 ≤ now ∧ now ≤ 1099511627776) : Sd.right (Sd.push s u v x y now).1 = true := by
  obtain ⟨n, l, ww, cc⟩ := s
  unfold Sd.push
  split
  · exact h
  · rename_i h0
    have hb := room_bd _ h
    obtain ⟨e1, e2, e3⟩ := span_first h (by omega)
    obtain ⟨h1, h2, h3, h4, h5⟩ := right_bd h
    exact right_mk (n := n + 1) (by omega) h2 h3 (by rw [List.length_append]; simp only [List.length_cons, List.length_nil]; omega) (chain_snoc n ⟨n, u, v, x, y, now, 1⟩ ⟨rfl, ⟨Int.le_refl _, by show (1 : Int) ≤ 1073741824; decide⟩, hn⟩ l _ (by omega) e1)
theorem acked_right {s : Sd} (h : Sd.right s = true) (ack sack now : Int) : Sd.right (Sd.acked s ack sack now).1 = true ∧ s.w ≤ (Sd.acked s ack sack now).1.w ∧ (Sd.acked s ack sack now).1.l.length ≤ s.l.length ∧ (Sd.acked s ack sack now).1.n = s.n := by
  obtain ⟨n, l, ww, cc⟩ := s
  unfold Sd.acked
  split
  · exact ⟨h, Int.le_refl _, Nat.le_refl _, rfl⟩
  · obtain ⟨h1, h2, h3, h4, h5⟩ := right_bd h
    have hf : (l.filter fun x => !Sd.gone ack sack x).length ≤ l.length := List.length_filter_le _ _
    dsimp only
    have hg := Sd.grw_bd ((cc + ((l.length : Int) - ((l.filter fun x => !Sd.gone ack sack x).length : Int))).toNat + 1) ww (cc + ((l.length : Int) - ((l.filter fun x => !Sd.gone ack sack x).length : Int))) h2.1 h2.2 (by omega) (by omega)
    have hg' : Sd.grown ww (cc + ((l.length : Int) - ((l.filter fun x => !Sd.gone ack sack x).length : Int))) = Sd.grw ((cc + ((l.length : Int) - ((l.filter fun x => !Sd.gone ack sack x).length : Int))).toNat + 1) ww (cc + ((l.length : Int) - ((l.filter fun x => !Sd.gone ack sack x).length : Int))) := rfl
    rw [← hg'] at hg
    exact ⟨right_mk h1 (by omega) (by omega) (by omega) (chain_filter n _ l _ h5), by omega, hf, rfl⟩
theorem tk_right {s : Sd} (h : Sd.right s = true) (ack sack now : Int) (hn : 0 ≤ now ∧ now ≤ 1099511627776) : -1 ≤ (Sd.acked s ack sack now).2 ∧ (Sd.acked s ack sack now).2 ≤ 1099511627776 := by
  obtain ⟨n, l, ww, cc⟩ := s
  unfold Sd.acked
  split
  · exact ⟨Int.le_refl _, by show (-1 : Int) ≤ 1099511627776; decide⟩
  · exact Sd.tk_bd ack sack now hn l (right_all h).2.1 (-1) (by omega) (by omega)
theorem resend_right {s : Sd} (h : Sd.right s = true) (seq now : Int) (hn : 0 ≤ now ∧ now ≤ 1099511627776) : Sd.right (Sd.resend s seq now).1 = true ∧ (Sd.resend s seq now).1.n = s.n := by
  obtain ⟨n, l, ww, cc⟩ := s
  unfold Sd.resend
  rcases idx_spec (isq seq) l .zero with ⟨h1, -⟩ | ⟨i, hi, h1, h2, h3⟩
  · dsimp only
    rw [h1, if_pos (by omega)]
    exact ⟨h, rfl⟩
  · dsimp only
    rw [h1, if_neg (by omega), Int.toNat_natCast]
    obtain ⟨g1, g2, g3, g4, g5⟩ := right_bd h
    have ht := (right_all h).2.2 (l.getD i .zero) (by simp [List.getD, hi])
    exact ⟨right_mk g1 g2 g3 (by rw [List.length_set]; exact g4) (chain_set n _ l _ i hi rfl (by unfold Sd.again; dsimp only; omega) hn g5), rfl⟩
theorem lost_right {s : Sd} (h : Sd.right s = true) : Sd.right (Sd.lost s) = true := by
  obtain ⟨n, l, ww, cc⟩ := s
  obtain ⟨h1, h2, h3, h4, h5⟩ := right_bd h
  exact right_mk h1 (by dsimp only; omega) (by omega) h4 h5
theorem void_right {s : Sd} (h : Sd.right s = true) (user : Int) : Sd.right (Sd.void s user) = true := by
  obtain ⟨n, l, ww, cc⟩ := s
  obtain ⟨h1, h2, h3, h4, h5⟩ := right_bd h
  have ha := (right_all h).2
  refine right_mk h1 h2 h3 (by rw [List.length_map]; exact h4) (chain_map n _ (fun f => by unfold Fl.void; split <;> rfl) l _ (fun f hf => ?_) h5)
  have := ha.1 f hf
  have := ha.2 f hf
  unfold Fl.void
  split <;> (constructor <;> (first | omega | (dsimp only; omega)))
end Go.Proofs.Ytiecebncnflpiaa
