/- What package channel does to a channel, in plain words, and what stays right. -/
import Derived.Test.YtiecebncnflpiaaSdMath
import Derived.Test.YtiecebncnflpiaaRttMath2
namespace Go.Proofs.Ytiecebncnflpiaa
namespace Sd
/-- The flights of these numbers sent once more, one behind the other. -/
def ticks (now : Int) : List Int → Sd → List Fl → Sd × List Fl
  | [], s, a => (s, a)
  | q :: r, s, a => ticks now r (resend s q now).1 (a ++ [(resend s q now).2.1])
/-- The flight of that number; zero, if there is none. -/
def find (l : List Fl) (q : Int) : Fl := (l.find? (fun f => f.q == q)).getD .zero
/-- All of a row, those of these numbers once more. -/
def redo (now : Int) (qs : List Int) (l : List Fl) : List Fl := l.map fun f => if f.q ∈ qs then again f now else f
end Sd
/-- Rising by their numbers. -/
def Rises (l : List Fl) : Prop := ∀ i j, i < j → j < l.length → (l.getD i .zero).q < (l.getD j .zero).q
theorem rises_right {s : Sd} (h : Sd.right s = true) : Rises s.l := by
  obtain ⟨n, l, ww, cc⟩ := s
  exact chain_rise n l _ (right_bd h).2.2.2.2
theorem rises_tail {f : Fl} {r : List Fl} (h : Rises (f :: r)) : Rises r := fun i j hij hj => by
  have := h (i + 1) (j + 1) (by omega) (by simpa using hj)
  simpa [List.getD] using this
theorem rises_head {f : Fl} {r : List Fl} (h : Rises (f :: r)) : ∀ g ∈ r, f.q < g.q := fun g hg => by
  obtain ⟨j, hj, rfl⟩ := List.mem_iff_getElem.1 hg
  have := h 0 (j + 1) (by omega) (by simpa using hj)
  simpa [List.getD, hj] using this
theorem find_mem : ∀ {l : List Fl}, Rises l → ∀ f ∈ l, Sd.find l f.q = f
  | [], _, f, hf => by cases hf
  | g :: r, h, f, hf => by
    unfold Sd.find
    rw [List.find?_cons]
    rcases List.mem_cons.1 hf with rfl | hf'
    · simp
    · have := rises_head h f hf'
      have hne : (g.q == f.q) = false := by simpa using (by omega : g.q ≠ f.q)
      rw [hne]
      exact find_mem (rises_tail h) f hf'
/-- What one more sending does, by numbers. -/
theorem resend_l {s : Sd} (h : Rises s.l) {f : Fl} (hf : f ∈ s.l) (now : Int) : Sd.resend s f.q now = (⟨s.n, s.l.map (fun g => if g.q = f.q then Sd.again g now else g), s.w, s.c⟩, Sd.again f now, true) := by
  obtain ⟨n, l, ww, cc⟩ := s
  dsimp only at h hf ⊢
  unfold Sd.resend
  rcases idx_spec (isq f.q) l .zero with ⟨g1, g2⟩ | ⟨i, hi, g1, g2, g3⟩
  · obtain ⟨j, hj, rfl⟩ := List.mem_iff_getElem.1 hf
    have := g2 j hj
    simp [isq, List.getD, hj] at this
  · dsimp only
    rw [g1, if_neg (by omega), Int.toNat_natCast]
    have hq : (l.getD i .zero).q = f.q := by simpa [isq] using g2
    have hfi : l.getD i .zero = f := by
      have h1 := find_mem h (l.getD i .zero) (by simp [List.getD, hi])
      have h2 := find_mem h f hf
      rw [← h1, ← h2, hq]
    rw [hfi]
    have hm : l.set i (Sd.again f now) = l.map (fun g => if g.q = f.q then Sd.again g now else g) := by
      apply List.ext_getElem (by simp)
      intro t h1 h2
      rw [List.getElem_map, List.getElem_set]
      have ht : t < l.length := by simpa using h2
      by_cases e : i = t
      · subst e
        have : l[i] = f := by simpa [List.getD, hi] using hfi
        rw [if_pos rfl, this, if_pos rfl]
      · rw [if_neg e]
        have hne : l[t].q ≠ f.q := by
          have h3 : (l.getD t .zero).q = l[t].q := by simp [List.getD, ht]
          rw [← h3, ← hfi]
          rcases Nat.lt_or_gt_of_ne e with h' | h'
          · have := h i t h' ht; omega
          · have := h t i h' hi; omega
        rw [if_neg hne]
    rw [hm]
theorem map_q (g : Fl → Fl) (hg : ∀ f, (g f).q = f.q) (l : List Fl) : (l.map g).map Fl.q = l.map Fl.q := by
  rw [List.map_map]
  exact List.map_congr_left fun f _ => hg f
theorem rises_map (g : Fl → Fl) (hg : ∀ f, (g f).q = f.q) {l : List Fl} (h : Rises l) : Rises (l.map g) := fun i j hij hj => by
  have hj' : j < l.length := by simpa using hj
  have := h i j hij hj'
  have hi' : i < l.length := by omega
  simp only [List.getD, List.getElem?_map, List.getElem?_eq_getElem hj', List.getElem?_eq_getElem hi', Option.map_some, Option.getD_some, hg] at this ⊢
  exact this
theorem again_q (f : Fl) (now : Int) : (Sd.again f now).q = f.q := rfl
/-- What ticks come to, where the numbers are those of a part of the row. -/
theorem ticks_l (now : Int) : ∀ (D : List Fl) (s : Sd) (a : List Fl), Rises s.l → Rises D → (∀ f ∈ D, f ∈ s.l) →
    Sd.ticks now (D.map Fl.q) s a = (⟨s.n, Sd.redo now (D.map Fl.q) s.l, s.w, s.c⟩, a ++ D.map fun f => Sd.again f now)
  | [], s, a, _, _, _ => by
    obtain ⟨n, l, ww, cc⟩ := s
    simp [Sd.ticks, Sd.redo]
  | f :: r, s, a, h, hD, hm => by
    have hr := resend_l h (hm f (List.mem_cons_self ..)) now
    rw [List.map_cons, Sd.ticks, hr]
    dsimp only
    have hh := rises_head hD
    have hg : ∀ g : Fl, (if g.q = f.q then Sd.again g now else g).q = g.q := fun g => by split <;> rfl
    rw [ticks_l now r ⟨s.n, s.l.map (fun g => if g.q = f.q then Sd.again g now else g), s.w, s.c⟩ _ (rises_map _ hg h) (rises_tail hD) (fun g hgr => by
      have h1 := hm g (List.mem_cons_of_mem _ hgr)
      have h2 := hh g hgr
      refine List.mem_map.2 ⟨g, h1, ?_⟩
      rw [if_neg (by omega)])]
    dsimp only
    refine Prod.ext ?_ (by simp)
    dsimp only
    congr 1
    unfold Sd.redo
    rw [List.map_map]
    refine List.map_congr_left fun g hg' => ?_
    dsimp only [Function.comp]
    rw [hg]
    have hiff : (g.q ∈ (f :: r).map Fl.q) ↔ (g.q = f.q ∨ g.q ∈ r.map Fl.q) := by simp [List.mem_map]
    rw [← List.map_cons]
    by_cases h1 : g.q = f.q
    · rw [if_pos h1, if_pos (hiff.2 (Or.inl h1))]
      have h2 : g.q ∉ r.map Fl.q := fun h3 => by
        obtain ⟨x, hx, hxq⟩ := List.mem_map.1 h3
        have := hh x hx
        omega
      rw [if_neg h2]
    · rw [if_neg h1]
      by_cases h2 : g.q ∈ r.map Fl.q
      · rw [if_pos h2, if_pos (hiff.2 (Or.inr h2))]
      · rw [if_neg h2, if_neg (fun h3 => (hiff.1 h3).elim h1 h2)]
theorem ticks_right (now : Int) (hn : 0 ≤ now ∧ now ≤ 1099511627776) : ∀ (qs : List Int) (s : Sd) (a : List Fl), Sd.right s = true → Sd.right (Sd.ticks now qs s a).1 = true ∧ (Sd.ticks now qs s a).1.n = s.n
  | [], _, _, h => ⟨h, rfl⟩
  | q :: r, s, a, h => by
    have h1 := resend_right h q now hn
    have h2 := ticks_right now hn r (Sd.resend s q now).1 (a ++ [(Sd.resend s q now).2.1]) h1.1
    exact ⟨h2.1, h2.2.trans h1.2⟩
theorem rises_filter (p : Fl → Bool) : ∀ {l : List Fl}, Rises l → Rises (l.filter p)
  | [], h => h
  | f :: r, h => by
    have ih := rises_filter p (rises_tail h)
    rw [List.filter_cons]
    split
    · intro i j hij hj
      have hh : ∀ g ∈ r.filter p, f.q < g.q := fun g hg => rises_head h g (List.mem_filter.1 hg).1
      match i, j, hij with
      | 0, j + 1, _ =>
        have hj' : j < (r.filter p).length := by simpa using hj
        have := hh ((r.filter p).getD j .zero) (by simp [List.getD, hj'])
        simpa [List.getD] using this
      | i + 1, j + 1, hij =>
        have := ih i j (by omega) (by simpa using hj)
        simpa [List.getD] using this
    · exact ih
theorem rises_take {l : List Fl} (h : Rises l) (m : Nat) : Rises (l.take m) := fun i j hij hj => by
  have hj2 : j < l.length ∧ j < m := by rw [List.length_take] at hj; omega
  have := h i j hij hj2.1
  simpa [List.getD, List.getElem?_take, hj2.2, show i < m by omega] using this
/-- Those that are due, as flights. -/
def dues (l : List Fl) (now rto : Int) : List Fl := l.filter fun f => decide (f.a + rto ≤ now)
theorem dues_q (l : List Fl) (now rto : Int) : Sd.due l now rto = (dues l now rto).map Fl.q := rfl
/-- What a tick comes to: none sent again, or so many. -/
structure Ch where
  s : Sd
  e : Rtt
namespace Ch
def tick (c : Ch) (now most : Int) : Ch × List Fl :=
  if Sd.due c.s.l now c.e.rto = [] ∨ most < 1 then (c, [])
  else (⟨(Sd.ticks now ((Sd.due c.s.l now c.e.rto).take (min most (Sd.due c.s.l now c.e.rto).length).toNat) (Sd.lost c.s) []).1, c.e.backoff⟩, (Sd.ticks now ((Sd.due c.s.l now c.e.rto).take (min most (Sd.due c.s.l now c.e.rto).length).toNat) (Sd.lost c.s) []).2)
def ack (c : Ch) (ack sack now : Int) : Ch :=
  ⟨(Sd.acked c.s ack sack now).1, if (Sd.acked c.s ack sack now).2 = -1 then c.e else c.e.sample (Sd.acked c.s ack sack now).2⟩
end Ch
theorem tick_l {c : Ch} (h : Sd.right c.s = true) {now most : Int} (hd : dues c.s.l now c.e.rto ≠ []) (hm : 1 ≤ most) :
    Ch.tick c now most = (⟨⟨c.s.n, Sd.redo now (((dues c.s.l now c.e.rto).take most.toNat).map Fl.q) c.s.l, max (c.s.w / 2) 1, 0⟩, c.e.backoff⟩, ((dues c.s.l now c.e.rto).take most.toNat).map fun f => Sd.again f now) := by
  unfold Ch.tick
  rw [dues_q, if_neg (by
    rintro (h1 | h1)
    · exact hd (List.map_eq_nil_iff.1 h1)
    · omega)]
  rw [← List.map_take, List.length_map]
  have e : (dues c.s.l now c.e.rto).take (min most ((dues c.s.l now c.e.rto).length : Int)).toNat = (dues c.s.l now c.e.rto).take most.toNat := by
    rcases Nat.lt_or_ge most.toNat (dues c.s.l now c.e.rto).length with h1 | h1
    · rw [show (min most ((dues c.s.l now c.e.rto).length : Int)).toNat = most.toNat by omega]
    · rw [show (min most ((dues c.s.l now c.e.rto).length : Int)).toNat = (dues c.s.l now c.e.rto).length by omega, List.take_length, List.take_of_length_le h1]
  rw [e]
  have hr : Rises (Sd.lost c.s).l := (show Rises c.s.l from rises_right h)
  rw [ticks_l now ((dues c.s.l now c.e.rto).take most.toNat) (Sd.lost c.s) [] hr (rises_take (rises_filter _ (rises_right h)) _) (fun f hf => (List.mem_filter.1 (List.mem_of_mem_take hf)).1)]
  rfl
end Go.Proofs.Ytiecebncnflpiaa
