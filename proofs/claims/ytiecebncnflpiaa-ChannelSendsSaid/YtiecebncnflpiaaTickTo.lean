/- Package channel: Tick, whatever comes of it. -/
import Derived.Test.YtiecebncnflpiaaTick2
namespace Go.Proofs.Ytiecebncnflpiaa
open Go.ChangeShapes Go.WideShapes Go.ChangeAt Go.RowKit Go.Shelf
theorem ticks_len (now : Int) : ∀ (qs : List Int) (s : Sd) (a : List Fl), (Sd.ticks now qs s a).2.length = a.length + qs.length
  | [], s, a => rfl
  | q :: r, s, a => by
    rw [Sd.ticks, ticks_len now r, List.length_append, List.length_cons, List.length_cons, List.length_nil]
    omega
theorem tick_to {n ww cc : Int} {l : List Fl} {n' ww' cc' : Int} {L : List Fl} {k k' c : Nat} {A : Option Addr} {w : World} {s v r f s' v' r' f' : Int} {h h' : Bool} {now most : Int} {G : List Fl} {m : Nat}
    (hr : Sd.right ⟨n, l, ww, cc⟩ = true) (hR : Rtt.right ⟨s, v, r, f, h⟩ = true) (hn : l.length = k) (hN : Fls w A l) (hnow : 0 ≤ now ∧ now ≤ 1099511627776)
    (hp : Ch.tick ⟨⟨n, l, ww, cc⟩, ⟨s, v, r, f, h⟩⟩ now most = (⟨⟨n', L, ww', cc'⟩, ⟨s', v', r', f', h'⟩⟩, G)) (hk : L.length = k') (hg : G.length = m) :
    Calls Try.prog 21 #[chV n A k c ww cc s v r f h, .int .i64 now, .int .i64 most] w fun e w' => ∃ A' c' B cB, e = .returned (.tuple #[chV n' A' k' c' ww' cc' s' v' r' f' h', .slice B m cB]) ∧ (OwnF w.heap.size w' A' k' c' L ∧ OwnF w.heap.size w' B m cB G) ∧ Below w.heap.size w w' := by
  have ho := (Rtt.right_iff _).1 hR
  have h64 : 0 ≤ r ∧ r ≤ 1099511627776 := by have := ho.2.2.2.2; dsimp only at this; omega
  unfold Ch.tick at hp
  dsimp only at hp
  by_cases hc : Sd.due l now r = [] ∨ most < 1
  · rw [if_pos hc] at hp
    simp only [Prod.mk.injEq, Ch.mk.injEq, Sd.mk.injEq, Rtt.mk.injEq] at hp
    obtain ⟨⟨⟨rfl, rfl, rfl, rfl⟩, rfl, rfl, rfl, rfl, rfl⟩, rfl⟩ := hp
    obtain rfl : k = k' := by rw [← hn, ← hk]
    obtain rfl : 0 = m := by rw [← hg]; rfl
    refine (tick_none hr h64 hn hN hc).mono ?_
    rintro e w' ⟨A', c', rfl, hO, hb⟩
    exact ⟨A', c', none, 0, rfl, ⟨hO, OwnR.nil hb.size⟩, hb⟩
  · rw [if_neg hc] at hp
    have hd0 : 0 < (Sd.due l now r).length := by
      rcases Nat.eq_zero_or_pos (Sd.due l now r).length with h0 | h0
      · exact absurd (Or.inl (List.eq_nil_of_length_eq_zero h0)) hc
      · exact h0
    have hm1 : 1 ≤ most := by
      rcases Int.lt_or_le most 1 with h0 | h0
      · exact absurd (Or.inr h0) hc
      · exact h0
    simp only [Prod.mk.injEq, Ch.mk.injEq] at hp
    obtain ⟨⟨h1, h2⟩, h3⟩ := hp
    have hmm : (min most ((Sd.due l now r).length : Int)).toNat = m := by
      rw [← hg, ← h3, ticks_len, List.length_nil, List.length_take, Int.min_def]
      split <;> omega
    rw [hmm] at h1 h3
    exact tick_some hr h64 hn hN hnow rfl hd0 hm1 hmm (Prod.ext h1 h3) hk h2
/-- What is right stays right. -/
theorem tick_right {s : Sd} {e : Rtt} (hs : Sd.right s = true) (he : e.right = true) {now most : Int} (hn : 0 ≤ now ∧ now ≤ 1099511627776) : Sd.right (Ch.tick ⟨s, e⟩ now most).1.s = true ∧ (Ch.tick ⟨s, e⟩ now most).1.s.n = s.n ∧ (Ch.tick ⟨s, e⟩ now most).1.e.right = true := by
  unfold Ch.tick
  dsimp only
  split
  · exact ⟨hs, rfl, he⟩
  · have h1 := ticks_right now hn ((Sd.due s.l now e.rto).take (min most ((Sd.due s.l now e.rto).length : Int)).toNat) (Sd.lost s) [] (lost_right hs)
    exact ⟨h1.1, h1.2, Rtt.ok_right (Rtt.backoff_ok e)⟩
end Go.Proofs.Ytiecebncnflpiaa
