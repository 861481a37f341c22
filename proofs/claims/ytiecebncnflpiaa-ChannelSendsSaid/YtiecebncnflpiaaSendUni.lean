/- Package send: one contract for each call, whatever comes of it. -/
import Derived.Test.YtiecebncnflpiaaSdMath
namespace Go.Proofs.Ytiecebncnflpiaa
open Go.ChangeShapes Go.WideShapes Go.ChangeAt Go.RowKit Go.Shelf
section
variable {n ww cc : Int} {l : List Fl} {n' ww' cc' : Int} {L : List Fl} {k k' c : Nat} {A : Option Addr} {w : World}
theorem push_to (hr : Sd.right ⟨n, l, ww, cc⟩ = true) (hn : l.length = k) (hN : Fls w A l) {u v x y now : Int} {f : Fl} {ok : Bool} (hp : Sd.push ⟨n, l, ww, cc⟩ u v x y now = (⟨n', L, ww', cc'⟩, f, ok)) (hk : L.length = k') :
    Calls Try.prog 37 #[.agg #[.int .i64 n, .slice A k c, .int .i64 ww, .int .i64 cc], noteV u v x y, .int .i64 now] w fun e w' => ∃ A' c', e = .returned (.tuple #[.agg #[.int .i64 n', .slice A' k' c', .int .i64 ww', .int .i64 cc'], Fl.val f, .bool ok]) ∧ OwnF w.heap.size w' A' k' c' L ∧ Below w.heap.size w w' := by
  obtain ⟨h1, h2, h3, h4, h5⟩ := right_bd hr
  have hb := room_bd _ hr
  unfold Sd.push at hp
  split at hp
  · rename_i h0
    simp only [Prod.mk.injEq, Sd.mk.injEq] at hp
    obtain ⟨⟨rfl, rfl, rfl, rfl⟩, rfl, rfl⟩ := hp
    obtain rfl : k = k' := by rw [← hn, ← hk]
    exact push_full w n ww cc A k c l hn hN (by omega) (by omega) (by omega) (right_all hr).1 u v x y now h0
  · rename_i h0
    simp only [Prod.mk.injEq, Sd.mk.injEq] at hp
    obtain ⟨⟨rfl, rfl, rfl, rfl⟩, rfl, rfl⟩ := hp
    obtain rfl : k + 1 = k' := by rw [← hn, ← hk]; simp
    exact push_room w n ww cc A k c l hn hN (by omega) (by omega) (by omega) (right_all hr).1 u v x y now rfl (by omega)
theorem acked_to (hr : Sd.right ⟨n, l, ww, cc⟩ = true) (hn : l.length = k) (hN : Fls w A l) {ack sack now : Int} (hnow : 0 ≤ now ∧ now ≤ 1099511627776) {tk : Int} (hp : Sd.acked ⟨n, l, ww, cc⟩ ack sack now = (⟨n', L, ww', cc'⟩, tk)) (hk : L.length = k') :
    Calls Try.prog 38 #[.agg #[.int .i64 n, .slice A k c, .int .i64 ww, .int .i64 cc], .int .i64 ack, .int .i64 sack, .int .i64 now] w fun e w' => ∃ A' c', e = .returned (.tuple #[.agg #[.int .i64 n', .slice A' k' c', .int .i64 ww', .int .i64 cc'], .int .i64 tk]) ∧ OwnF w.heap.size w' A' k' c' L ∧ Below w.heap.size w w' := by
  obtain ⟨h1, h2, h3, h4, h5⟩ := right_bd hr
  unfold Sd.acked at hp
  split at hp
  · rename_i h0
    simp only [Prod.mk.injEq, Sd.mk.injEq] at hp
    obtain ⟨⟨rfl, rfl, rfl, rfl⟩, rfl⟩ := hp
    obtain rfl : k = k' := by rw [← hn, ← hk]
    exact acked_bad w n ww cc A k c l hn hN (by omega) ack sack now h0
  · rename_i h0
    dsimp only at hp h0
    simp only [Prod.mk.injEq, Sd.mk.injEq] at hp
    obtain ⟨⟨rfl, hL, hw, hc⟩, ht⟩ := hp
    refine acked_ok w n ww cc A k c l hn hN (by omega) h2 (by omega) ack sack now (by omega) (by omega) hnow (right_all hr).2.1 (F := L) (kf := k') hL hk ?_ ht
    rw [hL, hk, hn] at hw hc
    exact Prod.ext hw hc
theorem resend_to (hr : Sd.right ⟨n, l, ww, cc⟩ = true) (hn : l.length = k) (hN : Fls w A l) {seq now : Int} {f : Fl} {ok : Bool} (hp : Sd.resend ⟨n, l, ww, cc⟩ seq now = (⟨n', L, ww', cc'⟩, f, ok)) (hk : L.length = k') :
    Calls Try.prog 43 #[.agg #[.int .i64 n, .slice A k c, .int .i64 ww, .int .i64 cc], .int .i64 seq, .int .i64 now] w fun e w' => ∃ A' c', e = .returned (.tuple #[.agg #[.int .i64 n', .slice A' k' c', .int .i64 ww', .int .i64 cc'], Fl.val f, .bool ok]) ∧ OwnF w.heap.size w' A' k' c' L ∧ Below w.heap.size w w' := by
  obtain ⟨h1, h2, h3, h4, h5⟩ := right_bd hr
  unfold Sd.resend at hp
  rcases idx_spec (isq seq) l .zero with ⟨g1, -⟩ | ⟨i, hi, g1, g2, g3⟩
  · dsimp only at hp
    rw [g1, if_pos (by omega)] at hp
    simp only [Prod.mk.injEq, Sd.mk.injEq] at hp
    obtain ⟨⟨rfl, rfl, rfl, rfl⟩, rfl, rfl⟩ := hp
    obtain rfl : k = k' := by rw [← hn, ← hk]
    exact resend_none w n ww cc A k c l hn hN (by omega) seq now g1
  · dsimp only at hp
    rw [g1, if_neg (by omega), Int.toNat_natCast] at hp
    simp only [Prod.mk.injEq, Sd.mk.injEq] at hp
    obtain ⟨⟨rfl, rfl, rfl, rfl⟩, rfl, rfl⟩ := hp
    obtain rfl : k = k' := by rw [← hn, ← hk, List.length_set]
    have ht := (right_all hr).2.2 (l.getD i .zero) (by simp [List.getD, hi])
    exact resend_one w n ww cc A k c l hn hN (by omega) seq now i (by omega) g1 (q := (l.getD i .zero).q) (u := (l.getD i .zero).u) (v := (l.getD i .zero).v) (s := (l.getD i .zero).s) (x := (l.getD i .zero).c) (a := (l.getD i .zero).a) (t := (l.getD i .zero).t) rfl (by omega) rfl
theorem lost_to (hr : Sd.right ⟨n, l, ww, cc⟩ = true) (hn : l.length = k) (hN : Fls w A l) (hp : Sd.lost ⟨n, l, ww, cc⟩ = ⟨n', L, ww', cc'⟩) :
    Calls Try.prog 42 #[.agg #[.int .i64 n, .slice A k c, .int .i64 ww, .int .i64 cc]] w fun e w' => ∃ A' c', e = .returned (.agg #[.int .i64 n', .slice A' k c', .int .i64 ww', .int .i64 cc']) ∧ OwnF w.heap.size w' A' k c' L ∧ Below w.heap.size w w' := by
  obtain ⟨h1, h2, h3, h4, h5⟩ := right_bd hr
  unfold Sd.lost at hp
  simp only [Sd.mk.injEq] at hp
  obtain ⟨rfl, rfl, hw, rfl⟩ := hp
  exact lost_any w n ww cc A k c l hn hN (by omega) (by omega) hw
theorem void_to (hr : Sd.right ⟨n, l, ww, cc⟩ = true) (hn : l.length = k) (hN : Fls w A l) {user : Int} (hp : Sd.void ⟨n, l, ww, cc⟩ user = ⟨n', L, ww', cc'⟩) :
    Calls Try.prog 45 #[.agg #[.int .i64 n, .slice A k c, .int .i64 ww, .int .i64 cc], .int .i64 user] w fun e w' => ∃ A' c', e = .returned (.agg #[.int .i64 n', .slice A' k c', .int .i64 ww', .int .i64 cc']) ∧ OwnF w.heap.size w' A' k c' L ∧ Below w.heap.size w w' := by
  obtain ⟨h1, h2, h3, h4, h5⟩ := right_bd hr
  unfold Sd.void at hp
  simp only [Sd.mk.injEq] at hp
  obtain ⟨rfl, hl, rfl, rfl⟩ := hp
  exact void_any w n ww cc A k c l hn hN (by omega) user hl
theorem room_right (hr : Sd.right ⟨n, l, ww, cc⟩ = true) (hn : l.length = k) (hN : Fls w A l) {v : Int} (hv : Sd.room ⟨n, l, ww, cc⟩ = v) :
    Calls Try.prog 35 #[.agg #[.int .i64 n, .slice A k c, .int .i64 ww, .int .i64 cc]] w fun e w' => e = .returned (.int .i64 v) ∧ Below w.heap.size w w' := by
  obtain ⟨h1, h2, h3, h4, h5⟩ := right_bd hr
  exact room_to w n ww cc A k c l hn hN (by omega) (by omega) (by omega) (right_all hr).1 hv
theorem due_right (hr : Sd.right ⟨n, l, ww, cc⟩ = true) (hn : l.length = k) (hN : Fls w A l) {now rto : Int} (h0 : 0 ≤ rto ∧ rto ≤ 1099511627776) {ds : List Int} (hd : Sd.due l now rto = ds) :
    Calls Try.prog 40 #[.agg #[.int .i64 n, .slice A k c, .int .i64 ww, .int .i64 cc], .int .i64 now, .int .i64 rto] w fun e w' => ∃ A' c', e = .returned (.slice A' ds.length c') ∧ OwnN .i64 3 w.heap.size w' A' c' ds ∧ Below w.heap.size w w' := by
  obtain ⟨h1, h2, h3, h4, h5⟩ := right_bd hr
  exact due_to w n ww cc A k c l hn hN (by omega) now rto h0 (right_all hr).2.1 hd
end
end Go.Proofs.Ytiecebncnflpiaa
