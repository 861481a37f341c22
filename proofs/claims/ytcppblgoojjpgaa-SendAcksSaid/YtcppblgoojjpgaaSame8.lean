/- Rows of numbers that are the same: what the document's own answer of layer 8 says of it. -/
import Derived.Test.YtcppblgoojjpgaaSend11
namespace Go.Proofs.Ytcppblgoojjpgaa
open Go.ChangeShapes Go.WideShapes Go.ChangeAt Go.RowKit

theorem Nums.at {k : IntKind} {w : World} {A : Option Addr} {zs : List Int} (h : Nums k w A zs) {i : Nat} (hi : i < zs.length) : ∃ b off, A = some ⟨b, off, none⟩ ∧ b < w.heap.size ∧ w.cell? ⟨b, off + i, none⟩ = some (.int k (zs.getD i 0)) := by
  rcases h with rfl | ⟨b, off, h1, h2, h3⟩
  · cases hi
  · exact ⟨b, off, h1, h2, h3 i hi⟩
theorem take_same {xs ys : List Int} {k : Nat} (h : xs.take k = ys.take k) (hx : k < xs.length) (hy : k < ys.length) (he : xs.getD k 0 = ys.getD k 0) : xs.take (k + 1) = ys.take (k + 1) := by
  rw [List.take_succ_eq_append_getElem hx, List.take_succ_eq_append_getElem hy, h]
  simp [List.getD, hx, hy] at he
  rw [he]

set_option maxHeartbeats 1000000 in
theorem same_any (w : World) (A : Option Addr) (n c : Nat) (xs : List Int) (hn : xs.length = n) (hN : Nums .i64 w A xs) (B : Option Addr) (m d : Nat) (ys : List Int) (hm : ys.length = m) (hM : Nums .i64 w B ys) (hlen : n ≤ 140737488355328) (hlen' : m ≤ 140737488355328) :
    Calls Try.prog 19 #[.slice A n c, .slice B m d] w fun e w' => e = .returned (.bool (decide (xs = ys))) ∧ ∃ q, w' = w.drewN q := by
  have Hn := Lib.hid hn
  have HN := Lib.hid hN
  have Hm := Lib.hid hm
  have HM := Lib.hid hM
  clear hn hN hm hM
  by_cases hnm : n = m
  · subst hnm
    generalize hv : decide (xs = ys) = v
    have Hv := Lib.hid hv
    clear hv
    go_enter Try.func19, Try.ntmps19
    go_wp2
    go_loopw [5] (fun i wr => ∃ (k q : Nat), k ≤ n ∧ i = .int .i64 k ∧ xs.take k = ys.take k ∧ wr = w.drewN q) (fun i _ => n - (intOf i).toNat)
    case atStart => exact ⟨0, 0, Nat.zero_le _, rfl, by simp, rfl⟩
    case round =>
      obtain ⟨k, q, hk, rfl, ht, rfl⟩ := hrel
      have Ht := Lib.hid ht
      clear ht
      by_cases hkn : k < n
      · obtain ⟨b, off, rfl, hlt, cx⟩ := HN.out.at (i := k) (by rw [Hn.out]; exact hkn)
        obtain ⟨b2, off2, rfl, hlt2, cy⟩ := HM.out.at (i := k) (by rw [Hm.out]; exact hkn)
        have hx : k < xs.length := by rw [Hn.out]; exact hkn
        have hy : k < ys.length := by rw [Hm.out]; exact hkn
        have Hx := Lib.hid (take_same Ht.out hx hy)
        have Hne := Lib.hid (show xs.getD k 0 ≠ ys.getD k 0 → v = false from fun hne => by rw [← Hv.out]; exact decide_eq_false fun h => hne (by rw [h]))
        generalize xs.getD k 0 = x at cx Hx Hne
        generalize ys.getD k 0 = y at cy Hx Hne
        have q1 : (k : Int) < (n : Int) := by omega
        have q0 : (0 : Int) ≤ (k : Int) := by omega
        clear hx hy
        by_cases hxy : x = y
        · subst hxy
          go_wp2
          go_region
          go_wp2
          go_roundw
          case rel => exact ⟨k + 1, q + 1, by omega, by go_num, Hx.out (by simp), by simp⟩
          case measure => simp [intOf]; omega
        · have hb : (x == y) = false := beq_eq_false_iff_ne.2 hxy
          go_wp2
          go_region
          go_wp2
          go_ret
          exact ⟨ret_bool (Hne.out hxy).symm, _, rfl⟩
      · obtain rfl : k = n := by omega
        have e : v = true := by
          rw [← Hv.out]
          have := Ht.out
          rw [List.take_of_length_le (by rw [Hn.out]; exact Nat.le_refl _), List.take_of_length_le (by rw [Hm.out]; exact Nat.le_refl _)] at this
          exact decide_eq_true this
        subst e
        go_wp2
        go_ret
        exact ⟨rfl, _, rfl⟩
  · have e : decide (xs = ys) = false := decide_eq_false fun h => hnm (by rw [← Hn.out, ← Hm.out, h])
    rw [e]
    have hb : ((n : Int) == (m : Int)) = false := beq_eq_false_iff_ne.2 (by omega)
    clear e
    go_enter Try.func19, Try.ntmps19
    go_wp2
    all_goals (go_ret; exact ⟨rfl, 0, rfl⟩)

/-- All but block g is as it was. -/
def Only (g : Nat) (w w' : World) : Prop := (∀ b, b ≠ g → w'.heap[b]? = w.heap[b]?) ∧ w'.heap.size = w.heap.size
end Go.Proofs.Ytcppblgoojjpgaa
