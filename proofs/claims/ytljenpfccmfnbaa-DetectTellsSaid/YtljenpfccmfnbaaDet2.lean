/- What Start, Right, Beat and Deadline of package detect come to. -/
import Derived.Test.YtljenpfccmfnbaaDet
namespace Go.Proofs.Ytljenpfccmfnbaa
open Go.ChangeShapes Go.WideShapes Go.ChangeAt Go.RowKit

theorem Beats.below {w w' : World} {A : Option Addr} {l : Det.Row} (h : Beats w A l) (hb : Below w.heap.size w w') : Beats w' A l := Nums.below h hb
theorem Det.drop_cons (l : Det.Row) (k : Nat) (h : k < l.length) : l.drop k = l.getD k (0, 0) :: l.drop (k + 1) := by
  rw [List.drop_eq_getElem_cons h]
  simp [List.getD, h]
theorem Det.right_step (l : Det.Row) (k : Nat) (h : k < l.length) (s t : Int) : Det.rightFrom s t (l.drop k) = if (l.getD k (0, 0)).1 < s ∨ 1073741824 < (l.getD k (0, 0)).1 ∨ (l.getD k (0, 0)).2 < t ∨ 1099511627776 < (l.getD k (0, 0)).2 then false else Det.rightFrom ((l.getD k (0, 0)).1 + 1) (l.getD k (0, 0)).2 (l.drop (k + 1)) := by
  rw [Det.drop_cons l k h]
  rfl

set_option maxHeartbeats 1000000 in
theorem start_any (now : Int) (w : World) :
    Calls Try.prog 13 #[.int .i64 now] w fun e w' => ∃ A c, e = .returned (.slice A 1 c) ∧ OwnB w.heap.size w' A 1 c [(0, Sat.clamp now)] ∧ Below w.heap.size w w' := by
  have z0 : ∀ W, (zeroValue beT).run Try.prog W = .ok (.agg #[.int .i64 0, .int .i64 0]) W := fun W => by kernel_rfl
  go_enter Try.func13, Try.ntmps13
  go_wp2_with (go_at_call 19; refine (clamp_any _ _).mono ?_; rintro e w' ⟨rfl, rfl⟩)
  go_ret
  exact ⟨_, _, rfl, OwnR.lit _ (Nat.le_refl _) (by decide) rfl rfl, (Below.refl _ _).alloc (Nat.le_refl _) _⟩

set_option maxHeartbeats 4000000 in
theorem right_any (w : World) (A : Option Addr) (n c : Nat) (l : Det.Row) (hn : l.length = n) (hN : Beats w A l) (hlen : n ≤ 9223372036854775807) :
    Calls Try.prog 10 #[.slice A n c] w fun e w' => e = .returned (.bool (Det.right l)) ∧ Below w.heap.size w w' := by
  have z0 : ∀ W, (zeroValue beT).run Try.prog W = .ok (.agg #[.int .i64 0, .int .i64 0]) W := fun W => by kernel_rfl
  by_cases h0 : n < 1 ∨ 8 < n
  · have hr : Det.right l = false := by unfold Det.right; rw [if_pos (by omega)]
    rw [hr]
    clear hr hn hN
    have h1 : n < 1 ∨ (1 ≤ n ∧ 8 < n) := by omega
    clear h0
    rcases h1 with h | ⟨h1, h⟩
    · obtain rfl : n = 0 := by omega
      go_enter Try.func10, Try.ntmps10
      go_wp2
      go_ret
      exact ⟨rfl, Below.refl _ _⟩
    · have h1' : (1 : Int) ≤ n := by omega
      have h' : (8 : Int) < n := by omega
      go_enter Try.func10, Try.ntmps10
      go_wp2
      go_ret
      exact ⟨rfl, Below.refl _ _⟩
  · have hr : Det.right l = Det.rightFrom 0 0 (l.drop 0) := by unfold Det.right; rw [if_neg (by omega)]; rfl
    obtain ⟨R, hR⟩ : ∃ R, R = Det.right l := ⟨_, rfl⟩
    rw [← hR]
    rw [← hR] at hr
    have HR := Lib.hid hr
    have Hn := Lib.hid hn
    have HN := Lib.hid (hN.at (by omega))
    have h1 : (1 : Int) ≤ n := by omega
    have h8 : (n : Int) ≤ 8 := by omega
    clear hn hN hr hR h0
    go_enter Try.func10, Try.ntmps10
    go_wp2
    go_loopw [17] (fun i wr => ∃ (k : Nat) (s t : Int), k ≤ n ∧ i = .int .i64 k ∧ wr.heap[w.heap.size]? = some (.cells #[.int .i64 s, .int .i64 t] beT) ∧ Below w.heap.size w wr ∧ R = Det.rightFrom s t (l.drop k) ∧ 0 ≤ s ∧ s ≤ 1073741825) (fun i _ => n - (intOf i).toNat)
    case atStart => exact ⟨0, 0, 0, Nat.zero_le _, rfl, (MapKept.heap_alloc w _).1, (Below.refl _ _).alloc (Nat.le_refl _) _, HR.out, by decide, by decide⟩
    case round =>
      obtain ⟨k, s, t, hk, rfl, hh, hB, hRk, hs0, hs1⟩ := hrel
      by_cases hkn : k < n
      · obtain ⟨b, off, rfl, hb, hc⟩ := HN.out
        obtain ⟨g0, g1⟩ := hc k (by rw [Hn.out]; exact hkn)
        have c0 := (hB.cell (p := ⟨b, off + k * 2, none⟩) hb).trans g0
        have c1 := (hB.cell (p := ⟨b, off + k * 2 + 1, none⟩) hb).trans g1
        rw [Det.right_step l k (by rw [Hn.out]; exact hkn)] at hRk
        generalize l.getD k (0, 0) = p at c0 c1 hRk
        have HRk := Lib.hid hRk
        have hgw := row_lt hh
        have hne : w.heap.size ≠ wr.heap.size := by omega
        have RA : ∀ o : Obj, Rows1 (wr.alloc o) w.heap.size beT #[.int .i64 s, .int .i64 t] := fun o => rows1 ((Below.heap_alloc _ _ _ hgw).trans hh)
        have sA0 := fun o => (RA o).set0
        have sA1 := fun o => (RA o).set1
        have cA0 := fun o => (RA o).cell0
        have cA1 := fun o => (RA o).cell1
        have fA0 := fun o => (RA o).frozen0
        have fA1 := fun o => (RA o).frozen1
        have q1 : (k : Int) < (n : Int) := by omega
        have q0 : (0 : Int) ≤ (k : Int) := by omega
        have BA : ∀ o : Obj, Below w.heap.size w (wr.alloc o) := fun o => hB.alloc hB.size o
        have BS : ∀ (o : Obj) ds, Below w.heap.size w (setRow (wr.alloc o) w.heap.size beT ds) := fun o ds => setRow_below (BA o) (Nat.le_refl _)
        have RS : ∀ (o : Obj) ds, (setRow (wr.alloc o) w.heap.size beT ds).heap[w.heap.size]? = some (.cells ds beT) := fun o ds => setRow_row (by simp; omega)
        have HBA := Lib.hid BA
        have HBS := Lib.hid BS
        have HRS := Lib.hid RS
        clear RA g0 g1 hc hRk hh hne BA BS RS
        by_cases p1 : p.1 < s
        · go_wp2
          go_ret
          exact ⟨ret_bool (by rw [HRk.out, if_pos (Or.inl p1)]), HBA.out _⟩
        · by_cases p2 : 1073741824 < p.1
          · go_wp2
            go_ret
            exact ⟨ret_bool (by rw [HRk.out, if_pos (Or.inr (Or.inl p2))]), HBA.out _⟩
          · by_cases p3 : p.2 < t
            · go_wp2
              go_ret
              exact ⟨ret_bool (by rw [HRk.out, if_pos (Or.inr (Or.inr (Or.inl p3)))]), HBA.out _⟩
            · by_cases p4 : 1099511627776 < p.2
              · go_wp2
                go_ret
                exact ⟨ret_bool (by rw [HRk.out, if_pos (Or.inr (Or.inr (Or.inr p4)))]), HBA.out _⟩
              · go_wp2
                go_roundw
                case rel => exact ⟨k + 1, p.1 + 1, p.2, by omega, by go_num, HRS.out _ _, HBS.out _ _, by rw [HRk.out, if_neg (by omega)], by omega, by omega⟩
                case measure => simp [intOf]; omega
      · obtain rfl : k = n := by omega
        have e : R = true := by rw [hRk, List.drop_of_length_le (by rw [Hn.out]; exact Nat.le_refl _)]; rfl
        clear hRk
        go_wp2
        go_ret
        exact ⟨ret_bool e.symm, hB⟩
end Go.Proofs.Ytljenpfccmfnbaa
