/- What Deadline of package detect comes to. -/
import Derived.Test.YtljenpfccmfnbaaDet3
namespace Go.Proofs.Ytljenpfccmfnbaa
open Go.ChangeShapes Go.WideShapes Go.ChangeAt Go.RowKit

theorem infoI : (Try.prog.info? 3).map (fun i => (i.zero, i.size, i.bytes)) = some (some (.int .i64 0), 1, 8) := by kernel_rfl
/-- A row of numbers that is filled up from its head. -/
def upd (xs : List Int) (n k : Nat) : Array Value := ((xs.take k ++ List.replicate (n - k) 0).map (Value.int .i64)).toArray
theorem upd_0 (xs : List Int) (n : Nat) : madeCells #[.int .i64 0] n = upd xs n 0 := by
  apply Array.ext'
  rw [toList_madeCells_one]
  simp [upd]
theorem upd_set (xs : List Int) (n k : Nat) (hk : k < n) (hx : xs.length = n) : (upd xs n k).setIfInBounds k (.int .i64 (xs.getD k 0)) = upd xs n (k + 1) := by
  apply Array.ext'
  unfold upd
  apply List.ext_getElem?
  intro t
  simp only [Array.toList_setIfInBounds, List.getElem?_set, List.length_map, List.length_append, List.length_take, List.length_replicate, hx]
  by_cases h1 : k = t
  · subst h1
    rw [if_pos rfl, if_pos (by omega), List.getElem?_map, List.getElem?_append_left (by rw [List.length_take]; omega), List.getElem?_take, if_pos (by omega)]
    simp [List.getD, hx, hk]
  · rw [if_neg h1, List.getElem?_map, List.getElem?_map]
    by_cases h2 : t < k
    · rw [List.getElem?_append_left (by rw [List.length_take]; omega), List.getElem?_append_left (by rw [List.length_take]; omega), List.getElem?_take, List.getElem?_take, if_pos h2, if_pos (by omega)]
    · rw [List.getElem?_append_right (by rw [List.length_take]; omega), List.getElem?_append_right (by rw [List.length_take]; omega), List.getElem?_replicate, List.getElem?_replicate, List.length_take, List.length_take, hx]
      by_cases h3 : t < n
      · rw [if_pos (by omega), if_pos (by omega)]
      · rw [if_neg (by omega), if_neg (by omega)]
theorem upd_all (xs : List Int) (n : Nat) (hx : xs.length = n) : upd xs n n = (xs.map (Value.int .i64)).toArray := by
  unfold upd
  rw [List.take_of_length_le (by omega), Nat.sub_self]
  simp
theorem upd_size (xs : List Int) (n k : Nat) (hk : k ≤ n) (hx : xs.length = n) : (upd xs n k).size = n := by
  simp [upd, hx]
  omega
theorem nums_of_row {w : World} {g : Nat} {t : TypeId} {xs : List Int} (h : w.heap[g]? = some (.cells (xs.map (Value.int .i64)).toArray t)) : Nums .i64 w (some ⟨g, 0, none⟩) xs :=
  Or.inr ⟨g, 0, rfl, row_lt h, fun i hi => by
    rw [Nat.zero_add, cell_of_row _ _ _ _ _ _ h]
    simp [List.getD, hi]⟩
theorem Det.awaited_len (l : Det.Row) : (Det.awaited l).length = l.length := by simp [Det.awaited]
theorem Det.awaited_at (l : Det.Row) (k : Nat) (h : k < l.length) : (Det.awaited l).getD k 0 = Sat.add (l.getD k (0, 0)).2 (Sat.mul 4 (Sat.sub (Det.last l).1 (l.getD k (0, 0)).1)) := by
  simp [Det.awaited, List.getD, h]

set_option maxHeartbeats 4000000 in
theorem deadline_any (w : World) (A : Option Addr) (n c : Nat) (l : Det.Row) (hn : l.length = n) (hN : Beats w A l) (h1 : 1 ≤ n) (hlen : n ≤ 1000000) :
    Calls Try.prog 17 #[.slice A n c] w fun e w' => e = .returned (.int .i64 (Det.deadline l)) ∧ Below w.heap.size w w' := by
  have z0 : ∀ W, (zeroValue beT).run Try.prog W = .ok (.agg #[.int .i64 0, .int .i64 0]) W := fun W => by kernel_rfl
  obtain ⟨i0, hi, hz0, hz1, hz2⟩ := info_parts infoI
  have hmk : ∀ W, (Instr.makeSlice 41 (.int .i64 n) (.int .i64 n)).run Try.prog W = .ok (.slice (some ⟨W.heap.size, 0, none⟩) n n) (W.alloc (.cells (upd (Det.awaited l) n 0) 3)) := fun W => by
    have := run_make (P := Try.prog) W 41 3 i0 _ Try.underlying41 hi hz0 .i64 .i64 n n (by omega) (Int.le_refl _) (by rw [hz2]; omega) (by omega)
    rw [hz1, Nat.mul_one, Int.toNat_natCast, show (Value.int .i64 0).cells = #[.int .i64 0] from rfl, upd_0 (Det.awaited l)] at this
    exact this
  have Hn := Lib.hid hn
  have HN := Lib.hid hN
  have HC := Lib.hid (hN.at (by omega))
  have Haw := Lib.hid (Det.awaited_at l)
  have Hal := Lib.hid (show (Det.awaited l).length = n by rw [Det.awaited_len, hn])
  have Hdl := Lib.hid (show Det.deadline l = min (max (Sat.sum [Sat.mean (Det.awaited l), 4, 6]) (Sat.add (Det.last l).2 1)) (Sat.add (Det.last l).2 40) from rfl)
  generalize Det.awaited l = aw at Haw Hal Hdl hmk
  obtain ⟨y, hy⟩ : ∃ y, y = Det.last l := ⟨_, rfl⟩
  have Hy := Lib.hid hy
  rw [← hy] at Haw Hdl
  generalize Det.deadline l = dl at Hdl ⊢
  clear hi hz0 hz1 hz2 hn hN hy
  go_enter Try.func17, Try.ntmps17
  go_wp2_with fail
  refine (last_any _ A n c l Hn.out HN.out hlen).mono ?_
  rintro e w1 ⟨rfl, hb1⟩
  rw [← Hy.out]
  have B1 := (hb1.alloc hb1.size (.cells #[.int .i64 y.1, .int .i64 y.2] beT)).alloc (by simp; have := hb1.size; omega) (.cells (upd aw n 0) 3)
  have R1 : ((w1.alloc (.cells #[.int .i64 y.1, .int .i64 y.2] beT)).alloc (.cells (upd aw n 0) 3)).heap[w1.heap.size]? = some (.cells #[.int .i64 y.1, .int .i64 y.2] beT) := (Below.heap_alloc _ _ _ (by simp)).trans (MapKept.heap_alloc w1 _).1
  have R2 : ((w1.alloc (.cells #[.int .i64 y.1, .int .i64 y.2] beT)).alloc (.cells (upd aw n 0) 3)).heap[w1.heap.size + 1]? = some (.cells (upd aw n 0) 3) := by
    have := (MapKept.heap_alloc (w1.alloc (.cells #[.int .i64 y.1, .int .i64 y.2] beT)) (.cells (upd aw n 0) 3)).1
    simpa using this
  have HB1 := Lib.hid B1
  have HR1 := Lib.hid R1
  have HR2 := Lib.hid R2
  have hz := hb1.size
  clear B1 R1 R2 hb1
  go_wp2
  go_loopw [15] (fun i wr => ∃ k : Nat, k ≤ n ∧ i = .int .i64 k ∧ wr.heap[w1.heap.size]? = some (.cells #[.int .i64 y.1, .int .i64 y.2] beT) ∧ wr.heap[w1.heap.size + 1]? = some (.cells (upd aw n k) 3) ∧ Below w.heap.size w wr) (fun i _ => n - (intOf i).toNat)
  case atStart => exact ⟨0, Nat.zero_le _, rfl, HR1.out, HR2.out, HB1.out⟩
  case round =>
    obtain ⟨k, hk, rfl, R1, R2, hB⟩ := hrel
    by_cases hkn : k < n
    · obtain ⟨b, off, rfl, hb, hc⟩ := HC.out
      obtain ⟨g0, g1⟩ := hc k (by rw [Hn.out]; exact hkn)
      have c0 := (hB.cell (p := ⟨b, off + k * 2, none⟩) hb).trans g0
      have c1 := (hB.cell (p := ⟨b, off + k * 2 + 1, none⟩) hb).trans g1
      have haw := Haw.out k (by rw [Hn.out]; exact hkn)
      have hset := upd_set aw n k hkn Hal.out
      rw [haw] at hset
      generalize l.getD k (0, 0) = p at c0 c1 hset
      have Hset := Lib.hid hset
      have e0 : wr.cell? ⟨w1.heap.size, 0, none⟩ = some (.int .i64 y.1) := cell_of_row _ _ _ _ _ _ R1
      have q1 : (k : Int) < (n : Int) := by omega
      have q0 : (0 : Int) ≤ (k : Int) := by omega
      clear g0 g1 hc haw hset
      go_wp2_with fail
      go_quiet ((first
        | (go_at_call 24; exact quiet_left (sub_any _ _ _))
        ))
      have R1' : (wr.drewN nq).heap[w1.heap.size]? = some (.cells #[.int .i64 y.1, .int .i64 y.2] beT) := R1
      have R2' : (wr.drewN nq).heap[w1.heap.size + 1]? = some (.cells (upd aw n k) 3) := R2
      have hB' := below_drewN hB nq
      have c1' : (wr.drewN nq).cell? ⟨b, off + k * 2 + 1, none⟩ = some (.int .i64 p.2) := c1
      obtain ⟨V, hV⟩ : ∃ V, V = wr.drewN nq := ⟨_, rfl⟩
      rw [← hV] at R1' R2' hB' c1' ⊢
      clear hV R1 R2 hB c0 c1 e0
      go_wp2_with fail
      refine region_tail 11 (by kernel_rfl) (by kernel_rfl) ?_
      simp only [List.take_succ_cons, List.take_zero, List.drop_succ_cons, List.drop_zero]
      repeat (quiet_step ((first
        | (go_at_call 26; exact quiet_left (mul_any _ _ _))
        | (go_at_call 25; exact quiet_left (add_any _ _ _))
        )))
      refine wpQuiet_nil ?_
      intro m
      have R3 : (V.drewN m).heap[w1.heap.size + 1]? = some (.cells (upd aw n k) 3) := R2'
      have R4 : (V.drewN m).heap[w1.heap.size]? = some (.cells #[.int .i64 y.1, .int .i64 y.2] beT) := R1'
      have B4 := below_drewN hB' m
      obtain ⟨s0, s1, d0, d1, f0, f1, z1⟩ := rows1 R3
      have hin : (upd aw n k).size = n := upd_size aw n k (by omega) Hal.out
      have hin2 : (upd aw n k)[k]?.isSome = true := by simp [hin]; exact hkn
      clear R1' R2' hB' c1'
      go_wp2
      go_roundw
      case rel => exact ⟨k + 1, by omega, by go_num, (setRow_far (by omega)).trans R4, by rw [← Hset.out]; exact row_written R3, setRow_below B4 (by omega)⟩
      case measure => simp [intOf]; omega
    · obtain rfl : k = n := by omega
      rw [upd_all aw k Hal.out] at R2
      have e1 : wr.cell? ⟨w1.heap.size, 1, none⟩ = some (.int .i64 y.2) := cell_of_row _ _ _ _ _ _ R1
      have N2 := Lib.hid (nums_of_row R2)
      clear R2
      go_wp2_with (first
        | (go_at_call 28; refine (mean_any _ k _ aw _ Hal.out (by omega) N2.out).mono ?_; rintro e w' ⟨rfl, rfl⟩)
        )
      refine (sum_any _ _ _ [Sat.mean aw, 4, 6] _ rfl (by simp) (Nums.new _ _ _ _ _ rfl rfl)).mono ?_
      rintro e w' ⟨rfl, rfl⟩
      have e2 := fun o => (World.cell?_alloc_lt wr o ⟨w1.heap.size, 1, none⟩ (row_lt R1)).trans e1
      go_wp2_with fail
      go_quiet ((first
        | (go_at_call 25; exact quiet_left (add_any _ _ _))
        ))
      go_wp2
      all_goals
        go_ret
        exact ⟨ret_int (by have := Hdl.out; omega), below_drewN (hB.alloc hB.size _) _⟩
end Go.Proofs.Ytljenpfccmfnbaa
