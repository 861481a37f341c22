/- What Beat and Deadline of package detect come to. -/
import Derived.Test.YtljenpfccmfnbaaDet2
namespace Go.Proofs.Ytljenpfccmfnbaa
open Go.ChangeShapes Go.WideShapes Go.ChangeAt Go.RowKit

theorem Det.beat_no {l : Det.Row} {seq now : Int} (h : Det.may l seq now = false) : Det.beat l seq now = l := by unfold Det.beat; rw [if_neg (by rw [h]; decide)]
theorem Det.beat_yes {l : Det.Row} {seq now : Int} (h : Det.may l seq now = true) : Det.beat l seq now = Det.push l seq now := by unfold Det.beat; rw [if_pos h]

set_option maxHeartbeats 4000000 in
theorem beat_any (w : World) (A : Option Addr) (n c : Nat) (l : Det.Row) (seq now : Int) (hn : l.length = n) (hN : Beats w A l) (hlen : n ≤ 1000000) :
    Calls Try.prog 15 #[.slice A n c, .int .i64 seq, .int .i64 now] w fun e w' => ∃ A' c', e = .returned (.tuple #[.slice A' (Det.beat l seq now).length c', .bool (Det.may l seq now)]) ∧ OwnB w.heap.size w' A' (Det.beat l seq now).length c' (Det.beat l seq now) ∧ Below w.heap.size w w' := by
  have z0 : ∀ W, (zeroValue beT).run Try.prog W = .ok (.agg #[.int .i64 0, .int .i64 0]) W := fun W => by kernel_rfl
  obtain ⟨i0, hi, hz0, hz1, hz2⟩ := info_parts infoB
  have HI := Lib.hid (And.intro hi (And.intro hz0 (And.intro hz1 hz2)))
  have Hn := Lib.hid hn
  have HN := Lib.hid hN
  have BN := Lib.hid (@Det.beat_no l seq now)
  have BY := Lib.hid (@Det.beat_yes l seq now)
  have HP := Lib.hid (show Det.push l seq now = (if 8 ≤ n then l.drop 1 else l) ++ [(seq, now)] by unfold Det.push; rw [hn])
  obtain ⟨y, hy⟩ : ∃ y, y = Det.last l := ⟨_, rfl⟩
  have hm : Det.may l seq now = !decide (seq ≤ y.1 ∨ 1073741824 < seq ∨ now < y.2 ∨ 1099511627776 < now) := by rw [hy]; rfl
  have Hy := Lib.hid hy
  generalize Det.may l seq now = m at hm BN BY ⊢
  generalize Det.beat l seq now = l' at BN BY ⊢
  clear hi hz0 hz1 hz2 hn hN hy
  by_cases hno : seq ≤ y.1 ∨ 1073741824 < seq ∨ now < y.2 ∨ 1099511627776 < now
  · obtain rfl : m = false := by rw [hm]; simp [hno]
    obtain rfl := BN.out rfl
    have hcase : seq ≤ y.1 ∨ (y.1 < seq ∧ 1073741824 < seq) ∨ (y.1 < seq ∧ seq ≤ 1073741824 ∧ now < y.2) ∨ (y.1 < seq ∧ seq ≤ 1073741824 ∧ y.2 ≤ now ∧ 1099511627776 < now) := by omega
    clear hm BN BY HP hno
    go_enter Try.func15, Try.ntmps15
    go_wp2_with fail
    refine (last_any _ A n c l' Hn.out HN.out hlen).mono ?_
    rintro e w1 ⟨rfl, hb1⟩
    rw [← Hy.out]
    go_wp2_with fail
    refine (clone_any _ A n c l' Hn.out ((HN.out.below hb1).alloc _) hlen).mono ?_
    rintro e w2 ⟨A2, c2, rfl, hO2, hb2⟩
    obtain ⟨R2, z2, B2⟩ := new_kept hb2
    have K2 := row_cells R2
    have B3 := hb1.trans (B2.mono hb1.size)
    have hO3 := hO2.lower (b2 := w.heap.size) (by simp; have := hb1.size; omega)
    clear hb1 hb2 R2 z2 B2 hO2
    rcases hcase with h1 | ⟨h0, h1⟩ | ⟨h0, h1, h2⟩ | ⟨h0, h1, h2, h3⟩
    all_goals
      go_wp2_with fail
      go_ret2
      exact ⟨A2, c2, by rw [Hn.out]; rfl, by rw [Hn.out]; exact hO3, B3⟩
  · obtain rfl : m = true := by rw [hm]; simp; omega
    obtain rfl := BY.out rfl
    have h0 : y.1 < seq := by omega
    have h1 : seq ≤ 1073741824 := by omega
    have h2 : y.2 ≤ now := by omega
    have h3 : now ≤ 1099511627776 := by omega
    clear hm BN BY hno
    by_cases h8 : 8 ≤ n
    · have h8' : (8 : Int) ≤ n := by omega
      go_enter Try.func15, Try.ntmps15
      go_wp2_with fail
      refine (last_any _ A n c l Hn.out HN.out hlen).mono ?_
      rintro e w1 ⟨rfl, hb1⟩
      rw [← Hy.out]
      go_wp2_with fail
      refine (clone_any _ A n c l Hn.out ((HN.out.below hb1).alloc _) hlen).mono ?_
      rintro e w2 ⟨A2, c2, rfl, hO2, hb2⟩
      obtain ⟨R2, z2, B2⟩ := new_kept hb2
      have K2 := row_cells R2
      have B3 := hb1.trans (B2.mono hb1.size)
      have hO3 := hO2.lower (b2 := w.heap.size) (by simp; have := hb1.size; omega)
      clear hb1 hb2 R2 z2 B2 hO2
      go_wp2_with fail
      refine (delete_any _ _ A2 n c2 0 1 l hO3 rfl (by omega)).mono ?_
      rintro e w3 ⟨rfl, hO4, hB4⟩
      have B4 := hB4 _ _ (Nat.le_refl _) B3
      have hO5 := OwnR.below hO4 ((Below.refl w3.heap.size w3).alloc (Nat.le_refl _) (.cells #[.int .i64 seq, .int .i64 now] beT))
      have B5 := B4.alloc B4.size (.cells #[.int .i64 seq, .int .i64 now] beT)
      have e1 : Det.push l seq now = List.take 0 l ++ List.drop 1 l ++ [(seq, now)] := by rw [HP.out, if_pos h8]; rfl
      have E1 := Lib.hid e1
      have E2 := Lib.hid (show (Det.push l seq now).length = n - 1 + 1 by rw [e1]; simp [Hn.out])
      clear hO4 hB4 B4 hO3 B3 e1 K2
      go_wp2_with (first
        | (at_builtin; refine wpList_append_recs rfl _ _ 22 rfl i0 _ 16 Try.underlying22 HI.out.1 HI.out.2.1 HI.out.2.2.1 HI.out.2.2.2 (by decide) rfl (by decide) rfl hO5 ⟨w3.heap.size, 0, none⟩ 1 _ [seq, now] rfl rfl (Nums.new _ _ _ _ _ rfl rfl) (by omega) w.heap.size w (Nat.le_refl _) B5 ?_; intro A6 c6 w6 hO6 hB6)
        )
      go_ret2
      refine ⟨A6, c6, by rw [E2.out]; rfl, ?_, hB6⟩
      rw [E2.out, E1.out]
      unfold OwnB
      rw [flat_app]
      exact hO6
    · have h8' : (n : Int) < 8 := by omega
      go_enter Try.func15, Try.ntmps15
      go_wp2_with fail
      refine (last_any _ A n c l Hn.out HN.out hlen).mono ?_
      rintro e w1 ⟨rfl, hb1⟩
      rw [← Hy.out]
      go_wp2_with fail
      refine (clone_any _ A n c l Hn.out ((HN.out.below hb1).alloc _) hlen).mono ?_
      rintro e w2 ⟨A2, c2, rfl, hO2, hb2⟩
      obtain ⟨R2, z2, B2⟩ := new_kept hb2
      have K2 := row_cells R2
      have B3 := hb1.trans (B2.mono hb1.size)
      have hO3 := hO2.lower (b2 := w.heap.size) (by simp; have := hb1.size; omega)
      clear hb1 hb2 R2 z2 B2 hO2
      have hO5 := OwnR.below hO3 ((Below.refl w2.heap.size w2).alloc (Nat.le_refl _) (.cells #[.int .i64 seq, .int .i64 now] beT))
      have B5 := B3.alloc B3.size (.cells #[.int .i64 seq, .int .i64 now] beT)
      have e1 : Det.push l seq now = l ++ [(seq, now)] := by rw [HP.out, if_neg h8]
      have E1 := Lib.hid e1
      have E2 := Lib.hid (show (Det.push l seq now).length = n + 1 by rw [e1]; simp [Hn.out])
      clear hO3 B3 e1
      go_wp2_with (first
        | (at_builtin; refine wpList_append_recs rfl _ _ 22 rfl i0 _ 16 Try.underlying22 HI.out.1 HI.out.2.1 HI.out.2.2.1 HI.out.2.2.2 (by decide) rfl (by decide) rfl hO5 ⟨w2.heap.size, 0, none⟩ 1 _ [seq, now] rfl rfl (Nums.new _ _ _ _ _ rfl rfl) (by omega) w.heap.size w (Nat.le_refl _) B5 ?_; intro A6 c6 w6 hO6 hB6)
        )
      go_ret2
      refine ⟨A6, c6, by rw [E2.out]; rfl, ?_, hB6⟩
      rw [E2.out, E1.out]
      unfold OwnB
      rw [flat_app]
      exact hO6
end Go.Proofs.Ytljenpfccmfnbaa
