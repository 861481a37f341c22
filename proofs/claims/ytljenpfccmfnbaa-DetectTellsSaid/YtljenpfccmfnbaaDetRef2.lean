/- The document's own answers of layer 14: a beat more, and the deadline; of right rows. -/
import Derived.Test.YtljenpfccmfnbaaDetRef
namespace Go.Proofs.Ytljenpfccmfnbaa
open Go.ChangeShapes Go.WideShapes Go.ChangeAt Go.RowKit

theorem Det.awaited_in {l : Det.Row} (h : Det.right l = true) (k : Nat) (hk : k < l.length) : (Det.awaited l).getD k 0 = Sat.add (l.getD k (0, 0)).2 (4 * ((Det.last l).1 - (l.getD k (0, 0)).1)) ∧ 0 ≤ (l.getD k (0, 0)).1 ∧ (l.getD k (0, 0)).1 ≤ (Det.last l).1 ∧ (Det.last l).1 ≤ 1073741824 := by
  have hr := (Det.right_of l).1 h
  have hm : l.getD k (0, 0) ∈ l := by simp [List.getD, hk]
  have hp := Det.rf_all l 0 0 hr.2.2 _ hm
  have hl := Det.right_last h
  refine ⟨?_, by omega, by omega, by omega⟩
  rw [Det.awaited_at l k hk, Sat.sub_in _ _ (by omega) (by omega) (by omega), Sat.mul4_in _ (by omega) (by omega)]
theorem Det.deadline_ref {l : Det.Row} : max (Sat.add (Det.last l).2 1) (min (Sat.add (Sat.mean (Det.awaited l)) 10) (Sat.add (Det.last l).2 40)) = Det.deadline l := by
  have hm := Sat.mean_bd (Det.awaited l)
  have e : Sat.sum [Sat.mean (Det.awaited l), 4, 6] = Sat.add (Sat.mean (Det.awaited l)) 10 := by
    have c := Sat.clamp_of _ hm.1 hm.2
    rw [Sat.sum_eq, Sat.add_min, c]
    simp only [Sat.total, c]
    have c4 : Sat.clamp 4 = 4 := rfl
    have c6 : Sat.clamp 6 = 6 := rfl
    have c10 : Sat.clamp 10 = 10 := rfl
    omega
  have h1 : Sat.add (Det.last l).2 1 ≤ Sat.add (Det.last l).2 40 := by
    rw [Sat.add_min, Sat.add_min]
    have c1 : Sat.clamp 1 = 1 := rfl
    have c40 : Sat.clamp 40 = 40 := rfl
    omega
  unfold Det.deadline
  rw [e]
  omega

set_option maxHeartbeats 4000000 in
theorem rdeadline_to {w : World} {A : Option Addr} {n c : Nat} {l : Det.Row} {d : Int} (hd : Det.deadline l = d) (hr : Det.right l = true) (hn : l.length = n) (hN : Beats w A l) :
    Calls Try.prog 18 #[.slice A n c] w fun e w' => e = .returned (.int .i64 d) ∧ Below w.heap.size w w' := by
  have z0 : ∀ W, (zeroValue beT).run Try.prog W = .ok (.agg #[.int .i64 0, .int .i64 0]) W := fun W => by kernel_rfl
  obtain ⟨i0, hi, hz0, hz1, hz2⟩ := info_parts infoI
  have HI := Lib.hid (And.intro hi (And.intro hz0 (And.intro hz1 hz2)))
  have h8 := Det.right_len hr
  rw [hn] at h8
  obtain ⟨t, rfl⟩ : ∃ t, n = t + 1 := ⟨n - 1, by omega⟩
  obtain ⟨b, off, rfl, hb, hc⟩ := hN.at (by omega)
  obtain ⟨g0, g1⟩ := hc t (by omega)
  have e : l.getD t (0, 0) = Det.last l := by unfold Det.last; rw [hn]; rfl
  rw [e] at g0 g1
  have HC := Lib.hid hc
  have Hn := Lib.hid hn
  have Haw := Lib.hid (fun k hk => Det.awaited_in hr k hk)
  have Hal := Lib.hid (show (Det.awaited l).length = t + 1 by rw [Det.awaited_len, hn])
  have HD := Lib.hid (Det.deadline_ref (l := l).trans hd)
  obtain ⟨y, hy⟩ : ∃ y, y = Det.last l := ⟨_, rfl⟩
  rw [← hy] at g0 g1 Haw HD
  generalize Det.awaited l = aw at Haw Hal HD
  have e1 : IntKind.i64.wrap (((t + 1 : Nat) : Int) - 1) = (t : Int) := by rw [IntWalk.i64_in _ (by omega)]; omega
  have q3 : (t : Int) < ((t + 1 : Nat) : Int) := by omega
  have q2 : (0 : Int) ≤ (t : Int) := by omega
  have RS : ∀ o, (w.alloc (.cells o beT)).heap[w.heap.size]? = some (.cells o beT) := fun o => (MapKept.heap_alloc w _).1
  have BS : Below w.heap.size w (w.alloc (.cells #[.int .i64 y.1, .int .i64 y.2] beT)) := (Below.refl _ _).alloc (Nat.le_refl _) _
  have H0 := Lib.hid (And.intro (RS #[.int .i64 y.1, .int .i64 y.2]) BS)
  clear hi hz0 hz1 hz2 hc hy hn hN hr hd e RS BS
  go_enter Try.func18, Try.ntmps18
  go_wp2_with fail
  go_loopw [4, 5] (fun v i wr => ∃ (k : Nat) (A' : Option Addr) (c' : Nat), k ≤ t + 1 ∧ i = .int .i64 k ∧ v = .slice A' k c' ∧ wr.heap[w.heap.size]? = some (.cells #[.int .i64 y.1, .int .i64 y.2] beT) ∧ OwnN .i64 3 (w.heap.size + 1) wr A' c' (aw.take k) ∧ Below (w.heap.size + 1) (w.alloc (.cells #[.int .i64 y.1, .int .i64 y.2] beT)) wr) (fun _ i _ => t + 1 - (intOf i).toNat)
  case atStart => exact ⟨0, none, 0, Nat.zero_le _, rfl, rfl, H0.out.1, OwnN.nil (by simp), Below.refl _ _⟩
  case round =>
    obtain ⟨k, A', c', hk, rfl, rfl, R1, hO, hB⟩ := hrel
    have BW : Below w.heap.size w wr := H0.out.2.trans (hB.mono (by omega))
    by_cases hkn : k < t + 1
    · obtain ⟨f0, f1⟩ := HC.out k (by rw [Hn.out]; exact hkn)
      have c0 := (BW.cell (p := ⟨b, off + k * 2, none⟩) hb).trans f0
      have c1 := (BW.cell (p := ⟨b, off + k * 2 + 1, none⟩) hb).trans f1
      have x0 : wr.cell? ⟨w.heap.size, 0, none⟩ = some (.int .i64 y.1) := cell_of_row _ _ _ _ _ _ R1
      obtain ⟨hv, hp1, hp2, hp3⟩ := Haw.out k (by rw [Hn.out]; exact hkn)
      have htk : aw.take (k + 1) = aw.take k ++ [aw.getD k 0] := by
        have hka : k < aw.length := by rw [Hal.out]; exact hkn
        rw [List.take_succ_eq_append_getElem hka]
        simp [List.getD, hka]
      rw [hv] at htk
      have Htk := Lib.hid htk
      have hlen : (aw.take k).length = k := by rw [List.length_take, Hal.out]; omega
      have Hlen := Lib.hid hlen
      have HO := Lib.hid hO
      generalize l.getD k (0, 0) = p at c0 c1 Htk hp1 hp2
      have m1 : IntKind.i64.wrap (y.1 - p.1) = y.1 - p.1 := IntWalk.i64_in _ (by omega)
      have m2 : IntKind.i64.wrap (4 * (y.1 - p.1)) = 4 * (y.1 - p.1) := IntWalk.i64_in _ (by omega)
      have q1 : (k : Int) < ((t + 1 : Nat) : Int) := by omega
      have q0 : (0 : Int) ≤ (k : Int) := by omega
      clear f0 f1 hv htk hlen hO
      go_wp2_with fail
      have B3 := below_drewN hB 1
      go_region_law (first
        | (refine step_append_num rfl (.tmp 19) (.tmp 35) 41 rfl i0 8 Try.underlying41 HI.out.1 HI.out.2.1 HI.out.2.2.1 HI.out.2.2.2 (by decide) k Hlen.out rfl ((OwnN.drewN HO.out 1).alloc _) _ _ _ rfl (alloc_cell0 _ _ _ _ rfl) (by rw [Hlen.out]; omega) (w.heap.size + 1) _ (Nat.le_refl _) (B3.alloc (by simpa using B3.size) _) ?_; intro A2 c2 w2 hO2 hb2)
        | (go_simp; go_at_call 29; refine (radd_any _ _ _).mono ?_; rintro e w3 ⟨rfl, rfl⟩))
      all_goals
        go_wp2
        go_roundw
        case rel => exact ⟨k + 1, A2, c2, by omega, by go_num, rfl, row_kept H0.out.1 hb2 (by omega), by rw [Htk.out]; exact hO2, hb2⟩
        case measure => simp [intOf] <;> omega
    · obtain rfl : k = t + 1 := by omega
      rw [List.take_of_length_le (by rw [Hal.out]; exact Nat.le_refl _)] at hO
      have N2 := Lib.hid hO.nums
      have x1 : wr.cell? ⟨w.heap.size, 1, none⟩ = some (.int .i64 y.2) := cell_of_row _ _ _ _ _ _ R1
      clear hO
      go_wp2_with (first
        | (go_at_call 30; refine (rmean_any _ (t + 1) _ aw _ Hal.out (by omega) N2.out).mono ?_; rintro e w' ⟨rfl, rfl⟩)
        | (go_at_call 29; refine (radd_any _ _ _).mono ?_; rintro e w' ⟨rfl, rfl⟩)
        )
      go_quiet ((first
        | (go_at_call 29; exact quiet_left (radd_any _ _ _))
        ))
      go_wp2
      all_goals
        go_ret
        exact ⟨ret_int (by have := HD.out; omega), below_drewN BW _⟩

set_option maxHeartbeats 4000000 in
theorem rbeat_to {w : World} {A : Option Addr} {n c : Nat} {l l' : Det.Row} {seq now : Int} {r : Bool} {n' : Nat} (hb : Det.beat l seq now = l') (hm : Det.may l seq now = r) (hn' : l'.length = n') (hr : Det.right l = true) (hn : l.length = n) (hN : Beats w A l) :
    Calls Try.prog 16 #[.slice A n c, .int .i64 seq, .int .i64 now] w fun e w' => ∃ A' c', e = .returned (.tuple #[.slice A' n' c', .bool r]) ∧ Beats w' A' l' ∧ Below w.heap.size w w' := by
  have z0 : ∀ W, (zeroValue beT).run Try.prog W = .ok (.agg #[.int .i64 0, .int .i64 0]) W := fun W => by kernel_rfl
  obtain ⟨i0, hi, hz0, hz1, hz2⟩ := info_parts infoB
  have HI := Lib.hid (And.intro hi (And.intro hz0 (And.intro hz1 hz2)))
  have h8 := Det.right_len hr
  rw [hn] at h8
  obtain ⟨t, rfl⟩ : ∃ t, n = t + 1 := ⟨n - 1, by omega⟩
  have Hf := Lib.hid (show (flat l).length = (t + 1) * 2 by rw [flat_len, hn])
  have HN := Lib.hid hN
  obtain ⟨b, off, rfl, hb0, hc⟩ := hN.at (by omega)
  obtain ⟨g0, g1⟩ := hc t (by omega)
  have e : l.getD t (0, 0) = Det.last l := by unfold Det.last; rw [hn]; rfl
  rw [e] at g0 g1
  have hmay := Det.may_of l seq now
  have hno := @Det.beat_no l seq now
  have hyes := @Det.beat_yes l seq now
  have hpush : Det.push l seq now = (l ++ [(seq, now)]).drop (if t + 1 = 8 then 1 else 0) := by
    unfold Det.push
    by_cases h : t + 1 = 8
    · rw [if_pos (by omega), if_pos h, List.drop_append_of_le_length (by omega)]
    · rw [if_neg (by omega), if_neg h]; rfl
  rw [hb, hm] at hno hyes
  rw [hm] at hmay
  have Hpush := Lib.hid hpush
  have Hn := Lib.hid hn
  obtain ⟨y, hy⟩ : ∃ y, y = Det.last l := ⟨_, rfl⟩
  rw [← hy] at g0 g1 hmay
  have HNO := Lib.hid hno
  have HYES := Lib.hid hyes
  have e1 : IntKind.i64.wrap (((t + 1 : Nat) : Int) - 1) = (t : Int) := by rw [IntWalk.i64_in _ (by omega)]; omega
  have q3 : (t : Int) < ((t + 1 : Nat) : Int) := by omega
  have q2 : (0 : Int) ≤ (t : Int) := by omega
  have G0 := Lib.hid (And.intro g0 g1)
  clear hi hz0 hz1 hz2 hc hn hN hr e hno hyes hpush g0 g1
  obtain ⟨ya, yb⟩ := y
  by_cases hcase : seq ≤ ya ∨ (ya < seq ∧ 1073741824 < seq) ∨ (ya < seq ∧ seq ≤ 1073741824 ∧ now < yb) ∨ (ya < seq ∧ seq ≤ 1073741824 ∧ yb ≤ now ∧ 1099511627776 < now)
  · have hrf : r = false := by
      cases r
      · rfl
      · have := hmay.1 rfl; simp only at this; omega
    obtain rfl := HNO.out hrf
    have Hn' := Lib.hid (hn'.symm.trans Hn.out)
    subst hrf
    clear hmay hb hm hn'
    rcases hcase with h1 | ⟨h0, h1⟩ | ⟨h0, h1, h2⟩ | ⟨h0, h1, h2, h3⟩
    all_goals
      go_enter Try.func16, Try.ntmps16
      go_wp2_with (first
        | (at_builtin; refine wpList_append_recs rfl _ _ 22 rfl i0 _ 16 Try.underlying22 HI.out.1 HI.out.2.1 HI.out.2.2.1 HI.out.2.2.2 (by decide) rfl (by decide) rfl (OwnR.lit (n := 0) (m := 2) (zs := []) #[] (Nat.le_refl _) (Nat.zero_le _) rfl rfl) ⟨b, off, none⟩ (t + 1) _ (flat l') rfl Hf.out (HN.out.alloc _) (by omega) w.heap.size w (Nat.le_refl _) ((Below.refl _ _).alloc (Nat.le_refl _) _) ?_; intro A4 c4 w4 hO4 hB4; have k0 := (hB4.cell (p := ⟨b, off + t * 2, none⟩) hb0).trans G0.out.1; have k1 := (hB4.cell (p := ⟨b, off + t * 2 + 1, none⟩) hb0).trans G0.out.2)
        )
      go_ret2
      exact ⟨A4, ⟨c4, by rw [Hn'.out]; rfl⟩, (show Nums .i64 w4 A4 (flat l') by simpa using hO4.nums).alloc _, hB4.alloc hB4.size _⟩
  · have hrt : r = true := by
      cases r
      · have := hmay.2 (by simp only; omega); cases this
      · rfl
    obtain rfl := HYES.out hrt
    subst hrt
    have h0 : ya < seq := by omega
    have h1 : seq ≤ 1073741824 := by omega
    have h2 : yb ≤ now := by omega
    have h3 : now ≤ 1099511627776 := by omega
    have hm8 : l.length + 1 = t + 2 := by rw [Hn.out]
    clear hmay hb hm hcase
    by_cases h7 : t + 1 = 8
    · obtain rfl : t = 7 := by omega
      have P8 := Lib.hid (show Det.push l seq now = (l ++ [(seq, now)]).drop 1 by have := Hpush.out; rw [if_pos h7] at this; exact this)
      have N8 := Lib.hid (show n' = 8 by rw [← hn', P8.out, List.length_drop, List.length_append, Hn.out]; rfl)
      clear hn' hm8
      go_enter Try.func16, Try.ntmps16
      go_wp2_with (first
        | (at_builtin; refine wpList_append_recs rfl (.tmp 10) (.tmp 11) 22 rfl i0 _ 16 Try.underlying22 HI.out.1 HI.out.2.1 HI.out.2.2.1 HI.out.2.2.2 (by decide) rfl (by decide) rfl (OwnR.lit (n := 0) (m := 2) (zs := []) #[] (Nat.le_refl _) (Nat.zero_le _) rfl rfl) ⟨b, off, none⟩ (7 + 1) _ (flat l) rfl Hf.out (HN.out.alloc _) (by omega) w.heap.size w (Nat.le_refl _) ((Below.refl _ _).alloc (Nat.le_refl _) _) ?_; intro A4 c4 w4 hO4 hB4; have k0 := (hB4.cell (p := ⟨b, off + 7 * 2, none⟩) hb0).trans G0.out.1; have k1 := (hB4.cell (p := ⟨b, off + 7 * 2 + 1, none⟩) hb0).trans G0.out.2; have hO5 := OwnR.below (show OwnR 2 beT w.heap.size w4 A4 8 c4 (flat l) by simpa using hO4) ((Below.refl w4.heap.size w4).alloc (Nat.le_refl _) (.cells #[.int .i64 ya, .int .i64 yb] beT)); have hB5 := hB4.alloc hB4.size (.cells #[.int .i64 ya, .int .i64 yb] beT); clear hO4 hB4)
        | (at_builtin; refine wpList_append_recs rfl (.tmp 38) (.tmp 42) 22 rfl i0 _ 16 Try.underlying22 HI.out.1 HI.out.2.1 HI.out.2.2.1 HI.out.2.2.2 (by decide) rfl (by decide) rfl (OwnR.below hO5 ((Below.refl _ _).alloc (Nat.le_refl _) _)) _ 1 _ [seq, now] rfl rfl (Nums.new _ _ _ _ _ (by simp) rfl) (by omega) w.heap.size w (Nat.le_refl _) (hB5.alloc hB5.size _) ?_; intro A6 c6 w6 hO6 hB6; obtain ⟨g6, cur6, rfl, -, -, -, -⟩ := hO6.at0 (by omega); have l6 := hO6.len; have hc6 : (9 : Int) ≤ (c6 : Int) := (by omega); have hc7 : ¬ c6 = 1 := (by omega); have hc8 : (c6 : Int) ≤ 9223372036854775807 := (by have := l6.2; unfold maxLen at this; omega))
        )
      have hz := hO6.zlen
      have hd := Nums.drop hO6.nums 2 (c6 * 2) (by omega) (by omega)
      rw [if_neg (by omega)] at hd
      go_ret2
      refine ⟨some ⟨g6, 2, none⟩, ⟨c6 - 1, by rw [N8.out]; rfl⟩, ?_, hB6⟩
      unfold Beats
      rw [P8.out, ← flat_drop, flat_app]
      exact (show Nums .i64 w6 (some ⟨g6, 2, none⟩) (List.drop 2 (flat l ++ [seq, now])) by simpa [Addr.add] using hd)
    · have P8 := Lib.hid (show Det.push l seq now = l ++ [(seq, now)] by have := Hpush.out; rw [if_neg h7] at this; simpa using this)
      have N8 := Lib.hid (show n' = t + 1 + 1 by rw [← hn', P8.out, List.length_append, Hn.out]; rfl)
      have t7 : (t : Int) + 1 + 1 ≤ 8 := by omega
      clear hn' hm8
      go_enter Try.func16, Try.ntmps16
      go_wp2_with (first
        | (at_builtin; refine wpList_append_recs rfl (.tmp 10) (.tmp 11) 22 rfl i0 _ 16 Try.underlying22 HI.out.1 HI.out.2.1 HI.out.2.2.1 HI.out.2.2.2 (by decide) rfl (by decide) rfl (OwnR.lit (n := 0) (m := 2) (zs := []) #[] (Nat.le_refl _) (Nat.zero_le _) rfl rfl) ⟨b, off, none⟩ (t + 1) _ (flat l) rfl Hf.out (HN.out.alloc _) (by omega) w.heap.size w (Nat.le_refl _) ((Below.refl _ _).alloc (Nat.le_refl _) _) ?_; intro A4 c4 w4 hO4 hB4; have k0 := (hB4.cell (p := ⟨b, off + t * 2, none⟩) hb0).trans G0.out.1; have k1 := (hB4.cell (p := ⟨b, off + t * 2 + 1, none⟩) hb0).trans G0.out.2; have hO5 := OwnR.below (show OwnR 2 beT w.heap.size w4 A4 (t + 1) c4 (flat l) by simpa using hO4) ((Below.refl w4.heap.size w4).alloc (Nat.le_refl _) (.cells #[.int .i64 ya, .int .i64 yb] beT)); have hB5 := hB4.alloc hB4.size (.cells #[.int .i64 ya, .int .i64 yb] beT); clear hO4 hB4)
        | (at_builtin; refine wpList_append_recs rfl (.tmp 38) (.tmp 42) 22 rfl i0 _ 16 Try.underlying22 HI.out.1 HI.out.2.1 HI.out.2.2.1 HI.out.2.2.2 (by decide) rfl (by decide) rfl (OwnR.below hO5 ((Below.refl _ _).alloc (Nat.le_refl _) _)) _ 1 _ [seq, now] rfl rfl (Nums.new _ _ _ _ _ (by simp) rfl) (by omega) w.heap.size w (Nat.le_refl _) (hB5.alloc hB5.size _) ?_; intro A6 c6 w6 hO6 hB6)
        )
      go_ret2
      exact ⟨A6, ⟨c6, by rw [N8.out]; rfl⟩, by unfold Beats; rw [P8.out, flat_app]; exact hO6.nums, hB6⟩
end Go.Proofs.Ytljenpfccmfnbaa
