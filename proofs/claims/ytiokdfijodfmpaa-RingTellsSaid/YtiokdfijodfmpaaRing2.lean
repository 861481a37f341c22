/- A ring's numbers as a row of the call's own; two rows that are the same; small. -/
import Derived.Test.YtiokdfijodfmpaaRing
import Derived.Test.YtiokdfijodfmpaaMem3
namespace Go.Proofs.Ytiokdfijodfmpaa
open Go.ChangeShapes Go.WideShapes Go.ChangeAt Go.RowKit

theorem info : (Try.prog.info? 3).map (fun i => (i.zero, i.size, i.bytes)) = some (some (.int .i64 0), 1, 8) := by kernel_rfl

/-- What a ring holds, the oldest one first. -/
def RS.list (R : RS) : List Int := (List.range R.h.toNat).map fun (i : Nat) => R.nums (R.place (i : Int)).toNat
theorem RS.list_len (R : RS) : R.list.length = R.h.toNat := by simp [RS.list]
theorem RS.list_take (R : RS) (k : Nat) (h : k < R.h.toNat) : R.list.take (k + 1) = R.list.take k ++ [R.nums (R.place k).toNat] := by
  rw [List.take_succ_eq_append_getElem (by rw [RS.list_len]; exact h)]
  simp [RS.list]

theorem place_to {w : World} {g : Nat} {R : RS} {i p : Int} (hp : R.place i = p) (hR : RingAt w g R) (hO : R.Ok) (hi : 0 ≤ i) (hi' : i ≤ 100) :
    Calls Try.prog 21 #[.pointer (some ⟨g, 0, none⟩), .int .i64 i] w fun e w'' => e = .returned (.int .i64 p) ∧ ∃ m, w'' = w.drewN m := by
  rw [← hp]
  exact place_any hR hO i hi hi'

set_option maxHeartbeats 1000000 in
theorem all_any {w : World} {g : Nat} {R : RS} (hR : RingAt w g R) (hO : R.Ok) :
    Calls Try.prog 14 #[.pointer (some ⟨g, 0, none⟩)] w fun e w' => ∃ b c, e = .returned (.slice (some ⟨b, 0, none⟩) R.h.toNat c) ∧ OwnN .i64 3 w.heap.size w' (some ⟨b, 0, none⟩) c R.list ∧ Below w.heap.size w w' := by
  have HR := Lib.hid hR
  have HO := Lib.hid hO
  obtain ⟨i0, hi, hz0, hz1, hz2⟩ := info_parts info
  have HI := Lib.hid (And.intro hi (And.intro hz0 (And.intro hz1 hz2)))
  have hgw := row_lt hR
  obtain ⟨h, hh⟩ : ∃ h : Nat, R.h = h := ⟨R.h.toNat, by have := hO.h0; omega⟩
  have h65 : h ≤ 64 := by have := hO.h1; have := hO.e1; omega
  have k66 := (row_cells hR 66).trans R.row_h
  have Hlen := Lib.hid (show R.list.length = h by rw [RS.list_len, hh]; rfl)
  have Hh := Lib.hid hh
  rw [hh] at k66 ⊢
  have hmk := run_make (P := Try.prog) w 28 3 i0 (.int .i64 0) Try.underlying28 hi hz0 .i64 .i64 0 (h : Int) (by omega) (by omega) (by rw [hz2]; omega) (by omega)
  have hown := World.ownsRow_made (e := 3) (size := i0.size) (base := w.heap.size) w (madeCells (Value.int .i64 0).cells ((h : Int).toNat * i0.size)) h (Nat.le_refl _) (by unfold maxLen; omega) (size_madeCells _ _)
  rw [hz1] at hmk hown
  simp only [Int.toNat_zero, Int.toNat_natCast] at hmk hown
  generalize madeCells (Value.int .i64 0).cells (h * 1) = Z at hmk hown
  have hO1 : OwnN .i64 3 w.heap.size (w.alloc (.cells Z 3)) (some ⟨w.heap.size, 0, none⟩) h [] := ⟨hown, by simp⟩
  have HO1 := Lib.hid hO1
  have hZ := ((Below.refl w.heap.size w).alloc (Nat.le_refl _) (.cells Z 3)).cell (p := ⟨g, 66, none⟩) hgw
  rw [k66] at hZ
  clear hO1 hown
  clear hR hO hi hz0 hz1 hz2 hh
  go_enter Try.func14, Try.ntmps14
  go_wp2
  go_loopw [3, 14] (fun v i wr => ∃ (k : Nat) (A : Option Addr) (c : Nat), k ≤ h ∧ i = .int .i64 k ∧ v = .slice A k c ∧ (k = 0 → A = some ⟨w.heap.size, 0, none⟩) ∧ OwnN .i64 3 w.heap.size wr A c (R.list.take k) ∧ Below w.heap.size w wr) (fun _ i _ => h - (intOf i).toNat)
  case atStart => exact ⟨0, _, _, Nat.zero_le _, rfl, rfl, fun _ => rfl, HO1.out, (Below.refl w.heap.size w).alloc (Nat.le_refl _) _⟩
  case round =>
    obtain ⟨k, A, c, hk, rfl, rfl, hA0, hO, hB⟩ := hrel
    have HA0 := Lib.hid hA0
    clear hA0
    clear hmk hZ k66
    by_cases hkh : k < h
    · have RV : RingAt wr g R := row_kept HR.out hB hgw
      obtain ⟨p, hp, hp64, -⟩ := RS.place_bd R HO.out k
      have Hp := Lib.hid hp
      have kp := (row_cells RV p).trans (R.row_num p hp64)
      have p1 : (p : Int) < 64 := by omega
      have p0 : (0 : Int) ≤ (p : Int) := by omega
      have Htk := Lib.hid (R.list_take k (by rw [Hh.out]; exact hkh))
      rw [hp, Int.toNat_natCast] at Htk
      generalize R.nums p = z at kp Htk
      have HOw := Lib.hid hO
      have htl : (R.list.take k).length = k := by rw [List.length_take, Hlen.out]; omega
      have Htl := Lib.hid htl
      clear hp hO hp64 htl
      go_wp2
      go_region_law (first
        | (refine step_append_num rfl (.tmp 17) (.tmp 26) 28 rfl i0 8 Try.underlying28 HI.out.1 HI.out.2.1 HI.out.2.2.1 HI.out.2.2.2 (by decide) k Htl.out rfl ((OwnN.drewN HOw.out _).alloc _) _ _ z rfl (alloc_cell0 _ _ _ _ rfl) (by rw [Htl.out]; omega) w.heap.size w (Nat.le_refl _) ((below_drewN hB _).alloc hB.size _) ?_; intro A2 c2 w2 hO2 hb2)
        | (go_simp; go_at_call 21; refine (place_to Hp.out (show RingAt wr.drew g R from RV) HO.out (by omega) (by omega)).mono ?_; rintro e w3 ⟨rfl, n3, rfl⟩))
      go_wp2
      go_roundw
      case rel => exact ⟨k + 1, A2, c2, by omega, by go_num, rfl, fun h => by omega, by rw [Htk.out]; exact hO2, hb2⟩
      case measure => simp [intOf]; omega
    · obtain rfl : k = h := by omega
      rw [List.take_of_length_le (by rw [Hlen.out]; exact Nat.le_refl _)] at hO
      obtain ⟨b, rfl⟩ : ∃ b, A = some ⟨b, 0, none⟩ := by
        by_cases h0 : k = 0
        · exact ⟨_, HA0.out h0⟩
        · exact hO.at0 (by rw [Hlen.out]; omega)
      go_wp2
      go_ret
      exact ⟨b, c, rfl, hO, hB⟩
end Go.Proofs.Ytiokdfijodfmpaa
