/- FieldBack holds for any numbers, each in any size that it fits: laid one behind the other, they are read as they were, and no more of them. No condition. -/
import Derived.Test.YtjfihfhklecciaaFieldActs
import Derived.BigQuiet
import Derived.Deep.RegionWith
import Derived.Deep.RegionHeld3
namespace Go.Proofs.Ytjfihfhklecciaa.fieldBack
open Go.ChangeShapes Go.WideShapes Go.ChangeAt Go.RowKit

def Fits (D N : Nat → Int) (j : Nat) : Prop := ∀ i, i < j → 1 ≤ D i ∧ D i ≤ 7 ∧ 0 ≤ N i ∧ N i < 256 ^ (D i).toNat
theorem lays_len (D N : Nat → Int) : ∀ j, Fits D N j → (lays D N j).length ≤ 7 * j
  | 0, _ => by simp [lays]
  | j + 1, h => by
    have h1 := lays_len D N j (fun i hi => h i (by omega))
    have h2 := h j (by omega)
    simp only [lays, List.length_append, lay_len]
    omega

theorem done_not {w : World} {g : Nat} {A : Option Addr} {n c : Nat} (h : RdAt w g A n c false) (hn : 0 < n) :
    Calls Try.prog 19 #[.pointer (some ⟨g, 0, none⟩)] w fun e w' => e = .returned (.bool false) ∧ w = w' :=
  (done_any h).mono fun _ _ ⟨he, hw⟩ => ⟨by rw [he]; exact ret_bool (by simp; omega), hw⟩
theorem tails_byte (D N : Nat → Int) (n : Nat) : ∀ j, ∀ y ∈ tails D N n j, 0 ≤ y ∧ y ≤ 255
  | 0, y, h => by cases h
  | j + 1, y, h => by
    simp only [tails, List.mem_append] at h
    rcases h with h | h
    · exact lay_byte _ _ y h
    · exact tails_byte D N n j y h
theorem tails_len (D N : Nat → Int) (n : Nat) : ∀ j, Fits D N n → j ≤ n → (tails D N n j).length ≤ 7 * j
  | 0, _, _ => by simp [tails]
  | j + 1, h, hj => by
    have h1 := tails_len D N n j h (by omega)
    have h2 := h (n - (j + 1)) (by omega)
    simp only [tails, List.length_append, lay_len]
    omega
theorem cell_but {g b o : Nat} {w w' : World} (h : But g w w') (hb : b < w.heap.size) (hg : b ≠ g) : w'.cell? ⟨b, o, none⟩ = w.cell? ⟨b, o, none⟩ := by
  unfold World.cell?
  simp only [h.1 b hb hg]

set_option maxHeartbeats 4000000 in
theorem walk (w : World) (A : Option Addr) (n cap : Nat) (D N : Nat → Int) (hl : n ≤ cap) (hm : cap ≤ maxLen) (hP : Acts w A n D N) :
    Calls Try.prog 4 #[.slice A n cap] w fun e w' => e = .returned (.bool true) ∧ Below w.heap.size w w' := by
  have HP := Lib.hid hP
  unfold maxLen at hm
  clear hP
  by_cases h1 : 100 < n
  · go_enter Try.func4, Try.ntmps4
    go_wp2_with (first
      | (go_at_call 8; refine (small_any _).mono ?_; rintro e w' ⟨rfl, hb⟩)
      )
    all_goals (go_ret; exact ⟨rfl, hb⟩)
  · have n1 : n ≤ 100 := by omega
    go_enter Try.func4, Try.ntmps4
    go_wp2_with fail
    refine (small_any _).mono ?_
    rintro e w1 ⟨rfl, B1⟩
    go_wp2_with fail
    go_loopw [4, 5] (fun v i wr => ∃ (j : Nat) (A' : Option Addr) (c' : Nat), j ≤ n ∧ i = .int .i64 j ∧ v = .slice A' (lays D N j).length c' ∧ Nums .u8 wr A' (lays D N j) ∧ Fits D N j ∧ Below w.heap.size w wr) (fun _ i _ => n - (intOf i).toNat)
    case atStart => exact ⟨0, none, 0, Nat.zero_le _, rfl, rfl, Nums.nil, fun i hi => absurd hi (by omega), B1⟩
    case round =>
      obtain ⟨j, A', c', hj, rfl, rfl, hNb, hF, hB⟩ := hrel
      have HF := Lib.hid hF
      clear B1 hF
      by_cases hjn : j < n
      · rcases HP.out with h0 | ⟨b, off, rfl, hlt, hc⟩
        · omega
        obtain ⟨g0, g1, gN⟩ := hc j hjn
        have cD := (hB.cell (p := ⟨b, off + j * 2, none⟩) hlt).trans g0
        have cN := (hB.cell (p := ⟨b, off + j * 2 + 1, none⟩) hlt).trans g1
        have Hl := Lib.hid (show lays D N (j + 1) = lays D N j ++ lay (N j) (D j).toNat from rfl)
        have HFs := Lib.hid (fun (h : 1 ≤ D j ∧ D j ≤ 7 ∧ 0 ≤ N j ∧ N j < 256 ^ (D j).toNat) => show Fits D N (j + 1) from fun i hi => by
          by_cases hij : i = j
          · subst hij; exact h
          · exact HF.out i (by omega))
        have hlen := lays_len D N j HF.out
        generalize lays D N j = bs at hNb Hl hlen
        generalize D j = dj at cD Hl HFs
        generalize N j = nj at cN Hl HFs gN
        have q1 : (j : Int) < (n : Int) := by omega
        have q0 : (0 : Int) ≤ (j : Int) := by omega
        clear g0 g1 hc
        by_cases hd : dj < 1
        · have hd1 : decide (dj < 1) = true := decide_eq_true hd
          go_wp2_with fail
          go_quiet (fail)
          go_wp2
          go_ret
          exact ⟨rfl, below_drewN hB _⟩
        · by_cases hd7 : 7 < dj
          · have hd1 : decide (dj < 1) = false := decide_eq_false hd
            have hd2 : decide (7 < dj) = true := decide_eq_true hd7
            go_wp2_with fail
            go_quiet (fail)
            go_wp2
            go_ret
            exact ⟨rfl, below_drewN hB _⟩
          · by_cases hn0 : nj < 0
            · have hd1 : decide (dj < 1) = false := decide_eq_false hd
              have hd2 : decide (7 < dj) = false := decide_eq_false hd7
              have hd3 : decide (nj < 0) = true := decide_eq_true hn0
              go_wp2_with fail
              go_quiet (fail)
              go_wp2
              go_ret
              exact ⟨rfl, below_drewN hB _⟩
            · have hd3 : decide (nj < 0) = false := decide_eq_false hn0
              have hk : dj = 1 ∨ dj = 2 ∨ dj = 3 ∨ dj = 4 ∨ dj = 5 ∨ dj = 6 ∨ dj = 7 := by omega
              clear hd hd7
              rcases hk with rfl | rfl | rfl | rfl | rfl | rfl | rfl
              · go_wp2_with fail
                go_quiet (fail)
                have hNq := hNb.drewN nq
                have hBq := below_drewN hB nq
                have cNq : (wr.drewN nq).cell? ⟨b, off + j * 2 + 1, none⟩ = some (.int .i64 nj) := cN
                obtain ⟨Vq, hVq⟩ : ∃ V, V = wr.drewN nq := ⟨_, rfl⟩
                rw [← hVq] at hNq hBq cNq ⊢
                clear hVq hNb hB cD cN
                go_wp2_with (first
                  | (go_at_call 11; refine (put_any _ A' _ _ bs rfl hNq (by omega) nj 1 gN 1 rfl).mono ?_; rintro e w4 ⟨A4, c4, rfl, hO4, hB4⟩)
                  )
                all_goals first
                  | (go_ret; exact ⟨rfl, hBq⟩)
                  | (go_roundw
                     case rel => exact ⟨j + 1, A4, c4, by omega, by go_num, by rw [Hl.out, List.length_append, lay_len]; rfl, by rw [Hl.out]; exact hO4.nums, HFs.out ⟨by omega, by omega, by omega, by show nj < 256 ^ 1; omega⟩, hBq.trans (hB4.mono hBq.size)⟩
                     case measure => simp [intOf]; omega)
              · go_wp2_with fail
                go_quiet (fail)
                have hNq := hNb.drewN nq
                have hBq := below_drewN hB nq
                have cNq : (wr.drewN nq).cell? ⟨b, off + j * 2 + 1, none⟩ = some (.int .i64 nj) := cN
                obtain ⟨Vq, hVq⟩ : ∃ V, V = wr.drewN nq := ⟨_, rfl⟩
                rw [← hVq] at hNq hBq cNq ⊢
                clear hVq hNb hB cD cN
                go_wp2_with (first
                  | (go_at_call 11; refine (put_any _ A' _ _ bs rfl hNq (by omega) nj 2 gN 2 rfl).mono ?_; rintro e w4 ⟨A4, c4, rfl, hO4, hB4⟩)
                  )
                all_goals first
                  | (go_ret; exact ⟨rfl, hBq⟩)
                  | (go_roundw
                     case rel => exact ⟨j + 1, A4, c4, by omega, by go_num, by rw [Hl.out, List.length_append, lay_len]; rfl, by rw [Hl.out]; exact hO4.nums, HFs.out ⟨by omega, by omega, by omega, by show nj < 256 ^ 2; omega⟩, hBq.trans (hB4.mono hBq.size)⟩
                     case measure => simp [intOf]; omega)
              · go_wp2_with fail
                go_quiet (fail)
                have hNq := hNb.drewN nq
                have hBq := below_drewN hB nq
                have cNq : (wr.drewN nq).cell? ⟨b, off + j * 2 + 1, none⟩ = some (.int .i64 nj) := cN
                obtain ⟨Vq, hVq⟩ : ∃ V, V = wr.drewN nq := ⟨_, rfl⟩
                rw [← hVq] at hNq hBq cNq ⊢
                clear hVq hNb hB cD cN
                go_wp2_with (first
                  | (go_at_call 11; refine (put_any _ A' _ _ bs rfl hNq (by omega) nj 3 gN 3 rfl).mono ?_; rintro e w4 ⟨A4, c4, rfl, hO4, hB4⟩)
                  )
                all_goals first
                  | (go_ret; exact ⟨rfl, hBq⟩)
                  | (go_roundw
                     case rel => exact ⟨j + 1, A4, c4, by omega, by go_num, by rw [Hl.out, List.length_append, lay_len]; rfl, by rw [Hl.out]; exact hO4.nums, HFs.out ⟨by omega, by omega, by omega, by show nj < 256 ^ 3; omega⟩, hBq.trans (hB4.mono hBq.size)⟩
                     case measure => simp [intOf]; omega)
              · go_wp2_with fail
                go_quiet (fail)
                have hNq := hNb.drewN nq
                have hBq := below_drewN hB nq
                have cNq : (wr.drewN nq).cell? ⟨b, off + j * 2 + 1, none⟩ = some (.int .i64 nj) := cN
                obtain ⟨Vq, hVq⟩ : ∃ V, V = wr.drewN nq := ⟨_, rfl⟩
                rw [← hVq] at hNq hBq cNq ⊢
                clear hVq hNb hB cD cN
                go_wp2_with (first
                  | (go_at_call 11; refine (put_any _ A' _ _ bs rfl hNq (by omega) nj 4 gN 4 rfl).mono ?_; rintro e w4 ⟨A4, c4, rfl, hO4, hB4⟩)
                  )
                all_goals first
                  | (go_ret; exact ⟨rfl, hBq⟩)
                  | (go_roundw
                     case rel => exact ⟨j + 1, A4, c4, by omega, by go_num, by rw [Hl.out, List.length_append, lay_len]; rfl, by rw [Hl.out]; exact hO4.nums, HFs.out ⟨by omega, by omega, by omega, by show nj < 256 ^ 4; omega⟩, hBq.trans (hB4.mono hBq.size)⟩
                     case measure => simp [intOf]; omega)
              · go_wp2_with fail
                go_quiet (fail)
                have hNq := hNb.drewN nq
                have hBq := below_drewN hB nq
                have cNq : (wr.drewN nq).cell? ⟨b, off + j * 2 + 1, none⟩ = some (.int .i64 nj) := cN
                obtain ⟨Vq, hVq⟩ : ∃ V, V = wr.drewN nq := ⟨_, rfl⟩
                rw [← hVq] at hNq hBq cNq ⊢
                clear hVq hNb hB cD cN
                go_wp2_with (first
                  | (go_at_call 11; refine (put_any _ A' _ _ bs rfl hNq (by omega) nj 5 gN 5 rfl).mono ?_; rintro e w4 ⟨A4, c4, rfl, hO4, hB4⟩)
                  )
                all_goals first
                  | (go_ret; exact ⟨rfl, hBq⟩)
                  | (go_roundw
                     case rel => exact ⟨j + 1, A4, c4, by omega, by go_num, by rw [Hl.out, List.length_append, lay_len]; rfl, by rw [Hl.out]; exact hO4.nums, HFs.out ⟨by omega, by omega, by omega, by show nj < 256 ^ 5; omega⟩, hBq.trans (hB4.mono hBq.size)⟩
                     case measure => simp [intOf]; omega)
              · go_wp2_with fail
                go_quiet (fail)
                have hNq := hNb.drewN nq
                have hBq := below_drewN hB nq
                have cNq : (wr.drewN nq).cell? ⟨b, off + j * 2 + 1, none⟩ = some (.int .i64 nj) := cN
                obtain ⟨Vq, hVq⟩ : ∃ V, V = wr.drewN nq := ⟨_, rfl⟩
                rw [← hVq] at hNq hBq cNq ⊢
                clear hVq hNb hB cD cN
                go_wp2_with (first
                  | (go_at_call 11; refine (put_any _ A' _ _ bs rfl hNq (by omega) nj 6 gN 6 rfl).mono ?_; rintro e w4 ⟨A4, c4, rfl, hO4, hB4⟩)
                  )
                all_goals first
                  | (go_ret; exact ⟨rfl, hBq⟩)
                  | (go_roundw
                     case rel => exact ⟨j + 1, A4, c4, by omega, by go_num, by rw [Hl.out, List.length_append, lay_len]; rfl, by rw [Hl.out]; exact hO4.nums, HFs.out ⟨by omega, by omega, by omega, by show nj < 256 ^ 6; omega⟩, hBq.trans (hB4.mono hBq.size)⟩
                     case measure => simp [intOf]; omega)
              · go_wp2_with fail
                go_quiet (fail)
                have hNq := hNb.drewN nq
                have hBq := below_drewN hB nq
                have cNq : (wr.drewN nq).cell? ⟨b, off + j * 2 + 1, none⟩ = some (.int .i64 nj) := cN
                obtain ⟨Vq, hVq⟩ : ∃ V, V = wr.drewN nq := ⟨_, rfl⟩
                rw [← hVq] at hNq hBq cNq ⊢
                clear hVq hNb hB cD cN
                go_wp2_with (first
                  | (go_at_call 11; refine (put_any _ A' _ _ bs rfl hNq (by omega) nj 7 gN 7 rfl).mono ?_; rintro e w4 ⟨A4, c4, rfl, hO4, hB4⟩)
                  )
                all_goals first
                  | (go_ret; exact ⟨rfl, hBq⟩)
                  | (go_roundw
                     case rel => exact ⟨j + 1, A4, c4, by omega, by go_num, by rw [Hl.out, List.length_append, lay_len]; rfl, by rw [Hl.out]; exact hO4.nums, HFs.out ⟨by omega, by omega, by omega, by show nj < 256 ^ 7; omega⟩, hBq.trans (hB4.mono hBq.size)⟩
                     case measure => simp [intOf]; omega)
      · obtain rfl : j = n := by omega
        have L7 := lays_len D N j HF.out
        have Ht := Lib.hid (lays_tails D N j j (Nat.le_refl _))
        have e0 : lays D N j = tails D N j j := by have := Ht.out; rw [Nat.sub_self] at this; simpa [lays] using this.symm
        rw [e0] at hNb L7 ⊢
        go_wp2_with fail
        refine (open_any _ _ _ _ (tails D N j j) rfl hNb (by omega)).mono ?_
        rintro e w2 ⟨g, A2, c2, rfl, hg, h2, hN2, hA2, hc2, hc2', hB2⟩
        have hg' := Nat.le_trans hB.size hg
        have B2 := hB.trans (hB2.mono hB.size)
        clear hNb hB hB2 hg e0
        go_wp2_with fail
        go_loopw [9] (fun i wr => ∃ (m : Nat) (A3 : Option Addr) (c3 : Nat), m ≤ j ∧ i = .int .i64 m ∧ RdAt wr g A3 (tails D N j (j - m)).length c3 false ∧ Nums .u8 wr A3 (tails D N j (j - m)) ∧ (tails D N j (j - m)).length ≤ c3 ∧ c3 ≤ 9223372036854775807 ∧ (∀ a, A3 = some a → a.block ≠ g) ∧ Below w.heap.size w wr) (fun i _ => j - (intOf i).toNat)
        case atStart => exact ⟨0, A2, c2, Nat.zero_le _, rfl, h2, hN2, hc2, hc2', hA2, B2⟩
        case round =>
          obtain ⟨m, A3, c3, hm2, rfl, hR, hN3, hc3, hc3', hA3, hB3⟩ := hrel
          clear h2 hN2 hA2 B2
          by_cases hmj : m < j
          · rcases HP.out with h0 | ⟨b, off, rfl, hlt, hc⟩
            · omega
            obtain ⟨g0, g1, gN⟩ := hc m hmj
            have cD := (hB3.cell (p := ⟨b, off + m * 2, none⟩) hlt).trans g0
            have cN := (hB3.cell (p := ⟨b, off + m * 2 + 1, none⟩) hlt).trans g1
            obtain ⟨f1, f2, f3, f4⟩ := HF.out m hmj
            obtain ⟨t, ht1, ht2⟩ : ∃ t, j - m = t + 1 ∧ j - (t + 1) = m := ⟨j - m - 1, by omega, by omega⟩
            have htt : j - (m + 1) = t := by omega
            have htl : tails D N j (t + 1) = lay (N m) (D m).toNat ++ tails D N j t := by
              show lay (N (j - (t + 1))) (D (j - (t + 1))).toNat ++ _ = _
              rw [ht2]
            have hby := tails_byte D N j (t + 1)
            have hL := tails_len D N j (t + 1) HF.out (by omega)
            rw [ht1, htl] at hR hN3 hc3
            rw [htl] at hby hL
            have Htt := Lib.hid htt
            generalize hrest : tails D N j t = rest at hR hN3 hc3 hby hL htl
            have HRest := Lib.hid hrest
            clear hrest
            obtain ⟨k, hk⟩ : ∃ k : Nat, D m = k := ⟨(D m).toNat, by omega⟩
            rw [hk] at cD f1 f2 f4 hR hN3 hc3 hby hL htl
            rw [Int.toNat_natCast] at f4 hR hN3 hc3 hby hL htl
            generalize N m = nm at cN f3 f4 hR hN3 hc3 hby hL htl
            have hv : be ((lay nm k ++ rest).take k) = nm := by
              rw [List.take_append_of_le_length (by rw [lay_len]; exact Nat.le_refl _), List.take_of_length_le (by rw [lay_len]; exact Nat.le_refl _), be_lay, Int.emod_eq_of_lt f3 f4]
            have hdr : (lay nm k ++ rest).drop k = rest := by
              rw [List.drop_append_of_le_length (by rw [lay_len]; exact Nat.le_refl _), List.drop_of_length_le (by rw [lay_len]; exact Nat.le_refl _), List.nil_append]
            have hlen : (lay nm k ++ rest).length = k + rest.length := by rw [List.length_append, lay_len]
            rw [hlen] at hR hc3 hL
            have tj : t + 1 ≤ j := by omega
            have k1 : 1 ≤ k := by omega
            have k7 : k ≤ 7 := by omega
            have Hv := Lib.hid hv
            have Hdr := Lib.hid hdr
            have Hlen := Lib.hid hlen
            have Hby := Lib.hid hby
            have Hs := Lib.hid (show min (max (k : Int) 1) 7 = (k : Int) by omega)
            have HA3 := Lib.hid hA3
            have HN3 := Lib.hid hN3
            have HRd := Lib.hid htl
            have q1 : (m : Int) < (j : Int) := by omega
            have q0 : (0 : Int) ≤ (m : Int) := by omega
            have hbg : b ≠ g := by omega
            have hbw : b < wr.heap.size := Nat.lt_of_lt_of_le hlt hB3.size
            clear hv hdr hlen hby hA3 hN3 htl ht1 ht2 htt g0 g1 hc hk f3 f4 gN
            go_wp2_with fail
            go_region_held3 (fun W => W.cell? ⟨b, off + m * 2, none⟩ = some (.int .i64 (k : Int)) ∧ W.cell? ⟨b, off + m * 2 + 1, none⟩ = some (.int .i64 nm))
              (first | exact ⟨cD, cN⟩ | exact ⟨cD4, cN4⟩ | go_keep)
              (first
              | (go_at_call 19; refine (done_not (n := k + rest.length) (A := A3) (c := c3) ?_ (by omega)).mono ?_; exact hR; rintro e w' ⟨rfl, rfl⟩)
              | (go_at_call 13; refine (num_to (A := A3) (n := k + rest.length) (c := c3) (k := k) Hv.out ?_ Hlen.out ?_ Hby.out hc3 hc3' HA3.out Hs.out (by omega) (by omega)).mono ?_; exact hR; exact HN3.out; rintro e w4 ⟨A4, c4, rfl, h4, hN4, hc4, hc4', hA4, hbut, hbel⟩; have cN4 : w4.cell? ⟨b, off + m * 2 + 1, none⟩ = some (.int .i64 nm) := (cell_but hbut hbw hbg).trans cN; have cD4 : w4.cell? ⟨b, off + m * 2, none⟩ = some (.int .i64 (k : Int)) := (cell_but hbut hbw hbg).trans cD))
            all_goals
              go_wp2
              go_roundw
              case rel => exact ⟨m + 1, A4, c4, by omega, by go_num, by rw [Htt.out, HRest.out]; have e := (show k + rest.length - k = rest.length by omega); rw [e] at h4; exact h4, by rw [Htt.out, HRest.out, ← Hdr.out]; exact hN4, by rw [Htt.out, HRest.out]; omega, hc4', hA4, hbel _ _ hg' (below_drewN hB3 1)⟩
              case measure => simp [intOf]; omega
          · obtain rfl : m = j := by omega
            have hR0 : RdAt wr g A3 0 c3 false := by rw [Nat.sub_self] at hR; exact hR
            clear hR hN3 hc3
            go_wp2_with (first
              | (go_at_call 19; refine (done_any hR0).mono ?_; rintro e w' ⟨rfl, rfl⟩)
              | (go_at_call 17; refine (left_any hR0).mono ?_; rintro e w' ⟨rfl, rfl⟩)
              )
            go_ret
            exact ⟨rfl, hB3⟩

theorem own : ownKnob Try.prog.godebug = none := by kernel_rfl
theorem laid : laidOutB Try.prog = true := by kernel_rfl

set_option maxRecDepth 100000 in
theorem lifted (os : Os) (started : os.Started) (H : Type) (enc : TypeId × Value → H) :
    ReturnsInHanded {} Try.checked os 4 .any (Rows.fieldBackSpec.pre6 enc Try.prog Try.f4 Rows.fieldBackRow.domain false) (Rows.fieldBackSpec.post enc Try.prog Try.f4 false true false false) := by
  refine law_lifted (C := Try.checked) (B := 4) own started (by kernel_rfl) Try.func4
    (ChangeSpec.witness6 (enc := enc) (C := Try.checked) false ⟨#[], #[.slice none 0 0], []⟩ 8 (by kernel_rfl) (by kernel_rfl) (by kernel_rfl) (by kernel_rfl))
    rfl rfl Try.underlying4 laid (of_decide_eq_true (by kernel_rfl)) ?_ ?_
  · intro ds hl
    rw [Try.params4] at hl
    match ds, hl with
    | [d0], _ => rfl
  · intro W base args ds ps hval hA hlt hz
    rw [Try.params4] at hA hval
    obtain ⟨v0, vs0, d0, ds0, p0, q0, hargs, rfl, rfl, h0, r0⟩ := trodAll_cons hA
    obtain ⟨rfl, rfl, rfl⟩ := trodAll_nil r0
    obtain rfl : args = #[v0] := by cases args; simp_all
    obtain ⟨A0, n0, cap0, D0, N0, rfl, hl0, hm0, hP0⟩ := open_acts (hval 0 23 v0 rfl rfl) h0
    exact walk W A0 n0 cap0 D0 N0 hl0 hm0 hP0

theorem over : Rows.fieldBackRow.holds Try.pinned (OpenSpec.ofChange Rows.fieldBackSpec) :=
  OpenClaim.holds_of_wide 4 Try.f4 rfl rfl rfl rfl rfl rfl rfl ⟨rfl, rfl, rfl, rfl, rfl⟩ rfl rfl rfl rfl rfl (by kernel_rfl) Try.func4 (by kernel_rfl)
    (of_decide_eq_true (by kernel_rfl)) (by unfold Func.isWrapper; first | (rw [if_pos (by decide +kernel)]; kernel_rfl) | (rw [if_neg (by decide +kernel)]; exact ⟨rfl, rfl⟩))
    (fun os started H enc _ => lifted os started H enc)

theorem proved : Rows.FieldBackSaid := over
#print axioms proved
end Go.Proofs.Ytjfihfhklecciaa.fieldBack
