/- What the functions of package field come to, one contract each: numbers as bytes, and a reader, whose block is known whole. -/
import Derived.Test.YtjfihfhklecciaaRows
import Derived.Test.YtjfihfhklecciaaMem4
import Derived.Test.YtjfihfhklecciaaFieldMath
import Derived.WalkKit
import Derived.ProofKit
import Derived.OpenShut
import Derived.Outline
import Derived.Lib.Hide
import Derived.Test.YtjfihfhklecciaaTail
namespace Go.Proofs.Ytjfihfhklecciaa
open Go.ChangeShapes Go.WideShapes Go.ChangeAt Go.RowKit

theorem info8 : (Try.prog.info? 5).map (fun i => (i.zero, i.size, i.bytes)) = some (some (.int .u8 0), 1, 1) := by kernel_rfl
abbrev rdT : TypeId := 42
/-- A reader in block g: what is left of it, whether it failed. -/
def RdAt (w : World) (g : Nat) (A : Option Addr) (n c : Nat) (f : Bool) : Prop := w.heap[g]? = some (.cells #[.slice A n c, .bool f] rdT)

theorem clone_any (w : World) (A : Option Addr) (n c : Nat) (bs : List Int) (hn : bs.length = n) (hN : Nums .u8 w A bs) (hlen : n ≤ 1000000) :
    Calls Try.prog 21 #[.slice A n c] w fun e w' => ∃ A' c', e = .returned (.slice A' n c') ∧ OwnN .u8 5 w.heap.size w' A' c' bs ∧ Below w.heap.size w w' := by
  obtain ⟨i0, hi, hz0, hz1, hz2⟩ := info_parts info8
  have HI := Lib.hid (And.intro hi (And.intro hz0 (And.intro hz1 hz2)))
  clear hi hz0 hz1 hz2
  have Hn := Lib.hid hn
  have HN := Lib.hid hN
  clear hn hN
  cases A with
  | none =>
    obtain rfl : bs = [] := by
      rcases HN.out with h | ⟨b, off, h, _⟩
      · exact h
      · cases h
    obtain rfl : n = 0 := by have := Hn.out; simpa using this.symm
    have hq : (binOp .eql 22 (.slice none 0 c) (.slice none 0 0)).run Try.prog w = .ok (.bool true) w := by kernel_rfl
    go_enter Try.func21, Try.ntmps21
    go_wp2
    go_ret
    exact ⟨none, 0, rfl, OwnN.nil (Nat.le_refl _), Below.refl _ _⟩
  | some a =>
    have hq : (binOp .eql 22 (.slice (some a) n c) (.slice none 0 0)).run Try.prog w = .ok (.bool false) w := by kernel_rfl
    go_enter Try.func21, Try.ntmps21
    go_wp2_with (first
      | (at_builtin; refine wpList_append_row rfl _ _ 22 rfl i0 1 Try.underlying22 HI.out.1 HI.out.2.1 HI.out.2.2.1 HI.out.2.2.2 (by decide) 0 rfl rfl (OwnN.empty (base := w.heap.size) (Nat.le_refl _)) a n _ bs rfl Hn.out (HN.out.alloc _) (by simp <;> omega) w.heap.size w (Nat.le_refl _) ((Below.refl _ _).alloc (Nat.le_refl _) _) ?_; intro A4 c4 w4 hO4 hB4)
      )
    go_ret
    exact ⟨A4, c4, by simp, by simpa using hO4, hB4⟩

theorem bounded_any (s : Int) (w : World) :
    Calls Try.prog 22 #[.int .i64 s] w fun e w' => e = .returned (.int .i64 (min (max s 1) 7)) ∧ w = w' := by
  go_enter Try.func22, Try.ntmps22
  go_wp2
  all_goals (go_ret; exact ⟨ret_int (by omega), rfl⟩)

theorem open_b (w : World) (A : Option Addr) (n c : Nat) (bs : List Int) (hn : bs.length = n) (hN : Nums .u8 w A bs) (hlen : n ≤ 1000000) :
    Calls Try.prog 9 #[.slice A n c] w fun e w' => ∃ g A' c', e = .returned (.pointer (some ⟨g, 0, none⟩)) ∧ w.heap.size ≤ g ∧ RdAt w' g A' n c' false ∧ Nums .u8 w' A' bs ∧ (∀ a, A' = some a → a.block ≠ g) ∧ n ≤ c' ∧ c' ≤ 9223372036854775807 ∧ Below w.heap.size w w' ∧ (∀ a, A' = some a → w.heap.size ≤ a.block) := by
  have z0 : ∀ W, (zeroValue rdT).run Try.prog W = .ok (.agg #[.slice none 0 0, .bool false]) W := fun W => by kernel_rfl
  go_enter Try.func9, Try.ntmps9
  go_wp2_with (first
    | (go_at_call 21; refine (clone_any _ A n c bs hn hN hlen).mono ?_; rintro e w1 ⟨A1, c1, rfl, hO1, hB1⟩)
    )
  go_ret
  refine ⟨w1.heap.size, A1, c1, rfl, hB1.size, (MapKept.heap_alloc _ _).1, hO1.nums.alloc _, fun a h => ?_, by have := hO1.len.1; omega, by have := hO1.len.2; unfold maxLen at this; omega, hB1.alloc hB1.size _, fun a h => (hO1.block' h).1⟩
  have h1 := hO1.block' h
  omega

theorem open_any (w : World) (A : Option Addr) (n c : Nat) (bs : List Int) (hn : bs.length = n) (hN : Nums .u8 w A bs) (hlen : n ≤ 1000000) :
    Calls Try.prog 9 #[.slice A n c] w fun e w' => ∃ g A' c', e = .returned (.pointer (some ⟨g, 0, none⟩)) ∧ w.heap.size ≤ g ∧ RdAt w' g A' n c' false ∧ Nums .u8 w' A' bs ∧ (∀ a, A' = some a → a.block ≠ g) ∧ n ≤ c' ∧ c' ≤ 9223372036854775807 ∧ Below w.heap.size w w' :=
  (open_b w A n c bs hn hN hlen).mono fun _ _ ⟨g, A', c', h1, h2, h3, h4, h5, h6, h7, h8, _⟩ => ⟨g, A', c', h1, h2, h3, h4, h5, h6, h7, h8⟩

theorem left_any {w : World} {g : Nat} {A : Option Addr} {n c : Nat} {f : Bool} (h : RdAt w g A n c f) :
    Calls Try.prog 17 #[.pointer (some ⟨g, 0, none⟩)] w fun e w' => e = .returned (.int .i64 n) ∧ w = w' := by
  have K := row_cells h
  clear h
  go_enter Try.func17, Try.ntmps17
  go_wp2
  go_ret
  exact ⟨rfl, rfl⟩

theorem done_any {w : World} {g : Nat} {A : Option Addr} {n c : Nat} {f : Bool} (h : RdAt w g A n c f) :
    Calls Try.prog 19 #[.pointer (some ⟨g, 0, none⟩)] w fun e w' => e = .returned (.bool (!f && decide (n = 0))) ∧ w = w' := by
  have K := row_cells h
  clear h
  go_enter Try.func19, Try.ntmps19
  go_wp2
  all_goals (go_ret; exact ⟨ret_bool (by cases f <;> simp_all <;> (rw [Bool.eq_iff_iff]; simp)), rfl⟩)

set_option maxHeartbeats 1000000 in
theorem take_bad {w : World} {g : Nat} {A : Option Addr} {n c : Nat} {f : Bool} (h : RdAt w g A n c f) (k : Int) (hk : f = true ∨ k < 0 ∨ (n : Int) < k) :
    Calls Try.prog 15 #[.pointer (some ⟨g, 0, none⟩), .int .i64 k] w fun e w' => e = .returned (.slice none 0 0) ∧ RdAt w' g none 0 0 true ∧ But g w w' ∧ w' = setRow w g rdT #[.slice none 0 0, .bool true] := by
  have hk' : f = true ∨ (f = false ∧ k < 0) ∨ (f = false ∧ 0 ≤ k ∧ (n : Int) < k) := by
    cases f <;> simp at hk ⊢
    omega
  obtain ⟨s0, s1, c0, c1, f0, f1, z1⟩ := rows1 h
  rcases hk' with rfl | ⟨rfl, hk⟩ | ⟨rfl, hk1, hk⟩
  all_goals
    go_enter Try.func15, Try.ntmps15
    go_wp2
    all_goals (go_ret; exact ⟨rfl, row_written h, But.set, rfl⟩)

set_option maxHeartbeats 1000000 in
theorem take_ok {w : World} {g : Nat} {A : Option Addr} {n c : Nat} (h : RdAt w g A n c false) (bs : List Int) (hn : bs.length = n) (hN : Nums .u8 w A bs) (hnc : n ≤ c) (hc : c ≤ 9223372036854775807) (hA : ∀ a, A = some a → a.block ≠ g) (k : Nat) (hk : k ≤ n) (hlen : n ≤ 1000000) :
    Calls Try.prog 15 #[.pointer (some ⟨g, 0, none⟩), .int .i64 k] w fun e w' => ∃ A' c' A2 c2, e = .returned (.slice A' k c') ∧ OwnN .u8 5 w.heap.size w' A' c' (bs.take k) ∧ RdAt w' g A2 (n - k) c2 false ∧ Nums .u8 w' A2 (bs.drop k) ∧ n - k ≤ c2 ∧ c2 ≤ 9223372036854775807 ∧ (∀ a, A2 = some a → a.block ≠ g) ∧ But g w w' ∧ (∀ B w0, B ≤ g → Below B w0 w → Below B w0 w') := by
  have HA := Lib.hid hA
  have HN := Lib.hid hN
  have Hn := Lib.hid hn
  have K := row_cells h
  have hg := row_lt h
  have TK := Lib.hid (show (bs.take k).length = k by rw [List.length_take, hn]; omega)
  have ND := Lib.hid (Nums.drop hN k c (by omega) (by omega))
  clear hA hN hn
  by_cases hck : c = k
  · subst hck
    obtain rfl : n = c := by omega
    go_enter Try.func15, Try.ntmps15
    go_wp2_with (first
      | (go_at_call 21; refine (clone_any _ A _ _ (bs.take n) TK.out (HN.out.take n) (by omega)).mono ?_; rintro e w1 ⟨A1, c1, rfl, hO1, hB1⟩; have h1 := row_kept h hB1 hg; obtain ⟨s0, s1, c0, d1, f0, f1, z1⟩ := rows1 h1)
      )
    go_ret
    have nd : Nums .u8 w A (bs.drop n) := by have := ND.out; simpa using this
    exact ⟨A1, c1, A, 0, rfl, hO1.setRow hg, by rw [Nat.sub_self]; exact row_written h1, But.set.nums (nd.below hB1) HA.out, by omega, by omega, HA.out, (But.of_below hB1).trans But.set, fun B w0 hB hb => setRow_below (hb.trans (hB1.mono (by omega))) hB⟩
  · go_enter Try.func15, Try.ntmps15
    go_wp2_with (first
      | (go_at_call 21; refine (clone_any _ A k c (bs.take k) TK.out (HN.out.take k) (by omega)).mono ?_; rintro e w1 ⟨A1, c1, rfl, hO1, hB1⟩; have h1 := row_kept h hB1 hg; obtain ⟨s0, s1, c0, d1, f0, f1, z1⟩ := rows1 h1)
      )
    go_ret
    have nd := ND.out
    rw [if_neg hck] at nd
    have hA2 : ∀ a, Option.map (fun x => x.add k) A = some a → a.block ≠ g := by
      intro a ha
      obtain ⟨a0, h0, rfl⟩ := Option.map_eq_some_iff.1 ha
      have := HA.out a0 h0
      have e : (a0.add k).block = a0.block := by unfold Addr.add; split <;> rfl
      rw [e]; exact this
    exact ⟨A1, c1, _, _, rfl, hO1.setRow hg, row_written h1, But.set.nums (nd.below hB1) hA2, by omega, by omega, hA2, (But.of_below hB1).trans But.set, fun B w0 hB hb => setRow_below (hb.trans (hB1.mono (by omega))) hB⟩

set_option maxHeartbeats 1000000 in
theorem num_bad {w : World} {g : Nat} {A : Option Addr} {n c : Nat} {f : Bool} (h : RdAt w g A n c f) (s : Int) (hk : f = true ∨ (n : Int) < min (max s 1) 7) :
    Calls Try.prog 13 #[.pointer (some ⟨g, 0, none⟩), .int .i64 s] w fun e w' => e = .returned (.int .i64 0) ∧ RdAt w' g none 0 0 true ∧ w' = setRow w g rdT #[.slice none 0 0, .bool true] := by
  obtain ⟨z, hz⟩ : ∃ z, min (max s 1) 7 = z := ⟨_, rfl⟩
  have hk' : f = true ∨ z < 0 ∨ (n : Int) < z := by rw [← hz]; rcases hk with h | h <;> simp_all
  have Hz := Lib.hid hz
  clear hz hk
  go_enter Try.func13, Try.ntmps13
  go_wp2_with (first
    | (go_at_call 22; refine (bounded_any _ _).mono ?_; rintro e w' ⟨rfl, rfl⟩; rw [Hz.out])
    | (go_at_call 15; refine (take_bad h z hk').mono ?_; rintro e w1 ⟨rfl, h1, -, hw1⟩; have HW := Lib.hid hw1; clear hw1)
    )
  go_loop [5, 13] (fun a i => a = .int .i64 0 ∧ i = .int .i64 0) (fun _ _ => 0)
  case atStart => exact ⟨rfl, rfl⟩
  case round =>
    obtain ⟨rfl, rfl⟩ := hrel
    go_wp2
    go_ret
    exact ⟨rfl, h1, HW.out⟩

set_option maxHeartbeats 1000000 in
theorem num_ok {w : World} {g : Nat} {A : Option Addr} {n c : Nat} (h : RdAt w g A n c false) (bs : List Int) (hn : bs.length = n) (hN : Nums .u8 w A bs) (hb : ∀ x ∈ bs, 0 ≤ x ∧ x ≤ 255) (hnc : n ≤ c) (hc : c ≤ 9223372036854775807) (hA : ∀ a, A = some a → a.block ≠ g) (s : Int) (k : Nat) (hs : min (max s 1) 7 = (k : Int)) (hk : k ≤ n) (hlen : n ≤ 1000000) :
    Calls Try.prog 13 #[.pointer (some ⟨g, 0, none⟩), .int .i64 s] w fun e w' => ∃ A2 c2, e = .returned (.int .i64 (be (bs.take k))) ∧ RdAt w' g A2 (n - k) c2 false ∧ Nums .u8 w' A2 (bs.drop k) ∧ n - k ≤ c2 ∧ c2 ≤ 9223372036854775807 ∧ (∀ a, A2 = some a → a.block ≠ g) ∧ But g w w' ∧ (∀ B w0, B ≤ g → Below B w0 w → Below B w0 w') := by
  have Hs := Lib.hid hs
  have TK := Lib.hid (show (bs.take k).length = k by rw [List.length_take, hn]; omega)
  have HB := Lib.hid hb
  have k7 : k ≤ 7 := by omega
  clear hs hb
  go_enter Try.func13, Try.ntmps13
  go_wp2_with (first
    | (go_at_call 22; refine (bounded_any _ _).mono ?_; rintro e w' ⟨rfl, rfl⟩; rw [Hs.out])
    | (go_at_call 15; refine (take_ok h bs hn hN hnc hc hA k hk hlen).mono ?_; rintro e w1 ⟨A1, c1, A2, c2, rfl, hO1, h1, hN2, hc1, hc2, hA2, hbut, hbel⟩)
    )
  go_loop [5, 13] (fun a i => ∃ j : Nat, j ≤ k ∧ i = .int .i64 j ∧ a = .int .i64 (be (bs.take j))) (fun _ i => k - (intOf i).toNat)
  case atStart => exact ⟨0, Nat.zero_le _, rfl, rfl⟩
  case round =>
    obtain ⟨j, hj, rfl, rfl⟩ := hrel
    by_cases hjk : j < k
    · rcases hO1.nums with h0 | ⟨b, off, rfl, hlt, hcl⟩
      · have := TK.out; rw [h0] at this; simp at this; omega
      have hcell := hcl j (by rw [TK.out]; exact hjk)
      have hjb : j < bs.length := by rw [hn]; omega
      have eTk : bs.take (j + 1) = bs.take j ++ [(bs.take k).getD j 0] := by
        rw [List.take_succ_eq_append_getElem hjb]
        simp [List.getD, hjk, hjb]
      have hzb : 0 ≤ (bs.take k).getD j 0 ∧ (bs.take k).getD j 0 ≤ 255 := HB.out _ (by
        have : (bs.take k).getD j 0 = bs[j] := by simp [List.getD, hjk, hjb]
        rw [this]; exact List.getElem_mem _)
      generalize (bs.take k).getD j 0 = z at hcell eTk hzb
      obtain ⟨a0, a1⟩ := be_bd j (bs.take j) (by rw [List.length_take]; omega) (fun x hx => HB.out x (List.mem_of_mem_take hx))
      have a2 := pow_le (j := j) (by omega)
      have a3 : be (bs.take j) < 281474976710656 := Int.lt_of_lt_of_le a1 a2
      have ebe : be (bs.take (j + 1)) = 256 * be (bs.take j) + z := by rw [eTk, be_snoc]
      have Hor := Lib.hid (or_step (be (bs.take j)) z a0 a3 hzb.1 hzb.2)
      have Hbe := Lib.hid ebe
      generalize be (bs.take j) = acc at a0 a3 Hor Hbe
      obtain ⟨z0, z1⟩ := hzb
      clear a1 a2 eTk ebe hcl hlt
      go_wp2
      go_round
      case rel => exact ⟨j + 1, by omega, by go_num, by rw [Hbe.out, ← Hor.out]⟩
      case measure => simp [intOf]; omega
    · obtain rfl : j = k := by omega
      go_wp2
      go_ret
      first | exact ⟨A2, c2, rfl, h1, hN2, by omega, hc2, hA2, hbut, hbel⟩ | exact ⟨rfl, A2, c2, h1, hN2, by omega, hc2, hA2, hbut, hbel⟩

set_option maxHeartbeats 2000000 in
theorem put_any (w : World) (A : Option Addr) (n c : Nat) (bs : List Int) (hn : bs.length = n) (hN : Nums .u8 w A bs) (hlen : n ≤ 1000000) (x s : Int) (wx : -9223372036854775808 ≤ x ∧ x ≤ 9223372036854775807) (k : Nat) (hk : min (max s 1) 7 = (k : Int)) :
    Calls Try.prog 11 #[.slice A n c, .int .i64 x, .int .i64 s] w fun e w' => ∃ A' c', e = .returned (.slice A' (n + k) c') ∧ OwnN .u8 5 w.heap.size w' A' c' (bs ++ lay x k) ∧ Below w.heap.size w w' := by
  obtain ⟨i0, hi, hz0, hz1, hz2⟩ := info_parts info8
  have HI := Lib.hid (And.intro hi (And.intro hz0 (And.intro hz1 hz2)))
  clear hi hz0 hz1 hz2
  have Hk := Lib.hid hk
  have k1 : 1 ≤ k := by omega
  have k7 : k ≤ 7 := by omega
  clear hk
  go_enter Try.func11, Try.ntmps11
  go_wp2_with (first
    | (go_at_call 21; refine (clone_any _ A n c bs hn hN hlen).mono ?_; rintro e w1 ⟨A1, c1, rfl, hO1, hB1⟩)
    | (go_at_call 22; refine (bounded_any _ _).mono ?_; rintro e w' ⟨rfl, rfl⟩; rw [Hk.out])
    )
  have HO1 := Lib.hid hO1
  clear hO1 hN
  go_loopw [7, 8] (fun v i wr => ∃ (j : Nat) (A' : Option Addr) (c' : Nat), j ≤ k ∧ i = .int .i64 ((k : Int) - 1 - j) ∧ v = .slice A' (n + j) c' ∧ OwnN .u8 5 w.heap.size wr A' c' (bs ++ (lay x k).take j) ∧ Below w.heap.size w wr) (fun _ i _ => (intOf i + 1).toNat)
  case atStart => exact ⟨0, A1, c1, Nat.zero_le _, by simp, rfl, by simpa using HO1.out, hB1⟩
  case round =>
    obtain ⟨j, A', c', hj, rfl, rfl, hO, hB⟩ := hrel
    have HO := Lib.hid hO
    clear hO hB1
    by_cases hjk : j < k
    · obtain ⟨t, ht⟩ : ∃ t : Nat, (k : Int) - 1 - j = t := ⟨k - 1 - j, by omega⟩
      rw [ht]
      have Ht := Lib.hid ht
      have htk : t = 0 ∨ t = 1 ∨ t = 2 ∨ t = 3 ∨ t = 4 ∨ t = 5 ∨ t = 6 := by omega
      have Hl := Lib.hid (lay_snoc x k j t hjk ht)
      clear ht
      rcases htk with rfl | rfl | rfl | rfl | rfl | rfl | rfl
      all_goals
        have Hlen := Lib.hid (show (bs ++ (lay x k).take j).length = n + j by rw [List.length_append, List.length_take, lay_len, hn]; omega)
        go_wp2_with (first
          | (at_builtin; refine wpList_append_num rfl _ _ 22 rfl i0 1 Try.underlying22 HI.out.1 HI.out.2.1 HI.out.2.2.1 HI.out.2.2.2 (by decide) _ Hlen.out rfl (HO.out.alloc _) ⟨wr.heap.size, 0, none⟩ _ _ rfl (alloc_cell0 _ _ _ _ rfl) (by rw [Hlen.out]; omega) w.heap.size w (Nat.le_refl _) (hB.alloc hB.size _) ?_; intro A2 c2 w2 hO2 hb2)
          )
        go_roundw
        case rel => exact ⟨j + 1, A2, c2, by omega, by have := Ht.out; refine congrArg _ ?_; omega, rfl, by rw [Hl.out, ← List.append_assoc]; simpa [byt] using hO2, hb2⟩
        case measure => simp [intOf]
    · obtain rfl : j = k := by omega
      have e : (lay x j).take j = lay x j := List.take_of_length_le (by rw [lay_len]; exact Nat.le_refl _)
      have HE := Lib.hid e
      clear e
      go_wp2
      go_ret
      exact ⟨A', c', rfl, by have := HO.out; rwa [HE.out] at this, hB⟩
end Go.Proofs.Ytjfihfhklecciaa
