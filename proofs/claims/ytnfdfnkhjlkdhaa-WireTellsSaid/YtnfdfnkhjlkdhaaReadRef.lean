/- A reader with what is left of it as a list, by the document's own. -/
import Derived.Test.YtnfdfnkhjlkdhaaRead
import Derived.Test.YtnfdfnkhjlkdhaaPutRef
namespace Go.Proofs.Ytnfdfnkhjlkdhaa.ref04
open Go.ChangeShapes Go.WideShapes Go.ChangeAt Go.RowKit
abbrev rdT : TypeId := 75
def RdAt (w : World) (g : Nat) (A : Option Addr) (n c : Nat) (f : Bool) : Prop := w.heap[g]? = some (.cells #[.slice A n c, .bool f] rdT)
theorem open_b (w : World) (A : Option Addr) (n c : Nat) (bs : List Int) (hn : bs.length = n) (hN : Nums .u8 w A bs) (hlen : n ≤ 1000000) :
    Calls Try.prog 29 #[.slice A n c] w fun e w' => ∃ g A' c', e = .returned (.pointer (some ⟨g, 0, none⟩)) ∧ w.heap.size ≤ g ∧ RdAt w' g A' n c' false ∧ Nums .u8 w' A' bs ∧ (∀ a, A' = some a → a.block ≠ g) ∧ n ≤ c' ∧ c' ≤ 9223372036854775807 ∧ Below w.heap.size w w' ∧ (∀ a, A' = some a → w.heap.size ≤ a.block ∧ a.block < w'.heap.size) := by
  obtain ⟨i0, hi, hz0, hz1, hz2⟩ := info_parts info8
  have HI := Lib.hid (And.intro hi (And.intro hz0 (And.intro hz1 hz2)))
  clear hi hz0 hz1 hz2
  have z0 : ∀ W, (zeroValue rdT).run Try.prog W = .ok (.agg #[.slice none 0 0, .bool false]) W := fun W => by kernel_rfl
  have Hn := Lib.hid hn
  have HN := Lib.hid hN
  clear hn hN
  cases A with
  | none =>
    obtain rfl : bs = [] := by
      rcases HN.out with h | ⟨b, off, h, _⟩
      · exact h
      · cases h
    obtain rfl : n = 0 := by have := Hn.out; simpa using this.symm
    go_enter Try.func29, Try.ntmps29
    go_wp2
    go_ret
    refine ⟨w.heap.size + 1, some ⟨w.heap.size, 0, none⟩, 0, rfl, ?_, by have := (MapKept.heap_alloc (w.alloc (.cells #[] 5)) (.cells #[.slice (some ⟨w.heap.size, 0, none⟩) 0 0, .bool false] rdT)).1; simpa [RdAt] using this, Nums.nil, ?_, Nat.le_refl _, by decide, ((Below.refl _ _).alloc (Nat.le_refl _) _).alloc (by simp) _, ?_⟩
    · simp
    · intro a h; injection h with h; subst h; simp
    · intro a h; injection h with h; subst h; constructor <;> simp <;> omega
  | some a =>
    go_enter Try.func29, Try.ntmps29
    go_wp2_with (first
      | (at_builtin; refine wpList_append_row rfl _ _ 26 rfl i0 1 Try.underlying26 HI.out.1 HI.out.2.1 HI.out.2.2.1 HI.out.2.2.2 (by decide) 0 rfl rfl (OwnN.empty (base := w.heap.size) (Nat.le_refl _)) a n _ bs rfl Hn.out (HN.out.alloc _) (by simp <;> omega) w.heap.size w (Nat.le_refl _) ((Below.refl _ _).alloc (Nat.le_refl _) _) ?_; intro A1 c1 w1 hO1 hB1)
      )
    go_ret
    refine ⟨w1.heap.size, A1, c1, rfl, hB1.size, by have := (MapKept.heap_alloc w1 (.cells #[.slice A1 n c1, .bool false] rdT)).1; simpa [RdAt] using this, by have := hO1.nums.alloc (.cells #[.slice A1 n c1, .bool false] rdT); simpa using this, fun a h => ?_, by have := hO1.len.1; simp [Hn.out] at this; omega, by have := hO1.len.2; unfold maxLen at this; omega, hB1.alloc hB1.size _, fun a h => ⟨(hO1.block' h).1, by have := (hO1.block' h).2; simp; omega⟩⟩
    have h1 := hO1.block' h
    omega
theorem done_any {w : World} {g : Nat} {A : Option Addr} {n c : Nat} {f : Bool} (h : RdAt w g A n c f) :
    Calls Try.prog 33 #[.pointer (some ⟨g, 0, none⟩)] w fun e w' => e = .returned (.bool (!f && decide (n = 0))) ∧ w = w' := by
  have K := row_cells h
  clear h
  go_enter Try.func33, Try.ntmps33
  go_wp2
  all_goals (go_ret; exact ⟨ret_bool (by cases f <;> simp_all <;> (rw [Bool.eq_iff_iff]; simp)), rfl⟩)
set_option maxHeartbeats 1000000 in
theorem take_bad {w : World} {g : Nat} {A : Option Addr} {n c : Nat} {f : Bool} (h : RdAt w g A n c f) (k : Int) (hk : f = true ∨ k < 0 ∨ (n : Int) < k) :
    Calls Try.prog 31 #[.pointer (some ⟨g, 0, none⟩), .int .i64 k] w fun e w' => e = .returned (.slice none 0 0) ∧ RdAt w' g none 0 0 true ∧ But g w w' ∧ w' = setRow w g rdT #[.slice none 0 0, .bool true] := by
  have hk' : f = true ∨ (f = false ∧ k < 0) ∨ (f = false ∧ 0 ≤ k ∧ (n : Int) < k) := by
    cases f <;> simp at hk ⊢
    omega
  obtain ⟨s0, s1, c0, c1, f0, f1, z1⟩ := rows1 h
  rcases hk' with rfl | ⟨rfl, hk⟩ | ⟨rfl, hk1, hk⟩
  all_goals
    go_enter Try.func31, Try.ntmps31
    go_wp2
    all_goals (go_ret; exact ⟨rfl, row_written h, But.set, rfl⟩)
set_option maxHeartbeats 1000000 in
theorem take_ok {w : World} {g : Nat} {A : Option Addr} {n c : Nat} (h : RdAt w g A n c false) (bs : List Int) (hn : bs.length = n) (hN : Nums .u8 w A bs) (hnc : n ≤ c) (hc : c ≤ 9223372036854775807) (p : Nat → Prop) (hp : ∀ b, p b → b ≠ g) (hA : ∀ a, A = some a → p a.block) (k : Nat) (hk : k ≤ n) (hlen : n ≤ 1000000) :
    Calls Try.prog 31 #[.pointer (some ⟨g, 0, none⟩), .int .i64 k] w fun e w' => ∃ A' c' A2 c2, e = .returned (.slice A' k c') ∧ OwnN .u8 5 w.heap.size w' A' c' (bs.take k) ∧ RdAt w' g A2 (n - k) c2 false ∧ Nums .u8 w' A2 (bs.drop k) ∧ n - k ≤ c2 ∧ c2 ≤ 9223372036854775807 ∧ (∀ a, A2 = some a → p a.block) ∧ But g w w' ∧ (∀ B w0, B ≤ g → Below B w0 w → Below B w0 w') := by
  obtain ⟨i0, hi, hz0, hz1, hz2⟩ := info_parts info8
  have HI := Lib.hid (And.intro hi (And.intro hz0 (And.intro hz1 hz2)))
  clear hi hz0 hz1 hz2
  have HA := Lib.hid hA
  have HN := Lib.hid hN
  have Hn := Lib.hid hn
  have K := row_cells h
  have hg := row_lt h
  have TK := Lib.hid (show (bs.take k).length = k by rw [List.length_take, hn]; omega)
  have ND := Lib.hid (Nums.drop hN k c (by omega) (by omega))
  clear hA hN hn
  have hA2 : ∀ a, Option.map (fun x => x.add k) A = some a → p a.block := by
    intro a ha
    obtain ⟨a0, h0, rfl⟩ := Option.map_eq_some_iff.1 ha
    have := HA.out a0 h0
    have e : (a0.add k).block = a0.block := by unfold Addr.add; split <;> rfl
    rw [e]; exact this
  have h0 : RdAt (w.alloc (.cells #[] 5)) g A n c false := row_kept h ((Below.refl _ _).alloc (Nat.le_refl _) _) hg
  have B0 : Below w.heap.size w (w.alloc (.cells #[] 5)) := (Below.refl _ _).alloc (Nat.le_refl _) _
  have K0 := row_cells h0
  cases A with
  | none =>
    obtain rfl : bs = [] := by
      rcases HN.out with h | ⟨b, off, h, _⟩
      · exact h
      · cases h
    obtain rfl : n = 0 := by have := Hn.out; simpa using this.symm
    obtain rfl : k = 0 := by omega
    obtain ⟨s0, s1, c0, d1, f0, f1, z1⟩ := rows1 h0
    by_cases hck : c = 0
    · subst hck
      go_enter Try.func31, Try.ntmps31
      go_wp2
      go_ret
      exact ⟨some ⟨w.heap.size, 0, none⟩, 0, rfl, (OwnN.empty (Nat.le_refl _)).setRow hg, none, 0, row_written h0, Nums.nil, by omega, (fun _ h => by cases h), (But.of_below B0).trans But.set, fun B w0 hB hb => setRow_below (hb.trans (B0.mono (by omega))) hB⟩
    · go_enter Try.func31, Try.ntmps31
      go_wp2
      go_ret
      exact ⟨some ⟨w.heap.size, 0, none⟩, 0, none, c, rfl, (OwnN.empty (Nat.le_refl _)).setRow hg, row_written h0, Nums.nil, by omega, by omega, (fun _ h => by cases h), (But.of_below B0).trans But.set, fun B w0 hB hb => setRow_below (hb.trans (B0.mono (by omega))) hB⟩
  | some a =>
    by_cases hck : c = k
    · subst hck
      obtain rfl : n = c := by omega
      go_enter Try.func31, Try.ntmps31
      go_wp2_with (first
        | (at_builtin; refine wpList_append_row rfl _ _ 26 rfl i0 1 Try.underlying26 HI.out.1 HI.out.2.1 HI.out.2.2.1 HI.out.2.2.2 (by decide) 0 rfl rfl (OwnN.empty (base := w.heap.size) (Nat.le_refl _)) a n _ (bs.take n) rfl TK.out ((HN.out.take n).alloc _) (by simp <;> omega) w.heap.size w (Nat.le_refl _) ((Below.refl _ _).alloc (Nat.le_refl _) _) ?_; intro A1 c1 w1 hO1 hB1); have h1 := row_kept h hB1 hg; obtain ⟨s0, s1, c0, d1, f0, f1, z1⟩ := rows1 h1
        )
      go_ret
      have nd : Nums .u8 w (some a) (bs.drop n) := by have := ND.out; simpa using this
      exact ⟨A1, c1, rfl, by have := hO1.setRow (t := rdT) (cs := #[.slice (some a) 0 0, .bool false]) hg; simpa using this, some a, 0, row_written h1, But.set.nums (nd.below hB1) (fun a h => hp _ (HA.out a h)), by omega, HA.out, (But.of_below hB1).trans But.set, fun B w0 hB hb => setRow_below (hb.trans (hB1.mono (by omega))) hB⟩
    · go_enter Try.func31, Try.ntmps31
      go_wp2_with (first
        | (at_builtin; refine wpList_append_row rfl _ _ 26 rfl i0 1 Try.underlying26 HI.out.1 HI.out.2.1 HI.out.2.2.1 HI.out.2.2.2 (by decide) 0 rfl rfl (OwnN.empty (base := w.heap.size) (Nat.le_refl _)) a k _ (bs.take k) rfl TK.out ((HN.out.take k).alloc _) (by simp <;> omega) w.heap.size w (Nat.le_refl _) ((Below.refl _ _).alloc (Nat.le_refl _) _) ?_; intro A1 c1 w1 hO1 hB1); have h1 := row_kept h hB1 hg; obtain ⟨s0, s1, c0, d1, f0, f1, z1⟩ := rows1 h1
        )
      go_ret
      have nd := ND.out
      rw [if_neg hck] at nd
      exact ⟨A1, c1, _, _, rfl, by have := hO1.setRow (t := rdT) (cs := #[.slice ((some a).map (fun x => x.add k)) (n - k) (c - k), .bool false]) hg; simpa using this, row_written h1, But.set.nums (nd.below hB1) (fun a h => hp _ (hA2 a h)), by omega, by omega, hA2, (But.of_below hB1).trans But.set, fun B w0 hB hb => setRow_below (hb.trans (hB1.mono (by omega))) hB⟩
set_option maxHeartbeats 1000000 in
theorem num_bad {w : World} {g : Nat} {A : Option Addr} {n c : Nat} {f : Bool} (h : RdAt w g A n c f) (s : Int) (hk : f = true ∨ (n : Int) < min (max s 1) 7) :
    Calls Try.prog 30 #[.pointer (some ⟨g, 0, none⟩), .int .i64 s] w fun e w' => e = .returned (.int .i64 0) ∧ RdAt w' g none 0 0 true ∧ w' = setRow w g rdT #[.slice none 0 0, .bool true] := by
  obtain ⟨z, hz⟩ : ∃ z, min (max s 1) 7 = z := ⟨_, rfl⟩
  have hk' : f = true ∨ z < 0 ∨ (n : Int) < z := by rw [← hz]; rcases hk with h | h <;> simp_all
  have Hz := Lib.hid hz
  clear hz hk
  go_enter Try.func30, Try.ntmps30
  go_wp2_with (first
    | (go_at_call 54; refine (bounded_any _ _).mono ?_; rintro e w' ⟨rfl, rfl⟩; rw [Hz.out])
    | (go_at_call 31; refine (take_bad h z hk').mono ?_; rintro e w1 ⟨rfl, h1, -, hw1⟩; have HW := Lib.hid hw1; clear hw1)
    )
  go_loop [6, 7] (fun a i => a = .int .i64 0 ∧ i = .int .i64 0) (fun _ _ => 0)
  case atStart => exact ⟨rfl, rfl⟩
  case round =>
    obtain ⟨rfl, rfl⟩ := hrel
    go_wp2
    go_ret
    exact ⟨rfl, h1, HW.out⟩
set_option maxHeartbeats 1000000 in
theorem num_ok {w : World} {g : Nat} {A : Option Addr} {n c : Nat} (h : RdAt w g A n c false) (bs : List Int) (hn : bs.length = n) (hN : Nums .u8 w A bs) (hb : ∀ x ∈ bs, 0 ≤ x ∧ x ≤ 255) (hnc : n ≤ c) (hc : c ≤ 9223372036854775807) (p : Nat → Prop) (hp : ∀ b, p b → b ≠ g) (hA : ∀ a, A = some a → p a.block) (s : Int) (k : Nat) (hs : min (max s 1) 7 = (k : Int)) (hk : k ≤ n) (hlen : n ≤ 1000000) :
    Calls Try.prog 30 #[.pointer (some ⟨g, 0, none⟩), .int .i64 s] w fun e w' => ∃ A2 c2, e = .returned (.int .i64 (be (bs.take k))) ∧ RdAt w' g A2 (n - k) c2 false ∧ Nums .u8 w' A2 (bs.drop k) ∧ n - k ≤ c2 ∧ c2 ≤ 9223372036854775807 ∧ (∀ a, A2 = some a → p a.block) ∧ But g w w' ∧ (∀ B w0, B ≤ g → Below B w0 w → Below B w0 w') := by
  have Hs := Lib.hid hs
  have TK := Lib.hid (show (bs.take k).length = k by rw [List.length_take, hn]; omega)
  have HB := Lib.hid hb
  have k7 : k ≤ 7 := by omega
  clear hs hb
  go_enter Try.func30, Try.ntmps30
  go_wp2_with (first
    | (go_at_call 54; refine (bounded_any _ _).mono ?_; rintro e w' ⟨rfl, rfl⟩; rw [Hs.out])
    | (go_at_call 31; refine (take_ok h bs hn hN hnc hc p hp hA k hk hlen).mono ?_; rintro e w1 ⟨A1, c1, A2, c2, rfl, hO1, h1, hN2, hc1, hc2, hA2, hbut, hbel⟩)
    )
  go_loop [6, 7] (fun a i => ∃ j : Nat, j ≤ k ∧ i = .int .i64 j ∧ a = .int .i64 (be (bs.take j))) (fun _ i => k - (intOf i).toNat)
  case atStart => exact ⟨0, Nat.zero_le _, rfl, rfl⟩
  case round =>
    obtain ⟨j, hj, rfl, rfl⟩ := hrel
    by_cases hjk : j < k
    · rcases hO1.nums with h0 | ⟨b, off, rfl, hlt, hcl⟩
      · have := TK.out; rw [h0] at this; simp at this; omega
      have hcell := hcl j (by rw [TK.out]; exact hjk)
      have hjb : j < bs.length := by rw [hn]; omega
      have eTk : bs.take (j + 1) = bs.take j ++ [(bs.take k).getD j 0] := by
        rw [List.take_succ_eq_append_getElem hjb]
        simp [List.getD, hjk, hjb]
      have hzb : 0 ≤ (bs.take k).getD j 0 ∧ (bs.take k).getD j 0 ≤ 255 := HB.out _ (by
        have : (bs.take k).getD j 0 = bs[j] := by simp [List.getD, hjk, hjb]
        rw [this]; exact List.getElem_mem _)
      generalize (bs.take k).getD j 0 = z at hcell eTk hzb
      obtain ⟨a0, a1⟩ := be_bd j (bs.take j) (by rw [List.length_take]; omega) (fun x hx => HB.out x (List.mem_of_mem_take hx))
      have a2 := pow_le (j := j) (by omega)
      have a3 : be (bs.take j) < 281474976710656 := Int.lt_of_lt_of_le a1 a2
      have ebe : be (bs.take (j + 1)) = 256 * be (bs.take j) + z := by rw [eTk, be_snoc]
      have m1 : IntKind.i64.wrap (256 * be (bs.take j)) = 256 * be (bs.take j) := IntWalk.i64_in _ (by omega)
      have m2 : IntKind.i64.wrap (256 * be (bs.take j) + z) = 256 * be (bs.take j) + z := IntWalk.i64_in _ (by omega)
      have Hbe := Lib.hid ebe
      generalize be (bs.take j) = acc at a0 a3 m1 m2 Hbe
      obtain ⟨z0, z1⟩ := hzb
      clear a1 a2 eTk ebe hcl hlt
      go_wp2
      go_round
      case rel => exact ⟨j + 1, by omega, by go_num, by rw [Hbe.out]⟩
      case measure => simp [intOf]; omega
    · obtain rfl : j = k := by omega
      go_wp2
      go_ret
      first | exact ⟨A2, c2, rfl, h1, hN2, by omega, hc2, hA2, hbut, hbel⟩ | exact ⟨rfl, A2, c2, h1, hN2, by omega, hc2, hA2, hbut, hbel⟩
theorem openH (w : World) (A : Option Addr) (n c : Nat) (bs : List Int) (hn : bs.length = n) (hN : Nums .u8 w A bs) (hlen : n ≤ 1000000) :
    Calls Try.prog 29 #[.slice A n c] w fun e w' => ∃ g A' c', e = .returned (.pointer (some ⟨g, 0, none⟩)) ∧ w.heap.size ≤ g ∧ HalfA rdT w' g A' c' bs false ∧ Below w.heap.size w w' ∧ (∀ a, A' = some a → w.heap.size ≤ a.block ∧ a.block < w'.heap.size) := by
  subst hn
  exact (open_b w A _ c bs rfl hN hlen).mono fun _ _ ⟨g, A', c', h1, h2, h3, h4, h5, h6, h7, h8, h9⟩ => ⟨g, A', c', h1, h2, ⟨h3, h4, h6, h7, h5⟩, h8, h9⟩
theorem doneH {K : Nat} {w : World} {g : Nat} {rest : List Int} {f : Bool} (h : Half rdT K w g rest f) :
    Calls Try.prog 33 #[.pointer (some ⟨g, 0, none⟩)] w fun e w' => e = .returned (.bool (!f && decide (rest.length = 0))) ∧ w = w' := by
  obtain ⟨A, c, h1, -⟩ := h
  exact done_any h1
theorem numH {K : Nat} {w : World} {g : Nat} {rest : List Int} {f : Bool} (h : Half rdT K w g rest f) (hb : ∀ x ∈ rest, 0 ≤ x ∧ x ≤ 255) (hlen : rest.length ≤ 1000000) (s : Int) :
    Calls Try.prog 30 #[.pointer (some ⟨g, 0, none⟩), .int .i64 s] w fun e w' => e = .returned (.int .i64 (be (ntake rest f (min (max s 1) 7)))) ∧ Half rdT K w' g (ndrop rest f (min (max s 1) 7)) (nbad rest f (min (max s 1) 7)) ∧ But g w w' ∧ (∀ B w0, B ≤ g → Below B w0 w → Below B w0 w') := by
  obtain ⟨A, c, h1, hN, hc, hc', hA⟩ := h
  cases hbad : nbad rest f (min (max s 1) 7) with
  | false =>
    have hx := hbad
    simp [nbad] at hx
    obtain ⟨⟨rfl, hk0⟩, hk1⟩ := hx
    refine (num_ok h1 rest rfl hN hb hc hc' (fun b => b < K ∧ b ≠ g) (fun _ h => h.2) hA s (min (max s 1) 7).toNat (by omega) (by omega) hlen).mono ?_
    rintro e w' ⟨A2, c2, rfl, k1, kN, kc, kc', kA, kb, kbel⟩
    refine ⟨by simp [ntake, hbad], ?_, kb, kbel⟩
    simp only [ndrop, hbad]
    exact ⟨A2, c2, by simpa [RdAt] using k1, by simpa using kN, by simpa using kc, kc', kA⟩
  | true =>
    have hx := hbad
    simp [nbad] at hx
    refine (num_bad h1 s (by rcases hx with (h | h) | h; exact Or.inl h; omega; exact Or.inr (by omega))).mono ?_
    rintro e w' ⟨rfl, k1, rfl⟩
    refine ⟨by simp [ntake, hbad, be], ?_, But.set, fun B w0 hB hb => setRow_below hb hB⟩
    simp only [ndrop, hbad]
    exact ⟨none, 0, by simpa [RdAt] using k1, Nums.nil, by simp, by decide, fun _ h => by cases h⟩
theorem takeH {K : Nat} {w : World} {g : Nat} {rest : List Int} {f : Bool} (h : Half rdT K w g rest f) (hlen : rest.length ≤ 1000000) (k : Int) :
    Calls Try.prog 31 #[.pointer (some ⟨g, 0, none⟩), .int .i64 k] w fun e w' => ∃ A' c', e = .returned (.slice A' (ntake rest f k).length c') ∧ OwnN .u8 5 w.heap.size w' A' c' (ntake rest f k) ∧ Half rdT K w' g (ndrop rest f k) (nbad rest f k) ∧ But g w w' ∧ (∀ B w0, B ≤ g → Below B w0 w → Below B w0 w') := by
  obtain ⟨A, c, h1, hN, hc, hc', hA⟩ := h
  cases hbad : nbad rest f k with
  | false =>
    have hx := hbad
    simp [nbad] at hx
    obtain ⟨⟨rfl, hk0⟩, hk1⟩ := hx
    obtain ⟨k, rfl⟩ : ∃ k' : Nat, k = k' := ⟨k.toNat, by omega⟩
    have hk : k ≤ rest.length := by omega
    refine (take_ok h1 rest rfl hN hc hc' (fun b => b < K ∧ b ≠ g) (fun _ h => h.2) hA k hk hlen).mono ?_
    rintro e w' ⟨A', c', A2, c2, rfl, kO, k1, kN, kc, kc', kA, kb, kbel⟩
    have e1 : ntake rest false k = rest.take k := by simp [ntake, hbad]
    have e2 : ndrop rest false k = rest.drop k := by simp [ndrop, hbad]
    rw [e1, e2]
    exact ⟨A', c', by rw [List.length_take, Nat.min_eq_left hk], kO, ⟨A2, c2, by simpa [RdAt] using k1, kN, by simpa using kc, kc', kA⟩, kb, kbel⟩
  | true =>
    have hx := hbad
    simp [nbad] at hx
    have hx' : f = true ∨ k < 0 ∨ (rest.length : Int) < k := by rcases hx with (h | h) | h; exact Or.inl h; exact Or.inr (Or.inl h); exact Or.inr (Or.inr h)
    refine (take_bad h1 k hx').mono ?_
    rintro e w' ⟨rfl, k1, kb, hw⟩
    have e1 : ntake rest f k = [] := by simp [ntake, hbad]
    have e2 : ndrop rest f k = [] := by simp [ndrop, hbad]
    rw [e1, e2]
    exact ⟨none, 0, rfl, OwnN.nil kb.2, ⟨none, 0, k1, Nums.nil, by simp, by decide, fun _ h => by cases h⟩, kb, fun B w0 hB hb => by rw [hw]; exact setRow_below hb hB⟩
end Go.Proofs.Ytnfdfnkhjlkdhaa.ref04
