/- A reader with what is left of it as a list, by the program. -/
import Derived.Test.YtnfdfnkhjlkdhaaPut
namespace Go.Proofs.Ytnfdfnkhjlkdhaa
open Go.ChangeShapes Go.WideShapes Go.ChangeAt Go.RowKit
abbrev rdT : TypeId := 72
/-- A reader in block g: what is left of it, whether it failed. -/
def RdAt (w : World) (g : Nat) (A : Option Addr) (n c : Nat) (f : Bool) : Prop := w.heap[g]? = some (.cells #[.slice A n c, .bool f] rdT)

theorem done_any {w : World} {g : Nat} {A : Option Addr} {n c : Nat} {f : Bool} (h : RdAt w g A n c f) :
    Calls Try.prog 28 #[.pointer (some ⟨g, 0, none⟩)] w fun e w' => e = .returned (.bool (!f && decide (n = 0))) ∧ w = w' := by
  have K := row_cells h
  clear h
  go_enter Try.func28, Try.ntmps28
  go_wp2
  all_goals (go_ret; exact ⟨ret_bool (by cases f <;> simp_all <;> (rw [Bool.eq_iff_iff]; simp)), rfl⟩)

set_option maxHeartbeats 1000000 in
theorem take_bad {w : World} {g : Nat} {A : Option Addr} {n c : Nat} {f : Bool} (h : RdAt w g A n c f) (k : Int) (hk : f = true ∨ k < 0 ∨ (n : Int) < k) :
    Calls Try.prog 55 #[.pointer (some ⟨g, 0, none⟩), .int .i64 k] w fun e w' => e = .returned (.slice none 0 0) ∧ RdAt w' g none 0 0 true ∧ But g w w' ∧ w' = setRow w g rdT #[.slice none 0 0, .bool true] := by
  have hk' : f = true ∨ (f = false ∧ k < 0) ∨ (f = false ∧ 0 ≤ k ∧ (n : Int) < k) := by
    cases f <;> simp at hk ⊢
    omega
  obtain ⟨s0, s1, c0, c1, f0, f1, z1⟩ := rows1 h
  rcases hk' with rfl | ⟨rfl, hk⟩ | ⟨rfl, hk1, hk⟩
  all_goals
    go_enter Try.func55, Try.ntmps55
    go_wp2
    all_goals (go_ret; exact ⟨rfl, row_written h, But.set, rfl⟩)

set_option maxHeartbeats 1000000 in
theorem num_bad {w : World} {g : Nat} {A : Option Addr} {n c : Nat} {f : Bool} (h : RdAt w g A n c f) (s : Int) (hk : f = true ∨ (n : Int) < min (max s 1) 7) :
    Calls Try.prog 26 #[.pointer (some ⟨g, 0, none⟩), .int .i64 s] w fun e w' => e = .returned (.int .i64 0) ∧ RdAt w' g none 0 0 true ∧ w' = setRow w g rdT #[.slice none 0 0, .bool true] := by
  obtain ⟨z, hz⟩ : ∃ z, min (max s 1) 7 = z := ⟨_, rfl⟩
  have hk' : f = true ∨ z < 0 ∨ (n : Int) < z := by rw [← hz]; rcases hk with h | h <;> simp_all
  have Hz := Lib.hid hz
  clear hz hk
  go_enter Try.func26, Try.ntmps26
  go_wp2_with (first
    | (go_at_call 38; refine (bounded_any _ _).mono ?_; rintro e w' ⟨rfl, rfl⟩; rw [Hz.out])
    | (go_at_call 55; refine (take_bad h z hk').mono ?_; rintro e w1 ⟨rfl, h1, -, hw1⟩; have HW := Lib.hid hw1; clear hw1)
    )
  go_loop [5, 13] (fun a i => a = .int .i64 0 ∧ i = .int .i64 0) (fun _ _ => 0)
  case atStart => exact ⟨rfl, rfl⟩
  case round =>
    obtain ⟨rfl, rfl⟩ := hrel
    go_wp2
    go_ret
    exact ⟨rfl, h1, HW.out⟩

def Half (T : TypeId) (K : Nat) (w : World) (g : Nat) (rest : List Int) (f : Bool) : Prop :=
  ∃ A c, w.heap[g]? = some (.cells #[.slice A rest.length c, .bool f] T) ∧ Nums .u8 w A rest ∧ rest.length ≤ c ∧ c ≤ 9223372036854775807 ∧ (∀ a, A = some a → a.block < K ∧ a.block ≠ g)
def nbad (rest : List Int) (f : Bool) (k : Int) : Bool := f || decide (k < 0) || decide ((rest.length : Int) < k)
def ntake (rest : List Int) (f : Bool) (k : Int) : List Int := if nbad rest f k = true then [] else rest.take k.toNat
def ndrop (rest : List Int) (f : Bool) (k : Int) : List Int := if nbad rest f k = true then [] else rest.drop k.toNat
theorem nums_apart {w : World} {g : Nat} {A B : Option Addr} {zs : List Int} {n c : Nat} {f : Bool} {T : TypeId} (hN : Nums .u8 w A zs) (h : w.heap[g]? = some (.cells #[.slice B n c, .bool f] T)) : zs = [] ∨ ∀ a, A = some a → a.block ≠ g := by
  rcases hN with h0 | ⟨b, off, rfl, -, hc⟩
  · exact Or.inl h0
  · by_cases hz : zs = []
    · exact Or.inl hz
    · refine Or.inr fun a ha hg => ?_
      injection ha with ha
      subst ha
      have hl : 0 < zs.length := List.length_pos_iff.2 hz
      have h1 := hc 0 hl
      change b = g at hg
      subst hg
      rw [row_cells h] at h1
      match off, h1 with
      | 0, h1 => simp at h1
      | 1, h1 => simp at h1
      | m + 2, h1 => simp at h1
theorem Half.but {K : Nat} {T T' : TypeId} {w w' : World} {g g2 : Nat} {rest r2 : List Int} {f f2 : Bool} (h : Half T K w g rest f) (h2 : Half T' K w g2 r2 f2) (hne : g2 ≠ g) (hb : But g w w') : Half T' K w' g2 r2 f2 := by
  obtain ⟨A, c, h1, -⟩ := h
  obtain ⟨A2, c2, k1, kN, kc, kc', kA⟩ := h2
  refine ⟨A2, c2, (hb.1 g2 (row_lt k1) hne).trans k1, ?_, kc, kc', kA⟩
  rcases nums_apart kN h1 with h0 | h0
  · exact Or.inl h0
  · exact hb.nums kN h0
theorem Half.lt {K : Nat} {T : TypeId} {w : World} {g : Nat} {rest : List Int} {f : Bool} (h : Half T K w g rest f) : g < w.heap.size := by
  obtain ⟨A, c, h1, -⟩ := h
  exact row_lt h1
theorem Half.below {K B : Nat} {T : TypeId} {w w' : World} {g : Nat} {rest : List Int} {f : Bool} (h : Half T K w g rest f) (hg : g < B) (hK : K ≤ B) (hb : Below B w w') : Half T K w' g rest f := by
  obtain ⟨A, c, h1, hN, hc, hc', hA⟩ := h
  refine ⟨A, c, row_kept h1 hb hg, ?_, hc, hc', hA⟩
  rcases hN with h0 | ⟨b, off, h2, h3, h4⟩
  · exact Or.inl h0
  · have := (hA _ h2).1
    exact Or.inr ⟨b, off, h2, Nat.lt_of_lt_of_le h3 hb.size, fun i hi => (hb.cell (p := ⟨b, off + i, none⟩) (by show b < B; have e : (Addr.mk b off none).block = b := rfl; omega)).trans (h4 i hi)⟩
/-- The same with the slice named. -/
def HalfA (T : TypeId) (w : World) (g : Nat) (A : Option Addr) (c : Nat) (rest : List Int) (f : Bool) : Prop :=
  w.heap[g]? = some (.cells #[.slice A rest.length c, .bool f] T) ∧ Nums .u8 w A rest ∧ rest.length ≤ c ∧ c ≤ 9223372036854775807 ∧ (∀ a, A = some a → a.block ≠ g)
theorem HalfA.but {T : TypeId} {w w' : World} {g gi : Nat} {A : Option Addr} {c : Nat} {rest : List Int} {f : Bool} (h : HalfA T w g A c rest f) (hb : But gi w w') (hg : g ≠ gi) (hA : ∀ a, A = some a → a.block ≠ gi) : HalfA T w' g A c rest f := by
  obtain ⟨h1, hN, r⟩ := h
  exact ⟨(hb.1 g (row_lt h1) hg).trans h1, hb.nums hN hA, r⟩
theorem HalfA.below {T : TypeId} {w w' : World} {g : Nat} {A : Option Addr} {c : Nat} {rest : List Int} {f : Bool} (h : HalfA T w g A c rest f) (hb : Below w.heap.size w w') : HalfA T w' g A c rest f := by
  obtain ⟨h1, hN, r⟩ := h
  exact ⟨row_kept h1 hb (row_lt h1), hN.below hb, r⟩
theorem HalfA.half {K : Nat} {T : TypeId} {w : World} {g : Nat} {A : Option Addr} {c : Nat} {rest : List Int} {f : Bool} (h : HalfA T w g A c rest f) (hK : ∀ a, A = some a → a.block < K) : Half T K w g rest f := by
  obtain ⟨h1, hN, h2, h3, h4⟩ := h
  exact ⟨A, c, h1, hN, h2, h3, fun a ha => ⟨hK a ha, h4 a ha⟩⟩
theorem HalfA.lt {T : TypeId} {w : World} {g : Nat} {A : Option Addr} {c : Nat} {rest : List Int} {f : Bool} (h : HalfA T w g A c rest f) : g < w.heap.size := row_lt h.1
theorem OwnN.but {w w' : World} {g base : Nat} {A : Option Addr} {c : Nat} {l : List Int} {k : IntKind} {E : TypeId} (h : OwnN k E base w A c l) (hb : But g w w') (hg : g < base) : OwnN k E base w' A c l := by
  refine ⟨⟨h.1.1, ?_⟩, Nat.le_trans h.2 hb.2⟩
  rcases h.1.2 with h1 | ⟨b, cap, cur, hv, hbb, hh, r⟩
  · exact Or.inl h1
  · exact Or.inr ⟨b, cap, cur, hv, hbb, (hb.1 b (row_lt hh) (by omega)).trans hh, r⟩
theorem ntake_bytes {rest : List Int} {f : Bool} {k : Int} (h : ∀ x ∈ rest, 0 ≤ x ∧ x ≤ 255) : ∀ x ∈ ntake rest f k, 0 ≤ x ∧ x ≤ 255 := by
  unfold ntake; split
  · intro x hx; cases hx
  · intro x hx; exact h x (List.mem_of_mem_take hx)
theorem ndrop_bytes {rest : List Int} {f : Bool} {k : Int} (h : ∀ x ∈ rest, 0 ≤ x ∧ x ≤ 255) : ∀ x ∈ ndrop rest f k, 0 ≤ x ∧ x ≤ 255 := by
  unfold ndrop; split
  · intro x hx; cases hx
  · intro x hx; exact h x (List.mem_of_mem_drop hx)
theorem ndrop_len {rest : List Int} {f : Bool} {k : Int} {n : Nat} (h : rest.length ≤ n) : (ndrop rest f k).length ≤ n := by
  unfold ndrop; split
  · exact Nat.zero_le _
  · rw [List.length_drop]; omega

namespace fld04
theorem open_b (w : World) (A : Option Addr) (n c : Nat) (bs : List Int) (hn : bs.length = n) (hN : Nums .u8 w A bs) (hlen : n ≤ 1000000) :
    Calls Try.prog 25 #[.slice A n c] w fun e w' => ∃ g A' c', e = .returned (.pointer (some ⟨g, 0, none⟩)) ∧ w.heap.size ≤ g ∧ RdAt w' g A' n c' false ∧ Nums .u8 w' A' bs ∧ (∀ a, A' = some a → a.block ≠ g) ∧ n ≤ c' ∧ c' ≤ 9223372036854775807 ∧ Below w.heap.size w w' ∧ (∀ a, A' = some a → w.heap.size ≤ a.block ∧ a.block < w'.heap.size) := by
  have z0 : ∀ W, (zeroValue rdT).run Try.prog W = .ok (.agg #[.slice none 0 0, .bool false]) W := fun W => by kernel_rfl
  go_enter Try.func25, Try.ntmps25
  go_wp2_with (first
    | (go_at_call 37; refine (clone_any _ A n c bs hn hN hlen).mono ?_; rintro e w1 ⟨A1, c1, rfl, hO1, hB1⟩)
    )
  go_ret
  refine ⟨w1.heap.size, A1, c1, rfl, hB1.size, (MapKept.heap_alloc _ _).1, hO1.nums.alloc _, fun a h => ?_, by have := hO1.len.1; omega, by have := hO1.len.2; unfold maxLen at this; omega, hB1.alloc hB1.size _, fun a h => ⟨(hO1.block' h).1, by have := (hO1.block' h).2; simp; omega⟩⟩
  have h1 := hO1.block' h
  omega

set_option maxHeartbeats 1000000 in
theorem take_ok {w : World} {g : Nat} {A : Option Addr} {n c : Nat} (h : RdAt w g A n c false) (bs : List Int) (hn : bs.length = n) (hN : Nums .u8 w A bs) (hnc : n ≤ c) (hc : c ≤ 9223372036854775807) (p : Nat → Prop) (hp : ∀ b, p b → b ≠ g) (hA : ∀ a, A = some a → p a.block) (k : Nat) (hk : k ≤ n) (hlen : n ≤ 1000000) :
    Calls Try.prog 55 #[.pointer (some ⟨g, 0, none⟩), .int .i64 k] w fun e w' => ∃ A' c' A2 c2, e = .returned (.slice A' k c') ∧ OwnN .u8 5 w.heap.size w' A' c' (bs.take k) ∧ RdAt w' g A2 (n - k) c2 false ∧ Nums .u8 w' A2 (bs.drop k) ∧ n - k ≤ c2 ∧ c2 ≤ 9223372036854775807 ∧ (∀ a, A2 = some a → p a.block) ∧ But g w w' ∧ (∀ B w0, B ≤ g → Below B w0 w → Below B w0 w') := by
  have HA := Lib.hid hA
  have HN := Lib.hid hN
  have Hn := Lib.hid hn
  have K := row_cells h
  have hg := row_lt h
  have TK := Lib.hid (show (bs.take k).length = k by rw [List.length_take, hn]; omega)
  have ND := Lib.hid (Nums.drop hN k c (by omega) (by omega))
  clear hA hN hn
  by_cases hck : c = k
  · subst hck
    obtain rfl : n = c := by omega
    go_enter Try.func55, Try.ntmps55
    go_wp2_with (first
      | (go_at_call 37; refine (clone_any _ A _ _ (bs.take n) TK.out (HN.out.take n) (by omega)).mono ?_; rintro e w1 ⟨A1, c1, rfl, hO1, hB1⟩; have h1 := row_kept h hB1 hg; obtain ⟨s0, s1, c0, d1, f0, f1, z1⟩ := rows1 h1)
      )
    go_ret
    have nd : Nums .u8 w A (bs.drop n) := by have := ND.out; simpa using this
    exact ⟨A1, c1, A, 0, rfl, hO1.setRow hg, by rw [Nat.sub_self]; exact row_written h1, But.set.nums (nd.below hB1) (fun a h => hp _ (HA.out a h)), by omega, by omega, HA.out, (But.of_below hB1).trans But.set, fun B w0 hB hb => setRow_below (hb.trans (hB1.mono (by omega))) hB⟩
  · go_enter Try.func55, Try.ntmps55
    go_wp2_with (first
      | (go_at_call 37; refine (clone_any _ A k c (bs.take k) TK.out (HN.out.take k) (by omega)).mono ?_; rintro e w1 ⟨A1, c1, rfl, hO1, hB1⟩; have h1 := row_kept h hB1 hg; obtain ⟨s0, s1, c0, d1, f0, f1, z1⟩ := rows1 h1)
      )
    go_ret
    have nd := ND.out
    rw [if_neg hck] at nd
    have hA2 : ∀ a, Option.map (fun x => x.add k) A = some a → p a.block := by
      intro a ha
      obtain ⟨a0, h0, rfl⟩ := Option.map_eq_some_iff.1 ha
      have := HA.out a0 h0
      have e : (a0.add k).block = a0.block := by unfold Addr.add; split <;> rfl
      rw [e]; exact this
    exact ⟨A1, c1, _, _, rfl, hO1.setRow hg, row_written h1, But.set.nums (nd.below hB1) (fun a h => hp _ (hA2 a h)), by omega, by omega, hA2, (But.of_below hB1).trans But.set, fun B w0 hB hb => setRow_below (hb.trans (hB1.mono (by omega))) hB⟩

set_option maxHeartbeats 1000000 in
theorem num_ok {w : World} {g : Nat} {A : Option Addr} {n c : Nat} (h : RdAt w g A n c false) (bs : List Int) (hn : bs.length = n) (hN : Nums .u8 w A bs) (hb : ∀ x ∈ bs, 0 ≤ x ∧ x ≤ 255) (hnc : n ≤ c) (hc : c ≤ 9223372036854775807) (p : Nat → Prop) (hp : ∀ b, p b → b ≠ g) (hA : ∀ a, A = some a → p a.block) (s : Int) (k : Nat) (hs : min (max s 1) 7 = (k : Int)) (hk : k ≤ n) (hlen : n ≤ 1000000) :
    Calls Try.prog 26 #[.pointer (some ⟨g, 0, none⟩), .int .i64 s] w fun e w' => ∃ A2 c2, e = .returned (.int .i64 (be (bs.take k))) ∧ RdAt w' g A2 (n - k) c2 false ∧ Nums .u8 w' A2 (bs.drop k) ∧ n - k ≤ c2 ∧ c2 ≤ 9223372036854775807 ∧ (∀ a, A2 = some a → p a.block) ∧ But g w w' ∧ (∀ B w0, B ≤ g → Below B w0 w → Below B w0 w') := by
  have Hs := Lib.hid hs
  have TK := Lib.hid (show (bs.take k).length = k by rw [List.length_take, hn]; omega)
  have HB := Lib.hid hb
  have k7 : k ≤ 7 := by omega
  clear hs hb
  go_enter Try.func26, Try.ntmps26
  go_wp2_with (first
    | (go_at_call 38; refine (bounded_any _ _).mono ?_; rintro e w' ⟨rfl, rfl⟩; rw [Hs.out])
    | (go_at_call 55; refine (take_ok h bs hn hN hnc hc p hp hA k hk hlen).mono ?_; rintro e w1 ⟨A1, c1, A2, c2, rfl, hO1, h1, hN2, hc1, hc2, hA2, hbut, hbel⟩)
    )
  go_loop [5, 13] (fun a i => ∃ j : Nat, j ≤ k ∧ i = .int .i64 j ∧ a = .int .i64 (be (bs.take j))) (fun _ i => k - (intOf i).toNat)
  case atStart => exact ⟨0, Nat.zero_le _, rfl, rfl⟩
  case round =>
    obtain ⟨j, hj, rfl, rfl⟩ := hrel
    by_cases hjk : j < k
    · rcases hO1.nums with h0 | ⟨b, off, rfl, hlt, hcl⟩
      · have := TK.out; rw [h0] at this; simp at this; omega
      have hcell := hcl j (by rw [TK.out]; exact hjk)
      have hjb : j < bs.length := by rw [hn]; omega
      have eTk : bs.take (j + 1) = bs.take j ++ [(bs.take k).getD j 0] := by
        rw [List.take_succ_eq_append_getElem hjb]
        simp [List.getD, hjk, hjb]
      have hzb : 0 ≤ (bs.take k).getD j 0 ∧ (bs.take k).getD j 0 ≤ 255 := HB.out _ (by
        have : (bs.take k).getD j 0 = bs[j] := by simp [List.getD, hjk, hjb]
        rw [this]; exact List.getElem_mem _)
      generalize (bs.take k).getD j 0 = z at hcell eTk hzb
      obtain ⟨a0, a1⟩ := be_bd j (bs.take j) (by rw [List.length_take]; omega) (fun x hx => HB.out x (List.mem_of_mem_take hx))
      have a2 := pow_le (j := j) (by omega)
      have a3 : be (bs.take j) < 281474976710656 := Int.lt_of_lt_of_le a1 a2
      have ebe : be (bs.take (j + 1)) = 256 * be (bs.take j) + z := by rw [eTk, be_snoc]
      have Hor := Lib.hid (or_step (be (bs.take j)) z a0 a3 hzb.1 hzb.2)
      have Hbe := Lib.hid ebe
      generalize be (bs.take j) = acc at a0 a3 Hor Hbe
      obtain ⟨z0, z1⟩ := hzb
      clear a1 a2 eTk ebe hcl hlt
      go_wp2
      go_round
      case rel => exact ⟨j + 1, by omega, by go_num, by rw [Hbe.out, ← Hor.out]⟩
      case measure => simp [intOf]; omega
    · obtain rfl : j = k := by omega
      go_wp2
      go_ret
      first | exact ⟨A2, c2, rfl, h1, hN2, by omega, hc2, hA2, hbut, hbel⟩ | exact ⟨rfl, A2, c2, h1, hN2, by omega, hc2, hA2, hbut, hbel⟩

theorem openH (w : World) (A : Option Addr) (n c : Nat) (bs : List Int) (hn : bs.length = n) (hN : Nums .u8 w A bs) (hlen : n ≤ 1000000) :
    Calls Try.prog 25 #[.slice A n c] w fun e w' => ∃ g A' c', e = .returned (.pointer (some ⟨g, 0, none⟩)) ∧ w.heap.size ≤ g ∧ HalfA rdT w' g A' c' bs false ∧ Below w.heap.size w w' ∧ (∀ a, A' = some a → w.heap.size ≤ a.block ∧ a.block < w'.heap.size) := by
  subst hn
  exact (open_b w A _ c bs rfl hN hlen).mono fun _ _ ⟨g, A', c', h1, h2, h3, h4, h5, h6, h7, h8, h9⟩ => ⟨g, A', c', h1, h2, ⟨h3, h4, h6, h7, h5⟩, h8, h9⟩
theorem doneH {K : Nat} {w : World} {g : Nat} {rest : List Int} {f : Bool} (h : Half rdT K w g rest f) :
    Calls Try.prog 28 #[.pointer (some ⟨g, 0, none⟩)] w fun e w' => e = .returned (.bool (!f && decide (rest.length = 0))) ∧ w = w' := by
  obtain ⟨A, c, h1, -⟩ := h
  exact done_any h1
theorem numH {K : Nat} {w : World} {g : Nat} {rest : List Int} {f : Bool} (h : Half rdT K w g rest f) (hb : ∀ x ∈ rest, 0 ≤ x ∧ x ≤ 255) (hlen : rest.length ≤ 1000000) (s : Int) :
    Calls Try.prog 26 #[.pointer (some ⟨g, 0, none⟩), .int .i64 s] w fun e w' => e = .returned (.int .i64 (be (ntake rest f (min (max s 1) 7)))) ∧ Half rdT K w' g (ndrop rest f (min (max s 1) 7)) (nbad rest f (min (max s 1) 7)) ∧ But g w w' ∧ (∀ B w0, B ≤ g → Below B w0 w → Below B w0 w') := by
  obtain ⟨A, c, h1, hN, hc, hc', hA⟩ := h
  cases hbad : nbad rest f (min (max s 1) 7) with
  | false =>
    have hx := hbad
    simp [nbad] at hx
    obtain ⟨⟨rfl, hk0⟩, hk1⟩ := hx
    refine (num_ok h1 rest rfl hN hb hc hc' (fun b => b < K ∧ b ≠ g) (fun _ h => h.2) hA s (min (max s 1) 7).toNat (by omega) (by omega) hlen).mono ?_
    rintro e w' ⟨A2, c2, rfl, k1, kN, kc, kc', kA, kb, kbel⟩
    refine ⟨by simp [ntake, hbad], ?_, kb, kbel⟩
    simp only [ndrop, hbad]
    exact ⟨A2, c2, by simpa [RdAt] using k1, by simpa using kN, by simpa using kc, kc', kA⟩
  | true =>
    have hx := hbad
    simp [nbad] at hx
    refine (num_bad h1 s (by rcases hx with (h | h) | h; exact Or.inl h; omega; exact Or.inr (by omega))).mono ?_
    rintro e w' ⟨rfl, k1, rfl⟩
    refine ⟨by simp [ntake, hbad, be], ?_, But.set, fun B w0 hB hb => setRow_below hb hB⟩
    simp only [ndrop, hbad]
    exact ⟨none, 0, by simpa [RdAt] using k1, Nums.nil, by simp, by decide, fun _ h => by cases h⟩
theorem takeH {K : Nat} {w : World} {g : Nat} {rest : List Int} {f : Bool} (h : Half rdT K w g rest f) (hlen : rest.length ≤ 1000000) (k : Int) :
    Calls Try.prog 55 #[.pointer (some ⟨g, 0, none⟩), .int .i64 k] w fun e w' => ∃ A' c', e = .returned (.slice A' (ntake rest f k).length c') ∧ OwnN .u8 5 w.heap.size w' A' c' (ntake rest f k) ∧ Half rdT K w' g (ndrop rest f k) (nbad rest f k) ∧ But g w w' ∧ (∀ B w0, B ≤ g → Below B w0 w → Below B w0 w') := by
  obtain ⟨A, c, h1, hN, hc, hc', hA⟩ := h
  cases hbad : nbad rest f k with
  | false =>
    have hx := hbad
    simp [nbad] at hx
    obtain ⟨⟨rfl, hk0⟩, hk1⟩ := hx
    obtain ⟨k, rfl⟩ : ∃ k' : Nat, k = k' := ⟨k.toNat, by omega⟩
    have hk : k ≤ rest.length := by omega
    refine (take_ok h1 rest rfl hN hc hc' (fun b => b < K ∧ b ≠ g) (fun _ h => h.2) hA k hk hlen).mono ?_
    rintro e w' ⟨A', c', A2, c2, rfl, kO, k1, kN, kc, kc', kA, kb, kbel⟩
    have e1 : ntake rest false k = rest.take k := by simp [ntake, hbad]
    have e2 : ndrop rest false k = rest.drop k := by simp [ndrop, hbad]
    rw [e1, e2]
    exact ⟨A', c', by rw [List.length_take, Nat.min_eq_left hk], kO, ⟨A2, c2, by simpa [RdAt] using k1, kN, by simpa using kc, kc', kA⟩, kb, kbel⟩
  | true =>
    have hx := hbad
    simp [nbad] at hx
    have hx' : f = true ∨ k < 0 ∨ (rest.length : Int) < k := by rcases hx with (h | h) | h; exact Or.inl h; exact Or.inr (Or.inl h); exact Or.inr (Or.inr h)
    refine (take_bad h1 k hx').mono ?_
    rintro e w' ⟨rfl, k1, kb, hw⟩
    have e1 : ntake rest f k = [] := by simp [ntake, hbad]
    have e2 : ndrop rest f k = [] := by simp [ndrop, hbad]
    rw [e1, e2]
    exact ⟨none, 0, rfl, OwnN.nil kb.2, ⟨none, 0, k1, Nums.nil, by simp, by decide, fun _ h => by cases h⟩, kb, fun B w0 hB hb => by rw [hw]; exact setRow_below hb hB⟩
end fld04
end Go.Proofs.Ytnfdfnkhjlkdhaa
