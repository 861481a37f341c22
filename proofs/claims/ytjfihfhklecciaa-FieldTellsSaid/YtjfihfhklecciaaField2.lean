/- Contracts with the values named; small. -/
import Derived.Test.YtjfihfhklecciaaField
namespace Go.Proofs.Ytjfihfhklecciaa
open Go.ChangeShapes Go.WideShapes Go.ChangeAt Go.RowKit

theorem num_to {w : World} {g : Nat} {A : Option Addr} {n c : Nat} {v : Int} {s : Int} {k : Nat} {bs : List Int} (hv : be (bs.take k) = v) (h : RdAt w g A n c false) (hn : bs.length = n) (hN : Nums .u8 w A bs) (hb : ∀ x ∈ bs, 0 ≤ x ∧ x ≤ 255) (hnc : n ≤ c) (hc : c ≤ 9223372036854775807) (hA : ∀ a, A = some a → a.block ≠ g) (hs : min (max s 1) 7 = (k : Int)) (hk : k ≤ n) (hlen : n ≤ 1000000) :
    Calls Try.prog 13 #[.pointer (some ⟨g, 0, none⟩), .int .i64 s] w fun e w' => ∃ A2 c2, e = .returned (.int .i64 v) ∧ RdAt w' g A2 (n - k) c2 false ∧ Nums .u8 w' A2 (bs.drop k) ∧ n - k ≤ c2 ∧ c2 ≤ 9223372036854775807 ∧ (∀ a, A2 = some a → a.block ≠ g) ∧ But g w w' ∧ (∀ B w0, B ≤ g → Below B w0 w → Below B w0 w') := by
  subst hv
  exact num_ok h bs hn hN hb hnc hc hA s k hs hk hlen
/-- What is laid, as a text. -/
theorem put_text (w : World) (A : Option Addr) (n c : Nat) (bs : List Int) (hn : bs.length = n) (hN : Nums .u8 w A bs) (hlen : n ≤ 1000000) (x s : Int) (wx : -9223372036854775808 ≤ x ∧ x ≤ 9223372036854775807) (k : Nat) (hk : min (max s 1) 7 = (k : Int)) {t : ByteArray} (ht : strOfNums (bs ++ lay x k) = t) :
    Calls Try.prog 11 #[.slice A n c, .int .i64 x, .int .i64 s] w fun e w' => ∃ A' c', e = .returned (.slice A' (n + k) c') ∧ (convert 22 9 (.slice A' (n + k) c')).run Try.prog w' = .ok (.string t) w' ∧ Below w.heap.size w w' :=
  (put_any w A n c bs hn hN hlen x s wx k hk).mono fun _ _ ⟨A', c', he, h1, h2⟩ => ⟨A', c', he, by
    rw [← ht]
    exact text_of_nums Try.underlying22 Try.underlying5 Try.underlying9 h1.nums (by rw [List.length_append, hn, lay_len]), h2⟩
theorem rd_kept {w w' : World} {g : Nat} {A : Option Addr} {n c : Nat} {f : Bool} (h : RdAt w g A n c f) (hb : Below w.heap.size w w') : RdAt w' g A n c f := row_kept h hb (row_lt h)

/-- Bytes of a constant text: the row is marked behind its last cell, and is as it was. -/
theorem marked (W : World) (z : Int) : (convert 22 22 (.slice (some ⟨W.heap.size, 0, none⟩) 1 1)).run Try.prog (W.alloc (.cells #[.int .u8 z] 5)) = .ok (.slice (some ⟨W.heap.size, 0, none⟩) 1 1) (W.alloc (.cells #[.int .u8 z] 5 (1, 2))) := by
  have hh : (W.alloc (.cells #[.int .u8 z] 5)).heap[W.heap.size]? = some (.cells #[.int .u8 z] 5) := (MapKept.heap_alloc W _).1
  have hsh : (W.alloc (.cells #[.int .u8 z] 5)).shape? W.heap.size = some (5, 1) := by
    unfold World.shape?
    rw [hh]
    rfl
  have hfr : (W.alloc (.cells #[.int .u8 z] 5)).freeze ⟨W.heap.size, 1, none⟩ 1 = W.alloc (.cells #[.int .u8 z] 5 (1, 2)) := by
    refine world_eq (fun k => ?_) rfl rfl rfl rfl
    unfold World.freeze
    rw [if_neg (by decide)]
    show ((W.heap.push _).modify W.heap.size _)[k]? = (W.heap.push _)[k]?
    rw [Array.getElem?_modify]
    by_cases h : W.heap.size = k
    · subst h; simp
    · rw [if_neg h, Array.getElem?_push, Array.getElem?_push, if_neg (by omega), if_neg (by omega)]
  simp [convert, run_underlying Try.underlying22, run_underlying Try.underlying5, markStringish, hsh]
  exact hfr
theorem nums_marked (W : World) (z : Int) (t : TypeId) : Nums .u8 (W.alloc (.cells #[.int .u8 z] t (1, 2))) (some ⟨W.heap.size, 0, none⟩) [z] := by
  refine Or.inr ⟨W.heap.size, 0, rfl, by simp, fun i hi => ?_⟩
  have hh : (W.alloc (.cells #[.int .u8 z] t (1, 2))).heap[W.heap.size]? = some (.cells #[.int .u8 z] t (1, 2)) := (MapKept.heap_alloc W _).1
  have e : i = 0 := by simp at hi; omega
  subst e
  unfold World.cell?
  simp only [hh]
  rfl

set_option maxHeartbeats 1000000 in
theorem small_any (w : World) : Calls Try.prog 8 #[] w fun e w' => e = .returned (.bool true) ∧ Below w.heap.size w w' := by
  obtain ⟨t1, ht1, ht1'⟩ : ∃ t : ByteArray, strOfNums ([120] ++ lay 258 3) = t ∧ t.toList = [120, 0, 1, 2] := ⟨_, rfl, by kernel_rfl⟩
  obtain ⟨t2, ht2, ht2'⟩ : ∃ t : ByteArray, strOfNums ([] ++ lay (-1) 2) = t ∧ t.toList = [255, 255] := ⟨_, rfl, by kernel_rfl⟩
  obtain ⟨t3, ht3, ht3'⟩ : ∃ t : ByteArray, strOfNums ([] ++ lay 7 1) = t ∧ t.toList = [7] := ⟨_, rfl, by kernel_rfl⟩
  have H1 := Lib.hid ht1
  have H2 := Lib.hid ht2
  have H3 := Lib.hid ht3
  clear ht1 ht2 ht3
  have hcv := fun W => marked W 120
  go_enter Try.func8, Try.ntmps8
  go_wp2_with fail
  refine (open_any _ _ 4 _ [0, 1, 2, 9] rfl (Nums.new _ _ _ _ _ rfl rfl) (by decide)).mono ?_
  rintro e w1 ⟨g, A1, c1, rfl, hg, h1, hN1, hA1, hc1, hc1', hB1⟩
  have B1 : Below w.heap.size w w1 := ((Below.refl w.heap.size w).alloc (Nat.le_refl _) _).trans (hB1.mono (by simp))
  have hg' : w.heap.size ≤ g := by simp at hg; omega
  clear hB1 hg
  go_wp2_with fail
  refine (num_to (v := 258) (k := 3) rfl h1 rfl hN1 (by decide) hc1 hc1' hA1 rfl (by decide) (by decide)).mono ?_
  rintro e w2 ⟨A2, c2, rfl, h2, -, -, -, -, -, hb2⟩
  have B2 := hb2 _ _ hg' B1
  clear hb2 B1 hN1 hA1 h1
  go_wp2_with (first
    | (go_at_call 17; refine (left_any h2).mono ?_; rintro e w' ⟨rfl, rfl⟩)
    )
  refine (num_bad h2 2 (Or.inr (by decide))).mono ?_
  rintro e w3 ⟨rfl, h3, hw3⟩
  have B3 : Below w.heap.size w w3 := by rw [hw3]; exact setRow_below B2 hg'
  clear hw3 h2 B2
  go_wp2_with fail
  refine (put_text _ _ 1 _ [120] rfl (nums_marked _ _ _) (by decide) 258 3 (by decide) 3 rfl H1.out).mono ?_
  rintro e w4 ⟨A4, c4, rfl, hc4, hB4⟩
  have h4 := rd_kept (rd_kept h3 ((Below.refl w3.heap.size w3).alloc (Nat.le_refl _) _)) hB4
  have B4 := (B3.alloc B3.size _).trans (hB4.mono (by have := B3.size; simp; omega))
  clear hcv h3 B3 hB4
  go_wp2_with fail
  refine (put_text _ _ 0 _ [] rfl Nums.nil (by decide) (-1) 2 (by decide) 2 rfl H2.out).mono ?_
  rintro e w5 ⟨A5, c5, rfl, hc5, hB5⟩
  have h5 := rd_kept h4 hB5
  have B5 := B4.trans (hB5.mono B4.size)
  clear h4 B4 hB5
  go_wp2_with fail
  refine (put_text _ _ 0 _ [] rfl Nums.nil (by decide) 7 0 (by decide) 1 rfl H3.out).mono ?_
  rintro e w6 ⟨A6, c6, rfl, hc6, hB6⟩
  have h6 := rd_kept h5 hB6
  have B6 := B5.trans (hB6.mono B5.size)
  clear h5 B5 hB6
  go_wp2_with (first
    | (go_at_call 17; refine (left_any h6).mono ?_; rintro e w' ⟨rfl, rfl⟩)
    | (go_at_call 19; refine (done_any h6).mono ?_; rintro e w' ⟨rfl, rfl⟩)
    )
  go_ret
  exact ⟨rfl, B6⟩
end Go.Proofs.Ytjfihfhklecciaa
