/- Two rows that are the same; a push that leaves all else alone; small. -/
import Derived.Test.YtiokdfijodfmpaaRing2
namespace Go.Proofs.Ytiokdfijodfmpaa
open Go.ChangeShapes Go.WideShapes Go.ChangeAt Go.RowKit

theorem Nums.at {k : IntKind} {w : World} {A : Option Addr} {zs : List Int} (h : Nums k w A zs) {i : Nat} (hi : i < zs.length) : ∃ b off, A = some ⟨b, off, none⟩ ∧ b < w.heap.size ∧ w.cell? ⟨b, off + i, none⟩ = some (.int k (zs.getD i 0)) := by
  rcases h with rfl | ⟨b, off, h1, h2, h3⟩
  · cases hi
  · exact ⟨b, off, h1, h2, h3 i hi⟩
theorem take_same {xs ys : List Int} {k : Nat} (h : xs.take k = ys.take k) (hx : k < xs.length) (hy : k < ys.length) (he : xs.getD k 0 = ys.getD k 0) : xs.take (k + 1) = ys.take (k + 1) := by
  rw [List.take_succ_eq_append_getElem hx, List.take_succ_eq_append_getElem hy, h]
  simp [List.getD, hx, hy] at he
  rw [he]

set_option maxHeartbeats 1000000 in
theorem same_any (w : World) (A : Option Addr) (n c : Nat) (xs : List Int) (hn : xs.length = n) (hN : Nums .i64 w A xs) (B : Option Addr) (m d : Nat) (ys : List Int) (hm : ys.length = m) (hM : Nums .i64 w B ys) (hlen : n ≤ 140737488355328) (hlen' : m ≤ 140737488355328) :
    Calls Try.prog 15 #[.slice A n c, .slice B m d] w fun e w' => e = .returned (.bool (decide (xs = ys))) ∧ ∃ q, w' = w.drewN q := by
  have Hn := Lib.hid hn
  have HN := Lib.hid hN
  have Hm := Lib.hid hm
  have HM := Lib.hid hM
  clear hn hN hm hM
  by_cases hnm : n = m
  · subst hnm
    generalize hv : decide (xs = ys) = v
    have Hv := Lib.hid hv
    clear hv
    go_enter Try.func15, Try.ntmps15
    go_wp2
    go_loopw [5] (fun i wr => ∃ (k q : Nat), k ≤ n ∧ i = .int .i64 k ∧ xs.take k = ys.take k ∧ wr = w.drewN q) (fun i _ => n - (intOf i).toNat)
    case atStart => exact ⟨0, 0, Nat.zero_le _, rfl, by simp, rfl⟩
    case round =>
      obtain ⟨k, q, hk, rfl, ht, rfl⟩ := hrel
      have Ht := Lib.hid ht
      clear ht
      by_cases hkn : k < n
      · obtain ⟨b, off, rfl, hlt, cx⟩ := HN.out.at (i := k) (by rw [Hn.out]; exact hkn)
        obtain ⟨b2, off2, rfl, hlt2, cy⟩ := HM.out.at (i := k) (by rw [Hm.out]; exact hkn)
        have hx : k < xs.length := by rw [Hn.out]; exact hkn
        have hy : k < ys.length := by rw [Hm.out]; exact hkn
        have Hx := Lib.hid (take_same Ht.out hx hy)
        have Hne := Lib.hid (show xs.getD k 0 ≠ ys.getD k 0 → v = false from fun hne => by rw [← Hv.out]; exact decide_eq_false fun h => hne (by rw [h]))
        generalize xs.getD k 0 = x at cx Hx Hne
        generalize ys.getD k 0 = y at cy Hx Hne
        have q1 : (k : Int) < (n : Int) := by omega
        have q0 : (0 : Int) ≤ (k : Int) := by omega
        clear hx hy
        by_cases hxy : x = y
        · subst hxy
          go_wp2
          go_region
          go_wp2
          go_roundw
          case rel => exact ⟨k + 1, q + 1, by omega, by go_num, Hx.out (by simp), by simp⟩
          case measure => simp [intOf]; omega
        · have hb : (x == y) = false := beq_eq_false_iff_ne.2 hxy
          go_wp2
          go_region
          go_wp2
          go_ret
          exact ⟨ret_bool (Hne.out hxy).symm, _, rfl⟩
      · obtain rfl : k = n := by omega
        have e : v = true := by
          rw [← Hv.out]
          have := Ht.out
          rw [List.take_of_length_le (by rw [Hn.out]; exact Nat.le_refl _), List.take_of_length_le (by rw [Hm.out]; exact Nat.le_refl _)] at this
          exact decide_eq_true this
        subst e
        go_wp2
        go_ret
        exact ⟨rfl, _, rfl⟩
  · have e : decide (xs = ys) = false := decide_eq_false fun h => hnm (by rw [← Hn.out, ← Hm.out, h])
    rw [e]
    have hb : ((n : Int) == (m : Int)) = false := beq_eq_false_iff_ne.2 (by omega)
    clear e
    go_enter Try.func15, Try.ntmps15
    go_wp2
    all_goals (go_ret; exact ⟨rfl, 0, rfl⟩)

/-- All but block g is as it was. -/
def Only (g : Nat) (w w' : World) : Prop := (∀ b, b ≠ g → w'.heap[b]? = w.heap[b]?) ∧ w'.heap.size = w.heap.size
theorem Only.nums {g : Nat} {w w' : World} (h : Only g w w') {k : IntKind} {A : Option Addr} {zs : List Int} (hN : Nums k w A zs) (hA : ∀ b off, A = some ⟨b, off, none⟩ → b ≠ g) : Nums k w' A zs := by
  rcases hN with rfl | ⟨b, off, h1, h2, h3⟩
  · exact Or.inl rfl
  · refine Or.inr ⟨b, off, h1, by rw [h.2]; exact h2, fun i hi => ?_⟩
    rw [← h3 i hi]
    unfold World.cell?
    simp only [h.1 b (hA b off h1)]
theorem push_to {w w0 : World} {B g : Nat} {R R' : RS} (zs : List Int) (hp : R.pushes zs = R') (hR : RingAt w g R) (hO : R.Ok) (A : Option Addr) (n cap : Nat) (hn : zs.length = n) (hN : Nums .i64 w A zs) (hlen : n ≤ 1000000) (hl : R.l + n ≤ 1099511627776) (hA : 0 < n → ∀ b off, A = some ⟨b, off, none⟩ → b ≠ g) (hB : Below B w0 w) (hg : B ≤ g) :
    Calls Try.prog 10 #[.pointer (some ⟨g, 0, none⟩), .slice A n cap] w fun e w' => e = .returned (.tuple #[]) ∧ RingAt w' g R' ∧ R'.Ok ∧ Only g w w' ∧ Below B w0 w' := by
  subst hp
  refine (push_any hR hO A n cap zs hn hN hlen hl hA).mono ?_
  rintro e w' ⟨he, m, rfl⟩
  refine ⟨he, setRow_row (row_lt hR), (RS.pushes_ok zs hO (by omega)).1, ⟨fun b hb => ?_, ?_⟩, below_drewN (setRow_below hB hg) m⟩
  · show (setRow w g ringT (R.pushes zs).row).heap[b]? = _
    exact setRow_far hb
  · show (setRow w g ringT (R.pushes zs).row).heap.size = _
    exact setRow_size
theorem made_ok (room : Int) : (RS.made room).Ok := ⟨by unfold RS.made; simp only; omega, by unfold RS.made; simp only; omega, by unfold RS.made; simp, by unfold RS.made; simp only; omega, by unfold RS.made; simp, by unfold RS.made; simp only; omega, by unfold RS.made; simp, by unfold RS.made; simp⟩
theorem ring_at {w w' : World} {g : Nat} {R : RS} (h : RingAt w g R) (hb : Below w.heap.size w w') : RingAt w' g R := row_kept h hb (row_lt h)

theorem new_to (room : Int) {w w0 : World} {B : Nat} (hB : Below B w0 w) (hb : B ≤ w.heap.size) :
    Calls Try.prog 8 #[.int .i64 room] w fun e w' => e = .returned (.pointer (some ⟨w.heap.size, 0, none⟩)) ∧ RingAt w' w.heap.size (RS.made room) ∧ w.heap.size < w'.heap.size ∧ Below B w0 w' ∧ Below w.heap.size w w' := by
  refine (new_any room w).mono ?_
  rintro e w' ⟨he, rfl⟩
  exact ⟨he, (MapKept.heap_alloc _ _).1, by simp, hB.alloc hb _, (Below.refl _ _).alloc (Nat.le_refl _) _⟩
theorem last_to {w : World} {g : Nat} {R : RS} {v : Int} (hv : R.nums (R.place (R.h - 1)).toNat = v) (hR : RingAt w g R) (hO : R.Ok) (h0 : 0 < R.h) :
    Calls Try.prog 12 #[.pointer (some ⟨g, 0, none⟩)] w fun e w' => e = .returned (.tuple #[.int .i64 v, .bool true]) ∧ ∃ n, w' = w.drewN n := by
  subst hv
  exact last_some hR hO h0
theorem all_to {w : World} {g : Nat} {R : RS} {xs : List Int} {n : Nat} (hx : R.list = xs) (hn : xs.length = n) (hR : RingAt w g R) (hO : R.Ok) :
    Calls Try.prog 14 #[.pointer (some ⟨g, 0, none⟩)] w fun e w' => ∃ b c, e = .returned (.slice (some ⟨b, 0, none⟩) n c) ∧ OwnN .i64 3 w.heap.size w' (some ⟨b, 0, none⟩) c xs ∧ Below w.heap.size w w' := by
  subst hx; subst hn
  rw [RS.list_len]
  exact all_any hR hO
theorem len_to {w : World} {g : Nat} {R : RS} {v : Int} (hv : R.h = v) (hR : RingAt w g R) :
    Calls Try.prog 17 #[.pointer (some ⟨g, 0, none⟩)] w fun e w' => e = .returned (.int .i64 v) ∧ w = w' := by
  subst hv; exact len_any hR
theorem lost_to {w : World} {g : Nat} {R : RS} {v : Int} (hv : R.l = v) (hR : RingAt w g R) :
    Calls Try.prog 19 #[.pointer (some ⟨g, 0, none⟩)] w fun e w' => e = .returned (.int .i64 v) ∧ w = w' := by
  subst hv; exact lost_any hR

set_option maxHeartbeats 1000000 in
theorem small_any (w : World) : Calls Try.prog 7 #[] w fun e w' => e = .returned (.bool true) ∧ Below w.heap.size w w' := by
  obtain ⟨S, hS⟩ : ∃ S, (RS.made 2).pushes [1, 2, 3] = S := ⟨_, rfl⟩
  have s1 : S.h = 2 := by rw [← hS]; rfl
  have s2 : S.l = 1 := by rw [← hS]; rfl
  have s3 : S.list = [2, 3] := by rw [← hS]; rfl
  have s4 : S.nums (S.place (S.h - 1)).toNat = 3 := by rw [← hS]; rfl
  have HS := Lib.hid hS
  have S1 := Lib.hid s1
  have S2 := Lib.hid s2
  have S3 := Lib.hid s3
  have S4 := Lib.hid s4
  clear hS s1 s2 s3 s4
  go_enter Try.func7, Try.ntmps7
  go_wp2_with fail
  refine (new_to 2 (Below.refl w.heap.size w) (Nat.le_refl _)).mono ?_
  rintro e w1 ⟨rfl, R1, z1, B1, -⟩
  go_wp2_with (first
    | (go_at_call 12; refine (last_none R1 rfl).mono ?_; rintro e w' ⟨rfl, rfl⟩)
    )
  have ra := fun o => ring_at R1 ((Below.refl w1.heap.size w1).alloc (Nat.le_refl _) o)
  refine (push_to [1, 2, 3] HS.out (ra _) (made_ok 2) _ 3 3 rfl (Nums.new _ _ _ _ _ rfl rfl) (by omega) (by unfold RS.made; simp) (fun _ b off h => by injection h with h; injection h with h; omega) (B1.alloc B1.size _) (Nat.le_refl _)).mono ?_
  rintro e X ⟨rfl, RX, okX, -, BX⟩
  have h0 : 0 < S.h := by rw [S1.out]; decide
  have H0 := Lib.hid h0
  clear ra R1 B1 z1 h0
  go_wp2_with (first
    | (go_at_call 12; refine (last_to S4.out RX okX H0.out).mono ?_; rintro e w' ⟨rfl, q, rfl⟩)
    | (go_at_call 17; refine (len_to S1.out (RX.drewN _)).mono ?_; rintro e w' ⟨rfl, rfl⟩)
    | (go_at_call 19; refine (lost_to S2.out (RX.drewN _)).mono ?_; rintro e w' ⟨rfl, rfl⟩)
    | (go_at_call 14; refine (all_to (n := 2) S3.out rfl (RX.drewN _) okX).mono ?_; rintro e w6 ⟨A6, c6, rfl, hO6, hB6⟩)
    | (go_at_call 15; refine (same_any _ _ 2 _ [2, 3] rfl ((hO6.alloc _).nums) _ _ _ [2, 3] rfl (Nums.new _ _ _ _ _ rfl rfl) (by simp) (by simp)).mono ?_; rintro e w7 ⟨rfl, q7, rfl⟩)
    )
  go_ret
  have B6 := (below_drewN BX q).trans (hB6.mono BX.size)
  exact ⟨rfl, below_drewN (B6.alloc B6.size _) _⟩
end Go.Proofs.Ytiokdfijodfmpaa
