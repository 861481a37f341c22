/- BoardVersions holds for any board, any users and any statuses: a version rises by one just with a change, what is put is what is told, and it changes one user alone. No condition. -/
import Derived.Test.YtjmpafpampmncaaBoard4
import Derived.Test.YtjmpafpampmncaaMat
import Derived.Test.YtjmpafpampmncaaTail
import Derived.BigQuiet
import Derived.Deep.CutRange
import Derived.Deep.RegionHeld3
namespace Go.Proofs.Ytjmpafpampmncaa.boardVersions
open Go.ChangeShapes Go.WideShapes Go.ChangeAt Go.RowKit

/-- The worlds in which two boards and two notes lie as they were laid. -/
structure Four (w : World) (g0 g1 g3 g4 : Nat) (E E' : Bd) (n1 n2 : Array Value) where
  val : World
  r0 : val.heap[g0]? = some (.cells (Bd.cs E) boT)
  r1 : val.heap[g1]? = some (.cells (Bd.cs E') boT)
  r3 : val.heap[g3]? = some (.cells n1 noT)
  r4 : val.heap[g4]? = some (.cells n2 noT)
  low : Below w.heap.size w val
theorem four_left {g : FuncId} {args : Array Value} {w : World} {g0 g1 g3 g4 : Nat} {E E' : Bd} {n1 n2 : Array Value} {u : Four w g0 g1 g3 g4 E E' n1 n2} {v : Value}
    (h : Calls Try.prog g args u.val fun e w' => e = .returned v ∧ Below u.val.heap.size u.val w') : Calls Try.prog g args u.val fun e w'' => e = .returned v ∧ ∃ n : Four w g0 g1 g3 g4 E E' n1 n2, w'' = n.val :=
  h.mono fun _ w' ⟨he, hb⟩ => ⟨he, ⟨w', row_kept u.r0 hb (row_lt u.r0), row_kept u.r1 hb (row_lt u.r1), row_kept u.r3 hb (row_lt u.r3), row_kept u.r4 hb (row_lt u.r4), u.low.trans (hb.mono u.low.size)⟩, rfl⟩
theorem row_kept' {v w w' : World} {B g : Nat} {o : Obj} (h : w.heap[g]? = some o) (hv : v.heap = w.heap) (hb : Below B v w') (hg : g < B) : w'.heap[g]? = some o := (hb.block g hg).trans (by rw [hv]; exact h)
theorem newer_no (a b c d c' d' : Int) (w : World) :
    Calls Try.prog 15 #[.agg #[.int .i64 a, .int .i64 b, .int .i64 c, .int .i64 d], .agg #[.int .i64 a, .int .i64 b, .int .i64 c', .int .i64 d']] w fun e w' => e = .returned (.bool false) ∧ Below w.heap.size w w' := by
  have := newer_any a b c d a b c' d' w
  rwa [decide_eq_false (show ¬ (a = a ∧ b < b) by omega)] at this
theorem newer_up (a b c d c' d' : Int) (w : World) :
    Calls Try.prog 15 #[.agg #[.int .i64 a, .int .i64 b, .int .i64 c, .int .i64 d], .agg #[.int .i64 a, .int .i64 (b + 1), .int .i64 c', .int .i64 d']] w fun e w' => e = .returned (.bool true) ∧ Below w.heap.size w w' := by
  have := newer_any a b c d a (b + 1) c' d' w
  rwa [decide_eq_true (show a = a ∧ b < b + 1 by omega)] at this
theorem setCells_board {W : World} {g : Nat} {E F : Bd} (h : W.heap[g]? = some (.cells (Bd.cs F) boT)) : W.setCells g 0 (Bd.cs E).toList = setRow W g boT (Bd.cs E) := by
  have h1 := store_board' W g E F h
  have h2 := run_storeCells_cells (P := Try.prog) g 0 (Bd.cs E).toList 0 W
    (fun j hj => by
      have hj' : j < 51 := by simpa [Bd.cs_size] using hj
      simp only [Nat.zero_add]
      rw [cell_of_row _ _ _ _ _ _ h, Bd.cs_get F j hj']; rfl)
    (fun j hj => by simp only [Nat.zero_add]; exact frozen_row h _) (fun v hv => by
      have := (Array.all_eq_true_iff_forall_mem.1 (cs_one E)) v (by simpa using hv)
      exact this)
  rw [h1] at h2
  exact (Result.ok.inj h2).2.symm
theorem set_row {W : World} {g : Nat} {E F : Bd} (h : W.heap[g]? = some (.cells (Bd.cs F) boT)) : (W.setCells g 0 (Bd.row E)).heap[g]? = some (.cells (Bd.cs E) boT) := by
  have e : Bd.row E = (Bd.cs E).toList := by unfold Bd.cs; simp
  rw [e, setCells_board h]
  exact setRow_row (row_lt h)
theorem heap_setCells {b k : Nat} (hk : k ≠ b) : ∀ (vs : List Value) (o : Nat) (W : World), (W.setCells b o vs).heap[k]? = W.heap[k]?
  | [], _, _ => rfl
  | v :: r, o, W => by
    rw [World.setCells, heap_setCells hk r (o + 1)]
    exact Below.heap_setCell _ _ _ _ hk
theorem below_setCells {B b : Nat} {w : World} (hb : B ≤ b) : ∀ (vs : List Value) (o : Nat) (W : World), Below B w W → Below B w (W.setCells b o vs)
  | [], _, _, h => h
  | v :: r, o, W, h => by
    rw [World.setCells]
    exact below_setCells hb r (o + 1) _ (below_set h hb)
theorem there_board {W : World} {g : Nat} {F : Bd} (h : W.heap[g]? = some (.cells (Bd.cs F) boT)) : W.there g 0 51 := fun j hj => by
  simp only [Nat.zero_add]
  exact ⟨by rw [cell_of_row _ _ _ _ _ _ h, Bd.cs_get F j hj]; rfl, frozen_row h j⟩
theorem range_board {W : World} {g : Nat} {F : Bd} (h : W.heap[g]? = some (.cells (Bd.cs F) boT)) : W.rangeAt g 0 (Bd.row F) := fun j v hv => by
  simp only [Nat.zero_add]
  rw [cell_of_row _ _ _ _ _ _ h, Bd.cs, List.getElem?_toArray]; exact hv
theorem row_one (F : Bd) : ∀ v ∈ Bd.row F, v.oneCell' = true := fun v hv => by
  simp only [Bd.row, List.mem_map] at hv
  obtain ⟨_, _, rfl⟩ := hv
  rfl
theorem put_row {w : World} {E E' : Bd} {u : Int} {r : Bool} {A : Option Addr} {n cap : Nat} {l : List Int} (hE : Bd.put E u l = E') (hr : Bd.ok E u l = r) (hn : l.length = n) (hN : Nums .i64 w A l) (hlen : n ≤ 9223372036854775807) (hlow : ∀ i, -9223372036854775808 ≤ (E i).1) :
    Calls Try.prog 11 #[.agg (Bd.row E).toArray, .int .i64 u, .slice A n cap] w fun e w' => e = .returned (.tuple #[.agg (Bd.row E').toArray, .bool r]) ∧ Below w.heap.size w w' := put_to hE hr hn hN hlen hlow
/-- A board in the first block of the call's own, and nothing has turned below. -/
structure HB (w W : World) (F : Bd) : Prop where
  r0 : W.heap[w.heap.size]? = some (.cells (Bd.cs F) boT)
  low : Below w.heap.size w W
theorem HB.keep {w W W' : World} {F : Bd} (h : HB w W F) (hb : Below W.heap.size W W') : HB w W' F := ⟨row_kept h.r0 hb (row_lt h.r0), h.low.trans (hb.mono h.low.size)⟩
theorem HB.set {w W : World} {F : Bd} {g : Nat} {cs : Array Value} (h : HB w W F) (hg : w.heap.size < g) : HB w (setRow W g boT cs) F := ⟨(setRow_far (by omega)).trans h.r0, setRow_below h.low (by omega)⟩

theorem HB.cells {w W : World} {F : Bd} {g o : Nat} {vs : List Value} (h : HB w W F) (hg : w.heap.size < g) : HB w (W.setCells g o vs) F := ⟨(heap_setCells (by omega) _ _ _).trans h.r0, below_setCells (by omega) _ _ _ h.low⟩
theorem HB.call {A B C : Prop} {w W W' : World} {F : Bd} (h : A ∧ B ∧ C ∧ HB w W F) (hb : Below W.heap.size W W') : HB w W' F := h.2.2.2.keep hb
theorem HB.alloc {A B C : Prop} {w W : World} {F : Bd} (h : A ∧ B ∧ C ∧ HB w W F) (o : Obj) : HB w (W.alloc o) F := h.2.2.2.keep ((Below.refl _ _).alloc (Nat.le_refl _) _)
theorem HB.store {A B C : Prop} {w W : World} {F : Bd} {g o : Nat} {vs : List Value} (h : A ∧ B ∧ C ∧ HB w W F) (hg : w.heap.size < g) : HB w (W.setCells g o vs) F := h.2.2.2.cells hg
theorem HB.keep4 {A B C : Prop} {w W : World} {F : Bd} (h : A ∧ B ∧ C ∧ HB w W F) : HB w W F := h.2.2.2
theorem HB.lt2 {A B C : Prop} {w W W' : World} {F : Bd} (h : A ∧ B ∧ C ∧ HB w W F) (hb : Below W.heap.size W W') : w.heap.size < W'.heap.size := row_lt (h.2.2.2.keep hb).r0
theorem HB.lt {A B C : Prop} {w W : World} {F : Bd} (h : A ∧ B ∧ C ∧ HB w W F) : w.heap.size < W.heap.size := row_lt h.2.2.2.r0

abbrev SS (w : World) (F : Bd) (p q : Addr) (u v : Value) (W : World) : Prop := W.rangeAt w.heap.size 0 (Bd.row F) ∧ W.cell? p = some u ∧ W.cell? q = some v ∧ HB w W F
theorem HB.keep' {v w W W' : World} {F : Bd} (h : HB w W F) (hv : v.heap = W.heap) (ho : v.os = W.os) (ht : v.tape = W.tape) (hu : v.output = W.output) (hb : Below v.heap.size v W') : HB w W' F := by
  have h2 : HB w v F := ⟨by rw [hv]; exact h.r0, ⟨ho.trans h.low.os, ht.trans h.low.tape, hu.trans h.low.output, by rw [hv]; exact h.low.size, fun k hk => by rw [hv]; exact h.low.block k hk⟩⟩
  exact h2.keep hb
theorem fin_a (w w2 : World) (F F' : Bd) (r : Bool) (h : HB w ((w2.alloc (.cells (Bd.cs zeros) boT)).setCells w2.heap.size 0 (Bd.row F')) F) (hlt : w.heap.size < w2.heap.size) :
    ∃ g : Nat, Value.pointer (some ⟨w2.heap.size, 0, none⟩) = .pointer (some ⟨g, 0, none⟩) ∧ Value.bool r = .bool r ∧ HB w ((w2.alloc (.cells (Bd.cs zeros) boT)).setCells w2.heap.size 0 (Bd.row F')) F ∧ ((w2.alloc (.cells (Bd.cs zeros) boT)).setCells w2.heap.size 0 (Bd.row F')).heap[g]? = some (.cells (Bd.cs F') boT) ∧ w.heap.size < g :=
  ⟨_, rfl, rfl, h, set_row (MapKept.heap_alloc w2 _).1, hlt⟩
theorem fin_b (w w2 : World) (g : Nat) (F F' : Bd) (r : Bool) (h : HB w (w2.setCells g 0 (Bd.row F')) F) (hr : w2.heap[g]? = some (.cells (Bd.cs zeros) boT)) (hlt : w.heap.size < g) :
    ∃ g' : Nat, Value.pointer (some ⟨g, 0, none⟩) = .pointer (some ⟨g', 0, none⟩) ∧ Value.bool r = .bool r ∧ HB w (w2.setCells g 0 (Bd.row F')) F ∧ (w2.setCells g 0 (Bd.row F')).heap[g']? = some (.cells (Bd.cs F') boT) ∧ w.heap.size < g' :=
  ⟨_, rfl, rfl, h, set_row hr, hlt⟩
/-- What may come of a put, to one user. -/
theorem put_one (F : Bd) (us : Int) (zs : List Int) (k : Nat) (hk : 1 ≤ k ∧ k ≤ 16) (hV : (F k).1 < 1073741824) :
    ((k : Int) ≠ us ∧ Bd.put F us zs k = F k) ∨ ((k : Int) = us ∧ Bd.ok F us zs = true ∧ Bd.put F us zs k = ((F k).1 + 1, (Bd.fold zs).1, (Bd.fold zs).2)) ∨
    ((k : Int) = us ∧ Bd.ok F us zs = false ∧ Bd.put F us zs k = ((F k).1, (Bd.fold zs).1, (Bd.fold zs).2) ∧ F k = ((F k).1, (Bd.fold zs).1, (Bd.fold zs).2)) := by
  by_cases h : (k : Int) = us
  · subst h
    right
    cases ho : Bd.ok F (k : Int) zs with
    | true =>
      left
      refine ⟨rfl, rfl, ?_⟩
      unfold Bd.put
      rw [if_pos ho, Int.toNat_natCast]
      exact Bd.upd_at _ _ _
    | false =>
      right
      have hs : Bd.same F k zs := by
        unfold Bd.ok at ho
        rw [Int.toNat_natCast] at ho
        have := of_decide_eq_false ho
        exact Classical.byContradiction fun hn => this ⟨by omega, by omega, hn⟩
      have e : F k = ((F k).1, (Bd.fold zs).1, (Bd.fold zs).2) := by
        rcases hs with ⟨h1, h2⟩ | h3
        · rw [← h1, ← h2]
        · omega
      refine ⟨rfl, rfl, ?_, e⟩
      unfold Bd.put
      rw [ho]
      exact e
  · left
    refine ⟨h, ?_⟩
    unfold Bd.put
    split
    · rename_i ho
      refine Bd.upd_far _ _ _ _ ?_
      unfold Bd.ok at ho
      have := of_decide_eq_true ho
      omega
    · rfl
theorem put_bound (F : Bd) (us : Int) (zs : List Int) (j : Nat) (hj : j ≤ 100) (hlow : ∀ i, -9223372036854775808 ≤ (F i).1) (hV : ∀ u, 1 ≤ u → u ≤ 16 → 0 ≤ (F u).1 ∧ (F u).1 ≤ 1048576 + (j : Int)) :
    (∀ i, -9223372036854775808 ≤ (Bd.put F us zs i).1) ∧ ∀ u, 1 ≤ u → u ≤ 16 → 0 ≤ (Bd.put F us zs u).1 ∧ (Bd.put F us zs u).1 ≤ 1048576 + ((j + 1 : Nat) : Int) := by
  refine ⟨fun i => ?_, fun u h1 h2 => ?_⟩
  · unfold Bd.put
    split
    · refine upd_low hlow ?_ i
      have := hlow us.toNat
      simp only
      omega
    · exact hlow i
  · have hv := hV u h1 h2
    rcases put_one F us zs u ⟨h1, h2⟩ (by omega) with ⟨-, e⟩ | ⟨-, -, e⟩ | ⟨-, -, e, -⟩ <;> rw [e] <;> (try simp only) <;> omega
theorem note_of (E : Bd) (k : Nat) (hk : 1 ≤ k ∧ k ≤ 16) (p : Int × Int × Int) (hp : E k = p) : Bd.note E (k : Int) = ((k : Int), p.1, p.2.1, p.2.2) := by
  subst hp
  unfold Bd.note
  rw [if_pos (by omega), Int.toNat_natCast]

set_option maxRecDepth 10000 in
set_option maxHeartbeats 4000000 in
theorem walk (w : World) (E : Bd) (hE : ∀ i, -9223372036854775808 ≤ (E i).1)
    (A : Option Addr) (n cap : Nat) (l : List Int) (hl : n ≤ cap) (hm : cap ≤ maxLen) (hn : l.length = n) (hN : Nums .i64 w A l) (hw : ∀ z ∈ l, (Lit.int .i64 z).wf = true)
    (SA : Option Addr) (sn scap : Nat) (R : Nat → Option Addr) (C : Nat → Nat) (Z : Nat → List Int) (hll : sn ≤ scap) (hlm : scap ≤ maxLen) (hP : Mat .i64 w SA sn R C Z) :
    Calls Try.prog 4 #[.agg (Bd.cs E), .slice A n cap, .slice SA sn scap] w fun e w' => e = .returned (.bool true) ∧ Below w.heap.size w w' := by
  unfold maxLen at hm hlm
  have z0 := zero_board
  have z1 : ∀ W, (zeroValue noT).run Try.prog W = .ok (.agg #[.int .i64 0, .int .i64 0, .int .i64 0, .int .i64 0]) W := fun W => by kernel_rfl
  have hst := store_new
  have hsz := Bd.cs_size
  have Hn := Lib.hid hn
  have HN := Lib.hid hN
  have HP := Lib.hid hP
  obtain ⟨W1, hW1⟩ : ∃ V, w.alloc (.cells (Bd.cs E) boT) = V := ⟨_, rfl⟩
  have R0 : W1.heap[w.heap.size]? = some (.cells (Bd.cs E) boT) := by rw [← hW1]; exact (MapKept.heap_alloc w _).1
  have BW : Below w.heap.size w W1 := by rw [← hW1]; exact (Below.refl _ _).alloc (Nat.le_refl _) _
  clear hn hN hw hP
  by_cases h5 : 100 < n ∨ (n ≤ 100 ∧ (sn == n) = false)
  · rcases h5 with h5 | ⟨h5, h6⟩
    · have h5' : (100 : Int) < n := by omega
      go_enter Try.func4, Try.ntmps4
      go_wp2_with fail
      refine (small_any _).mono ?_
      rintro e w1 ⟨rfl, B1⟩
      go_wp2_with fail
      all_goals (go_ret; exact ⟨rfl, BW.trans (B1.mono BW.size)⟩)
    · have h5' : (n : Int) ≤ 100 := by omega
      have h6' : ((sn : Int) == (n : Int)) = false := by simp at h6 ⊢; omega
      have h7' : ((sn : Int) != (n : Int)) = true := by simp at h6 ⊢; omega
      go_enter Try.func4, Try.ntmps4
      go_wp2_with fail
      refine (small_any _).mono ?_
      rintro e w1 ⟨rfl, B1⟩
      go_wp2_with fail
      all_goals
        go_ret
        exact ⟨rfl, BW.trans (B1.mono BW.size)⟩
  · obtain rfl : sn = n := by
      have : ¬ ((sn == n) = false) := fun h => h5 (Or.inr ⟨by omega, h⟩)
      simpa using this
    have n1 : sn ≤ 100 := by omega
    clear h5
    have HE := Lib.hid hE
    clear hE
    go_enter Try.func4, Try.ntmps4
    go_wp2_with fail
    refine (small_any _).mono ?_
    rintro e w1 ⟨rfl, hb⟩
    have R0 := row_kept R0 hb (row_lt R0)
    have BW := BW.trans (hb.mono BW.size)
    clear hb
    go_wp2_with fail
    go_loop [8] (fun i => ∃ k : Nat, 1 ≤ k ∧ k ≤ 17 ∧ i = .int .i64 k ∧ ∀ u, 1 ≤ u → u < k → 0 ≤ (E u).1 ∧ (E u).1 ≤ 1048576) (fun i => 17 - (intOf i).toNat)
    case atStart => exact ⟨1, by omega, by omega, rfl, fun u h1 h2 => by omega⟩
    case round =>
      obtain ⟨k, hk1, hk2, rfl, hV⟩ := hrel
      by_cases hk : k < 17
      · have HV := Lib.hid hV
        have c0 : w1.cell? ⟨w.heap.size, k * 3, none⟩ = _ := (row_cells R0 _).trans (Bd.cs_0 E k (by omega))
        obtain ⟨v, hv⟩ : ∃ v, (E k).1 = v := ⟨_, rfl⟩
        rw [hv] at c0
        have Hv := Lib.hid hv
        have q1 : (k : Int) < 17 := by omega
        have q2 : (k : Int) ≤ 16 := by omega
        have q0 : (0 : Int) ≤ (k : Int) := by omega
        have hR := Lib.hid R0
        clear hV hv R0
        rcases (show v < 0 ∨ (0 ≤ v ∧ 1048576 < v) ∨ (0 ≤ v ∧ v ≤ 1048576) by omega) with h | ⟨h, h'⟩ | ⟨h, h'⟩
        · go_wp2_with fail
          go_ret
          exact ⟨rfl, BW⟩
        · go_wp2_with fail
          go_ret
          exact ⟨rfl, BW⟩
        · go_wp2_with fail
          go_round
          case rel => exact ⟨k + 1, by omega, by omega, by go_num, fun u h1 h2 => by
            by_cases e : u = k
            · subst e; rw [Hv.out]; omega
            · exact HV.out u h1 (by omega)⟩
          case measure => simp [intOf]; omega
      · obtain rfl : k = 17 := by omega
        go_wp2_with fail
        go_loopw [9] (fun i wr => ∃ (j : Nat) (F : Bd), j ≤ sn ∧ i = .int .i64 j ∧ wr.heap[w.heap.size]? = some (.cells (Bd.cs F) boT) ∧ Below w.heap.size w wr ∧ (∀ i, -9223372036854775808 ≤ (F i).1) ∧ (∀ u, 1 ≤ u → u ≤ 16 → 0 ≤ (F u).1 ∧ (F u).1 ≤ 1048576 + (j : Int))) (fun i _ => sn - (intOf i).toNat)
        case atStart => exact ⟨0, E, Nat.zero_le _, rfl, R0, BW, HE.out, fun u h1 h2 => by have := hV u h1 (by omega); omega⟩
        case round =>
          clear R0 BW HE hV
          obtain ⟨j, F, hj, rfl, R0, BW, hlow, hV⟩ := hrel
          by_cases hjn : j < sn
          · rcases HN.out with h0 | ⟨b, off, rfl, hlt, hc⟩
            · have := Hn.out; rw [h0] at this; simp at this; omega
            have cu' := hc j (by rw [Hn.out]; exact hjn)
            generalize l.getD j 0 = us at cu'
            rcases HP.out with h0 | ⟨sb, soff, hSA, hslt, hsc⟩
            · omega
            rw [hSA]
            obtain ⟨c0, cN, cl, cm, -, -⟩ := hsc j hjn
            generalize Z j = zs at c0 cN cl
            generalize R j = ZA at c0 cN
            generalize C j = cp at c0 cl cm
            obtain ⟨nz, hnz⟩ : ∃ nz, zs.length = nz := ⟨_, rfl⟩
            rw [hnz] at c0 cl
            have Hnz := Lib.hid hnz
            have HCU := Lib.hid (fun (W : World) (h : Below w.heap.size w W) => (h.cell (p := ⟨b, off + j, none⟩) hlt).trans cu')
            have HCS := Lib.hid (fun (W : World) (h : Below w.heap.size w W) => (h.cell (p := ⟨sb, soff + j, none⟩) hslt).trans c0)
            have HCN := Lib.hid (fun (W : World) (h : Below w.heap.size w W) => cN.below h)
            have q1 : (j : Int) < (sn : Int) := by omega
            have q0 : (0 : Int) ≤ (j : Int) := by omega
            clear hc hsc hSA c0 cN cu' hnz HN HP
            have cs1 := HCS.out _ BW
            by_cases h1 : 100 < nz
            · go_wp2_with fail
              go_ret
              exact ⟨rfl, BW⟩
            · obtain ⟨F', hF'⟩ : ∃ F', Bd.put F us zs = F' := ⟨_, rfl⟩
              obtain ⟨r, hr⟩ : ∃ r, Bd.ok F us zs = r := ⟨_, rfl⟩
              obtain ⟨f, hf⟩ : ∃ f, Bd.fold zs = f := ⟨_, rfl⟩
              obtain ⟨f0, f1⟩ := f
              obtain ⟨hlow', hV'⟩ := put_bound F us zs j (by omega) hlow hV
              have hone := fun k hk => put_one F us zs k hk (by have := hV k hk.1 hk.2; omega)
              rw [hF'] at hlow' hV'
              simp only [hF', hr, hf] at hone
              have HF' := Lib.hid hF'
              have HR := Lib.hid hr
              have HF := Lib.hid hf
              have HLOW := Lib.hid hlow
              have HLOW' := Lib.hid hlow'
              have HV' := Lib.hid hV'
              have HONE := Lib.hid hone
              have HVV := Lib.hid hV
              clear hF' hr hf hlow hlow' hV' hone hV
              go_wp2_with fail
              go_cut [10, 11] from 46 to 168 (fun s10 s11 wx => ∃ g : Nat, s10 = .pointer (some ⟨g, 0, none⟩) ∧ s11 = .bool r ∧ HB w wx F ∧ wx.heap[g]? = some (.cells (Bd.cs F') boT) ∧ w.heap.size < g)
              case first =>
                have H0 : HB w wr.drew F := ⟨R0, below_drewN BW 1⟩
                have HD := Lib.hid (fun (o : Obj) => show HB w (wr.alloc o).drew F from (HB.keep (W' := (wr.alloc o).drew) ⟨R0, BW⟩ (below_drewN ((Below.refl wr.heap.size wr).alloc (Nat.le_refl _) o) 1)))
                have MK := Lib.hid (fun (W : World) (h : HB w W F) => And.intro (range_board h.r0) (And.intro (HCU.out W h.low) (And.intro (HCS.out W h.low) h)))
                have HT : ∀ W : World, (W.alloc (.cells (Bd.cs zeros) boT)).there W.heap.size 0 51 := fun W => there_board (MapKept.heap_alloc W _).1
                have hone := row_one F'
                have hln := Bd.row_len F'
                have hltr : w.heap.size < wr.heap.size := row_lt R0
                have hi' : (Try.prog.info? boT).map (·.size) = some (Bd.row F').length := by rw [info_board, Bd.row_len]
                have KA := Lib.hid (fun (W : World) (o : Obj) (h : SS w F ⟨b, off + j, none⟩ ⟨sb, soff + j, none⟩ (.int .i64 us) (.slice ZA nz cp) W) => MK.out _ (HB.alloc h o))
                have KC := Lib.hid (fun (W W' : World) (h : SS w F ⟨b, off + j, none⟩ ⟨sb, soff + j, none⟩ (.int .i64 us) (.slice ZA nz cp) W) (hb : Below W.heap.size W W') => MK.out _ (HB.call h hb))
                have KS := Lib.hid (fun (W : World) (g : Nat) (l : List Value) (h : SS w F ⟨b, off + j, none⟩ ⟨sb, soff + j, none⟩ (.int .i64 us) (.slice ZA nz cp) W) (hg : w.heap.size < g) => MK.out _ (HB.store (o := 0) (vs := l) h hg))
                have hu := Try.underlying25
                have hi : (Try.prog.info? boT).map (·.size) = some (Bd.row F).length := by rw [info_board, Bd.row_len]
                go_region_held3 (fun W => W.rangeAt w.heap.size 0 (Bd.row F) ∧ W.cell? ⟨b, off + j, none⟩ = some (.int .i64 us) ∧ W.cell? ⟨sb, soff + j, none⟩ = some (.slice ZA nz cp) ∧ HB w W F)
                  (first | (with_reducible exact MK.out _ H0) | (with_reducible exact MK.out _ (HD.out _)) | (with_reducible exact KA.out _ _ (by assumption)) | (with_reducible exact KS.out _ _ _ (by assumption) (by assumption)) | (with_reducible exact KC.out _ _ (by assumption) hb))
                  (first
                    | (go_at_call 11; with_reducible refine (put_row HF'.out HR.out Hnz.out (HCN.out _ (HB.keep4 (by assumption)).low) (by omega) HLOW.out).mono ?_; rintro e w2 ⟨rfl, hb⟩; have hlt2 := HB.lt2 (by assumption) hb; (try have ht2 : w2.there wr.heap.size 0 51 := there_board (row_kept (MapKept.heap_alloc wr.drew _).1 hb (by simp))); (try have hr2 := row_kept (MapKept.heap_alloc wr.drew (.cells (Bd.cs zeros) boT)).1 hb (by simp))))
                all_goals
                  go_wp2_with fail
                  go_meet
                  case rel =>
                    first
                      | (have hr3 : w2.heap[wr.heap.size]? = some (.cells (Bd.cs zeros) boT) := hr2; have hh := HB.keep4 (w := w) (F := F) (by with_reducible assumption); exact fin_b w w2 wr.heap.size F F' r hh hr3 hltr)
                      | (have hh := HB.keep4 (w := w) (F := F) (by with_reducible assumption); exact fin_a w w2 F F' r hh hlt2)
              case rest =>
                clear R0 BW cs1
                obtain ⟨g10, rfl, rfl, HB0, R10, hg10⟩ := hcut
                have hlt10 := row_lt R10
                have cs1 := HCS.out _ HB0.low
                have cz := HCN.out _ HB0.low
                go_wp2_with (first
                  | (go_at_call 9; refine (fold_to HF.out Hnz.out cz (by omega)).mono ?_; rintro e w' ⟨rfl, rfl⟩))
                go_loopw [14] (fun i wr => ∃ k : Nat, 1 ≤ k ∧ k ≤ 17 ∧ i = .int .i64 k ∧ HB w wr F ∧ wr.heap[g10]? = some (.cells (Bd.cs F') boT)) (fun i _ => 17 - (intOf i).toNat)
                case atStart => exact ⟨1, by omega, by omega, rfl, HB0, R10⟩
                case round =>
                  clear HB0 R10 cs1 cz hlt10
                  obtain ⟨k, hk1, hk2, rfl, HB0, R10⟩ := hrel
                  by_cases hk : k < 17
                  · obtain ⟨a, ha⟩ : ∃ a, F k = a := ⟨_, rfl⟩
                    obtain ⟨a', ha'⟩ : ∃ a, F' k = a := ⟨_, rfl⟩
                    have hone := HONE.out k ⟨hk1, by omega⟩
                    rw [ha, ha'] at hone
                    have N1 := Lib.hid (note_of F k ⟨hk1, by omega⟩ a ha)
                    have N2 := Lib.hid (note_of F' k ⟨hk1, by omega⟩ a' ha')
                    have hvb : -9223372036854775808 ≤ a.1 ∧ a.1 ≤ 1152921504606846976 := by
                      have h1 := HLOW.out k
                      rw [ha] at h1
                      exact ⟨h1, by have := HVV.out k hk1 (by omega); rw [ha] at this; omega⟩
                    obtain ⟨a0, a1, a2⟩ := a
                    obtain ⟨b0, b1, b2⟩ := a'
                    simp only [Prod.mk.injEq] at hone hvb
                    dsimp only at N1 N2
                    have hR0 := HB0.r0
                    have hL0 := HB0.low
                    have kq : (k : Int) ≤ 16 := by omega
                    clear ha ha'
                    go_wp2_with ((with_reducible refine wpl_loadw ?_ (.tmp 3) ?_ w.heap.size F ?_ hR0 ?_); (rfl); (rfl); (rfl))
                    refine (note_to N1.out _).mono ?_
                    rintro e w4 ⟨rfl, hb4⟩
                    have hb4 := hb4.trans (((Below.refl w4.heap.size w4).alloc (Nat.le_refl _) (.cells #[.int .i64 k, .int .i64 a0, .int .i64 a1, .int .i64 a2] noT)).mono hb4.size)
                    have HB0 := HB0.keep hb4
                    have R10 := row_kept R10 hb4 (row_lt R10)
                    have R15 : (w4.alloc (.cells #[.int .i64 k, .int .i64 a0, .int .i64 a1, .int .i64 a2] noT)).heap[w4.heap.size]? = some (.cells #[.int .i64 k, .int .i64 a0, .int .i64 a1, .int .i64 a2] noT) := (MapKept.heap_alloc w4 _).1
                    clear hb4 hR0 hL0
                    go_wp2_with ((with_reducible refine wpl_loadw ?_ (.tmp 10) ?_ g10 F' ?_ R10 ?_); (rfl); (rfl); (rfl))
                    refine (note_to N2.out _).mono ?_
                    rintro e w6 ⟨rfl, hb6⟩
                    have hb6 := hb6.trans (((Below.refl w6.heap.size w6).alloc (Nat.le_refl _) (.cells #[.int .i64 k, .int .i64 b0, .int .i64 b1, .int .i64 b2] noT)).mono hb6.size)
                    have HB6 := HB0.keep hb6
                    have R106 := row_kept R10 hb6 (row_lt R10)
                    have R156 := row_kept R15 hb6 (row_lt R15)
                    have R16 : (w6.alloc (.cells #[.int .i64 k, .int .i64 b0, .int .i64 b1, .int .i64 b2] noT)).heap[w6.heap.size]? = some (.cells #[.int .i64 k, .int .i64 b0, .int .i64 b1, .int .i64 b2] noT) := (MapKept.heap_alloc w6 _).1
                    clear hb6 HB0 R10 R15
                    have cu := HCU.out _ HB6.low
                    have K15 := row_cells R156
                    have K16 := row_cells R16
                    have e1 : IntKind.i64.wrap (a0 + 1) = a0 + 1 := IntWalk.i64_in _ (by omega)
                    clear HONE HVV HLOW HLOW' HF' HR HF N1 N2
                    rcases hone with ⟨h1, rfl, rfl, rfl⟩ | ⟨rfl, rfl, rfl, rfl, rfl⟩ | ⟨rfl, rfl, ⟨rfl, rfl, rfl⟩, -, rfl, rfl⟩
                    · have hne : ((k : Int) != us) = true := by simpa using h1
                      have heq : ((k : Int) == us) = false := by simpa using h1
                      cases r
                      all_goals
                        go_wp2_with (first
                          | (go_at_call 15; refine (newer_no _ _ _ _ _ _ _).mono ?_; rintro e w7 ⟨rfl, hb7⟩; have HB7 := HB6.keep' rfl rfl rfl rfl hb7; have cu7 := HCU.out _ HB7.low; have K157 := row_cells (row_kept' R156 rfl hb7 (row_lt R156)); have K167 := row_cells (row_kept' R16 rfl hb7 (row_lt R16)); have R107 := row_kept' R106 rfl hb7 (row_lt R106)))
                        go_roundw
                        case rel => exact ⟨k + 1, by omega, by omega, by go_num, HB7, R107⟩
                        case measure => simp [intOf]; omega
                    · have hne : ((a0 + 1 : Int) != a0) = true := by simp <;> omega
                      go_wp2_with (first
                        | (go_at_call 15; refine (newer_up _ _ _ _ _ _ _).mono ?_; rintro e w7 ⟨rfl, hb7⟩; have HB7 := HB6.keep' rfl rfl rfl rfl hb7; have cu7 := HCU.out _ HB7.low; have K157 := row_cells (row_kept' R156 rfl hb7 (row_lt R156)); have K167 := row_cells (row_kept' R16 rfl hb7 (row_lt R16)); have R107 := row_kept' R106 rfl hb7 (row_lt R106)))
                      go_roundw
                      case rel => exact ⟨k + 1, by omega, by omega, by go_num, HB7, R107⟩
                      case measure => simp [intOf]; omega
                    · go_wp2_with (first
                        | (go_at_call 15; refine (newer_no _ _ _ _ _ _ _).mono ?_; rintro e w7 ⟨rfl, hb7⟩; have HB7 := HB6.keep' rfl rfl rfl rfl hb7; have cu7 := HCU.out _ HB7.low; have K157 := row_cells (row_kept' R156 rfl hb7 (row_lt R156)); have K167 := row_cells (row_kept' R16 rfl hb7 (row_lt R16)); have R107 := row_kept' R106 rfl hb7 (row_lt R106)))
                      go_roundw
                      case rel => exact ⟨k + 1, by omega, by omega, by go_num, HB7, R107⟩
                      case measure => simp [intOf]; omega
                  · obtain rfl : k = 17 := by omega
                    have hR0 := HB0.r0
                    have hs' := store_board' wr w.heap.size F' F hR0
                    have hz := HB0.set (cs := Bd.cs F') (g := g10) hg10
                    have hfin := setRow_row (t := boT) (cs := Bd.cs F') (row_lt hR0)
                    have hlow := setRow_below (t := boT) (cs := Bd.cs F') HB0.low (Nat.le_refl _)
                    have HFIN := Lib.hid (And.intro hfin hlow)
                    clear hfin hlow hz
                    go_wp2_with (first
                      | ((with_reducible refine wpl_loadw ?_ (.tmp 10) ?_ g10 F' ?_ R10 ?_); (rfl); (rfl); (rfl)))
                    go_roundw
                    case rel => exact ⟨j + 1, F', by omega, by go_num, HFIN.out.1, HFIN.out.2, HLOW'.out, HV'.out⟩
                    case measure => simp [intOf]; omega
          · obtain rfl : j = sn := by omega
            go_wp2_with fail
            go_ret
            exact ⟨rfl, BW⟩

theorem own : ownKnob Try.prog.godebug = none := by kernel_rfl
theorem laid : laidOutB Try.prog = true := by kernel_rfl

set_option maxRecDepth 100000 in
theorem lifted (os : Os) (started : os.Started) (H : Type) (enc : TypeId × Value → H) :
    ReturnsInHanded {} Try.checked os 4 .any (Rows.boardVersionsSpec.pre6 enc Try.prog Try.f4 Rows.boardVersionsRow.domain false) (Rows.boardVersionsSpec.post enc Try.prog Try.f4 false true false false) := by
  refine law_lifted (C := Try.checked) (B := 4) own started (by kernel_rfl) Try.func4
    (ChangeSpec.witness6 (enc := enc) (C := Try.checked) false ⟨#[], #[.agg (Bd.cs zeros), .slice none 0 0, .slice none 0 0], []⟩ 8 (by kernel_rfl) (by kernel_rfl) (by kernel_rfl) (by kernel_rfl))
    rfl rfl Try.underlying4 laid (of_decide_eq_true (by kernel_rfl)) ?_ ?_
  · intro ds hl
    rw [Try.params4] at hl
    match ds, hl with
    | [d0, d1, d2], _ => rfl
  · intro W base args ds ps hval hA hlt hz
    rw [Try.params4] at hA hval
    obtain ⟨v0, vs0, d0, ds0, p0, q0, hargs, rfl, rfl, h0, r0⟩ := trodAll_cons hA
    obtain ⟨v1, vs1, d1, ds1, p1, q1, rfl, rfl, rfl, h1, r1⟩ := trodAll_cons r0
    obtain ⟨v2, vs2, d2, ds2, p2, q2, rfl, rfl, rfl, h2, r2⟩ := trodAll_cons r1
    obtain ⟨rfl, rfl, rfl⟩ := trodAll_nil r2
    obtain rfl : args = #[v0, v1, v2] := by cases args; simp_all
    obtain ⟨E0, rfl, hE0⟩ := open_board (hval 0 25 v0 rfl rfl) h0
    obtain ⟨A1, n1, cap1, zs1, rfl, hl1, hm1, hn1, hN1, hw1⟩ := open_nums Try.underlying26 Try.underlying3 (by kernel_rfl) (hval 1 26 v1 rfl rfl) h1
    obtain ⟨A2, n2, cap2, R2, C2, Z2, rfl, hl2, hm2, hP2⟩ := open_mat Try.underlying39 Try.underlying26 Try.underlying3 (by kernel_rfl) (by kernel_rfl) (hval 2 39 v2 rfl rfl) h2
    exact walk W E0 hE0 A1 n1 cap1 zs1 hl1 hm1 hn1 hN1 hw1 A2 n2 cap2 R2 C2 Z2 hl2 hm2 hP2

theorem over : Rows.boardVersionsRow.holds Try.pinned (OpenSpec.ofChange Rows.boardVersionsSpec) :=
  OpenClaim.holds_of_wide 4 Try.f4 rfl rfl rfl rfl rfl rfl rfl ⟨rfl, rfl, rfl, rfl, rfl⟩ rfl rfl rfl rfl rfl (by kernel_rfl) Try.func4 (by kernel_rfl)
    (of_decide_eq_true (by kernel_rfl)) (by unfold Func.isWrapper; first | (rw [if_pos (by decide +kernel)]; kernel_rfl) | (rw [if_neg (by decide +kernel)]; exact ⟨rfl, rfl⟩))
    (fun os started H enc _ => lifted os started H enc)

theorem proved : Rows.BoardVersionsSaid := over
#print axioms proved
end Go.Proofs.Ytjmpafpampmncaa.boardVersions
