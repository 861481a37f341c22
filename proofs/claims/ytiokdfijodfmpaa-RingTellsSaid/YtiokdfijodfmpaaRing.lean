/- What the functions of package ring come to, one contract each: a ring's block is known whole. -/
import Derived.Test.YtiokdfijodfmpaaRows
import Derived.Test.YtiokdfijodfmpaaMem
import Derived.Test.YtiokdfijodfmpaaMem2
import Derived.WalkKit
import Derived.ProofKit
import Derived.OpenShut
import Derived.Outline
import Derived.Lib.Hide
import Derived.Test.YtiokdfijodfmpaaTail
namespace Go.Proofs.Ytiokdfijodfmpaa
open Go.ChangeShapes Go.WideShapes Go.ChangeAt Go.RowKit

/-- A ring: its numbers by place, the room less one, the first place, how many are held, how many are lost. -/
structure RS where
  nums : Nat → Int
  e : Int
  f : Int
  h : Int
  l : Int
namespace RS
def row (R : RS) : Array Value := (((List.range 64).map fun i => Value.int .i64 (R.nums i)) ++ [Value.int .i64 R.e, Value.int .i64 R.f, Value.int .i64 R.h, Value.int .i64 R.l]).toArray
theorem row_num (R : RS) (k : Nat) (h : k < 64) : R.row[k]? = some (.int .i64 (R.nums k)) := by
  unfold row
  rw [List.getElem?_toArray, List.getElem?_append_left (by simpa using h)]
  simp [h]
theorem row_e (R : RS) : R.row[64]? = some (.int .i64 R.e) := by unfold row; rw [List.getElem?_toArray, List.getElem?_append_right (by simp)]; simp
theorem row_f (R : RS) : R.row[65]? = some (.int .i64 R.f) := by unfold row; rw [List.getElem?_toArray, List.getElem?_append_right (by simp)]; simp
theorem row_h (R : RS) : R.row[66]? = some (.int .i64 R.h) := by unfold row; rw [List.getElem?_toArray, List.getElem?_append_right (by simp)]; simp
theorem row_l (R : RS) : R.row[67]? = some (.int .i64 R.l) := by unfold row; rw [List.getElem?_toArray, List.getElem?_append_right (by simp)]; simp
theorem size_row (R : RS) : R.row.size = 68 := by unfold row; simp
theorem row_ext {R : RS} {a : Array Value} (hs : a.size = 68) (hn : ∀ k, k < 64 → a[k]? = some (.int .i64 (R.nums k))) (h1 : a[64]? = some (.int .i64 R.e)) (h2 : a[65]? = some (.int .i64 R.f)) (h3 : a[66]? = some (.int .i64 R.h)) (h4 : a[67]? = some (.int .i64 R.l)) : a = R.row := by
  apply Array.ext_getElem?
  intro k
  rcases Nat.lt_or_ge k 64 with hk | hk
  · rw [hn k hk, row_num R k hk]
  · rcases (show k = 64 ∨ k = 65 ∨ k = 66 ∨ k = 67 ∨ 68 ≤ k by omega) with rfl | rfl | rfl | rfl | h
    · rw [h1, row_e]
    · rw [h2, row_f]
    · rw [h3, row_h]
    · rw [h4, row_l]
    · rw [Array.getElem?_eq_none (by omega), Array.getElem?_eq_none (by rw [size_row]; omega)]
theorem get_set (a : Array Value) (i k : Nat) (u : Value) (hi : i < a.size) : (a.setIfInBounds i u)[k]? = if k = i then some u else a[k]? := by
  rw [Array.getElem?_setIfInBounds]
  by_cases h : i = k
  · subst h; simp [hi]
  · rw [if_neg h, if_neg (by omega)]
theorem set_num (R : RS) (k : Nat) (z : Int) (hk : k < 64) : R.row.setIfInBounds k (.int .i64 z) = row { R with nums := fun i => if i = k then z else R.nums i } := by
  have g := fun j => get_set R.row k j (.int .i64 z) (by rw [size_row]; omega)
  refine row_ext (by simp [size_row]) (fun j hj => ?_) ?_ ?_ ?_ ?_
  · rw [g]; split
    · rename_i h; subst h; simp
    · rename_i h; rw [row_num R j hj]; simp [h]
  · rw [g, if_neg (by omega)]; exact row_e R
  · rw [g, if_neg (by omega)]; exact row_f R
  · rw [g, if_neg (by omega)]; exact row_h R
  · rw [g, if_neg (by omega)]; exact row_l R
theorem set_e (R : RS) (z : Int) : R.row.setIfInBounds 64 (.int .i64 z) = row { R with e := z } := by
  have g := fun j => get_set R.row 64 j (.int .i64 z) (by rw [size_row]; omega)
  refine row_ext (by simp [size_row]) (fun j hj => ?_) ?_ ?_ ?_ ?_
  · rw [g, if_neg (by omega)]; exact row_num R j hj
  · rw [g, if_pos rfl]
  · rw [g, if_neg (by omega)]; exact row_f R
  · rw [g, if_neg (by omega)]; exact row_h R
  · rw [g, if_neg (by omega)]; exact row_l R
theorem set_f (R : RS) (z : Int) : R.row.setIfInBounds 65 (.int .i64 z) = row { R with f := z } := by
  have g := fun j => get_set R.row 65 j (.int .i64 z) (by rw [size_row]; omega)
  refine row_ext (by simp [size_row]) (fun j hj => ?_) ?_ ?_ ?_ ?_
  · rw [g, if_neg (by omega)]; exact row_num R j hj
  · rw [g, if_neg (by omega)]; exact row_e R
  · rw [g, if_pos rfl]
  · rw [g, if_neg (by omega)]; exact row_h R
  · rw [g, if_neg (by omega)]; exact row_l R
theorem set_h (R : RS) (z : Int) : R.row.setIfInBounds 66 (.int .i64 z) = row { R with h := z } := by
  have g := fun j => get_set R.row 66 j (.int .i64 z) (by rw [size_row]; omega)
  refine row_ext (by simp [size_row]) (fun j hj => ?_) ?_ ?_ ?_ ?_
  · rw [g, if_neg (by omega)]; exact row_num R j hj
  · rw [g, if_neg (by omega)]; exact row_e R
  · rw [g, if_neg (by omega)]; exact row_f R
  · rw [g, if_pos rfl]
  · rw [g, if_neg (by omega)]; exact row_l R
theorem set_l (R : RS) (z : Int) : R.row.setIfInBounds 67 (.int .i64 z) = row { R with l := z } := by
  have g := fun j => get_set R.row 67 j (.int .i64 z) (by rw [size_row]; omega)
  refine row_ext (by simp [size_row]) (fun j hj => ?_) ?_ ?_ ?_ ?_
  · rw [g, if_neg (by omega)]; exact row_num R j hj
  · rw [g, if_neg (by omega)]; exact row_e R
  · rw [g, if_neg (by omega)]; exact row_f R
  · rw [g, if_neg (by omega)]; exact row_h R
  · rw [g, if_pos rfl]
/-- What holds of each ring that comes up. -/
structure Ok (R : RS) : Prop where
  e0 : 0 ≤ R.e
  e1 : R.e ≤ 63
  f0 : 0 ≤ R.f
  f1 : R.f ≤ R.e
  h0 : 0 ≤ R.h
  h1 : R.h ≤ R.e + 1
  l0 : 0 ≤ R.l
  l1 : R.l ≤ 1099511627776
def place (R : RS) (i : Int) : Int := (R.f + i) % (R.e + 1)
end RS

abbrev ringT : TypeId := 41
/-- The ring lies in block g. -/
def RingAt (w : World) (g : Nat) (R : RS) : Prop := w.heap[g]? = some (.cells R.row ringT)

theorem place_any {w : World} {g : Nat} {R : RS} (hR : RingAt w g R) (hO : R.Ok) (i : Int) (hi : 0 ≤ i) (hi' : i ≤ 100) :
    Calls Try.prog 21 #[.pointer (some ⟨g, 0, none⟩), .int .i64 i] w fun e w' => e = .returned (.int .i64 (R.place i)) ∧ ∃ n, w' = w.drewN n := by
  have K := row_cells hR
  have k1 := (K 64).trans R.row_e
  have k2 := (K 65).trans R.row_f
  obtain ⟨e0, e1, f0, f1, -, -, -, -⟩ := hO
  have hp : R.place i = (R.f + i) % (R.e + 1) := rfl
  rw [hp]
  generalize R.f = f at *
  generalize R.e = e at *
  clear K hR hp
  have w1 : IntKind.i64.wrap (e + 1) = e + 1 := IntWalk.i64_in _ (by omega)
  have w2 : IntKind.i64.wrap (f + i) = f + i := IntWalk.i64_in _ (by omega)
  have w3 : IntKind.i64.wrap ((f + i).tmod (e + 1)) = (f + i) % (e + 1) := by
    rw [Int.tmod_eq_emod_of_nonneg (by omega)]
    have h1 := Int.emod_nonneg (f + i) (show e + 1 ≠ 0 by omega)
    have h2 := Int.emod_lt_of_pos (f + i) (show 0 < e + 1 by omega)
    exact IntWalk.i64_in _ (by omega)
  have w4 : ((e + 1 : Int) == 0) = false := beq_eq_false_iff_ne.2 (by omega)
  go_enter Try.func21, Try.ntmps21
  go_wp2
  go_region
  all_goals (go_wp2; go_ret; exact ⟨rfl, 1, rfl⟩)

theorem RingAt.drewN {w : World} {g : Nat} {R : RS} (h : RingAt w g R) (n : Nat) : RingAt (w.drewN n) g R := h
theorem place_quiet {w : World} {g : Nat} {R : RS} {i p : Int} {n : Nat} (hp : R.place i = p) (hR : RingAt w g R) (hO : R.Ok) (hi : 0 ≤ i) (hi' : i ≤ 100) :
    Calls Try.prog 21 #[.pointer (some ⟨g, 0, none⟩), .int .i64 i] (w.drewN n) fun e w'' => e = .returned (.int .i64 p) ∧ ∃ m, w'' = w.drewN m := by
  rw [← hp]
  exact Calls.quiet_of (place_any (hR.drewN n) hO i hi hi')

theorem len_any {w : World} {g : Nat} {R : RS} (hR : RingAt w g R) :
    Calls Try.prog 17 #[.pointer (some ⟨g, 0, none⟩)] w fun e w' => e = .returned (.int .i64 R.h) ∧ w = w' := by
  have k1 := (row_cells hR 66).trans R.row_h
  clear hR
  go_enter Try.func17, Try.ntmps17
  go_wp2
  go_ret
  exact ⟨rfl, rfl⟩
theorem lost_any {w : World} {g : Nat} {R : RS} (hR : RingAt w g R) :
    Calls Try.prog 19 #[.pointer (some ⟨g, 0, none⟩)] w fun e w' => e = .returned (.int .i64 R.l) ∧ w = w' := by
  have k1 := (row_cells hR 67).trans R.row_l
  clear hR
  go_enter Try.func19, Try.ntmps19
  go_wp2
  go_ret
  exact ⟨rfl, rfl⟩

def RS.made (room : Int) : RS := ⟨fun _ => 0, min (max room 1) 64 - 1, 0, 0, 0⟩
set_option maxHeartbeats 400000 in
theorem new_any (room : Int) (w : World) :
    Calls Try.prog 8 #[.int .i64 room] w fun e w' => e = .returned (.pointer (some ⟨w.heap.size, 0, none⟩)) ∧ w' = w.alloc (.cells (RS.made room).row ringT) := by
  obtain ⟨m, hm⟩ : ∃ m, m = min (max room 1) 64 - 1 := ⟨_, rfl⟩
  have hr : RS.made room = RS.mk (fun _ => 0) m 0 0 0 := by rw [hm]; rfl
  rw [hr]
  have Hm := Lib.hid hm
  clear hm hr
  have z0 : ∀ W, (zeroValue ringT).run Try.prog W = .ok (.agg (RS.mk (fun _ => 0) 0 0 0 0).row) W := fun W => by kernel_rfl
  have z1 := RS.size_row (RS.mk (fun _ => 0) 0 0 0 0)
  have z2 : ∀ z, (RS.mk (fun _ => 0) 0 0 0 0).row.setIfInBounds 64 (.int .i64 z) = (RS.mk (fun _ => 0) z 0 0 0).row := fun z => RS.set_e _ z
  generalize (RS.mk (fun _ => 0) 0 0 0 0).row = rz at z0 z1 z2
  go_enter Try.func8, Try.ntmps8
  go_wp2
  · go_ret
    have e : m = 0 := by have := Hm.out; omega
    subst e
    exact ⟨rfl, rfl⟩
  · go_ret
    have e : m = 63 := by have := Hm.out; omega
    subst e
    exact ⟨rfl, rfl⟩
  · go_ret
    have e : m = room - 1 := by have := Hm.out; omega
    subst e
    exact ⟨rfl, rfl⟩

theorem last_none {w : World} {g : Nat} {R : RS} (hR : RingAt w g R) (h0 : R.h = 0) :
    Calls Try.prog 12 #[.pointer (some ⟨g, 0, none⟩)] w fun e w' => e = .returned (.tuple #[.int .i64 0, .bool false]) ∧ w = w' := by
  have k1 := (row_cells hR 66).trans R.row_h
  rw [h0] at k1
  clear hR h0
  go_enter Try.func12, Try.ntmps12
  go_wp2
  go_ret2
  exact ⟨rfl, rfl⟩
theorem last_some {w : World} {g : Nat} {R : RS} (hR : RingAt w g R) (hO : R.Ok) (h0 : 0 < R.h) :
    Calls Try.prog 12 #[.pointer (some ⟨g, 0, none⟩)] w fun e w' => e = .returned (.tuple #[.int .i64 (R.nums (R.place (R.h - 1)).toNat), .bool true]) ∧ ∃ n, w' = w.drewN n := by
  have k1 := (row_cells hR 66).trans R.row_h
  obtain ⟨p, hp, hp64⟩ : ∃ p : Nat, R.place (R.h - 1) = p ∧ p < 64 := by
    have h1 := Int.emod_nonneg (R.f + (R.h - 1)) (show R.e + 1 ≠ 0 by have := hO.e0; omega)
    have h2 := Int.emod_lt_of_pos (R.f + (R.h - 1)) (show 0 < R.e + 1 by have := hO.e0; omega)
    refine ⟨(R.place (R.h - 1)).toNat, ?_, ?_⟩ <;> (unfold RS.place; have := hO.e1; omega)
  have k2 := (row_cells hR p).trans (R.row_num p hp64)
  have hb1 := hO.h1
  have hb2 := hO.e1
  have HO := Lib.hid hO
  have HR := Lib.hid hR
  have Hp := Lib.hid hp
  rw [hp, Int.toNat_natCast]
  clear hR hO hp
  go_enter Try.func12, Try.ntmps12
  go_wp2
  have q1 : (p : Int) < 64 := by omega
  have q0 : (0 : Int) ≤ (p : Int) := by omega
  have u1 : IntKind.i64.wrap (R.h - 1) = R.h - 1 := IntWalk.i64_in _ (by omega)
  go_quiet ((first | (go_at_call 21; exact place_quiet Hp.out HR.out HO.out (by omega) (by omega))))
  go_wp2
  go_ret2
  exact ⟨rfl, _, rfl⟩

/-- One number more: the oldest one goes where there is no room. -/
def RS.drop (R : RS) : RS := if R.e < R.h then { R with f := R.place 1, h := R.h - 1, l := R.l + 1 } else R
def RS.put (R : RS) (z : Int) : RS := { R with nums := fun i => if i = (R.place R.h).toNat then z else R.nums i, h := R.h + 1 }
def RS.push (R : RS) (z : Int) : RS := R.drop.put z
def RS.pushes (R : RS) (zs : List Int) : RS := zs.foldl RS.push R
theorem RS.place_bd (R : RS) (h : R.Ok) (i : Int) : ∃ p : Nat, R.place i = p ∧ p < 64 ∧ (p : Int) ≤ R.e := by
  have h1 := Int.emod_nonneg (R.f + i) (show R.e + 1 ≠ 0 by have := h.e0; omega)
  have h2 := Int.emod_lt_of_pos (R.f + i) (show 0 < R.e + 1 by have := h.e0; omega)
  refine ⟨(R.place i).toNat, ?_, ?_, ?_⟩ <;> (unfold RS.place; have := h.e1; omega)
theorem RS.drop_ok {R : RS} (h : R.Ok) (hl : R.l < 1099511627776) : R.drop.Ok ∧ R.drop.h ≤ R.e ∧ R.drop.e = R.e ∧ R.drop.l ≤ R.l + 1 := by
  obtain ⟨p, hp, hp64, hpe⟩ := R.place_bd h 1
  have := h.e0; have := h.e1; have := h.f0; have := h.f1; have := h.h0; have := h.h1; have := h.l0
  unfold RS.drop
  split
  · exact ⟨⟨h.e0, h.e1, by rw [hp]; simp, by rw [hp]; exact hpe, by simp only; omega, by simp only; omega, by simp only; omega, by simp only; omega⟩, by simp only; omega, rfl, by simp only; omega⟩
  · exact ⟨h, by omega, rfl, by omega⟩
theorem RS.put_ok {R : RS} (h : R.Ok) (hh : R.h ≤ R.e) (z : Int) : (R.put z).Ok :=
  ⟨h.e0, h.e1, h.f0, h.f1, by have := h.h0; unfold RS.put; simp only; omega, by unfold RS.put; simp only; omega, h.l0, h.l1⟩
theorem RS.push_ok {R : RS} (h : R.Ok) (hl : R.l < 1099511627776) (z : Int) : (R.push z).Ok ∧ (R.push z).l ≤ R.l + 1 ∧ (R.push z).e = R.e := by
  obtain ⟨h1, h2, h3, h4⟩ := RS.drop_ok h hl
  exact ⟨RS.put_ok h1 (by omega) z, h4, h3⟩
theorem RS.pushes_ok : ∀ (zs : List Int) {R : RS} (_ : R.Ok) (_ : R.l + zs.length ≤ 1099511627776), (R.pushes zs).Ok ∧ (R.pushes zs).l ≤ R.l + zs.length ∧ (R.pushes zs).e = R.e
  | [], R, h, _ => ⟨h, by simp [RS.pushes], rfl⟩
  | z :: zs, R, h, hl => by
    simp only [List.length_cons] at hl
    obtain ⟨h1, h2, h3⟩ := RS.push_ok h (by omega) z
    obtain ⟨h4, h5, h6⟩ := RS.pushes_ok zs h1 (by omega)
    exact ⟨h4, by simp only [List.length_cons]; show (RS.pushes (R.push z) zs).l ≤ _; omega, h6.trans h3⟩
theorem RS.pushes_snoc (R : RS) (zs : List Int) (k : Nat) (h : k < zs.length) : R.pushes (zs.take (k + 1)) = (R.pushes (zs.take k)).push (zs.getD k 0) := by
  unfold RS.pushes
  rw [List.take_succ_eq_append_getElem h, List.foldl_append]
  simp [List.getD, h]

theorem setRow_setRow {w : World} {g : Nat} {t : TypeId} {a b : Array Value} : setRow (setRow w g t a) g t b = setRow w g t b := by
  unfold setRow
  simp
theorem setRow_drewN {w : World} {g : Nat} {t : TypeId} {a : Array Value} {n : Nat} : setRow (w.drewN n) g t a = (setRow w g t a).drewN n := rfl

theorem setRow_id {w : World} {g : Nat} {R : RS} (h : RingAt w g R) : w = (setRow w g ringT R.row).drewN 0 := by
  refine world_eq (fun k => ?_) rfl rfl rfl rfl
  show w.heap[k]? = (setRow w g ringT R.row).heap[k]?
  rw [setRow_heap]
  split
  · rename_i hk; rw [hk.1]; exact h
  · rfl
theorem cell_far {w : World} {g b o : Nat} {t : TypeId} {a : Array Value} {m : Nat} (hne : b ≠ g) : ((setRow w g t a).drewN m).cell? ⟨b, o, none⟩ = w.cell? ⟨b, o, none⟩ := by
  show (setRow w g t a).cell? _ = _
  unfold World.cell?
  simp only [setRow_far hne]
theorem push_back {w X : World} {g : Nat} {a r : Array Value} {mX m : Nat} (h : X = (setRow w g ringT a).drewN mX) : setRow (X.drewN m) g ringT r = (setRow w g ringT r).drewN (mX + m) := by
  subst h
  rw [World.drewN_drewN, setRow_drewN, setRow_setRow]

set_option maxHeartbeats 2000000 in
theorem push_any {w : World} {g : Nat} {R : RS} (hR : RingAt w g R) (hO : R.Ok) (A : Option Addr) (n cap : Nat) (zs : List Int) (hn : zs.length = n) (hN : Nums .i64 w A zs) (hlen : n ≤ 1000000) (hl : R.l + n ≤ 1099511627776) (hA : 0 < n → ∀ b off, A = some ⟨b, off, none⟩ → b ≠ g) :
    Calls Try.prog 10 #[.pointer (some ⟨g, 0, none⟩), .slice A n cap] w fun e w' => e = .returned (.tuple #[]) ∧ ∃ m, w' = (setRow w g ringT (R.pushes zs).row).drewN m := by
  have HR := Lib.hid hR
  have HO := Lib.hid hO
  have Hn := Lib.hid hn
  have HN := Lib.hid hN
  have Hl := Lib.hid hl
  have HA := Lib.hid hA
  clear hR hO hn hN hl hA
  go_enter Try.func10, Try.ntmps10
  go_wp2
  go_loopw [8] (fun i wr => ∃ (k m : Nat), k ≤ n ∧ i = .int .i64 k ∧ wr = (setRow w g ringT (R.pushes (zs.take k)).row).drewN m) (fun i _ => n - (intOf i).toNat)
  case atStart => exact ⟨0, 0, Nat.zero_le _, rfl, setRow_id HR.out⟩
  case round =>
    obtain ⟨k, m, hk, rfl, hW⟩ := hrel
    have hgw := row_lt HR.out
    by_cases hkn : k < n
    · rcases HN.out with h0 | ⟨b, off, rfl, hlt, hc⟩
      · have := Hn.out; rw [h0] at this; simp at this; omega
      have hne := HA.out (by omega) b off rfl
      have hkz : k < zs.length := by rw [Hn.out]; exact hkn
      have hcell : wr.cell? ⟨b, off + k, none⟩ = some (.int .i64 (zs.getD k 0)) := by rw [hW, cell_far hne]; exact hc k hkz
      have Hsn := Lib.hid (R.pushes_snoc zs k hkz)
      obtain ⟨ok, okl, -⟩ := RS.pushes_ok (zs.take k) HO.out (by have := Hl.out; have := Hn.out; simp only [List.length_take]; omega)
      have hl' : (R.pushes (zs.take k)).l < 1099511627776 := by have := Hl.out; have := Hn.out; simp only [List.length_take] at okl; omega
      generalize zs.getD k 0 = z at hcell Hsn
      generalize R.pushes (zs.take k) = S at hW ok hl' Hsn
      have RV : RingAt wr g S := by rw [hW]; exact setRow_row hgw
      have HW := Lib.hid hW
      obtain ⟨okD, hD, eD, -⟩ := RS.drop_ok ok hl'
      have OK := Lib.hid ok
      obtain ⟨e0, e1, f0, f1, h0, h1, l0, l1⟩ := ok
      have c64 := (row_cells RV 64).trans S.row_e
      have c66 := (row_cells RV 66).trans S.row_h
      have q1 : (k : Int) < (n : Int) := by omega
      clear hW hc okl
      by_cases hf : S.e < S.h
      · go_wp2
        go_region
        obtain ⟨V2, hV2⟩ : ∃ V2, V2 = wr.drew := ⟨_, rfl⟩
        rw [← hV2]
        have R2 : RingAt V2 g S := by rw [hV2]; exact RV
        have HV2 := Lib.hid hV2
        clear hV2
        have k65 : S.row[65]? = some (.int .i64 S.f) := RS.row_f _
        have k66 : ({ S with f := S.place 1 } : RS).row[66]? = some (.int .i64 S.h) := RS.row_h _
        have k67 : ({ S with f := S.place 1, h := S.h - 1 } : RS).row[67]? = some (.int .i64 S.l) := RS.row_l _
        have s65 : S.row.setIfInBounds 65 (.int .i64 (S.place 1)) = ({ S with f := S.place 1 } : RS).row := RS.set_f _ _
        have s66 : ({ S with f := S.place 1 } : RS).row.setIfInBounds 66 (.int .i64 (S.h - 1)) = ({ S with f := S.place 1, h := S.h - 1 } : RS).row := RS.set_h _ _
        have s67 : ({ S with f := S.place 1, h := S.h - 1 } : RS).row.setIfInBounds 67 (.int .i64 (S.l + 1)) = S.drop.row := by rw [RS.set_l]; unfold RS.drop; rw [if_pos hf]
        go_wp2_with (first
          | (go_at_call 21; refine (place_any R2 OK.out 1 (by omega) (by omega)).mono ?_; rintro e V3 ⟨rfl, n3, hV3⟩; have R3 : RingAt V3 g S := (by rw [hV3]; exact R2); have HV3 := Lib.hid hV3; clear hV3; obtain ⟨s0, s1, c0, c1, g0, g1, z1⟩ := rows1 R3)
          )
        obtain ⟨X, hX⟩ : ∃ X, X = setRow V3 g ringT S.drop.row := ⟨_, rfl⟩
        rw [← hX]
        have RX : RingAt X g S.drop := by rw [hX]; exact row_written R3
        have hX' : X = (setRow w g ringT S.drop.row).drewN (m + (1 + n3)) := by
          have e2 : V3 = wr.drewN (1 + n3) := by rw [HV3.out, HV2.out, show wr.drew = wr.drewN 1 from rfl, World.drewN_drewN]
          rw [hX, e2]; exact push_back HW.out
        have HX := Lib.hid hX'
        clear hX'
        clear hX c64 c66 hcell RV
        have HOD := Lib.hid okD
        obtain ⟨p, hp, hp64, hpe⟩ := RS.place_bd S.drop okD S.drop.h
        have Hp := Lib.hid hp
        obtain ⟨e0', e1', f0', f1', h0', h1', l0', l1'⟩ := okD
        have p1 : (p : Int) < 64 := by omega
        have p0 : (0 : Int) ≤ (p : Int) := by omega
        have s5 : S.drop.row.setIfInBounds p (.int .i64 z) = ({ S.drop with nums := fun i => if i = p then z else S.drop.nums i } : RS).row := RS.set_num _ p z hp64
        have k5 : ({ S.drop with nums := fun i => if i = p then z else S.drop.nums i } : RS).row[66]? = some (.int .i64 S.drop.h) := RS.row_h _
        have s6 : ({ S.drop with nums := fun i => if i = p then z else S.drop.nums i } : RS).row.setIfInBounds 66 (.int .i64 (S.drop.h + 1)) = (S.push z).row := by
          rw [RS.set_h]
          unfold RS.push RS.put
          rw [hp]
          simp
        have xp : S.drop.row[p]? = some (.int .i64 (S.drop.nums p)) := RS.row_num _ p hp64
        have hh : S.drop.h ≤ 64 := by omega
        clear hD eD
        have x66 := (row_cells RX 66).trans S.drop.row_h
        clear hp hp64
        refine region_tail 11 (by kernel_rfl) (by kernel_rfl) ?_
        simp only [List.take_succ_cons, List.take_zero, List.drop_succ_cons, List.drop_zero]
        repeat (quiet_step ((first | (go_at_call 21; exact place_quiet Hp.out RX HOD.out (by omega) (by omega)))))
        refine wpQuiet_nil ?_
        intro mq
        have R4 : RingAt (X.drewN mq) g S.drop := RX
        obtain ⟨t0, t1, d0, d1, i0, i1, y1⟩ := rows1 R4
        go_wp2
        go_roundw
        case rel => exact ⟨k + 1, _, by omega, by go_num, by rw [Hsn.out]; exact push_back HX.out⟩
        case measure => simp [intOf]; omega
      · have eS : S.drop = S := if_neg hf
        go_wp2
        go_region
        obtain ⟨X, hX⟩ : ∃ X, X = wr.drew := ⟨_, rfl⟩
        rw [← hX]
        have RX : RingAt X g S.drop := by rw [hX, eS]; exact RV
        have hX' : X = (setRow w g ringT S.drop.row).drewN (m + 1) := by rw [hX, eS, HW.out, show ∀ W : World, W.drew = W.drewN 1 from fun _ => rfl, World.drewN_drewN]
        have HX := Lib.hid hX'
        clear hX' eS
        go_wp2_with fail
        clear hX c64 c66 hcell RV
        have HOD := Lib.hid okD
        obtain ⟨p, hp, hp64, hpe⟩ := RS.place_bd S.drop okD S.drop.h
        have Hp := Lib.hid hp
        obtain ⟨e0', e1', f0', f1', h0', h1', l0', l1'⟩ := okD
        have p1 : (p : Int) < 64 := by omega
        have p0 : (0 : Int) ≤ (p : Int) := by omega
        have s5 : S.drop.row.setIfInBounds p (.int .i64 z) = ({ S.drop with nums := fun i => if i = p then z else S.drop.nums i } : RS).row := RS.set_num _ p z hp64
        have k5 : ({ S.drop with nums := fun i => if i = p then z else S.drop.nums i } : RS).row[66]? = some (.int .i64 S.drop.h) := RS.row_h _
        have s6 : ({ S.drop with nums := fun i => if i = p then z else S.drop.nums i } : RS).row.setIfInBounds 66 (.int .i64 (S.drop.h + 1)) = (S.push z).row := by
          rw [RS.set_h]
          unfold RS.push RS.put
          rw [hp]
          simp
        have xp : S.drop.row[p]? = some (.int .i64 (S.drop.nums p)) := RS.row_num _ p hp64
        have hh : S.drop.h ≤ 64 := by omega
        clear hD eD
        have x66 := (row_cells RX 66).trans S.drop.row_h
        clear hp hp64
        refine region_tail 11 (by kernel_rfl) (by kernel_rfl) ?_
        simp only [List.take_succ_cons, List.take_zero, List.drop_succ_cons, List.drop_zero]
        repeat (quiet_step ((first | (go_at_call 21; exact place_quiet Hp.out RX HOD.out (by omega) (by omega)))))
        refine wpQuiet_nil ?_
        intro mq
        have R4 : RingAt (X.drewN mq) g S.drop := RX
        obtain ⟨t0, t1, d0, d1, i0, i1, y1⟩ := rows1 R4
        go_wp2
        go_roundw
        case rel => exact ⟨k + 1, _, by omega, by go_num, by rw [Hsn.out]; exact push_back HX.out⟩
        case measure => simp [intOf]; omega
    · obtain rfl : k = n := by omega
      rw [List.take_of_length_le (by rw [Hn.out]; exact Nat.le_refl _)] at hW
      go_wp2
      go_end0
      exact ⟨rfl, m, by first | rfl | exact hW⟩
end Go.Proofs.Ytiokdfijodfmpaa
