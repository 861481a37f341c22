/- Cookies: what is checked. -/
import Derived.Test.YthppbklbamakcaaDoorCookie
import Derived.Test.YthppbklbamakcaaDoorTail3
import Derived.Test.YthppbklbamakcaaDoorArrEq
namespace Go.Proofs.YthppbklbamakcaaDoor
open Go.ChangeShapes Go.WideShapes Go.ChangeAt Go.RowKit
/-- What Check says: of an epoch at a time, and whether the cookie is the one that is minted. -/
def ckErr (e now : Int) (q : Bool) : Int := if e < 0 ∨ (now ≠ e ∧ now ≠ e + 1) then 4 else if q then 0 else 3
theorem eql_b16 (W : World) (x y : List Int) (hx : x.length = 16) (hy : y.length = 16) : (Op.equalIn 10000 b16T (.agg (nrow .u8 x).toArray) (.agg (nrow .u8 y).toArray)).run Tryd.prog W = .ok (decide (x = y)) W :=
  eql_ints Tryd.underlying23 Tryd.underlying5 (by kernel_rfl) (by kernel_rfl) W x y hx hy
set_option maxRecDepth 100000 in
set_option maxHeartbeats 2000000 in
theorem check_any (w : World) (A : Option Addr) (n cap : Nat) (key : List Int) (hn : key.length = n) (hN : Nums .u8 w A key) (hc : n ≤ cap) (hm : cap ≤ maxLen) (hlen : n ≤ 1000000) (hwf : ∀ z ∈ key, 0 ≤ z ∧ z < 256)
    (a m e now : Int) (wa : -9223372036854775808 ≤ a ∧ a ≤ 9223372036854775807) (wm : -9223372036854775808 ≤ m ∧ m ≤ 9223372036854775807) (we : -9223372036854775808 ≤ e ∧ e ≤ 9223372036854775807) (wn : -9223372036854775808 ≤ now ∧ now ≤ 9223372036854775807)
    (x : List Int) (hx : x.length = 16) (c : List Int) (hck : ck key a m e = c) (er : Int) (her : ckErr e now (decide (x = c)) = er) (ht : Kt w) :
    Calls Tryd.prog 11 #[.slice A n cap, .int .i64 a, .int .i64 m, .int .i64 e, .int .i64 now, .agg (nrow .u8 x).toArray] w fun v w' => v = .returned (.int .i64 er) ∧ Below w.heap.size w w' := by
  have LX : (nrow .u8 x).length = 16 := by rw [nrow_len]; exact hx
  have RX := row_new (W := w) (cs := (nrow .u8 x).toArray) (t := b16T) (m := (0, 0))
  have B0 : Below w.heap.size w (w.alloc (.cells (nrow .u8 x).toArray b16T)) := (Below.refl _ _).alloc (Nat.le_refl _) _
  by_cases hold : e < 0 ∨ (now ≠ e ∧ now ≠ e + 1)
  · have her4 : er = 4 := by rw [← her, ckErr, if_pos hold]
    subst her4
    have hcase : e < 0 ∨ (0 ≤ e ∧ now < e) ∨ (0 ≤ e ∧ e ≤ now ∧ 1 < now - e) := by omega
    clear her hold
    rcases hcase with h | ⟨h0, h⟩ | ⟨h0, h1, h⟩
    all_goals
      have hsub : 0 ≤ e → e ≤ now → IntKind.i64.wrap (now - e) = now - e := fun _ _ => IntWalk.i64_in _ (by omega)
      (try have hsub := hsub h0 h1)
      go_enter Tryd.func11, Tryd.ntmps11
      go_wp2
      go_ret
      exact ⟨rfl, B0⟩
  · have h0 : 0 ≤ e := by omega
    have h1 : e ≤ now := by omega
    have h2 : now - e ≤ 1 := by omega
    have hsub : IntKind.i64.wrap (now - e) = now - e := IntWalk.i64_in _ (by omega)
    have heq : er = if decide (x = c) then 0 else 3 := by rw [← her, ckErr, if_neg hold]
    have hc16 : c.length = 16 := by rw [← hck]; exact ck_len _ _ _ _
    have HC := Lib.hid hck
    have HN := Lib.hid hN
    have Hn := Lib.hid hn
    have HL := Lib.hid (And.intro hc (And.intro hm hlen))
    have HW := Lib.hid hwf
    have HT := Lib.hid ht
    have Wa := Lib.hid wa
    have Wm := Lib.hid wm
    have We := Lib.hid we
    have EQ := fun W => eql_b16 W x c hx hc16
    clear hold her hN hn hc hm hlen hwf ht wa wm we wn hck hx hc16
    obtain ⟨q, hq⟩ : ∃ q, decide (x = c) = q := ⟨_, rfl⟩
    rw [hq] at EQ heq
    clear hq
    go_enter Tryd.func11, Tryd.ntmps11
    go_wp2_with fail
    generalize w.alloc (.cells (nrow .u8 x).toArray b16T) = V at RX B0 ⊢
    have HU := Lib.hid (show ∀ u : Over V.heap.size V, u.val.heap[w.heap.size]? = some (.cells (nrow .u8 x).toArray b16T) from fun u => row_kept RX u.below (row_lt RX))
    have HB := Lib.hid (show ∀ u : Over V.heap.size V, Below w.heap.size w u.val from fun u => B0.trans (u.below.mono B0.size))
    have HM := Lib.hid (show ∀ u : Over V.heap.size V, Calls Tryd.prog 9 #[.slice A n cap, .int .i64 a, .int .i64 m, .int .i64 e] u.val fun x w' => x = .returned (.agg (nrow .u8 c).toArray) ∧ Below u.val.heap.size u.val w' from fun u =>
      mint_any u.val A n cap key Hn.out (HN.out.below (HB.out u)) HL.out.1 HL.out.2.1 HL.out.2.2 HW.out a m e Wa.out Wm.out We.out c HC.out (HT.out.keep (HB.out u) HT.out.2))
    refine region_class (fun u : Over V.heap.size V => u.val) ⟨V.drew, below_drewN (Below.refl _ _) 1⟩ rfl (by kernel_rfl) (by kernel_rfl) ?_
    clear RX B0
    repeat (first
      | ((with_reducible refine wpQuiet_arr Tryd.underlying23 info_b16 ?_ (.tmp 11) ?_ w.heap.size (nrow .u8 x) LX ?_ (fun u => HU.out u) ?_); (rfl); (rfl); (rfl); (conv => arg 6; simp only [Act.put, List.setIfInBounds_toArray, List.set_cons_succ, List.set_cons_zero]))
      | go_big_quiet_step ((first
        | (go_at_call 9; with_reducible exact over_left (Nat.le_refl _) (HM.out _))
        )))
    with_reducible refine wpQuiet_nil ?_
    rintro _ ⟨u, rfl⟩
    have B2 := HB.out u
    generalize u.val = W at B2 ⊢
    cases q
    all_goals
      subst heq
      go_wp2
      go_ret
      exact ⟨rfl, B2⟩
end Go.Proofs.YthppbklbamakcaaDoor
