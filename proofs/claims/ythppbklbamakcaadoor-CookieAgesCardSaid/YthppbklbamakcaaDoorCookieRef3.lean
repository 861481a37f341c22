/- Cookies: what the document's own checks, and the small case. -/
import Derived.Test.YthppbklbamakcaaDoorCookieRef2
import Derived.Test.YthppbklbamakcaaDoorDigLaw
namespace Go.Proofs.YthppbklbamakcaaDoor
open Go.ChangeShapes Go.WideShapes Go.ChangeAt Go.RowKit
set_option maxRecDepth 100000 in
set_option maxHeartbeats 2000000 in
theorem rcheck_any (w : World) (A : Option Addr) (n cap : Nat) (key : List Int) (hn : key.length = n) (hN : Nums .u8 w A key) (hlen : n ≤ 1000) (hwf : ∀ z ∈ key, 0 ≤ z ∧ z < 256)
    (a m e now : Int) (wa : -9223372036854775808 ≤ a ∧ a ≤ 9223372036854775807) (wm : -9223372036854775808 ≤ m ∧ m ≤ 9223372036854775807) (we : -9223372036854775808 ≤ e ∧ e ≤ 9223372036854775807) (wn : -9223372036854775808 ≤ now ∧ now ≤ 9223372036854775807)
    (x : List Int) (hx : x.length = 16) (c : List Int) (hck : ck key a m e = c) (er : Int) (her : ckErr e now (decide (x = c)) = er) :
    Calls Tryd.prog 12 #[.slice A n cap, .int .i64 a, .int .i64 m, .int .i64 e, .int .i64 now, .agg (nrow .u8 x).toArray] w fun v w' => v = .returned (.int .i64 er) ∧ Below w.heap.size w w' := by
  have LX : (nrow .u8 x).length = 16 := by rw [nrow_len]; exact hx
  have RX := row_new (W := w) (cs := (nrow .u8 x).toArray) (t := b16T) (m := (0, 0))
  have B0 : Below w.heap.size w (w.alloc (.cells (nrow .u8 x).toArray b16T)) := (Below.refl _ _).alloc (Nat.le_refl _) _
  by_cases hold : e < 0 ∨ (now ≠ e ∧ now ≠ e + 1)
  · have her4 : er = 4 := by rw [← her, ckErr, if_pos hold]
    subst her4
    have hcase : e < 0 ∨ (0 ≤ e ∧ e ≠ now ∧ now = -9223372036854775808) ∨ (0 ≤ e ∧ e ≠ now ∧ now ≠ -9223372036854775808 ∧ e ≠ now - 1) := by omega
    clear her hold
    rcases hcase with h | ⟨h0, h, h1⟩ | ⟨h0, h, h1, h2⟩
    · go_enter Tryd.func12, Tryd.ntmps12
      go_wp2
      go_ret
      exact ⟨rfl, B0⟩
    · have b0 : (e != now) = true := bne_iff_ne.2 h
      subst h1
      go_enter Tryd.func12, Tryd.ntmps12
      go_wp2
      go_ret
      exact ⟨rfl, B0⟩
    · have b0 : (e != now) = true := bne_iff_ne.2 h
      have b1 : (now == -9223372036854775808) = false := beq_eq_false_iff_ne.2 h1
      have b2 : (e != now - 1) = true := bne_iff_ne.2 h2
      have hsub : IntKind.i64.wrap (now - 1) = now - 1 := IntWalk.i64_in _ (by omega)
      go_enter Tryd.func12, Tryd.ntmps12
      go_wp2
      go_ret
      exact ⟨rfl, B0⟩
  · have h0 : 0 ≤ e := by omega
    have hcase : e = now ∨ e + 1 = now := by omega
    have heq : er = if decide (c = x) then 0 else 3 := by rw [← her, ckErr, if_neg hold]; simp only [eq_comm]
    have hc16 : c.length = 16 := by rw [← hck]; exact ck_len _ _ _ _
    have HC := Lib.hid hck
    have HN := Lib.hid hN
    have Hn := Lib.hid hn
    have HL := Lib.hid hlen
    have HW := Lib.hid hwf
    have Wa := Lib.hid wa
    have Wm := Lib.hid wm
    have We := Lib.hid we
    have EQ := fun W => eql_b16 W c x hc16 hx
    clear hold her hN hn hlen hwf wa wm hck hx hc16
    obtain ⟨q, hq⟩ : ∃ q, decide (c = x) = q := ⟨_, rfl⟩
    rw [hq] at EQ heq
    clear hq
    have hfin : ∀ (V : World), V.heap[w.heap.size]? = some (.cells (nrow .u8 x).toArray b16T) → Below w.heap.size w V → True := fun _ _ _ => trivial
    clear hfin
    rcases hcase with h | h
    all_goals
      subst h
      (try have b0 : (e != e + 1) = true := bne_iff_ne.2 (by omega))
      (try have b1 : (e + 1 == -9223372036854775808) = false := beq_eq_false_iff_ne.2 (by omega))
      have we1 : e ≤ 9223372036854775807 := by omega
      clear we wn
      go_enter Tryd.func12, Tryd.ntmps12
      go_upto_region 3 with (fail)
      generalize w.alloc (.cells (nrow .u8 x).toArray b16T) = V at RX B0 ⊢
      have HU := Lib.hid (show ∀ u : Over V.heap.size V, u.val.heap[w.heap.size]? = some (.cells (nrow .u8 x).toArray b16T) from fun u => row_kept RX u.below (row_lt RX))
      have HB := Lib.hid (show ∀ u : Over V.heap.size V, Below w.heap.size w u.val from fun u => B0.trans (u.below.mono B0.size))
      have HM := Lib.hid (show ∀ u : Over V.heap.size V, Calls Tryd.prog 10 #[.slice A n cap, .int .i64 a, .int .i64 m, .int .i64 e] u.val fun x w' => x = .returned (.agg (nrow .u8 c).toArray) ∧ Below u.val.heap.size u.val w' from fun u =>
        rmint_any u.val A n cap key Hn.out (HN.out.below (HB.out u)) HL.out HW.out a m e Wa.out Wm.out We.out c HC.out)
      refine region_class (fun u : Over V.heap.size V => u.val) ⟨V.drew, below_drewN (Below.refl _ _) 1⟩ rfl (by kernel_rfl) (by kernel_rfl) ?_
      clear RX B0
      repeat (first
        | ((with_reducible refine wpQuiet_arr Tryd.underlying23 info_b16 ?_ (.tmp 11) ?_ w.heap.size (nrow .u8 x) LX ?_ (fun u => HU.out u) ?_); (rfl); (rfl); (rfl); (conv => arg 6; simp only [Act.put, List.setIfInBounds_toArray, List.set_cons_succ, List.set_cons_zero]))
        | go_big_quiet_step ((first
          | (go_at_call 10; with_reducible exact over_left (Nat.le_refl _) (HM.out _))
          )))
      with_reducible refine wpQuiet_nil ?_
      rintro _ ⟨u, rfl⟩
      have B2 := HB.out u
      generalize u.val = W at B2 ⊢
      cases q
      all_goals
        subst heq
        go_wp2
        go_ret
        exact ⟨rfl, B2⟩
theorem c16_new (r : List Int) (hr : r.length = 16) (W : World) : (storeCells ⟨W.heap.size, 0, none⟩ (nrow .u8 r) 0).run Tryd.prog (W.alloc (.cells (nrow .u8 z16).toArray b16T)) = .ok () (W.alloc (.cells (nrow .u8 r).toArray b16T)) := by
  have := run_storeCells_new (P := Tryd.prog) W b16T (nrow .u8 z16).toArray (nrow .u8 r).toArray (by rw [info_b16]; simp [nrow_len, hr]) (by simp [nrow_len, hr]) (all_one (nrow_one _ _))
  simpa using this
end Go.Proofs.YthppbklbamakcaaDoor
