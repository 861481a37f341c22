/- RingLast holds for any room and any numbers, cut anywhere: a ring holds the last numbers that were pushed, and it does not matter how they are cut. No condition. -/
import Derived.Test.YtiokdfijodfmpaaRingMath
import Derived.Deep.RegionHeld3
import Derived.Deep.RegionWith
namespace Go.Proofs.Ytiokdfijodfmpaa.ringLast
open Go.ChangeShapes Go.WideShapes Go.ChangeAt Go.RowKit

theorem pushes_append (R : RS) (xs ys : List Int) : (R.pushes xs).pushes ys = R.pushes (xs ++ ys) := by
  unfold RS.pushes
  rw [List.foldl_append]

/-- What stands while it is looked at. -/
structure Held (w : World) (ga gb : Nat) (S : RS) (A : Option Addr) (zs : List Int) (W : World) : Prop where
  a : RingAt W ga S
  b : RingAt W gb S
  n : Nums .i64 W A zs
  w : Below w.heap.size w W
theorem Held.keep {w : World} {ga gb : Nat} {S : RS} {A : Option Addr} {zs : List Int} {W W' : World} (h : Held w ga gb S A zs W) (hb : Below W.heap.size W W') : Held w ga gb S A zs W' :=
  ⟨ring_at h.a hb, ring_at h.b hb, h.n.below hb, h.w.trans (hb.mono h.w.size)⟩

theorem Held.drewN {w : World} {ga gb : Nat} {S : RS} {A : Option Addr} {zs : List Int} {W : World} (h : Held w ga gb S A zs W) (q : Nat) : Held w ga gb S A zs (W.drewN q) :=
  h.keep (below_drewN (Below.refl _ _) q)
theorem Held.drew {w : World} {ga gb : Nat} {S : RS} {A : Option Addr} {zs : List Int} {W : World} (h : Held w ga gb S A zs W) : Held w ga gb S A zs W.drew := h.drewN 1

theorem all_b {w : World} {g : Nat} {R : RS} {xs : List Int} {n : Nat} (hx : R.list = xs) (hn : xs.length = n) (hR : RingAt w g R) (hO : R.Ok) :
    Calls Try.prog 14 #[.pointer (some ⟨g, 0, none⟩)] w fun e w' => ∃ b c, e = .returned (.slice (some ⟨b, 0, none⟩) n c) ∧ Nums .i64 w' (some ⟨b, 0, none⟩) xs ∧ Below w.heap.size w w' :=
  (all_to hx hn hR hO).mono fun _ _ ⟨b, c, he, h1, h2⟩ => ⟨b, c, he, h1.nums, h2⟩
theorem same_b {w : World} {A : Option Addr} {n c : Nat} {xs : List Int} (hn : xs.length = n) (hN : Nums .i64 w A xs) {B : Option Addr} {d : Nat} (hM : Nums .i64 w B xs) (hlen : n ≤ 140737488355328) :
    Calls Try.prog 15 #[.slice A n c, .slice B n d] w fun e w' => e = .returned (.bool true) ∧ Below w.heap.size w w' :=
  (same_any w A n c xs hn hN B n d xs hn hM hlen hlen).mono fun _ _ ⟨he, q, hq⟩ => ⟨by rw [he]; simp, by rw [hq]; exact below_drewN (Below.refl _ _) q⟩
theorem lost_b {w : World} {g : Nat} {R : RS} {v : Int} (hv : R.l = v) (hR : RingAt w g R) :
    Calls Try.prog 19 #[.pointer (some ⟨g, 0, none⟩)] w fun e w' => e = .returned (.int .i64 v) ∧ Below w.heap.size w w' :=
  (lost_to hv hR).mono fun _ _ ⟨he, hw⟩ => ⟨he, by rw [← hw]; exact Below.refl _ _⟩
theorem len_b {w : World} {g : Nat} {R : RS} {v : Int} (hv : R.h = v) (hR : RingAt w g R) :
    Calls Try.prog 17 #[.pointer (some ⟨g, 0, none⟩)] w fun e w' => e = .returned (.int .i64 v) ∧ Below w.heap.size w w' :=
  (len_to hv hR).mono fun _ _ ⟨he, hw⟩ => ⟨he, by rw [← hw]; exact Below.refl _ _⟩


set_option maxHeartbeats 8000000 in
theorem walk (w : World) (room : Int) (wr' : (Lit.int .i64 room).wf = true)
    (A : Option Addr) (n cap : Nat) (zs : List Int) (hl : n ≤ cap) (hm : cap ≤ maxLen) (hn : zs.length = n) (hN : Nums .i64 w A zs) (hw : ∀ z ∈ zs, (Lit.int .i64 z).wf = true) (k : Int) (wx : (Lit.int .i64 k).wf = true) :
    Calls Try.prog 4 #[.int .i64 room, .slice A n cap, .int .i64 k] w fun e w' => e = .returned (.bool true) ∧ Below w.heap.size w w' := by
  clear wr' wx hw
  have Hn := Lib.hid hn
  have HN := Lib.hid hN
  unfold maxLen at hm
  clear hn hN
  by_cases h5 : room < 1 ∨ 64 < room ∨ 500 < n ∨ k < 0 ∨ (n : Int) < k
  · have hcase : room < 1 ∨ 64 < room ∨ (1 ≤ room ∧ room ≤ 64 ∧ (500 : Int) < n) ∨ (1 ≤ room ∧ room ≤ 64 ∧ (n : Int) ≤ 500 ∧ k < 0) ∨ (1 ≤ room ∧ room ≤ 64 ∧ (n : Int) ≤ 500 ∧ 0 ≤ k ∧ (n : Int) < k) := by omega
    clear h5
    rcases hcase with h | h | ⟨h1, h2, h⟩ | ⟨h1, h2, h3, h⟩ | ⟨h1, h2, h3, h4, h⟩
    all_goals
      go_enter Try.func4, Try.ntmps4
      go_wp2_with (first
        | (go_at_call 7; refine (small_any _).mono ?_; rintro e w' ⟨rfl, hb⟩)
        )
      all_goals (first | (go_ret; exact ⟨rfl, hb⟩) | (exfalso; omega))
  · obtain ⟨c, rfl⟩ : ∃ c : Nat, room = c := ⟨room.toNat, by omega⟩
    obtain ⟨k, rfl⟩ : ∃ k' : Nat, k = k' := ⟨k.toNat, by omega⟩
    have c1 : 1 ≤ c := by omega
    have c2 : c ≤ 64 := by omega
    have n5 : n ≤ 500 := by omega
    have kn : k ≤ n := by omega
    clear h5
    obtain ⟨okS, eS, hhS, lS, listS⟩ := RS.made_pushes c c (by omega) zs (by rw [Hn.out]; omega) n (by rw [Hn.out]; exact Nat.le_refl _)
    obtain ⟨okT, -, -, lT, -⟩ := RS.made_pushes c c (by omega) zs (by rw [Hn.out]; omega) k (by rw [Hn.out]; exact kn)
    rw [List.take_of_length_le (by rw [Hn.out]; exact Nat.le_refl _)] at okS eS hhS lS listS
    have hST : ((RS.made c).pushes (zs.take k)).pushes (zs.drop k) = (RS.made c).pushes zs := by rw [pushes_append, List.take_append_drop]
    obtain ⟨S, hS⟩ : ∃ S, (RS.made c).pushes zs = S := ⟨_, rfl⟩
    obtain ⟨T, hT⟩ : ∃ T, (RS.made c).pushes (zs.take k) = T := ⟨_, rfl⟩
    rw [hT, hS] at hST
    rw [hT] at okT lT
    rw [hS] at okS eS hhS lS listS
    obtain ⟨m, hmn, hmm⟩ : ∃ m : Nat, m = min c n ∧ (m : Int) = min (c : Int) (n : Int) := ⟨min c n, rfl, by omega⟩
    rw [show n - c = n - m by omega] at lS listS
    rw [show ((min n c : Nat) : Int) = (m : Int) by omega] at hhS
    have HST := Lib.hid hST
    have HS := Lib.hid hS
    have HT := Lib.hid hT
    have OKS := Lib.hid okS
    have OKT := Lib.hid okT
    obtain ⟨d, hd⟩ : ∃ d, n - m = d := ⟨_, rfl⟩
    rw [hd] at lS listS
    have LS := Lib.hid (show S.l = (d : Int) from lS)
    have HH := Lib.hid hhS
    have LIST := Lib.hid listS
    have LEN := Lib.hid (show (zs.drop d).length = m by rw [List.length_drop, Hn.out]; omega)
    have hAg : ∀ g, w.heap.size ≤ g → 0 < n → ∀ b off, A = some ⟨b, off, none⟩ → b ≠ g := by
      intro g h1 hz b off hA
      rcases HN.out with h0 | ⟨b', off', hA', hlt, -⟩
      · have := Hn.out; rw [h0] at this; simp at this; omega
      · rw [hA] at hA'; injection hA' with hA'; injection hA' with hA'; omega
    have HAG := Lib.hid hAg
    have L0 := Lib.hid (show (RS.made c).l + (n : Int) ≤ 1099511627776 by unfold RS.made; simp only; omega)
    have L1 := Lib.hid (show (RS.made c).l + (k : Int) ≤ 1099511627776 by unfold RS.made; simp only; omega)
    have L2 := Lib.hid (show T.l + ((n - k : Nat) : Int) ≤ 1099511627776 by omega)
    have TK := Lib.hid (show (zs.take k).length = k by rw [List.length_take, Hn.out]; omega)
    have DK := Lib.hid (show (zs.drop k).length = n - k by rw [List.length_drop, Hn.out])
    have m1 : (m : Int) ≤ n := by omega
    have m2 : m ≤ n := by omega
    have hcapm : ¬ cap = d ∨ (n = 0 ∧ m = 0) := by omega
    have d1 : (d : Int) ≤ n := by omega
    have d0 : (0 : Int) ≤ d := by omega
    have nd : n - d = m := by omega
    have ncap : (n : Int) ≤ cap := by omega
    have ncap' : n ≤ cap := hl
    have d2 : d ≤ n := by omega
    clear okS eS hhS lS listS okT hST hS hT hAg
    have hAk : ∀ g, w.heap.size ≤ g → 0 < n - k → ∀ b off, Option.map (fun x => x.add k) A = some ⟨b, off, none⟩ → b ≠ g := by
      intro g h1 hz b off hA
      obtain ⟨a0, h0, h2⟩ := Option.map_eq_some_iff.1 hA
      rcases HN.out with hzs | ⟨b', off', hA', hlt, -⟩
      · have := Hn.out; rw [hzs] at this; simp at this; omega
      · rw [h0] at hA'; injection hA' with hA'
        subst hA'
        rw [add_plain] at h2
        injection h2 with h2; omega
    have HAK := Lib.hid hAk
    clear hAk
    have hcase : (¬ cap = k ∧ ¬ cap = d) ∨ (n = k ∧ n = cap ∧ ¬ cap = d) ∨ (0 = n ∧ 0 = m ∧ 0 = cap ∧ 0 = k ∧ 0 = d) := by omega
    clear hcapm
    have e1 : IntKind.i64.wrap ((n : Int) - m) = (d : Int) := by rw [IntWalk.i64_in _ (by omega)]; omega
    clear hd
    have L3 := Lib.hid (show T.l + ((0 : Nat) : Int) ≤ 1099511627776 by omega)
    clear lT
    rcases hcase with ⟨hkc, hcm⟩ | ⟨rfl, rfl, hcm⟩ | ⟨rfl, rfl, rfl, rfl, rfl⟩
    · go_enter Try.func4, Try.ntmps4
      go_wp2_with fail
      refine (small_any _).mono ?_
      rintro e w1 ⟨rfl, B1⟩
      go_wp2_with fail
      refine (new_to _ B1 B1.size).mono ?_
      rintro e w2 ⟨rfl, R2, z2, B2, K2⟩
      have hga := B1.size
      clear B1
      go_wp2_with fail
      refine (new_to _ B2 B2.size).mono ?_
      rintro e w3 ⟨rfl, R3, z3, B3, K3⟩
      have hgb := B2.size
      have Ra := ring_at R2 K3
      clear B2 K2 R2 K3
      go_wp2_with fail
      refine (push_to zs HS.out Ra (made_ok _) _ n _ Hn.out (HN.out.below B3) (by omega) L0.out (HAG.out _ hga) B3 hga).mono ?_
      rintro e X ⟨rfl, RX, -, hOX, BX⟩
      have RXb : RingAt X w2.heap.size (RS.made c) := (hOX.1 _ (by omega)).trans R3
      clear Ra B3 R3
      go_wp2_with fail
      refine (push_to (zs.take k) HT.out RXb (made_ok _) _ k _ TK.out ((HN.out.below BX).take k) (by omega) L1.out (fun h => HAG.out _ hgb (by omega)) BX hgb).mono ?_
      rintro e Y ⟨rfl, RY, -, hOY, BY⟩
      have RYa : RingAt Y w1.heap.size S := (hOY.1 _ (by omega)).trans RX
      clear RX RXb hOX BX
      go_wp2_with fail
      have ND := (HN.out.below BY).drop k cap (by rw [Hn.out]; exact kn) (by rw [Hn.out]; exact hl)
      rw [if_neg hkc] at ND
      refine (push_to (zs.drop k) HST.out RY OKT.out _ (n - k) _ DK.out ND (by omega) L2.out (HAK.out _ hgb) BY hgb).mono ?_
      rintro e Z ⟨rfl, RZ, -, hOZ, BZ⟩
      have RZa : RingAt Z w1.heap.size S := (hOZ.1 _ (by omega)).trans RYa
      clear RY RYa hOY hOZ BY ND
      have hNZ := (HN.out.below BZ).drop d cap (by rw [Hn.out]; omega) (by rw [Hn.out]; exact hl)
      rw [if_neg hcm] at hNZ
      have H0 : Held w w1.heap.size w2.heap.size S (Option.map (fun x => x.add d) A) (zs.drop d) Z := ⟨RZa, RZ, hNZ, BZ⟩
      clear RZa RZ hNZ BZ
      have hmc : (m = c ∧ (c : Int) ≤ n) ∨ (m = n ∧ (n : Int) < c) := by omega
      clear hmn hmm
      have LIST' := LIST.out
      have LEN' := LEN.out
      rcases hmc with ⟨rfl, hmc⟩ | ⟨rfl, hmc⟩
      · clear LIST' LEN'
        go_wp2_with fail
        go_region_held3 (fun W => Held w w1.heap.size w2.heap.size S (Option.map (fun x => x.add d) A) (zs.drop d) W)
          (first | exact H0.drewN _ | exact H0.drew | exact Held.keep (by assumption) hb | go_keep)
          (first
            | (go_at_call_of 14 w2.heap.size; refine (all_b LIST.out LEN.out (show Held w w1.heap.size w2.heap.size S (Option.map (fun x => x.add d) A) (zs.drop d) _ by assumption).b OKS.out).mono ?_; rintro e W3 ⟨b3, c3, rfl, N3, hb⟩)
            | (go_at_call_of 14 w1.heap.size; refine (all_b LIST.out LEN.out (show Held w w1.heap.size w2.heap.size S (Option.map (fun x => x.add d) A) (zs.drop d) _ by assumption).a OKS.out).mono ?_; rintro e W1 ⟨b1, c1, rfl, N1, hb⟩; try have N3' := N3.below hb)
            | (go_at_call 15; with_reducible refine (same_b LEN.out N3' N1 (by omega)).mono ?_; rintro e W5 ⟨rfl, hb⟩)
            | (go_at_call 15; with_reducible refine (same_b LEN.out N1 (show Held w w1.heap.size w2.heap.size S (Option.map (fun x => x.add d) A) (zs.drop d) _ by assumption).n (by omega)).mono ?_; rintro e W2 ⟨rfl, hb⟩)
            | (go_at_call_of 19 w1.heap.size; refine (lost_b LS.out (show Held w w1.heap.size w2.heap.size S (Option.map (fun x => x.add d) A) (zs.drop d) _ by assumption).a).mono ?_; rintro e W8 ⟨rfl, hb⟩)
            | (go_at_call_of 19 w2.heap.size; refine (lost_b LS.out (show Held w w1.heap.size w2.heap.size S (Option.map (fun x => x.add d) A) (zs.drop d) _ by assumption).b).mono ?_; rintro e W7 ⟨rfl, hb⟩)
            | (go_at_call 17; refine (len_b HH.out (show Held w w1.heap.size w2.heap.size S (Option.map (fun x => x.add d) A) (zs.drop d) _ by assumption).a).mono ?_; rintro e W9 ⟨rfl, hb⟩))
        go_wp2
        go_ret
        exact ⟨rfl, (show Held w w1.heap.size w2.heap.size S (Option.map (fun x => x.add d) A) (zs.drop d) _ by assumption).w⟩
      · obtain rfl : d = 0 := by omega
        have LS := Lib.hid (show S.l = 0 from LS.out)
        have H0 : Held w w1.heap.size w2.heap.size S A zs Z := ⟨H0.a, H0.b, HN.out.below H0.w, H0.w⟩
        rw [List.drop_zero] at LIST' LEN'
        have LIST := Lib.hid LIST'
        have LEN := Lib.hid LEN'
        have hw0 : IntKind.i64.wrap 0 = 0 := by decide
        have hc0 : ¬ cap = 0 := by omega
        clear LIST' LEN' e1 nd d1 d0 d2 hcm
        go_wp2_with fail
        go_region_held3 (fun W => Held w w1.heap.size w2.heap.size S A zs W)
          (first | exact H0.drewN _ | exact H0.drew | exact Held.keep (by assumption) hb | go_keep)
          (first
            | (go_at_call_of 14 w2.heap.size; refine (all_b LIST.out LEN.out (show Held w w1.heap.size w2.heap.size S A zs _ by assumption).b OKS.out).mono ?_; rintro e W3 ⟨b3, c3, rfl, N3, hb⟩)
            | (go_at_call_of 14 w1.heap.size; refine (all_b LIST.out LEN.out (show Held w w1.heap.size w2.heap.size S A zs _ by assumption).a OKS.out).mono ?_; rintro e W1 ⟨b1, c1, rfl, N1, hb⟩; try have N3' := N3.below hb)
            | (go_at_call 15; with_reducible refine (same_b LEN.out N3' N1 (by omega)).mono ?_; rintro e W5 ⟨rfl, hb⟩)
            | (go_at_call 15; with_reducible refine (same_b LEN.out N1 (show Held w w1.heap.size w2.heap.size S A zs _ by assumption).n (by omega)).mono ?_; rintro e W2 ⟨rfl, hb⟩)
            | (go_at_call_of 19 w1.heap.size; refine (lost_b LS.out (show Held w w1.heap.size w2.heap.size S A zs _ by assumption).a).mono ?_; rintro e W8 ⟨rfl, hb⟩)
            | (go_at_call_of 19 w2.heap.size; refine (lost_b LS.out (show Held w w1.heap.size w2.heap.size S A zs _ by assumption).b).mono ?_; rintro e W7 ⟨rfl, hb⟩)
            | (go_at_call 17; refine (len_b HH.out (show Held w w1.heap.size w2.heap.size S A zs _ by assumption).a).mono ?_; rintro e W9 ⟨rfl, hb⟩))
        go_wp2
        go_ret
        exact ⟨rfl, (show Held w w1.heap.size w2.heap.size S A zs _ by assumption).w⟩
    · go_enter Try.func4, Try.ntmps4
      go_wp2_with fail
      refine (small_any _).mono ?_
      rintro e w1 ⟨rfl, B1⟩
      go_wp2_with fail
      refine (new_to _ B1 B1.size).mono ?_
      rintro e w2 ⟨rfl, R2, z2, B2, K2⟩
      have hga := B1.size
      clear B1
      go_wp2_with fail
      refine (new_to _ B2 B2.size).mono ?_
      rintro e w3 ⟨rfl, R3, z3, B3, K3⟩
      have hgb := B2.size
      have Ra := ring_at R2 K3
      clear B2 K2 R2 K3
      go_wp2_with fail
      refine (push_to zs HS.out Ra (made_ok _) _ n _ Hn.out (HN.out.below B3) (by omega) L0.out (HAG.out _ hga) B3 hga).mono ?_
      rintro e X ⟨rfl, RX, -, hOX, BX⟩
      have RXb : RingAt X w2.heap.size (RS.made c) := (hOX.1 _ (by omega)).trans R3
      clear Ra B3 R3
      go_wp2_with fail
      refine (push_to (zs.take n) HT.out RXb (made_ok _) _ n _ TK.out ((HN.out.below BX).take n) (by omega) L1.out (fun h => HAG.out _ hgb (by omega)) BX hgb).mono ?_
      rintro e Y ⟨rfl, RY, -, hOY, BY⟩
      have RYa : RingAt Y w1.heap.size S := (hOY.1 _ (by omega)).trans RX
      clear RX RXb hOX BX
      go_wp2_with fail
      have DZ : zs.drop n = [] := List.eq_nil_of_length_eq_zero (by have := DK.out; omega)
      have hST' := HST.out
      rw [DZ] at hST'
      refine (push_to [] hST' RY OKT.out _ 0 _ rfl Nums.nil (by omega) L3.out (fun h => absurd h (by omega)) BY hgb).mono ?_
      rintro e Z ⟨rfl, RZ, -, hOZ, BZ⟩
      clear DZ hST'
      have RZa : RingAt Z w1.heap.size S := (hOZ.1 _ (by omega)).trans RYa
      clear RY RYa hOY hOZ BY
      have hNZ := (HN.out.below BZ).drop d n (by rw [Hn.out]; omega) (by rw [Hn.out]; exact Nat.le_refl _)
      rw [if_neg hcm] at hNZ
      have H0 : Held w w1.heap.size w2.heap.size S (Option.map (fun x => x.add d) A) (zs.drop d) Z := ⟨RZa, RZ, hNZ, BZ⟩
      clear RZa RZ hNZ BZ
      have hmc : (m = c ∧ (c : Int) ≤ n) ∨ (m = n ∧ (n : Int) < c) := by omega
      clear hmn hmm
      have LIST' := LIST.out
      have LEN' := LEN.out
      rcases hmc with ⟨rfl, hmc⟩ | ⟨rfl, hmc⟩
      · clear LIST' LEN'
        go_wp2_with fail
        go_region_held3 (fun W => Held w w1.heap.size w2.heap.size S (Option.map (fun x => x.add d) A) (zs.drop d) W)
          (first | exact H0.drewN _ | exact H0.drew | exact Held.keep (by assumption) hb | go_keep)
          (first
            | (go_at_call_of 14 w2.heap.size; refine (all_b LIST.out LEN.out (show Held w w1.heap.size w2.heap.size S (Option.map (fun x => x.add d) A) (zs.drop d) _ by assumption).b OKS.out).mono ?_; rintro e W3 ⟨b3, c3, rfl, N3, hb⟩)
            | (go_at_call_of 14 w1.heap.size; refine (all_b LIST.out LEN.out (show Held w w1.heap.size w2.heap.size S (Option.map (fun x => x.add d) A) (zs.drop d) _ by assumption).a OKS.out).mono ?_; rintro e W1 ⟨b1, c1, rfl, N1, hb⟩; try have N3' := N3.below hb)
            | (go_at_call 15; with_reducible refine (same_b LEN.out N3' N1 (by omega)).mono ?_; rintro e W5 ⟨rfl, hb⟩)
            | (go_at_call 15; with_reducible refine (same_b LEN.out N1 (show Held w w1.heap.size w2.heap.size S (Option.map (fun x => x.add d) A) (zs.drop d) _ by assumption).n (by omega)).mono ?_; rintro e W2 ⟨rfl, hb⟩)
            | (go_at_call_of 19 w1.heap.size; refine (lost_b LS.out (show Held w w1.heap.size w2.heap.size S (Option.map (fun x => x.add d) A) (zs.drop d) _ by assumption).a).mono ?_; rintro e W8 ⟨rfl, hb⟩)
            | (go_at_call_of 19 w2.heap.size; refine (lost_b LS.out (show Held w w1.heap.size w2.heap.size S (Option.map (fun x => x.add d) A) (zs.drop d) _ by assumption).b).mono ?_; rintro e W7 ⟨rfl, hb⟩)
            | (go_at_call 17; refine (len_b HH.out (show Held w w1.heap.size w2.heap.size S (Option.map (fun x => x.add d) A) (zs.drop d) _ by assumption).a).mono ?_; rintro e W9 ⟨rfl, hb⟩))
        go_wp2
        go_ret
        exact ⟨rfl, (show Held w w1.heap.size w2.heap.size S (Option.map (fun x => x.add d) A) (zs.drop d) _ by assumption).w⟩
      · obtain rfl : d = 0 := by omega
        have LS := Lib.hid (show S.l = 0 from LS.out)
        have H0 : Held w w1.heap.size w2.heap.size S A zs Z := ⟨H0.a, H0.b, HN.out.below H0.w, H0.w⟩
        rw [List.drop_zero] at LIST' LEN'
        have LIST := Lib.hid LIST'
        have LEN := Lib.hid LEN'
        have hw0 : IntKind.i64.wrap 0 = 0 := by decide
        have hc0 : ¬ m = 0 := by omega
        clear LIST' LEN' e1 nd d1 d0 d2 hcm
        go_wp2_with fail
        go_region_held3 (fun W => Held w w1.heap.size w2.heap.size S A zs W)
          (first | exact H0.drewN _ | exact H0.drew | exact Held.keep (by assumption) hb | go_keep)
          (first
            | (go_at_call_of 14 w2.heap.size; refine (all_b LIST.out LEN.out (show Held w w1.heap.size w2.heap.size S A zs _ by assumption).b OKS.out).mono ?_; rintro e W3 ⟨b3, c3, rfl, N3, hb⟩)
            | (go_at_call_of 14 w1.heap.size; refine (all_b LIST.out LEN.out (show Held w w1.heap.size w2.heap.size S A zs _ by assumption).a OKS.out).mono ?_; rintro e W1 ⟨b1, c1, rfl, N1, hb⟩; try have N3' := N3.below hb)
            | (go_at_call 15; with_reducible refine (same_b LEN.out N3' N1 (by omega)).mono ?_; rintro e W5 ⟨rfl, hb⟩)
            | (go_at_call 15; with_reducible refine (same_b LEN.out N1 (show Held w w1.heap.size w2.heap.size S A zs _ by assumption).n (by omega)).mono ?_; rintro e W2 ⟨rfl, hb⟩)
            | (go_at_call_of 19 w1.heap.size; refine (lost_b LS.out (show Held w w1.heap.size w2.heap.size S A zs _ by assumption).a).mono ?_; rintro e W8 ⟨rfl, hb⟩)
            | (go_at_call_of 19 w2.heap.size; refine (lost_b LS.out (show Held w w1.heap.size w2.heap.size S A zs _ by assumption).b).mono ?_; rintro e W7 ⟨rfl, hb⟩)
            | (go_at_call 17; refine (len_b HH.out (show Held w w1.heap.size w2.heap.size S A zs _ by assumption).a).mono ?_; rintro e W9 ⟨rfl, hb⟩))
        go_wp2
        go_ret
        exact ⟨rfl, (show Held w w1.heap.size w2.heap.size S A zs _ by assumption).w⟩
    · clear e1 nd d1 d0 d2 hmn hmm m1 m2
      go_enter Try.func4, Try.ntmps4
      go_wp2_with fail
      refine (small_any _).mono ?_
      rintro e w1 ⟨rfl, B1⟩
      go_wp2_with fail
      refine (new_to _ B1 B1.size).mono ?_
      rintro e w2 ⟨rfl, R2, z2, B2, K2⟩
      have hga := B1.size
      clear B1
      go_wp2_with fail
      refine (new_to _ B2 B2.size).mono ?_
      rintro e w3 ⟨rfl, R3, z3, B3, K3⟩
      have hgb := B2.size
      have Ra := ring_at R2 K3
      clear B2 K2 R2 K3
      go_wp2_with fail
      refine (push_to zs HS.out Ra (made_ok _) _ 0 _ Hn.out (HN.out.below B3) (by omega) L0.out (HAG.out _ hga) B3 hga).mono ?_
      rintro e X ⟨rfl, RX, -, hOX, BX⟩
      have RXb : RingAt X w2.heap.size (RS.made c) := (hOX.1 _ (by omega)).trans R3
      clear Ra B3 R3
      go_wp2_with fail
      refine (push_to (zs.take 0) HT.out RXb (made_ok _) _ 0 _ TK.out ((HN.out.below BX).take 0) (by omega) L1.out (fun h => HAG.out _ hgb (by omega)) BX hgb).mono ?_
      rintro e Y ⟨rfl, RY, -, hOY, BY⟩
      have RYa : RingAt Y w1.heap.size S := (hOY.1 _ (by omega)).trans RX
      clear RX RXb hOX BX
      go_wp2_with fail
      have DZ : zs.drop 0 = [] := List.eq_nil_of_length_eq_zero (by have := DK.out; omega)
      have hST' := HST.out
      rw [DZ] at hST'
      refine (push_to [] hST' RY OKT.out _ 0 _ rfl Nums.nil (by omega) L3.out (fun h => absurd h (by omega)) BY hgb).mono ?_
      rintro e Z ⟨rfl, RZ, -, hOZ, BZ⟩
      clear DZ hST'
      have RZa : RingAt Z w1.heap.size S := (hOZ.1 _ (by omega)).trans RYa
      clear RY RYa hOY hOZ BY
      have H0 : Held w w1.heap.size w2.heap.size S A zs Z := ⟨RZa, RZ, HN.out.below BZ, BZ⟩
      have LIST' := LIST.out
      have LEN' := LEN.out
      rw [List.drop_zero] at LIST' LEN'
      have LIST := Lib.hid LIST'
      have LEN := Lib.hid LEN'
      have LS := Lib.hid (show S.l = 0 from LS.out)
      have hw0 : IntKind.i64.wrap 0 = 0 := by decide
      clear LIST' LEN' RZa RZ BZ
      go_wp2_with fail
      go_region_held3 (fun W => Held w w1.heap.size w2.heap.size S A zs W)
        (first | exact H0.drewN _ | exact H0.drew | exact Held.keep (by assumption) hb | go_keep)
        (first
          | (go_at_call_of 14 w2.heap.size; refine (all_b LIST.out LEN.out (show Held w w1.heap.size w2.heap.size S A zs _ by assumption).b OKS.out).mono ?_; rintro e W3 ⟨b3, c3, rfl, N3, hb⟩)
          | (go_at_call_of 14 w1.heap.size; refine (all_b LIST.out LEN.out (show Held w w1.heap.size w2.heap.size S A zs _ by assumption).a OKS.out).mono ?_; rintro e W1 ⟨b1, c1, rfl, N1, hb⟩; try have N3' := N3.below hb)
          | (go_at_call 15; with_reducible refine (same_b LEN.out N3' N1 (by omega)).mono ?_; rintro e W5 ⟨rfl, hb⟩)
          | (go_at_call 15; with_reducible refine (same_b LEN.out N1 (show Held w w1.heap.size w2.heap.size S A zs _ by assumption).n (by omega)).mono ?_; rintro e W2 ⟨rfl, hb⟩)
          | (go_at_call_of 19 w1.heap.size; refine (lost_b LS.out (show Held w w1.heap.size w2.heap.size S A zs _ by assumption).a).mono ?_; rintro e W8 ⟨rfl, hb⟩)
          | (go_at_call_of 19 w2.heap.size; refine (lost_b LS.out (show Held w w1.heap.size w2.heap.size S A zs _ by assumption).b).mono ?_; rintro e W7 ⟨rfl, hb⟩)
          | (go_at_call 17; refine (len_b HH.out (show Held w w1.heap.size w2.heap.size S A zs _ by assumption).a).mono ?_; rintro e W9 ⟨rfl, hb⟩))
      go_wp2
      go_ret
      exact ⟨rfl, (show Held w w1.heap.size w2.heap.size S A zs _ by assumption).w⟩


theorem own : ownKnob Try.prog.godebug = none := by kernel_rfl
theorem laid : laidOutB Try.prog = true := by kernel_rfl

set_option maxRecDepth 100000 in
theorem lifted (os : Os) (started : os.Started) (H : Type) (enc : TypeId × Value → H) :
    ReturnsInHanded {} Try.checked os 4 .any (Rows.ringLastSpec.pre6 enc Try.prog Try.f4 Rows.ringLastRow.domain false) (Rows.ringLastSpec.post enc Try.prog Try.f4 false true false false) := by
  refine law_lifted (C := Try.checked) (B := 4) own started (by kernel_rfl) Try.func4
    (ChangeSpec.witness6 (enc := enc) (C := Try.checked) false ⟨#[], #[.int .i64 0, .slice none 0 0, .int .i64 0], []⟩ 8 (by kernel_rfl) (by kernel_rfl) (by kernel_rfl) (by kernel_rfl))
    rfl rfl Try.underlying4 laid (of_decide_eq_true (by kernel_rfl)) ?_ ?_
  · intro ds hl
    rw [Try.params4] at hl
    match ds, hl with
    | [d0, d1, d2], _ => rfl
  · intro W base args ds ps hval hA hlt hz
    rw [Try.params4] at hA hval
    obtain ⟨v0, vs0, d0, ds0, p0, q0, hargs, rfl, rfl, h0, r0⟩ := trodAll_cons hA
    obtain ⟨v1, vs1, d1, ds1, p1, q1, rfl, rfl, rfl, h1, r1⟩ := trodAll_cons r0
    obtain ⟨v2, vs2, d2, ds2, p2, q2, rfl, rfl, rfl, h2, r2⟩ := trodAll_cons r1
    obtain ⟨rfl, rfl, rfl⟩ := trodAll_nil r2
    obtain rfl : args = #[v0, v1, v2] := by cases args; simp_all
    obtain ⟨a0, rfl, rfl, rfl, w0⟩ := open_int Try.underlying3 (hval 0 3 v0 rfl rfl) h0
    obtain ⟨A1, n1, cap1, zs1, rfl, hl1, hm1, hn1, hN1, hw1⟩ := open_nums Try.underlying28 Try.underlying3 (by kernel_rfl) (hval 1 28 v1 rfl rfl) h1
    obtain ⟨a2, rfl, rfl, rfl, w2⟩ := open_int Try.underlying3 (hval 2 3 v2 rfl rfl) h2
    exact walk W a0 w0 A1 n1 cap1 zs1 hl1 hm1 hn1 hN1 hw1 a2 w2

theorem over : Rows.ringLastRow.holds Try.pinned (OpenSpec.ofChange Rows.ringLastSpec) :=
  OpenClaim.holds_of_wide 4 Try.f4 rfl rfl rfl rfl rfl rfl rfl ⟨rfl, rfl, rfl, rfl, rfl⟩ rfl rfl rfl rfl rfl (by kernel_rfl) Try.func4 (by kernel_rfl)
    (of_decide_eq_true (by kernel_rfl)) (by unfold Func.isWrapper; first | (rw [if_pos (by decide +kernel)]; kernel_rfl) | (rw [if_neg (by decide +kernel)]; exact ⟨rfl, rfl⟩))
    (fun os started H enc _ => lifted os started H enc)

theorem proved : Rows.RingLastSaid := over
#print axioms proved
end Go.Proofs.Ytiokdfijodfmpaa.ringLast
