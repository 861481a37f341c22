/- The small case of layer 14, rows that are the same, and rows that come in. -/
import Derived.Test.YtljenpfccmfnbaaDet4
import Derived.Test.YtljenpfccmfnbaaPairs
namespace Go.Proofs.Ytljenpfccmfnbaa
open Go.ChangeShapes Go.WideShapes Go.ChangeAt Go.RowKit

theorem open_beats {H : Type} {enc : TypeId × Value → H} {W : World} {base : Nat} {v : Value} {d : DataW H} {ps : List MemPlace}
    (hval : Value.okWide Try.prog W .any base 22 v) (h : DataW.Trod enc Try.prog W 0 (fun _ => true) true 22 v d ps) :
    ∃ (A : Option Addr) (n cap : Nat) (l : Det.Row), v = .slice A n cap ∧ n ≤ cap ∧ cap ≤ maxLen ∧ l.length = n ∧ Beats W A l ∧ (∀ p ∈ l, (-9223372036854775808 ≤ p.1 ∧ p.1 ≤ 9223372036854775807) ∧ -9223372036854775808 ≤ p.2 ∧ p.2 ≤ 9223372036854775807) :=
  open_pairs Try.underlying22 Try.underlying30 (by kernel_rfl) rfl rfl (by kernel_rfl) (by kernel_rfl) Try.underlying3 Try.underlying3 hval h

theorem beat_to {l l' : Det.Row} {seq now : Int} {m : Bool} {n n' c : Nat} {w : World} {A : Option Addr} (hb : Det.beat l seq now = l') (hm : Det.may l seq now = m) (hn' : l'.length = n') (hn : l.length = n) (hN : Beats w A l) (hlen : n ≤ 1000000) :
    Calls Try.prog 15 #[.slice A n c, .int .i64 seq, .int .i64 now] w fun e w' => ∃ A' c', e = .returned (.tuple #[.slice A' n' c', .bool m]) ∧ OwnB w.heap.size w' A' n' c' l' ∧ Below w.heap.size w w' := by
  subst hb; subst hm; subst hn'
  exact beat_any w A n c l seq now hn hN hlen
theorem deadline_to {l : Det.Row} {d : Int} {n c : Nat} {w : World} {A : Option Addr} (hd : Det.deadline l = d) (hn : l.length = n) (hN : Beats w A l) (h1 : 1 ≤ n) (hlen : n ≤ 1000000) :
    Calls Try.prog 17 #[.slice A n c] w fun e w' => e = .returned (.int .i64 d) ∧ Below w.heap.size w w' := by
  subst hd
  exact deadline_any w A n c l hn hN h1 hlen
theorem right_to {l : Det.Row} {r : Bool} {n c : Nat} {w : World} {A : Option Addr} (hr : Det.right l = r) (hn : l.length = n) (hN : Beats w A l) (hlen : n ≤ 9223372036854775807) :
    Calls Try.prog 10 #[.slice A n c] w fun e w' => e = .returned (.bool r) ∧ Below w.heap.size w w' := by
  subst hr
  exact right_any w A n c l hn hN hlen

theorem Det.ext_getD {l m : Det.Row} (h : l.length = m.length) (hk : ∀ k, k < l.length → l.getD k (0, 0) = m.getD k (0, 0)) : l = m := by
  apply List.ext_getElem h
  intro i h1 h2
  have := hk i h1
  simpa [List.getD, h1, h2] using this

set_option maxHeartbeats 1000000 in
theorem same_any (w : World) (A B : Option Addr) (n c m d : Nat) (l k : Det.Row) (hn : l.length = n) (hm : k.length = m) (hN : Beats w A l) (hM : Beats w B k) (hlen : n ≤ 140737488355328) :
    Calls Try.prog 12 #[.slice A n c, .slice B m d] w fun e w' => e = .returned (.bool (decide (l = k))) ∧ Below w.heap.size w w' := by
  by_cases hnm : n = m
  · subst hnm
    have Hn := Lib.hid hn
    have Hm := Lib.hid hm
    have HN := Lib.hid hN
    have HM := Lib.hid hM
    clear hn hm hN hM
    go_enter Try.func12, Try.ntmps12
    go_wp2
    go_loopw [5] (fun i wr => ∃ t : Nat, t ≤ n ∧ i = .int .i64 t ∧ Below w.heap.size w wr ∧ ∀ j, j < t → l.getD j (0, 0) = k.getD j (0, 0)) (fun i _ => n - (intOf i).toNat)
    case atStart => exact ⟨0, Nat.zero_le _, rfl, Below.refl _ _, fun j hj => absurd hj (by omega)⟩
    case round =>
      obtain ⟨t, ht, rfl, hB, hall⟩ := hrel
      by_cases htn : t < n
      · obtain ⟨b, off, rfl, hb, hc⟩ := HN.out.at (by rw [Hn.out]; omega)
        obtain ⟨b2, off2, rfl, hb2, hc2⟩ := HM.out.at (by rw [Hm.out]; omega)
        obtain ⟨g0, g1⟩ := hc t (by rw [Hn.out]; exact htn)
        obtain ⟨g2, g3⟩ := hc2 t (by rw [Hm.out]; exact htn)
        have c0 := (hB.cell (p := ⟨b, off + t * 2, none⟩) hb).trans g0
        have c1 := (hB.cell (p := ⟨b, off + t * 2 + 1, none⟩) hb).trans g1
        have c2 := (hB.cell (p := ⟨b2, off2 + t * 2, none⟩) hb2).trans g2
        have c3 := (hB.cell (p := ⟨b2, off2 + t * 2 + 1, none⟩) hb2).trans g3
        have Hall := Lib.hid (fun (h : l.getD t (0, 0) = k.getD t (0, 0)) => show ∀ j, j < t + 1 → l.getD j (0, 0) = k.getD j (0, 0) from fun j hj => by
          by_cases hjt : j = t
          · subst hjt; exact h
          · exact hall j (by omega))
        have Hne := Lib.hid (fun (h : l.getD t (0, 0) ≠ k.getD t (0, 0)) => show decide (l = k) = false from decide_eq_false fun hlk => h (by rw [hlk]))
        generalize l.getD t (0, 0) = p at c0 c1 Hall Hne
        generalize k.getD t (0, 0) = q at c2 c3 Hall Hne
        have q1 : (t : Int) < (n : Int) := by omega
        have q0 : (0 : Int) ≤ (t : Int) := by omega
        clear g0 g1 g2 g3 hc hc2 hall
        obtain ⟨p0, p1⟩ := p
        obtain ⟨r0, r1⟩ := q
        by_cases e0 : p0 = r0
        · by_cases e1 : p1 = r1
          · subst e0; subst e1
            go_wp2
            go_quiet (fail)
            go_wp2
            go_roundw
            case rel => exact ⟨t + 1, by omega, by go_num, below_drewN hB _, Hall.out (by simp)⟩
            case measure => simp [intOf]; omega
          · go_wp2
            go_quiet (fail)
            go_wp2
            go_ret
            exact ⟨ret_bool (Hne.out (by simp [e1])).symm, below_drewN hB _⟩
        · go_wp2
          go_quiet (fail)
          go_wp2
          go_ret
          exact ⟨ret_bool (Hne.out (by simp [e0])).symm, below_drewN hB _⟩
      · obtain rfl : t = n := by omega
        have e : l = k := Det.ext_getD (by rw [Hn.out, Hm.out]) (by rw [Hn.out]; exact hall)
        clear hall
        go_wp2
        go_ret
        exact ⟨ret_bool (by simp [e]), hB⟩
  · have e : decide (l = k) = false := decide_eq_false fun h => hnm (by rw [← hn, ← hm, h])
    rw [e]
    have hne : (n : Int) ≠ (m : Int) := by omega
    clear e hn hm hN hM
    go_enter Try.func12, Try.ntmps12
    go_wp2
    go_ret
    exact ⟨rfl, Below.refl _ _⟩

theorem start_to {now t : Int} (h : Sat.clamp now = t) (w : World) :
    Calls Try.prog 13 #[.int .i64 now] w fun e w' => ∃ A c, e = .returned (.slice A 1 c) ∧ OwnB w.heap.size w' A 1 c [(0, t)] ∧ Below w.heap.size w w' := by
  subst h
  exact start_any now w
theorem same_to {w : World} {A B : Option Addr} {n c m d : Nat} {l k : Det.Row} {r : Bool} (hr : decide (l = k) = r) (hn : l.length = n) (hm : k.length = m) (hN : Beats w A l) (hM : Beats w B k) (hlen : n ≤ 140737488355328) :
    Calls Try.prog 12 #[.slice A n c, .slice B m d] w fun e w' => e = .returned (.bool r) ∧ Below w.heap.size w w' := by
  subst hr
  exact same_any w A B n c m d l k hn hm hN hM hlen
theorem beats_lit (W : World) (l : Det.Row) (cs : Array Value) (h : cs = ((flat l).map (Value.int .i64)).toArray) : Beats (W.alloc (.cells cs beT)) (some ⟨W.heap.size, 0, none⟩) l := Nums.new _ _ _ _ _ rfl h

set_option maxHeartbeats 1000000 in
theorem small_any (w : World) : Calls Try.prog 9 #[] w fun e w' => e = .returned (.bool true) ∧ Below w.heap.size w w' := by
  have z0 : ∀ W, (zeroValue beT).run Try.prog W = .ok (.agg #[.int .i64 0, .int .i64 0]) W := fun W => by kernel_rfl
  go_enter Try.func9, Try.ntmps9
  go_wp2_with fail
  refine (start_to (t := 100) (by decide) _).mono ?_
  rintro e w1 ⟨Aa, ca, rfl, hO, B1⟩
  have Na := hO.beats
  clear hO
  go_wp2_with fail
  refine (beat_to (l := [(0, 100)]) (l' := [(0, 100), (1, 104)]) (m := true) (n' := 2) (by decide) (by decide) rfl rfl Na (by decide)).mono ?_
  rintro e w2 ⟨Ab, cb, rfl, hO, hb⟩
  have Nb := hO.beats
  have Na := Na.below hb
  have B2 := B1.trans (hb.mono B1.size)
  clear hO hb B1
  go_wp2_with fail
  refine (beat_to (l := [(0, 100), (1, 104)]) (l' := [(0, 100), (1, 104), (2, 112)]) (m := true) (n' := 3) (by decide) (by decide) rfl rfl Nb (by decide)).mono ?_
  rintro e w3 ⟨Ad, cd, rfl, hO, hb⟩
  have Nd := hO.beats
  have Na := Na.below hb
  have Nb := Nb.below hb
  have B3 := B2.trans (hb.mono B2.size)
  clear hO hb B2
  go_wp2_with fail
  refine (beat_to (l := [(0, 100), (1, 104), (2, 112)]) (l' := [(0, 100), (1, 104), (2, 112)]) (m := false) (n' := 3) (by decide) (by decide) rfl rfl Nd (by decide)).mono ?_
  rintro e w4 ⟨Ae, ce, rfl, hO, hb⟩
  have Na := Na.below hb
  have Nb := Nb.below hb
  have Nd := Nd.below hb
  have B4 := B3.trans (hb.mono B3.size)
  clear hO hb B3
  go_wp2_with fail
  refine (beat_to (l := [(0, 100), (1, 104), (2, 112)]) (l' := [(0, 100), (1, 104), (2, 112)]) (m := false) (n' := 3) (by decide) (by decide) rfl rfl Nd (by decide)).mono ?_
  rintro e w5 ⟨Af, cf, rfl, hO, hb⟩
  have Na := Na.below hb
  have Nb := Nb.below hb
  have Nd := Nd.below hb
  have B5 := B4.trans (hb.mono B4.size)
  clear hO hb B4
  have BA := fun o => B5.alloc B5.size o
  have NA : ∀ o, Beats (w5.alloc o) Aa [(0, 100)] := fun o => Na.below ((Below.refl w5.heap.size w5).alloc (Nat.le_refl _) o)
  have NB : ∀ o, Beats (w5.alloc o) Ab [(0, 100), (1, 104)] := fun o => Nb.below ((Below.refl w5.heap.size w5).alloc (Nat.le_refl _) o)
  have ND : ∀ o, Beats (w5.alloc o) Ad [(0, 100), (1, 104), (2, 112)] := fun o => Nd.below ((Below.refl w5.heap.size w5).alloc (Nat.le_refl _) o)
  clear Na Nb Nd
  go_wp2_with fail
  refine (same_to (l := [(0, 100)]) (k := [(0, 100)]) (r := true) (by decide) rfl rfl (NA _) (beats_lit _ _ _ rfl) (by decide)).mono ?_
  rintro e w6 ⟨rfl, hb⟩
  have Na := (NA _).below hb
  have Nb := (NB _).below hb
  have Nd := (ND _).below hb
  have B6 := (BA _).trans (hb.mono (BA _).size)
  clear hb BA NA NB ND
  go_wp2_with fail
  refine (deadline_to (l := [(0, 100)]) (d := 110) (by kernel_rfl) rfl Na (by decide) (by decide)).mono ?_
  rintro e w7 ⟨rfl, hb⟩
  have Nb := Nb.below hb
  have Nd := Nd.below hb
  have B7 := B6.trans (hb.mono B6.size)
  clear hb Na B6
  go_wp2_with fail
  refine (deadline_to (l := [(0, 100), (1, 104)]) (d := 114) (by kernel_rfl) rfl Nb (by decide) (by decide)).mono ?_
  rintro e w8 ⟨rfl, hb⟩
  have Nd := Nd.below hb
  have B8 := B7.trans (hb.mono B7.size)
  clear hb Nb B7
  go_wp2_with fail
  refine (deadline_to (l := [(0, 100), (1, 104), (2, 112)]) (d := 119) (by kernel_rfl) rfl Nd (by decide) (by decide)).mono ?_
  rintro e w9 ⟨rfl, hb⟩
  have Nd := Nd.below hb
  have B9 := B8.trans (hb.mono B8.size)
  clear hb B8
  go_wp2_with fail
  refine (right_to (l := [(0, 100), (1, 104), (2, 112)]) (r := true) (by decide) rfl Nd (by decide)).mono ?_
  rintro e w10 ⟨rfl, hb⟩
  have B10 := B9.trans (hb.mono B9.size)
  clear hb B9 Nd
  go_wp2_with fail
  refine (right_to (l := []) (r := false) (by decide) rfl Nums.nil (by decide)).mono ?_
  rintro e w11 ⟨rfl, hb⟩
  have B11 := B10.trans (hb.mono B10.size)
  clear hb B10
  go_wp2_with fail
  go_ret
  exact ⟨rfl, B11⟩
end Go.Proofs.Ytljenpfccmfnbaa
