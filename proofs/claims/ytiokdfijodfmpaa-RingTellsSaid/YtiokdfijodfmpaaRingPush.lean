/- The document's ring: Push. -/
import Derived.Test.YtiokdfijodfmpaaRingRef
import Derived.Test.YtiokdfijodfmpaaMem8
namespace Go.Proofs.Ytiokdfijodfmpaa.ref08
open Go.ChangeShapes Go.WideShapes Go.ChangeAt Go.RowKit

def pushL (room : Int) (p : List Int × Int) (z : Int) : List Int × Int := if room < ((p.1.length : Int) + 1) then ((p.1 ++ [z]).drop 1, p.2 + 1) else (p.1 ++ [z], p.2)
def pushLs (room : Int) (p : List Int × Int) (zs : List Int) : List Int × Int := zs.foldl (pushL room) p
theorem pushLs_snoc (room : Int) (p : List Int × Int) (zs : List Int) (k : Nat) (h : k < zs.length) : pushLs room p (zs.take (k + 1)) = pushL room (pushLs room p (zs.take k)) (zs.getD k 0) := by
  unfold pushLs
  rw [List.take_succ_eq_append_getElem h, List.foldl_append]
  simp [List.getD, h]
theorem pushLs_len (room : Int) (hr : 1 ≤ room) : ∀ (zs : List Int) (p : List Int × Int), (p.1.length : Int) ≤ room → ((pushLs room p zs).1.length : Int) ≤ room
  | [], p, h => h
  | z :: zs, p, h => by
    show ((pushLs room (pushL room p z) zs).1.length : Int) ≤ room
    refine pushLs_len room hr zs _ ?_
    unfold pushL
    split
    · simp; omega
    · simp; omega

theorem pushLs_gone (room : Int) : ∀ (zs : List Int) (p : List Int × Int), p.2 ≤ (pushLs room p zs).2 ∧ (pushLs room p zs).2 ≤ p.2 + zs.length
  | [], p => ⟨Int.le_refl _, by simp [pushLs]⟩
  | z :: zs, p => by
    have h := pushLs_gone room zs (pushL room p z)
    have e : pushLs room p (z :: zs) = pushLs room (pushL room p z) zs := rfl
    have e2 : p.2 ≤ (pushL room p z).2 ∧ (pushL room p z).2 ≤ p.2 + 1 := by unfold pushL; split <;> simp <;> omega
    rw [e]
    simp only [List.length_cons]
    omega
theorem own_from {w : World} {base c : Nat} {A : Option Addr} {zs : List Int} (h : OwnN .i64 3 base w A c zs) : ∀ a, A = some a → base ≤ a.block := by
  intro a hA
  subst hA
  rcases h.1.2 with ⟨h1, _⟩ | ⟨g, cap, cur, hv, hb, hh, _⟩
  · cases h1
  · injection hv with hA
    injection hA with hA
    subst hA
    exact hb
theorem add_block (a : Addr) (n : Nat) : (a.add n).block = a.block := by unfold Addr.add; split <;> rfl
theorem nums_set {w : World} {g : Nat} {t : TypeId} {cs : Array Value} {A : Option Addr} {zs : List Int} (hN : Nums .i64 w A zs) (hA : ∀ a, A = some a → a.block ≠ g) : Nums .i64 (setRow w g t cs) A zs :=
  Only.nums ⟨fun _ hb => setRow_far hb, setRow_size⟩ hN (fun b off h => hA _ h)
theorem half_of {X : World} {g c : Nat} {A : Option Addr} {zs : List Int} {room gone : Int} {r : Array Value} (hX : X.heap[g]? = some (.cells r rT)) (hN : Nums .i64 X A zs) (hc : zs.length ≤ c) (hc' : c ≤ 9223372036854775807) (hA : ∀ a, A = some a → g < a.block) :
    RHalf (setRow X g rT #[.slice A zs.length c, .int .i64 room, .int .i64 gone]) g zs room gone :=
  ⟨A, c, row_written hX, nums_set hN (fun a h => by have := hA a h; omega), hc, hc', hA⟩

set_option maxHeartbeats 4000000 in
theorem push_any {w : World} {g : Nat} {L : List Int} {room gone : Int} (h : RHalf w g L room gone) (hr : 1 ≤ room ∧ room ≤ 64) (hL : (L.length : Int) ≤ room) (hg : 0 ≤ gone ∧ gone ≤ 1099511627776)
    (A : Option Addr) (n cap : Nat) (zs : List Int) (hn : zs.length = n) (hN : Nums .i64 w A zs) (hlen : n ≤ 1000000) (hA : 0 < n → ∀ a, A = some a → a.block ≠ g) :
    Calls Try.prog 11 #[.pointer (some ⟨g, 0, none⟩), .slice A n cap] w fun e w' => e = .returned (.tuple #[]) ∧ RHalf w' g (pushLs room (L, gone) zs).1 room (pushLs room (L, gone) zs).2 ∧ (∀ B w0, B ≤ g → Below B w0 w → Below B w0 w') := by
  obtain ⟨i0, hi, hz0, hz1, hz2⟩ := info_parts info
  have HI := Lib.hid (And.intro hi (And.intro hz0 (And.intro hz1 hz2)))
  have Hn := Lib.hid hn
  have HN := Lib.hid hN
  have HA := Lib.hid hA
  have HL := Lib.hid h
  have hgw := h.lt
  clear hi hz0 hz1 hz2 hn hN hA h
  go_enter Try.func11, Try.ntmps11
  go_wp2
  go_loopw [4] (fun i wr => ∃ (k : Nat), k ≤ n ∧ i = .int .i64 k ∧ RHalf wr g (pushLs room (L, gone) (zs.take k)).1 room (pushLs room (L, gone) (zs.take k)).2 ∧ (∀ B w0, B ≤ g → Below B w0 w → Below B w0 wr) ∧ w.heap.size ≤ wr.heap.size ∧ Nums .i64 wr A zs) (fun i _ => n - (intOf i).toNat)
  case atStart => exact ⟨0, Nat.zero_le _, rfl, HL.out, fun _ _ _ h => h, Nat.le_refl _, HN.out⟩
  case round =>
    obtain ⟨k, hk, rfl, hR, hB, hS, hN⟩ := hrel
    by_cases hkn : k < n
    · obtain ⟨b, off, hAe, hb, hcell⟩ := hN.at (i := k) (by rw [Hn.out]; exact hkn)
      rw [hAe]
      have Hsn := Lib.hid (pushLs_snoc room (L, gone) zs k (by rw [Hn.out]; exact hkn))
      have hpl := pushLs_len room hr.1 (zs.take k) (L, gone) hL
      have hpg := pushLs_gone room (zs.take k) (L, gone)
      have htk : (zs.take k).length ≤ 1000000 := by have := Hn.out; rw [List.length_take]; omega
      generalize zs.getD k 0 = z at hcell Hsn
      generalize pushLs room (L, gone) (zs.take k) = P at hR Hsn hpl hpg
      obtain ⟨M, gn⟩ := P
      dsimp only at hR hpl hpg
      have hgr := hR.lt
      obtain ⟨A1, c1, h1, hN1, hc1, hc1', hA1⟩ := hR
      have K := row_cells h1
      have HNn := Lib.hid hN1
      have HNz := Lib.hid hN
      have q1 : (k : Int) < (n : Int) := by omega
      have q0 : (0 : Int) ≤ (k : Int) := by omega
      have HB := Lib.hid hB
      clear hN hN1 hB
      go_wp2
      have HOE := Lib.hid (show OwnN .i64 3 wr.heap.size ((wr.drew.alloc (.cells #[.int .i64 z] 3)).alloc (.cells #[] 3)) (some ⟨wr.heap.size + 1, 0, none⟩) 0 [] from by
        have := OwnN.empty (k := .i64) (E := 3) (W := wr.drew.alloc (.cells #[.int .i64 z] 3)) (base := wr.heap.size) (by simp)
        have e : (wr.drew.alloc (.cells #[.int .i64 z] 3)).heap.size = wr.heap.size + 1 := by simp
        rw [e] at this
        exact this)
      go_region_law (first
        | (refine step_append_rowA rfl (.tmp 12) (.tmp 16) 28 rfl i0 8 Try.underlying28 HI.out.1 HI.out.2.1 HI.out.2.2.1 HI.out.2.2.2 (by decide) 0 rfl rfl (OwnN.empty (base := wr.heap.size) (by simp)) A1 M.length _ M rfl rfl ((HNn.out.drewN 1).alloc _) (by simp <;> omega) wr.heap.size wr (Nat.le_refl _) ((below_drewN (Below.refl wr.heap.size wr) 1).alloc (by simp) _) ?_; intro A4 c4 w4 hO4 hB4 hG4; have hc4 := (hB4.cell (p := ⟨b, off + k, none⟩) hb).trans hcell; have hO4 : OwnN .i64 3 wr.heap.size w4 A4 c4 M := (by simpa using hO4))
        | (refine step_append_rowA rfl (.tmp 12) (.tmp 16) 28 rfl i0 8 Try.underlying28 HI.out.1 HI.out.2.1 HI.out.2.2.1 HI.out.2.2.2 (by decide) 0 rfl rfl ((OwnN.empty (W := wr.drew) (base := wr.heap.size) (by simp)).alloc _) A1 M.length _ M rfl rfl (((HNn.out.drewN 1).alloc _).alloc _) (by simp <;> omega) wr.heap.size wr (Nat.le_refl _) (((below_drewN (Below.refl wr.heap.size wr) 1).alloc (by simp) _).alloc (by simp) _) ?_; intro A4 c4 w4 hO4 hB4 hG4; have hc4 := (hB4.cell (p := ⟨b, off + k, none⟩) hb).trans hcell; have hO4 : OwnN .i64 3 wr.heap.size w4 A4 c4 M := (by simpa using hO4); have hz4 : w4.cell? ⟨wr.heap.size + 1, 0, none⟩ = some (.int .i64 z) := (World.cell?_of_block (hG4.block (wr.heap.size + 1) (by simp) (by simp))).trans (alloc_cell0 _ _ _ _ (by simp)))
        | (refine step_append_rowA rfl (.tmp 12) (.tmp 16) 28 rfl i0 8 Try.underlying28 HI.out.1 HI.out.2.1 HI.out.2.2.1 HI.out.2.2.2 (by decide) 0 rfl rfl HOE.out A1 M.length _ M rfl rfl (((HNn.out.drewN 1).alloc _).alloc _) (by simp <;> omega) wr.heap.size wr (Nat.le_refl _) (((below_drewN (Below.refl wr.heap.size wr) 1).alloc (by simp) _).alloc (by simp) _) ?_; intro A4 c4 w4 hO4 hB4 hG4; have hc4 := (hB4.cell (p := ⟨b, off + k, none⟩) hb).trans hcell; have hO4 : OwnN .i64 3 wr.heap.size w4 A4 c4 M := (by simpa using hO4); have hz4 : w4.cell? ⟨wr.heap.size, 0, none⟩ = some (.int .i64 z) := (World.cell?_of_block (hG4.block wr.heap.size (by simp <;> omega) (by simp))).trans ((((Below.refl (wr.heap.size + 1) (wr.drew.alloc (.cells #[.int .i64 z] 3))).alloc (by simp) _).cell (p := ⟨wr.heap.size, 0, none⟩) (by simp)).trans (alloc_cell0 _ _ _ _ rfl)))
        | (refine step_append_num rfl (.tmp 17) (.tmp 22) 28 rfl i0 8 Try.underlying28 HI.out.1 HI.out.2.1 HI.out.2.2.1 HI.out.2.2.2 (by decide) M.length rfl rfl (OwnN.alloc hO4 _) _ _ z rfl (alloc_cell0 _ _ _ _ rfl) (by omega) wr.heap.size wr (Nat.le_refl _) (hB4.alloc hB4.size _) ?_; intro A5 c5 w5 hO5 hB5; have h5 := row_kept h1 hB5 hgr; obtain ⟨s0, s1, c0, d1, f0, f1, z1⟩ := rows1 h5)
        | (refine step_append_num rfl (.tmp 17) (.tmp 22) 28 rfl i0 8 Try.underlying28 HI.out.1 HI.out.2.1 HI.out.2.2.1 HI.out.2.2.2 (by decide) M.length rfl rfl hO4 _ _ z rfl hz4 (by omega) wr.heap.size wr (Nat.le_refl _) hB4 ?_; intro A5 c5 w5 hO5 hB5; have h5 := row_kept h1 hB5 hgr; obtain ⟨s0, s1, c0, d1, f0, f1, z1⟩ := rows1 h5))
      all_goals
        have hA5 := own_from hO5
        have hl5 := hO5.len
        have HN5 := Lib.hid hO5.nums
        have HG := Lib.hid (And.intro hgr (And.intro hA5 hA1))
        have gn0 : 0 ≤ gn ∧ gn ≤ 1099512627776 := by omega
        have gw : IntKind.i64.wrap (gn + 1) = gn + 1 := IntWalk.i64_in _ (by omega)
        have H5 := Lib.hid h5
        have HB5 := Lib.hid hB5
        have e0 : ((M.length + 1 : Nat) : Int) = (M.length : Int) + 1 := by omega
        unfold maxLen at hl5
        simp only [List.length_append, List.length_cons, List.length_nil] at hl5
        clear hO5 hA5 hO4 hG4 hc4 HOE hcell hc1 hc1' hA1 K h1 HNn h5 hB5 s0 s1 c0 f0 f1 z1 HL HN hgr
        go_wp2
        go_quiet (fail)
        obtain ⟨X, hX⟩ : ∃ X, X = (setRow w5 g rT #[.slice A5 (M.length + 1) c5, .int .i64 room, .int .i64 gn]).drewN nq := ⟨_, rfl⟩
        rw [← hX]
        have RX : X.heap[g]? = some (.cells #[.slice A5 (M.length + 1) c5, .int .i64 room, .int .i64 gn] rT) := by rw [hX]; exact row_written H5.out
        have NX : Nums .i64 X A5 (M ++ [z]) := by rw [hX]; exact nums_set HN5.out (fun a h => by have := HG.out.2.1 a h; have := HG.out.1; omega)
        have NZ : Nums .i64 X A zs := by rw [hX]; exact nums_set (HNz.out.below HB5.out) (HA.out (by omega))
        have BX : ∀ B w0, B ≤ g → Below B w0 w → Below B w0 X := fun B w0 hB hb => by
          rw [hX]
          exact below_drewN (setRow_below ((HB.out B w0 hB hb).trans (HB5.out.mono (by have := HG.out.1; omega))) hB) nq
        have SX : w.heap.size ≤ X.heap.size := by
          have h1 := HB5.out.size
          have h2 : X.heap.size = w5.heap.size := by rw [hX]; exact setRow_size
          omega
        obtain ⟨s0, s1, c0, d1, f0, f1, z1⟩ := rows1 RX
        have HBX := Lib.hid BX
        have HNZ := Lib.hid (show Nums .i64 X (some ⟨b, off, none⟩) zs from by rw [← hAe]; exact NZ)
        have HNX := Lib.hid NX
        clear hX BX NZ NX
        by_cases hf : room < (M.length : Int) + 1
        · have hm1 : 1 ≤ M.length := by omega
          have c5n : ¬ c5 = 1 := by omega
          go_wp2
          go_roundw
          case rel =>
            refine ⟨k + 1, by omega, by go_num, ?_, fun B w0 hB hb => setRow_below (HBX.out B w0 hB hb) hB, by rw [setRow_size]; exact SX, nums_set HNZ.out (fun a h => HA.out (by omega) a (hAe.trans h))⟩
            rw [Hsn.out]
            unfold pushL
            rw [if_pos hf]
            have hd := Nums.drop HNX.out 1 c5 (by simp) (by simp; omega)
            rw [if_neg c5n] at hd
            have hz := half_of (c := c5 - 1) (room := room) (gone := gn + 1) RX hd (by simp; omega) (by omega) (fun a h => by
              obtain ⟨a0, h0, rfl⟩ := Option.map_eq_some_iff.1 h
              have := HG.out.2.1 a0 h0; have := HG.out.1
              show g < (a0.add 1).block
              rw [add_block]; omega)
            have e3 : ((M ++ [z]).drop 1).length = M.length := by simp
            rw [e3] at hz
            exact hz
          case measure => simp [intOf]; omega
        · go_wp2
          go_roundw
          case rel =>
            refine ⟨k + 1, by omega, by go_num, ?_, HBX.out, SX, HNZ.out⟩
            rw [Hsn.out]
            unfold pushL
            rw [if_neg hf]
            exact ⟨A5, c5, by simpa using RX, HNX.out, by simp; omega, by omega, fun a h => by have := HG.out.2.1 a h; have := HG.out.1; omega⟩
          case measure => simp [intOf]; omega
    · obtain rfl : k = n := by omega
      go_wp2
      rw [List.take_of_length_le (by rw [Hn.out]; exact Nat.le_refl _)] at hR
      go_end0
      exact ⟨rfl, hR, hB⟩
end Go.Proofs.Ytiokdfijodfmpaa.ref08
