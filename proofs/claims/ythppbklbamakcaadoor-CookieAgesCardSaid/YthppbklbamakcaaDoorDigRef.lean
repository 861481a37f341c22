/- The document's own digest: its constants, and what is laid behind the bytes. -/
import Derived.Test.YthppbklbamakcaaDoorDigTo
import Derived.Test.YthppbklbamakcaaDoorMem6
namespace Go.Proofs.YthppbklbamakcaaDoor
open Go.ChangeShapes Go.WideShapes Go.ChangeAt Go.RowKit
def sliceLen : Value → Nat
  | .slice _ n _ => n
  | _ => 0
theorem rep_snoc (l : List Int) (j : Nat) : l ++ List.replicate j 0 ++ [0] = l ++ List.replicate (j + 1) 0 := by
  rw [List.append_assoc, ← List.replicate_succ']
theorem own_eq {k : IntKind} {E : TypeId} {base : Nat} {w : World} {A : Option Addr} {c : Nat} {l : List Int} {a b : Int} (h : OwnN k E base w A c (l ++ [a])) (e : a = b) : OwnN k E base w A c (l ++ [b]) := by rw [← e]; exact h
theorem take_snoc8 (n i : Nat) (h : i < 8) : (Sha.len8 n).take (i + 1) = (Sha.len8 n).take i ++ [((n * 8 / 256 ^ (7 - i) % 256 : Nat) : Int)] := by
  rw [List.take_succ_eq_append_getElem (by rw [Sha.len_len8]; exact h)]
  have := Sha.len8_at n (7 - i) (by omega)
  rw [show 7 - (7 - i) = i by omega] at this
  rw [← this]
  simp [List.getD, show i < (Sha.len8 n).length by rw [Sha.len_len8]; exact h]
set_option maxHeartbeats 1000000 in
theorem rpadded_any (w : World) (A : Option Addr) (n cap : Nat) (bs : List Int) (hn : bs.length = n) (hN : Nums .u8 w A bs) (hlen : n ≤ 1000000) :
    Calls Tryd.prog 30 #[.slice A n cap] w fun e w' => ∃ A' c', e = .returned (.slice A' (Sha.nblocks n * 64) c') ∧ OwnN .u8 5 w.heap.size w' A' c' (Sha.pad bs) ∧ Below w.heap.size w w' := by
  obtain ⟨i0, hi, hz0, hz1, hz2⟩ := info_parts infoB
  have HI := Lib.hid (And.intro hi (And.intro hz0 (And.intro hz1 hz2)))
  have Hn := Lib.hid hn
  have HN := Lib.hid hN
  clear hi hz0 hz1 hz2 hn hN
  obtain ⟨hb1, hb2⟩ := Sha.nblocks_bd n
  obtain ⟨nb, hnb⟩ : ∃ nb, nb = Sha.nblocks n := ⟨_, rfl⟩
  have Hpad := Lib.hid (show Sha.pad bs = bs ++ [128] ++ List.replicate (nb * 64 - n - 9) 0 ++ Sha.len8 n by rw [hnb]; unfold Sha.pad; rw [Hn.out])
  have hdef : nb = (n + 72) / 64 := hnb
  have Hnb := Lib.hid hnb
  rw [← hnb] at hb1 hb2
  clear hnb
  have Hl1 := Lib.hid (show bs.length + 0 = n + 0 by rw [Hn.out])
  have HlA := Lib.hid (show ([] : List Int).length + n < 17592186044415 by simp; omega)
  have HlB := Lib.hid (show (bs : List Int).length < 17592186044415 by rw [Hn.out]; omega)
  go_enter Tryd.func30, Tryd.ntmps30
  go_wp2_with (first
    | (at_builtin; refine wpList_append_rowA rfl (.tmp 6) (.tmp 7) 22 rfl i0 1 Tryd.underlying22 HI.out.1 HI.out.2.1 HI.out.2.2.1 HI.out.2.2.2 (by decide) 0 rfl rfl (OwnN.empty (base := w.heap.size) (Nat.le_refl _)) A n _ bs rfl Hn.out (HN.out.alloc _) HlA.out w.heap.size w (Nat.le_refl _) ((Below.refl _ _).alloc (Nat.le_refl _) _) ?_; intro A1 c1 w1 hO1 hB1)
    | (at_builtin; refine wpList_append_num rfl (.tmp 8) (.tmp 9) 22 rfl i0 1 Tryd.underlying22 HI.out.1 HI.out.2.1 HI.out.2.2.1 HI.out.2.2.2 (by decide) _ (by simp [Hn.out]) rfl (hO1.alloc _) ⟨w1.heap.size, 0, none⟩ _ 128 rfl (by simp) HlB.out w.heap.size w (Nat.le_refl _) (hB1.alloc hB1.size _) ?_; intro A2 c2 w2 hO2 hB2)
    )
  have hO2' : OwnN .u8 5 w.heap.size w2 A2 c2 (bs ++ [128] ++ List.replicate 0 0) := by simpa using hO2
  have Hdef := Lib.hid hdef
  clear hO2 hO1 hB1 hdef
  go_loopw [3] (fun v wr => ∃ (j m : Nat) (A' : Option Addr) (c' : Nat), j ≤ nb * 64 - n - 9 ∧ m = n + 1 + j ∧ v = .slice A' m c' ∧ OwnN .u8 5 w.heap.size wr A' c' (bs ++ [128] ++ List.replicate j 0) ∧ Below w.heap.size w wr) (fun v _ => nb * 64 - 8 - sliceLen v)
  case atStart => exact ⟨0, n + 1, A2, c2, Nat.zero_le _, rfl, rfl, hO2', hB2⟩
  case round =>
    obtain ⟨j, m, A3, c3, hj, hm, rfl, hO, hB⟩ := hrel
    have HO := Lib.hid hO
    have Hlen := Lib.hid (show (bs ++ [128] ++ List.replicate j (0 : Int)).length = m by simp [Hn.out]; omega)
    have HS := Lib.hid (show (bs ++ [128] ++ List.replicate j (0 : Int)).length < 17592186044415 by rw [Hlen.out]; omega)
    have hd := Hdef.out
    by_cases hlt : j < nb * 64 - n - 9
    · have q1 : ((m : Int) % 64 == 56) = false := beq_eq_false_iff_ne.2 (by omega)
      have q2 : ((m : Int) % 64 != 56) = true := bne_iff_ne.2 (by omega)
      have Hm := Lib.hid hm
      clear hO hd hm hO2' hB2
      go_wp2_with (first
        | (at_builtin; refine wpList_append_num rfl (.tmp 15) (.tmp 16) 22 rfl i0 1 Tryd.underlying22 HI.out.1 HI.out.2.1 HI.out.2.2.1 HI.out.2.2.2 (by decide) _ Hlen.out rfl (HO.out.alloc _) ⟨wr.heap.size, 0, none⟩ _ 0 rfl (by simp) HS.out w.heap.size w (Nat.le_refl _) (hB.alloc hB.size _) ?_; intro A4 c4 w4 hO4 hB4)
        )
      go_roundw
      case rel => exact ⟨j + 1, m + 1, A4, c4, by omega, by have := Hm.out; omega, rfl, by rw [← rep_snoc]; exact hO4, hB4⟩
      case measure => have := Hm.out; simp [sliceLen]; omega
    · have q1 : ((m : Int) % 64 == 56) = true := beq_iff_eq.2 (by omega)
      have q2 : ((m : Int) % 64 != 56) = false := bne_eq_false_iff_eq.2 (by omega)
      have hj' : j = nb * 64 - n - 9 := by omega
      have hm' : m = nb * 64 - 8 := by omega
      have Hm := Lib.hid hm'
      have Hpad' := Lib.hid (show Sha.pad bs = bs ++ [128] ++ List.replicate j 0 ++ Sha.len8 n by rw [Hpad.out, hj'])
      have hO' : OwnN .u8 5 w.heap.size wr A3 c3 (bs ++ [128] ++ List.replicate j 0 ++ (Sha.len8 n).take 0) := by simpa using hO
      generalize bs ++ [128] ++ List.replicate j (0 : Int) = pre at Hpad' hO' Hlen
      have b1 : (n : Int) ≤ 1000000 := by omega
      clear hO HO hd hm hj hj' hm' hO2' hB2 HS hlt Hpad
      go_wp2
      go_loopw [3, 5] (fun v i wr => ∃ (k m' : Nat) (z : Int) (A' : Option Addr) (c' : Nat), z = k ∧ k ≤ 8 ∧ i = .int .i64 z ∧ m' = m + k ∧ v = .slice A' m' c' ∧ OwnN .u8 5 w.heap.size wr A' c' (pre ++ (Sha.len8 n).take k) ∧ Below w.heap.size w wr) (fun _ i _ => (8 - intOf i).toNat)
      case atStart => exact ⟨0, m, 0, A3, c3, rfl, by omega, rfl, rfl, rfl, hO', hB⟩
      case round =>
        obtain ⟨k, m', z, A5, c5, hkz, hk8, rfl, hmk, rfl, hO5, hB5⟩ := hrel
        have HO5 := Lib.hid hO5
        have Hl5 := Lib.hid (show (pre ++ (Sha.len8 n).take k).length = m' by rw [List.length_append, Hlen.out, List.length_take, Sha.len_len8]; omega)
        have HS5 := Lib.hid (show (pre ++ (Sha.len8 n).take k).length < 17592186044415 by rw [Hl5.out]; have := Hm.out; omega)
        have Hmk := Lib.hid hmk
        clear hO5 hmk hO' hB q1 q2
        by_cases hlk : k < 8
        · obtain ⟨k', hk'⟩ : ∃ k', k' = k + 1 := ⟨_, rfl⟩
          have hk8' : k' ≤ 8 := by omega
          have Hkz := Lib.hid (show z + 1 = (k' : Int) by omega)
          have HT := Lib.hid (take_snoc8 n k hlk)
          rw [← hk'] at HT
          have Hmk' := Lib.hid (show m' + 1 = m + k' by have := Hmk.out; omega)
          have hcases : (k = 0 ∧ z = 0) ∨ (k = 1 ∧ z = 1) ∨ (k = 2 ∧ z = 2) ∨ (k = 3 ∧ z = 3) ∨ (k = 4 ∧ z = 4) ∨ (k = 5 ∧ z = 5) ∨ (k = 6 ∧ z = 6) ∨ (k = 7 ∧ z = 7) := by omega
          clear hkz hk' hk8 Hmk
          rcases hcases with ⟨rfl, rfl⟩ | ⟨rfl, rfl⟩ | ⟨rfl, rfl⟩ | ⟨rfl, rfl⟩ | ⟨rfl, rfl⟩ | ⟨rfl, rfl⟩ | ⟨rfl, rfl⟩ | ⟨rfl, rfl⟩
          all_goals
            go_wp2_with (first
              | (at_builtin; refine wpList_append_num rfl (.tmp 26) (.tmp 33) 22 rfl i0 1 Tryd.underlying22 HI.out.1 HI.out.2.1 HI.out.2.2.1 HI.out.2.2.2 (by decide) _ Hl5.out rfl (HO5.out.alloc _) ⟨wr.heap.size, 0, none⟩ _ _ rfl (by simp; rfl) HS5.out w.heap.size w (Nat.le_refl _) (hB5.alloc hB5.size _) ?_; intro A6 c6 w6 hO6 hB6)
              )
            go_roundw
            case rel => exact ⟨k', m' + 1, _, A6, c6, Hkz.out, hk8', rfl, Hmk'.out, rfl, by rw [HT.out, ← List.append_assoc]; exact own_eq hO6 (by omega), hB6⟩
            case measure => simp [intOf]
        · have hk9 : k = 8 := by omega
          subst hk9
          have hz9 : z = 8 := by omega
          subst hz9
          have e2 : m' = nb * 64 := by have := Hm.out; have := Hmk.out; omega
          subst e2
          clear hkz hk8 hlk
          go_wp2
          go_ret
          refine ⟨A5, c5, by rw [← Hnb.out]; rfl, ?_, hB5⟩
          rw [Hpad'.out]
          have := HO5.out
          rwa [List.take_of_length_le (by rw [Sha.len_len8]; exact Nat.le_refl _)] at this
end Go.Proofs.YthppbklbamakcaaDoor
