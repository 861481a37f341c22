/- DigestParts holds for any bytes, cut anywhere: it does not matter how bytes are cut into parts, and they stay as they are. The constants read as the program lays them (the card ties them). No other condition. -/
import Derived.Test.YtlimcaajpoeoaaaDoorDigSmall
import Derived.Test.YtlimcaajpoeoaaaDoorDigLaw
import Derived.Test.YtlimcaajpoeoaaaDoorDrive
namespace Go.Proofs.YtlimcaajpoeoaaaDoor.digestParts
open Go.ChangeShapes Go.WideShapes Go.ChangeAt Go.RowKit

/-- What region 6 reads, in whatever world above W0: the sum, and the two texts. -/
abbrev SS (W0 : World) (g : Nat) (r : List Int) (A B : Option Addr) (n c cap : Nat) (t : ByteArray) (W : World) : Prop :=
  (Instr.loadAt b32T (.pointer (some ⟨g, 0, none⟩))).run Tryd.prog W = .ok (.agg (nrow .u8 r).toArray) W ∧ (convert 22 9 (.slice A n c)).run Tryd.prog W = .ok (.string t) W ∧ (convert 22 9 (.slice B n cap)).run Tryd.prog W = .ok (.string t) W ∧ Below W0.heap.size W0 W
theorem load_b32 {W : World} {g : Nat} {r : List Int} (h : W.heap[g]? = some (.cells (nrow .u8 r).toArray b32T)) (hr : r.length = 32) : (Instr.loadAt b32T (.pointer (some ⟨g, 0, none⟩))).run Tryd.prog W = .ok (.agg (nrow .u8 r).toArray) W := by
  have hl := arr_load Tryd.underlying24 info_b32 W g (nrow .u8 r) (by rw [nrow_len]; exact hr) h
  simp only [Instr.loadAt, Instr.sureAddr, Sem.run_bind, Sem.run_pure, Result.andThen_ok, hl]
theorem ss_of {W0 : World} {g : Nat} {r zs : List Int} {A B : Option Addr} {n c cap : Nat} (hr32 : r.length = 32) (hr : W0.heap[g]? = some (.cells (nrow .u8 r).toArray b32T)) (hA : Nums .u8 W0 A zs) (hB : Nums .u8 W0 B zs) (hn : zs.length = n) (W : World) (h : Below W0.heap.size W0 W) : SS W0 g r A B n c cap (strOfNums zs) W :=
  ⟨load_b32 (row_kept hr h (row_lt hr)) hr32, text_of_nums Tryd.underlying22 Tryd.underlying5 Tryd.underlying9 (hA.below h) hn, text_of_nums Tryd.underlying22 Tryd.underlying5 Tryd.underlying9 (hB.below h) hn, h⟩
theorem flat4 (zs : List Int) (i k : Nat) (hik : i ≤ k) (a b c d : Option Addr) (ca cb cc cd : Nat) : flat [⟨a, ca, zs.take i⟩, ⟨b, cb, (zs.drop i).take (k - i)⟩, ⟨c, cc, []⟩, ⟨d, cd, zs.drop k⟩] = zs := by
  simp only [flat, List.append_nil, List.nil_append]
  rw [← List.append_assoc]
  conv => rhs; rw [← List.take_append_drop k zs]
  congr 1
  conv => rhs; rw [← List.take_append_drop i (zs.take k)]
  rw [List.take_take, Nat.min_eq_left hik, List.drop_take]
set_option maxRecDepth 100000 in
set_option maxHeartbeats 2000000 in
theorem walk (w : World) (hL : laidMetH Tryd.prog Rows.digestPartsRow.laid w)
    (A : Option Addr) (n cap : Nat) (zs : List Int) (hl : n ≤ cap) (hm : cap ≤ maxLen) (hn : zs.length = n) (hN : Nums .u8 w A zs) (hw : ∀ z ∈ zs, (Lit.int .u8 z).wf = true)
    (i : Int) (wi : (Lit.int .i64 i).wf = true) (k : Int) (wk : (Lit.int .i64 k).wf = true) :
    Calls Tryd.prog 4 #[.slice A n cap, .int .i64 i, .int .i64 k] w fun e w' => e = .returned (.bool true) ∧ Below w.heap.size w w' := by
  have HT := Lib.hid (kt_of_laid hL)
  have HN := Lib.hid hN
  have Hn := Lib.hid hn
  have HW := Lib.hid (show ∀ z ∈ zs, 0 ≤ z ∧ z < 256 from fun z hz => byte_wf (hw z hz))
  have Hm := Lib.hid hm
  unfold maxLen at hm
  clear hL hN hn hw wi wk
  by_cases h : 500 < n ∨ i < 0 ∨ k < i ∨ (n : Int) < k
  · have hcase : (500 < n) ∨ (n ≤ 500 ∧ i < 0) ∨ (n ≤ 500 ∧ 0 ≤ i ∧ k < i) ∨ (n ≤ 500 ∧ 0 ≤ i ∧ i ≤ k ∧ (n : Int) < k) := by omega
    clear h
    rcases hcase with h | ⟨h0, h⟩ | ⟨h0, h1, h⟩ | ⟨h0, h1, h2, h⟩
    all_goals
      go_enter Tryd.func4, Tryd.ntmps4
      go_wp2_with (go_at_call 6; refine (small_any _ HT.out).mono ?_; rintro e w1 ⟨rfl, hB1⟩)
      all_goals (first | (go_ret; exact ⟨rfl, hB1⟩) | (exfalso; omega))
  · obtain ⟨I, rfl⟩ : ∃ I : Nat, i = I := ⟨i.toNat, by omega⟩
    obtain ⟨K, rfl⟩ : ∃ K : Nat, k = K := ⟨k.toNat, by omega⟩
    have h1 : I ≤ K := by omega
    have h2 : K ≤ n := by omega
    have h3 : n ≤ 500 := by omega
    clear h
    obtain ⟨i0, hi, hz0, hz1, hz2⟩ := info_parts infoB
    have HI := Lib.hid (And.intro hi (And.intro hz0 (And.intro hz1 hz2)))
    obtain ⟨r, hr⟩ : ∃ r, Sha.sha zs = r := ⟨_, rfl⟩
    have hr32 : r.length = 32 := by rw [← hr]; exact sha_len _
    have Hr := Lib.hid hr
    have SN := sha_new r hr32
    have L1 : (nrow .u8 r).length = 32 := by rw [nrow_len]; exact hr32
    have E1 : ∀ W : World, (Op.equalIn 10000 b32T (.agg (nrow .u8 r).toArray) (.agg (nrow .u8 r).toArray)).run Tryd.prog W = .ok true W := fun W => by rw [eql_b32 W r r hr32 hr32, decide_eq_true rfl]
    have z0 := zero_b32'
    have Hlen := Lib.hid (show zs.length ≤ 1000000 by rw [Hn.out]; omega)
    have HlA := Lib.hid (show ([] : List Int).length + n < 17592186044415 by simp; omega)
    clear hi hz0 hz1 hz2 hr hr32
    have c1' : (n : Int) ≤ 500 := by omega
    have c2' : (I : Int) ≤ (K : Int) := by omega
    have c3' : (K : Int) ≤ (n : Int) := by omega
    have c0' : 0 ≤ (I : Int) := by omega
    go_enter Tryd.func4, Tryd.ntmps4
    go_wp2_with (first
      | (go_at_call 6; refine (small_any _ HT.out).mono ?_; rintro e w1 ⟨rfl, hB1⟩)
      | (at_builtin; refine wpList_append_rowA rfl (.tmp 30) (.tmp 31) 22 rfl i0 1 Tryd.underlying22 HI.out.1 HI.out.2.1 HI.out.2.2.1 HI.out.2.2.2 (by decide) 0 rfl rfl (OwnN.empty (base := w1.heap.size) (Nat.le_refl _)) A n _ zs rfl Hn.out ((HN.out.below hB1).alloc _) HlA.out w.heap.size w hB1.size (hB1.alloc hB1.size _) ?_; intro A2 c2 w2 hO2 hB2)
      )
    have hO2' : OwnN .u8 5 w1.heap.size w2 A2 c2 zs := by simpa using hO2
    have hcl := hO2'.len
    rw [Hn.out] at hcl
    obtain ⟨hcl1, hcl2⟩ := hcl
    have Hcl2 := Lib.hid hcl2
    have P2 := parts_one (t := 22) (cap := c2) (g := w2.heap.size) rfl hO2'.nums Hn.out hcl1 hcl2
    have B2 := hB2.alloc hB2.size (.cells #[.slice A2 n c2] 22)
    have K2 := HT.out.keep B2 HT.out.2
    have HO2 := Lib.hid hO2'
    clear hO2 hcl2 hO2'
    refine (sum_to _ _ 1 1 _ zs r (by simp [flat]) Hr.out rfl P2 Hlen.out (by decide) HW.out K2).mono ?_
    rintro e w3 ⟨rfl, hB3⟩
    have N3 := (HO2.out.nums.alloc (.cells #[.slice A2 n c2] 22)).below hB3
    have B3 := B2.trans (hB3.mono B2.size)
    clear hB3 K2 P2 B2 hB1 hB2
    go_upto_region 6 with (fail)
    have R9 := row_new (W := w3) (cs := (nrow .u8 r).toArray) (t := b32T) (m := (0, 0))
    have N4 := N3.alloc (.cells (nrow .u8 r).toArray b32T)
    have B4 := B3.alloc B3.size (.cells (nrow .u8 r).toArray b32T)
    generalize w3.alloc (.cells (nrow .u8 r).toArray b32T) = W4 at R9 N4 B4 ⊢
    obtain ⟨g, hg⟩ : ∃ g, g = w3.heap.size := ⟨_, rfl⟩
    rw [← hg] at R9 ⊢
    obtain ⟨t, ht⟩ : ∃ t, strOfNums zs = t := ⟨_, rfl⟩
    -- REGION6
    have c5 : I ≤ c2 := by omega
    have c6 : (I : Int) ≤ (c2 : Int) := by omega
    have c7 : (K : Int) ≤ (c2 : Int) := by omega
    have c8 : (n : Int) ≤ (c2 : Int) := by omega
    have c9 : (0 : Int) ≤ (K : Int) := by omega
    have c10 : (I : Int) ≤ (n : Int) := by omega
    have c11 : K ≤ c2 := by omega
    have KD := Lib.hid (show Below W4.heap.size W4 W4.drew from below_drewN (Below.refl _ _) 1)
    have KA := Lib.hid (show ∀ (W : World) (o : Obj), Below W4.heap.size W4 W → Below W4.heap.size W4 (W.alloc o) from fun W o h => h.alloc h.size o)
    have KC := Lib.hid (show ∀ (W W' : World), Below W4.heap.size W4 W → Below W.heap.size W W' → Below W4.heap.size W4 W' from fun W W' h hb => h.trans (hb.mono h.size))
    have HRS := Lib.hid (show ∀ W : World, Below W4.heap.size W4 W → W.rangeAt g 0 (nrow .u8 r) from fun W h => range_row (row_kept R9 h (row_lt R9)))
    have HBw := Lib.hid (show ∀ W : World, Below W4.heap.size W4 W → Below w.heap.size w W from fun W h => B4.trans (h.mono B4.size))
    have NB := Lib.hid (show ∀ W : World, Below W4.heap.size W4 W → Nums .u8 W A2 zs from fun W h => N4.below h)
    have KT := Lib.hid (show ∀ W : World, Below W4.heap.size W4 W → Kt W from fun W h => HT.out.keep (HBw.out W h) HT.out.2)
    have KT1 := Lib.hid (show ∀ W : World, Below W4.heap.size W4 W → (convert 22 9 (.slice A2 n c2)).run Tryd.prog W = .ok (.string t) W from fun W h => by rw [← ht]; exact text_of_nums Tryd.underlying22 Tryd.underlying5 Tryd.underlying9 (NB.out W h) Hn.out)
    have KT2 := Lib.hid (show ∀ W : World, Below W4.heap.size W4 W → (convert 22 9 (.slice A n cap)).run Tryd.prog W = .ok (.string t) W from fun W h => by rw [← ht]; exact text_of_nums Tryd.underlying22 Tryd.underlying5 Tryd.underlying9 (HN.out.below (HBw.out W h)) Hn.out)
    obtain ⟨D1, hD1⟩ : ∃ D1, (if c2 = I then A2 else Option.map (fun x => x.add I) A2) = D1 := ⟨_, rfl⟩
    obtain ⟨D2, hD2⟩ : ∃ D2, (if c2 = K then A2 else Option.map (fun x => x.add K) A2) = D2 := ⟨_, rfl⟩
    have KO1 := Lib.hid (show ∀ W : World, Below W4.heap.size W4 W → Calls Tryd.prog 7 #[.slice (some ⟨W.heap.size, 0, none⟩) 4 4] (W.alloc (.cells #[.slice A2 I c2, .slice D1 (K - I) (c2 - I), .slice none 0 0, .slice D2 (n - K) (c2 - K)] 22)) fun x w' => x = .returned (.agg (nrow .u8 r).toArray) ∧ Below (W.alloc (.cells #[.slice A2 I c2, .slice D1 (K - I) (c2 - I), .slice none 0 0, .slice D2 (n - K) (c2 - K)] 22)).heap.size (W.alloc (.cells #[.slice A2 I c2, .slice D1 (K - I) (c2 - I), .slice none 0 0, .slice D2 (n - K) (c2 - K)] 22)) w' from fun W h => by
      have hA := KA.out W (.cells #[.slice A2 I c2, .slice D1 (K - I) (c2 - I), .slice none 0 0, .slice D2 (n - K) (c2 - K)] 22) h
      have hN := NB.out W h
      have hm2 := Hcl2.out
      have e := Hn.out
      have nI : Nums .u8 W D1 (zs.drop I) := by rw [← hD1]; exact hN.drop I c2 (by omega) (by omega)
      have nK : Nums .u8 W D2 (zs.drop K) := by rw [← hD2]; exact hN.drop K c2 (by omega) (by omega)
      have P := parts_four (t := 22) (W := W) (g := W.heap.size) (C := none) (cs := []) (nc := 0) rfl (hN.take I) (show (zs.take I).length = I by rw [List.length_take]; omega) (by omega) hm2 (nI.take (K - I)) (show ((zs.drop I).take (K - I)).length = K - I by rw [List.length_take, List.length_drop]; omega) (by omega) (show c2 - I ≤ maxLen by omega) (Nums.nil (w := W)) rfl (Nat.le_refl 0) (by decide) nK (show (zs.drop K).length = n - K by rw [List.length_drop]; omega) (by omega) (show c2 - K ≤ maxLen by omega)
      exact sum_to _ _ 4 4 _ zs r (flat4 zs I K h1 _ _ _ _ _ _ _ _) Hr.out rfl P Hlen.out (by decide) HW.out (KT.out _ hA))
    have KO2 := Lib.hid (show ∀ W : World, Below W4.heap.size W4 W → Calls Tryd.prog 7 #[.slice (some ⟨W.heap.size, 0, none⟩) 2 2] (W.alloc (.cells #[.slice none 0 0, .slice A2 n c2] 22)) fun x w' => x = .returned (.agg (nrow .u8 r).toArray) ∧ Below (W.alloc (.cells #[.slice none 0 0, .slice A2 n c2] 22)).heap.size (W.alloc (.cells #[.slice none 0 0, .slice A2 n c2] 22)) w' from fun W h => by
      have hA := KA.out W (.cells #[.slice none 0 0, .slice A2 n c2] 22) h
      have hN := NB.out W h
      have P := parts_two (t := 22) (W := W) (g := W.heap.size) (A := none) (xs1 := []) (na := 0) rfl (Nums.nil (w := W)) rfl (Nat.le_refl 0) (by decide) hN Hn.out hcl1 Hcl2.out
      exact sum_to _ _ 2 2 _ zs r (by simp [flat]) Hr.out rfl P Hlen.out (by decide) HW.out (KT.out _ hA))
    clear R9 N4 N3 B3 B4 hg ht SN z0 HlA hcl1
    refine hd_start (fun W => Below W4.heap.size W4 W) (by kernel_rfl) (KD.out) (fun hHeld => ?_)
    refine hd_take (v := ?_) 0 rfl (by kernel_rfl) (by kernel_rfl) (by kernel_rfl) (fun _ _ _ h => h) hHeld (Or.inl ⟨by rfl, ?_⟩) ?_
    rotate_left
    · (intro W hSw; go_simp) <;> with_reducible rfl
    (try simp only [Act.put, List.setIfInBounds_toArray, List.set_cons_zero, List.set_cons_succ])
    refine hd_take (v := ?_) 1 rfl (by kernel_rfl) (by kernel_rfl) (by kernel_rfl) (fun _ _ _ h => h) hHeld (Or.inl ⟨by rfl, ?_⟩) ?_
    rotate_left
    · (intro W hSw; go_simp) <;> with_reducible rfl
    (try simp only [Act.put, List.setIfInBounds_toArray, List.set_cons_zero, List.set_cons_succ])
    refine hd_take (v := ?_) 2 rfl (by kernel_rfl) (by kernel_rfl) (by kernel_rfl) (fun _ _ _ h => h) hHeld (Or.inl ⟨by rfl, ?_⟩) ?_
    rotate_left
    · (intro W hSw; go_simp) <;> with_reducible rfl
    (try simp only [Act.put, List.setIfInBounds_toArray, List.set_cons_zero, List.set_cons_succ])
    refine hd_take (v := ?_) 3 rfl (by kernel_rfl) (by kernel_rfl) (by kernel_rfl) (fun _ _ _ h => h) hHeld (Or.inl ⟨by rfl, ?_⟩) ?_
    rotate_left
    · (intro W hSw; go_simp) <;> with_reducible rfl
    (try simp only [Act.put, List.setIfInBounds_toArray, List.set_cons_zero, List.set_cons_succ])
    refine hd_take (v := ?_) 4 rfl (by kernel_rfl) (by kernel_rfl) (by kernel_rfl) (fun _ _ _ h => h) hHeld (Or.inl ⟨by rfl, ?_⟩) ?_
    rotate_left
    · (intro W hSw; go_simp) <;> with_reducible rfl
    (try simp only [Act.put, List.setIfInBounds_toArray, List.set_cons_zero, List.set_cons_succ])
    refine hd_take (v := ?_) 5 rfl (by kernel_rfl) (by kernel_rfl) (by kernel_rfl) (fun _ _ _ h => h) hHeld (Or.inl ⟨by rfl, ?_⟩) ?_
    rotate_left
    · (intro W hSw; go_simp) <;> with_reducible rfl
    (try simp only [Act.put, List.setIfInBounds_toArray, List.set_cons_zero, List.set_cons_succ])
    refine hd_take (v := ?_) 6 rfl (by kernel_rfl) (by kernel_rfl) (by kernel_rfl) (fun _ _ _ h => h) hHeld (Or.inl ⟨by rfl, ?_⟩) ?_
    rotate_left
    · (intro W hSw; go_simp) <;> with_reducible rfl
    (try simp only [Act.put, List.setIfInBounds_toArray, List.set_cons_zero, List.set_cons_succ])
    refine hd_take (v := ?_) 7 rfl (by kernel_rfl) (by kernel_rfl) (by kernel_rfl) (fun _ _ _ h => h) hHeld (Or.inl ⟨by rfl, ?_⟩) ?_
    rotate_left
    · (intro W hSw; go_simp) <;> with_reducible rfl
    (try simp only [Act.put, List.setIfInBounds_toArray, List.set_cons_zero, List.set_cons_succ])
    refine hd_take (v := ?_) 8 rfl (by kernel_rfl) (by kernel_rfl) (by kernel_rfl) (fun _ _ _ h => h) hHeld (Or.inl ⟨by rfl, ?_⟩) ?_
    rotate_left
    · (intro W hSw; go_simp) <;> with_reducible rfl
    (try simp only [Act.put, List.setIfInBounds_toArray, List.set_cons_zero, List.set_cons_succ])
    refine hd_take (v := ?_) 9 rfl (by kernel_rfl) (by kernel_rfl) (by kernel_rfl) (fun _ _ _ h => h) hHeld (Or.inl ⟨by rfl, ?_⟩) ?_
    rotate_left
    · (intro W hSw; go_simp) <;> with_reducible rfl
    (try simp only [Act.put, List.setIfInBounds_toArray, List.set_cons_zero, List.set_cons_succ])
    refine hd_take (v := ?_) 10 rfl (by kernel_rfl) (by kernel_rfl) (by kernel_rfl) (fun _ _ _ h => h) hHeld (Or.inl ⟨by rfl, ?_⟩) ?_
    rotate_left
    · (intro W hSw; go_simp) <;> with_reducible rfl
    (try simp only [Act.put, List.setIfInBounds_toArray, List.set_cons_zero, List.set_cons_succ])
    refine hd_take (v := ?_) 11 rfl (by kernel_rfl) (by kernel_rfl) (by kernel_rfl) (fun _ _ _ h => h) hHeld (Or.inl ⟨by rfl, ?_⟩) ?_
    rotate_left
    · (intro W hSw; go_simp) <;> with_reducible rfl
    (try simp only [Act.put, List.setIfInBounds_toArray, List.set_cons_zero, List.set_cons_succ])
    refine hd_take 14 rfl (by kernel_rfl) (by kernel_rfl) (by kernel_rfl) (fun _ _ _ h => h) hHeld (hd_row Tryd.underlying24 rfl info_b32 (by rfl) (.tmp 9) rfl g 0 rfl (nrow .u8 r) L1 HRS.out) ?_
    (try simp only [Act.put, List.setIfInBounds_toArray, List.set_cons_zero, List.set_cons_succ])
    have hHeldOld := hHeld
    refine hd_one 12 rfl (by kernel_rfl) (fun K' hK => ?_)
    go_simp
    refine hK.out _ _ (KA.out _ _ hHeld) (fun hHeld => ?_)
    clear hK K'
    (try simp only [Act.put, List.setIfInBounds_toArray, List.set_cons_zero, List.set_cons_succ])
    have hHeldOld := hHeld
    refine hd_one 13 rfl (by kernel_rfl) (fun K' hK => ?_)
    go_simp
    refine (KO1.out W4.drew KD.out).mono ?_
    rintro x W9 ⟨rfl, hb⟩
    go_wp2_with fail
    refine hK.out _ _ (KC.out _ _ (KA.out _ _ KD.out) hb) (fun hHeld => ?_)
    clear hK K'
    (try simp only [Act.put, List.setIfInBounds_toArray, List.set_cons_zero, List.set_cons_succ])
    refine hd_take (v := ?_) 15 rfl (by kernel_rfl) (by kernel_rfl) (by kernel_rfl) (fun _ _ _ h => h) hHeld (Or.inl ⟨by rfl, ?_⟩) ?_
    rotate_left
    · (intro W hSw; go_simp) <;> with_reducible rfl
    (try simp only [Act.put, List.setIfInBounds_toArray, List.set_cons_zero, List.set_cons_succ])
    refine hd_take (v := ?_) 16 rfl (by kernel_rfl) (by kernel_rfl) (by kernel_rfl) (fun _ _ _ h => h) hHeld (Or.inl ⟨by rfl, ?_⟩) ?_
    rotate_left
    · (intro W hSw; go_simp) <;> with_reducible rfl
    (try simp only [Act.put, List.setIfInBounds_toArray, List.set_cons_zero, List.set_cons_succ])
    refine hd_take (v := ?_) 17 rfl (by kernel_rfl) (by kernel_rfl) (by kernel_rfl) (fun _ _ _ h => h) hHeld (Or.inl ⟨by rfl, ?_⟩) ?_
    rotate_left
    · (intro W hSw; go_simp) <;> with_reducible rfl
    (try simp only [Act.put, List.setIfInBounds_toArray, List.set_cons_zero, List.set_cons_succ])
    refine hd_take (v := ?_) 18 rfl (by kernel_rfl) (by kernel_rfl) (by kernel_rfl) (fun _ _ _ h => h) hHeld (Or.inl ⟨by rfl, ?_⟩) ?_
    rotate_left
    · (intro W hSw; go_simp) <;> with_reducible rfl
    (try simp only [Act.put, List.setIfInBounds_toArray, List.set_cons_zero, List.set_cons_succ])
    refine hd_take 21 rfl (by kernel_rfl) (by kernel_rfl) (by kernel_rfl) (fun _ _ _ h => h) hHeld (hd_row Tryd.underlying24 rfl info_b32 (by rfl) (.tmp 9) rfl g 0 rfl (nrow .u8 r) L1 HRS.out) ?_
    (try simp only [Act.put, List.setIfInBounds_toArray, List.set_cons_zero, List.set_cons_succ])
    have hHeldOld2 := hHeld
    have hHeldOld := hHeld
    refine hd_one 19 rfl (by kernel_rfl) (fun K' hK => ?_)
    go_simp
    refine hK.out _ _ (KA.out _ _ hHeldOld) (fun hHeld => ?_)
    clear hK K'
    (try simp only [Act.put, List.setIfInBounds_toArray, List.set_cons_zero, List.set_cons_succ])
    have hHeldOld := hHeld
    refine hd_one 20 rfl (by kernel_rfl) (fun K' hK => ?_)
    go_simp
    refine (KO2.out _ hHeldOld2).mono ?_
    rintro x W10 ⟨rfl, hb⟩
    go_wp2_with fail
    refine hK.out _ _ (KC.out _ _ (KA.out _ _ hHeldOld2) hb) (fun hHeld => ?_)
    clear hK K'
    (try simp only [Act.put, List.setIfInBounds_toArray, List.set_cons_zero, List.set_cons_succ])
    refine hd_take (v := ?_) 22 rfl (by kernel_rfl) (by kernel_rfl) (by kernel_rfl) (fun _ _ _ h => h) hHeld (Or.inl ⟨by rfl, ?_⟩) ?_
    rotate_left
    · (intro W hSw; go_simp) <;> with_reducible rfl
    (try simp only [Act.put, List.setIfInBounds_toArray, List.set_cons_zero, List.set_cons_succ])
    refine hd_take (v := ?_) 23 rfl (by kernel_rfl) (by kernel_rfl) (by kernel_rfl) (fun _ _ _ h => h) hHeld (Or.inl ⟨by rfl, ?_⟩) ?_
    rotate_left
    · (intro W hSw; go_simp) <;> with_reducible rfl
    (try simp only [Act.put, List.setIfInBounds_toArray, List.set_cons_zero, List.set_cons_succ])
    refine hd_take (v := ?_) 24 rfl (by kernel_rfl) (by kernel_rfl) (by kernel_rfl) (fun _ _ _ h => h) hHeld (Or.inl ⟨by rfl, ?_⟩) ?_
    rotate_left
    · (intro W hSw; go_simp) <;> with_reducible rfl
    (try simp only [Act.put, List.setIfInBounds_toArray, List.set_cons_zero, List.set_cons_succ])
    refine hd_take (v := ?_) 25 rfl (by kernel_rfl) (by kernel_rfl) (by kernel_rfl) (fun _ _ _ h => h) hHeld (Or.inl ⟨by rfl, ?_⟩) ?_
    rotate_left
    · (intro W hSw; go_simp) <;> with_reducible rfl
    (try simp only [Act.put, List.setIfInBounds_toArray, List.set_cons_zero, List.set_cons_succ])
    refine hd_take (v := ?_) 26 rfl (by kernel_rfl) (by kernel_rfl) (by kernel_rfl) (fun _ _ _ h => h) hHeld (Or.inl ⟨by rfl, ?_⟩) ?_
    rotate_left
    · (intro W hSw; have cT := KT1.out W hSw; go_simp) <;> with_reducible rfl
    (try simp only [Act.put, List.setIfInBounds_toArray, List.set_cons_zero, List.set_cons_succ])
    refine hd_take (v := ?_) 27 rfl (by kernel_rfl) (by kernel_rfl) (by kernel_rfl) (fun _ _ _ h => h) hHeld (Or.inl ⟨by rfl, ?_⟩) ?_
    rotate_left
    · (intro W hSw; go_simp) <;> with_reducible rfl
    (try simp only [Act.put, List.setIfInBounds_toArray, List.set_cons_zero, List.set_cons_succ])
    refine hd_take (v := ?_) 28 rfl (by kernel_rfl) (by kernel_rfl) (by kernel_rfl) (fun _ _ _ h => h) hHeld (Or.inl ⟨by rfl, ?_⟩) ?_
    rotate_left
    · (intro W hSw; have cT := KT2.out W hSw; go_simp) <;> with_reducible rfl
    (try simp only [Act.put, List.setIfInBounds_toArray, List.set_cons_zero, List.set_cons_succ])
    refine hd_take (v := ?_) 29 rfl (by kernel_rfl) (by kernel_rfl) (by kernel_rfl) (fun _ _ _ h => h) hHeld (Or.inl ⟨by rfl, ?_⟩) ?_
    rotate_left
    · (intro W hSw; go_simp) <;> with_reducible rfl
    (try simp only [Act.put, List.setIfInBounds_toArray, List.set_cons_zero, List.set_cons_succ])
    refine hd_take (v := ?_) 30 rfl (by kernel_rfl) (by kernel_rfl) (by kernel_rfl) (fun _ _ _ h => h) hHeld (Or.inl ⟨by rfl, ?_⟩) ?_
    rotate_left
    · (intro W hSw; go_simp) <;> with_reducible rfl
    (try simp only [Act.put, List.setIfInBounds_toArray, List.set_cons_zero, List.set_cons_succ])
    refine hd_take (v := ?_) 31 rfl (by kernel_rfl) (by kernel_rfl) (by kernel_rfl) (fun _ _ _ h => h) hHeld (Or.inl ⟨by rfl, ?_⟩) ?_
    rotate_left
    · (intro W hSw; go_simp) <;> with_reducible rfl
    (try simp only [Act.put, List.setIfInBounds_toArray, List.set_cons_zero, List.set_cons_succ])
    refine wpAnyH_done (by kernel_rfl) ?_ _
    have B11 := HBw.out _ hHeld
    clear hHeld
    go_wp2
    go_ret
    exact ⟨rfl, B11⟩
theorem own : ownKnob Tryd.prog.godebug = none := by kernel_rfl
theorem laid : laidOutB Tryd.prog = true := by kernel_rfl

noncomputable def laidWorld (os : Os) : World := World.doorLaid Tryd.prog 400 os
theorem laid_met (os : Os) : laidMet Tryd.prog Rows.digestPartsRow.laid ((laidWorld os).forCall (fun _ _ => 0) ⟨#[], #[.slice none 0 0, .int .i64 0, .int .i64 0], []⟩).memory :=
  laidMet_of_run' 8 (by kernel_rfl) (by kernel_rfl)
theorem reads (os : Os) {H : Type} (enc : TypeId × Value → H) : ∃ places, DataW.whole enc Tryd.prog ((laidWorld os).forCall (fun _ _ => 0) ⟨#[], #[.slice none 0 0, .int .i64 0, .int .i64 0], []⟩).memory Tryd.f4.params.toList Rows.digestPartsSpec.vars false #[Value.slice none 0 0, Value.int .i64 0, .int .i64 0].toList 8 = some ([.nil, .lit (.int .i64 0), .lit (.int .i64 0)], [], places) :=
  ⟨[], by kernel_rfl⟩

set_option maxRecDepth 100000 in
theorem lifted (os : Os) (started : os.Started) (H : Type) (enc : TypeId × Value → H) (F : Stop.Interp) :
    ReturnsInHanded {} Tryd.checked os 4 .any ((OpenSpec.ofChange Rows.digestPartsSpec).preRow enc Tryd.prog Tryd.f4 Rows.digestPartsRow.domain false Rows.digestPartsRow.laid) (((OpenSpec.ofChange Rows.digestPartsSpec).at F).post enc Tryd.prog Tryd.f4 false true false false) := by
  obtain ⟨places, hx⟩ := reads os enc
  refine law_lifted_laid (C := Tryd.checked) (s := Rows.digestPartsSpec) (B := 4) own started (by kernel_rfl) Tryd.func4
    (witness_row_at (enc := enc) (C := Tryd.checked) false (laidWorld os) #[.slice none 0 0, .int .i64 0, .int .i64 0] rfl (by kernel_rfl) (by kernel_rfl) (by kernel_rfl)
      (OpenSpec.preRow_of_cond 8 hx (by kernel_rfl) (fun k hk => by cases hk) (by kernel_rfl) (laid_met os)))
    rfl rfl Tryd.underlying4 laid (of_decide_eq_true (by kernel_rfl)) ?_ ?_
  · intro ds hl
    rw [Tryd.params4] at hl
    match ds, hl with
    | [d0, d1, d2], _ => rfl
  · intro W base args ds ps hval hA hlt hz hL
    rw [Tryd.params4] at hA hval
    obtain ⟨v0, vs0, d0, ds0, p0, q0, hargs, rfl, rfl, h0, r0⟩ := trodAll_cons hA
    obtain ⟨v1, vs1, d1, ds1, p1, q1, rfl, rfl, rfl, h1, r1⟩ := trodAll_cons r0
    obtain ⟨v2, vs2, d2, ds2, p2, q2, rfl, rfl, rfl, h2, r2⟩ := trodAll_cons r1
    obtain ⟨rfl, rfl, rfl⟩ := trodAll_nil r2
    obtain rfl : args = #[v0, v1, v2] := by cases args; simp_all
    obtain ⟨A0, n0, cap0, zs0, rfl, hl0, hm0, hn0, hN0, hw0⟩ := open_nums Tryd.underlying22 Tryd.underlying5 (by kernel_rfl) (hval 0 22 v0 rfl rfl) h0
    obtain ⟨a1, rfl, rfl, rfl, w1⟩ := open_int Tryd.underlying3 (hval 1 3 v1 rfl rfl) h1
    obtain ⟨a2, rfl, rfl, rfl, w2⟩ := open_int Tryd.underlying3 (hval 2 3 v2 rfl rfl) h2
    exact walk W hL A0 n0 cap0 zs0 hl0 hm0 hn0 hN0 hw0 a1 w1 a2 w2

theorem said : Rows.DigestPartsSaid :=
  OpenClaim.holds_of_cond 4 Tryd.f4 rfl rfl rfl rfl rfl rfl rfl ⟨rfl, rfl, rfl, rfl, rfl⟩ rfl rfl rfl rfl rfl (by kernel_rfl) Tryd.func4 (by kernel_rfl)
    (of_decide_eq_true (by kernel_rfl)) (by unfold Func.isWrapper; first | (rw [if_pos (by decide +kernel)]; kernel_rfl) | (rw [if_neg (by decide +kernel)]; exact ⟨rfl, rfl⟩))
    (fun os started H enc _ F => by rw [OpenClaim.pre_eq_preRow]; exact lifted os started H enc F)
theorem plain (f : FuncId) (fn : Func) (hf : Tryd.pinned.checked.prog.funcNamed "nightjar/nightjarlaw02.DigestParts" = some f) (hfn : Tryd.pinned.checked.prog.funcs[f]? = some fn) :
    false = Tryd.pinned.checked.prog.looks [] ∧ ∀ (j : Nat) t, fn.params[j]? = some t → Tryd.pinned.checked.prog.wantsStandIn t = false := by
  obtain rfl : f = 4 := Option.some.inj ((show Tryd.prog.funcNamed "nightjar/nightjarlaw02.DigestParts" = some 4 by kernel_rfl).symm.trans hf) |>.symm
  obtain rfl : fn = Tryd.f4 := (Option.some.inj (Tryd.func4.symm.trans hfn)).symm
  refine ⟨by kernel_rfl, fun j t ht => ?_⟩
  have hm : t ∈ Tryd.f4.params.toList := by simpa using Array.mem_of_getElem? ht
  have hall : (Tryd.f4.params.toList.all fun u => !Tryd.prog.wantsStandIn u) = true := by kernel_rfl
  exact (show Tryd.prog.wantsStandIn t = false by simpa using List.all_eq_true.1 hall t hm)

theorem proved : Rows.DigestPartsCardSaid :=
  Claim7.holds_tied_plain_at .later [] _ _ _ _ said (fun _ h => by cases h) (by kernel_rfl) (fun _ h => by cases h) digestParts_row_tie rfl ⟨rfl, rfl⟩ (by kernel_rfl) rfl plain (by kernel_rfl)
#print axioms proved
end Go.Proofs.YtlimcaajpoeoaaaDoor.digestParts
