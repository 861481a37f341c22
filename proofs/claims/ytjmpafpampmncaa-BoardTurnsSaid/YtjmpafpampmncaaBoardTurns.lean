/- BoardTurns holds for any board, any user, any statuses: the order of statuses does not matter to what is put, nor that there are some that count for nothing. No condition. -/
import Derived.Test.YtjmpafpampmncaaBoard4
import Derived.Test.YtjmpafpampmncaaMem3
namespace Go.Proofs.Ytjmpafpampmncaa.boardTurns
open Go.ChangeShapes Go.WideShapes Go.ChangeAt Go.RowKit

theorem step_nil (p : Int × Int) : Bd.step (Bd.step (Bd.step p 0) (-1)) 4 = p := by
  simp [Bd.step]
theorem step_comm (p : Int × Int) (a b : Int) : Bd.step (Bd.step p a) b = Bd.step (Bd.step p b) a := by
  obtain ⟨x, y⟩ := p
  simp only [Bd.step]
  by_cases ha : 1 ≤ a ∧ a ≤ 3
  · by_cases hb : 1 ≤ b ∧ b ≤ 3
    · rw [if_pos ha, if_pos hb, if_pos hb, if_pos ha]
      show (max (max x a) b, min (min (y + 1) 4 + 1) 4) = (max (max x b) a, min (min (y + 1) 4 + 1) 4)
      congr 1
      omega
    · rw [if_pos ha, if_neg hb, if_neg hb, if_pos ha]
  · rw [if_neg ha]
    by_cases hb : 1 ≤ b ∧ b ≤ 3
    · rw [if_pos hb, if_neg ha]
    · rw [if_neg hb, if_neg ha]
def back : List Int → List Int
  | [] => []
  | x :: r => back r ++ [x, 0, -1, 4]
theorem fold_step_out : ∀ (l : List Int) (p : Int × Int) (a : Int), l.foldl Bd.step (Bd.step p a) = Bd.step (l.foldl Bd.step p) a
  | [], _, _ => rfl
  | x :: r, p, a => by rw [List.foldl_cons, List.foldl_cons, step_comm, fold_step_out r]
theorem fold_back (l : List Int) : Bd.fold (back l) = Bd.fold l := by
  unfold Bd.fold
  have : ∀ (l : List Int) (p : Int × Int), (back l).foldl Bd.step p = l.foldl Bd.step p := by
    intro l
    induction l with
    | nil => intro p; rfl
    | cons x r ih =>
      intro p
      rw [back, List.foldl_append, ih]
      show Bd.step (Bd.step (Bd.step (Bd.step (r.foldl Bd.step p) x) 0) (-1)) 4 = r.foldl Bd.step (Bd.step p x)
      rw [step_nil, fold_step_out]
  exact this l _
theorem back_len (l : List Int) : (back l).length = l.length * 4 := by
  induction l with
  | nil => rfl
  | cons x r ih => rw [back, List.length_append, ih]; simp; omega
theorem ok_back (E : Bd) (u : Int) (l : List Int) : Bd.ok E u (back l) = Bd.ok E u l := by
  have : Bd.same E u.toNat (back l) = Bd.same E u.toNat l := by unfold Bd.same; rw [fold_back]
  unfold Bd.ok
  rw [decide_eq_decide, this]

theorem put_back (E : Bd) (u : Int) (l : List Int) : Bd.put E u (back l) = Bd.put E u l := by
  unfold Bd.put
  rw [ok_back, fold_back]
set_option maxRecDepth 10000 in
set_option maxHeartbeats 4000000 in
theorem walk (w : World) (E : Bd) (hE : ∀ i, -9223372036854775808 ≤ (E i).1) (u : Int) (w1 : (Lit.int .i64 u).wf = true)
    (A : Option Addr) (n cap : Nat) (l : List Int) (hl : n ≤ cap) (hm : cap ≤ maxLen) (hn : l.length = n) (hN : Nums .i64 w A l) (hw : ∀ z ∈ l, (Lit.int .i64 z).wf = true) :
    Calls Try.prog 7 #[.agg (Bd.cs E), .int .i64 u, .slice A n cap] w fun e w' => e = .returned (.bool true) ∧ Below w.heap.size w w' := by
  unfold maxLen at hm
  have hnb : n ≤ 9223372036854775807 := by omega
  have z0 := zero_board
  have hst := store_new
  have hsz := Bd.cs_size
  have Hn := Lib.hid hn
  have HN := Lib.hid hN
  have HE := Lib.hid hE
  obtain ⟨W0, hW0⟩ : ∃ V, w.alloc (.cells (Bd.cs E) boT) = V := ⟨_, rfl⟩
  have R0 : W0.heap[w.heap.size]? = some (.cells (Bd.cs E) boT) := by rw [← hW0]; exact (MapKept.heap_alloc w _).1
  have g0 := row_lt R0
  have BW : Below w.heap.size w W0 := by rw [← hW0]; exact (Below.refl _ _).alloc (Nat.le_refl _) _
  obtain ⟨E', hE'⟩ : ∃ E', Bd.put E u l = E' := ⟨_, rfl⟩
  obtain ⟨r, hr⟩ : ∃ r, Bd.ok E u l = r := ⟨_, rfl⟩
  have P1 := Lib.hid hE'
  have P2 := Lib.hid (show Bd.put E u (back l) = E' by rw [put_back]; exact hE')
  have O1 := Lib.hid hr
  have O2 := Lib.hid (show Bd.ok E u (back l) = r by rw [ok_back]; exact hr)
  have heq := fun W => eql_refl W E'
  obtain ⟨i0, hi, hz0, hz1, hz2⟩ := info_parts (show (Try.prog.info? 3).map (fun i => (i.zero, i.size, i.bytes)) = some (some (.int .i64 0), 1, 8) by kernel_rfl)
  have HI := Lib.hid (And.intro hi (And.intro hz0 (And.intro hz1 hz2)))
  clear hi hz0 hz1 hz2 hE' hr hE hn hN hw w1 hl hm
  by_cases h5 : 200 < n
  · have h5' : (200 : Int) < n := by omega
    go_enter Try.func7, Try.ntmps7
    go_wp2_with fail
    refine (small_any _).mono ?_
    rintro e w1 ⟨rfl, B1⟩
    go_wp2_with fail
    go_ret
    exact ⟨rfl, BW.trans (B1.mono BW.size)⟩
  · have h5' : (n : Int) ≤ 200 := by omega
    have e0 : IntKind.i64.wrap ((n : Int) - 1) = (n : Int) - 1 := IntWalk.i64_in _ (by omega)
    have HB := Lib.hid (fun (X : World) (h : Below W0.heap.size W0 X) => show Below w.heap.size w X from BW.trans (h.mono BW.size))
    have HR := Lib.hid (fun (X : World) (h : Below W0.heap.size W0 X) => show X.heap[w.heap.size]? = some (.cells (Bd.cs E) boT) from row_kept R0 h g0)
    clear R0 BW
    go_enter Try.func7, Try.ntmps7
    go_wp2_with fail
    refine (small_any _).mono ?_
    rintro e w1 ⟨rfl, B1⟩
    go_wp2_with fail
    go_loopw [8, 9] (fun v i wr => ∃ (k : Nat) (A' : Option Addr) (c' : Nat), k ≤ n ∧ i = .int .i64 ((k : Int) - 1) ∧ v = .slice A' ((n - k) * 4) c' ∧ OwnN .i64 3 W0.heap.size wr A' c' (back (l.drop k)) ∧ Below W0.heap.size W0 wr) (fun _ i _ => (intOf i + 1).toNat)
    case atStart =>
      refine ⟨n, none, 0, Nat.le_refl _, rfl, by rw [Nat.sub_self], ?_, B1⟩
      rw [List.drop_of_length_le (by rw [Hn.out]; exact Nat.le_refl _)]
      exact OwnN.nil B1.size
    case round =>
      obtain ⟨k, A', c', hk, rfl, rfl, hO, hB⟩ := hrel
      clear B1
      by_cases hk0 : 0 < k
      · obtain ⟨j, rfl⟩ : ∃ j, k = j + 1 := ⟨k - 1, by omega⟩
        rcases HN.out with h0 | ⟨b, off, rfl, hb, hc⟩
        · have := Hn.out; rw [h0] at this; simp at this; omega
        have hjl : j < l.length := by rw [Hn.out]; omega
        have hcell : wr.cell? ⟨b, off + j, none⟩ = some (.int .i64 (l.getD j 0)) := ((HB.out _ hB).cell (p := ⟨b, off + j, none⟩) hb).trans (hc j hjl)
        have hdr : back (l.drop j) = back (l.drop (j + 1)) ++ [l.getD j 0, 0, -1, 4] := by
          rw [List.drop_eq_getElem_cons hjl, back]
          simp [List.getD, hjl]
        have Hdr := Lib.hid hdr
        have hbl : (back (l.drop (j + 1))).length = (n - (j + 1)) * 4 := by rw [back_len, List.length_drop, Hn.out]
        have Hbl := Lib.hid hbl
        have HO := Lib.hid hO
        generalize l.getD j 0 = z at hcell Hdr
        have ej : ((j + 1 : Nat) : Int) - 1 = (j : Int) := by omega
        rw [ej]
        have q1 : (j : Int) < (n : Int) := by omega
        have q0 : (0 : Int) ≤ (j : Int) := by omega
        have e1 : IntKind.i64.wrap ((j : Int) - 1) = (j : Int) - 1 := IntWalk.i64_in _ (by omega)
        have Hlen := Lib.hid (show (n - (j + 1)) * 4 + 4 = (n - j) * 4 by omega)
        clear hdr hc hbl hO ej e0 hst
        go_wp2_with (first
          | (at_builtin; refine wpList_append_nums rfl _ _ 26 rfl i0 8 Try.underlying26 HI.out.1 HI.out.2.1 HI.out.2.2.1 HI.out.2.2.2 (by decide) _ Hbl.out rfl (OwnN.alloc HO.out _) wr.heap.size 4 _ [z, 0, -1, 4] rfl rfl (Nums.new _ _ _ _ _ rfl rfl) (by rw [Hbl.out]; omega) W0.heap.size W0 (Nat.le_refl _) (hB.alloc hB.size _) ?_; intro A2 c2 w2 hO2 hb2)
          )
        go_roundw
        case rel => exact ⟨j, A2, c2, by omega, by go_num, by rw [Hlen.out], by rw [Hdr.out]; exact hO2, hb2⟩
        case measure => simp [intOf] <;> omega
      · obtain rfl : k = 0 := by omega
        have hN2 : Nums .i64 wr A' (back l) := hO.nums
        have HN2 := Lib.hid hN2
        have Hbl := Lib.hid (show (back l).length = (n - 0) * 4 by rw [back_len, Hn.out, Nat.sub_zero])
        have R1 := HR.out _ hB
        clear hO hN2 e0
        go_wp2_with ((with_reducible refine wpl_loadw ?_ (.tmp 3) ?_ w.heap.size E ?_ R1 ?_); (rfl); (rfl); (rfl))
        refine (put_to P1.out O1.out Hn.out (HN.out.below (HB.out _ hB)) hnb HE.out).mono ?_
        rintro e w2 ⟨rfl, hb⟩
        have hb := hb.trans (((Below.refl w2.heap.size w2).alloc (Nat.le_refl _) (.cells (Bd.cs E') boT)).mono hb.size)
        have R2 := row_kept R1 hb (row_lt R1)
        have B2 := hB.trans (hb.mono hB.size)
        have N2 := Lib.hid (HN2.out.below hb)
        have S2 : (w2.alloc (.cells (Bd.cs E') boT)).heap[w2.heap.size]? = some (.cells (Bd.cs E') boT) := (MapKept.heap_alloc w2 _).1
        clear hb R1 hB
        go_wp2_with ((with_reducible refine wpl_loadw ?_ (.tmp 3) ?_ w.heap.size E ?_ R2 ?_); (rfl); (rfl); (rfl))
        refine (put_to P2.out O2.out Hbl.out N2.out (by omega) HE.out).mono ?_
        rintro e w3 ⟨rfl, hb⟩
        have hb := hb.trans (((Below.refl w3.heap.size w3).alloc (Nat.le_refl _) (.cells (Bd.cs E') boT)).mono hb.size)
        have B3 := B2.trans (hb.mono B2.size)
        have S3 := row_kept S2 hb (row_lt S2)
        have T3 : (w3.alloc (.cells (Bd.cs E') boT)).heap[w3.heap.size]? = some (.cells (Bd.cs E') boT) := (MapKept.heap_alloc w3 _).1
        clear hb R2 B2 N2 S2
        go_wp2_with (first
          | ((with_reducible refine wpl_loadw ?_ (.tmp 10) ?_ w2.heap.size E' ?_ S3 ?_); (rfl); (rfl); (rfl))
          | ((with_reducible refine wpl_loadw ?_ (.tmp 12) ?_ w3.heap.size E' ?_ T3 ?_); (rfl); (rfl); (rfl))
          )
        go_ret
        exact ⟨ret_bool (by simp), HB.out _ B3⟩
theorem own : ownKnob Try.prog.godebug = none := by kernel_rfl
theorem laid : laidOutB Try.prog = true := by kernel_rfl

set_option maxRecDepth 100000 in
theorem lifted (os : Os) (started : os.Started) (H : Type) (enc : TypeId × Value → H) :
    ReturnsInHanded {} Try.checked os 7 .any (Rows.boardTurnsSpec.pre6 enc Try.prog Try.f7 Rows.boardTurnsRow.domain false) (Rows.boardTurnsSpec.post enc Try.prog Try.f7 false true false false) := by
  refine law_lifted (C := Try.checked) (B := 4) own started (by kernel_rfl) Try.func7
    (ChangeSpec.witness6 (enc := enc) (C := Try.checked) false ⟨#[], #[.agg (Bd.cs zeros), .int .i64 0, .slice none 0 0], []⟩ 8 (by kernel_rfl) (by kernel_rfl) (by kernel_rfl) (by kernel_rfl))
    rfl rfl Try.underlying4 laid (of_decide_eq_true (by kernel_rfl)) ?_ ?_
  · intro ds hl
    rw [Try.params7] at hl
    match ds, hl with
    | [d0, d1, d2], _ => rfl
  · intro W base args ds ps hval hA hlt hz
    rw [Try.params7] at hA hval
    obtain ⟨v0, vs0, d0, ds0, p0, q0, hargs, rfl, rfl, h0, r0⟩ := trodAll_cons hA
    obtain ⟨v1, vs1, d1, ds1, p1, q1, rfl, rfl, rfl, h1, r1⟩ := trodAll_cons r0
    obtain ⟨v2, vs2, d2, ds2, p2, q2, rfl, rfl, rfl, h2, r2⟩ := trodAll_cons r1
    obtain ⟨rfl, rfl, rfl⟩ := trodAll_nil r2
    obtain rfl : args = #[v0, v1, v2] := by cases args; simp_all
    obtain ⟨E0, rfl, hE0⟩ := open_board (hval 0 25 v0 rfl rfl) h0
    obtain ⟨a1, rfl, rfl, rfl, w1⟩ := open_int Try.underlying3 (hval 1 3 v1 rfl rfl) h1
    obtain ⟨A2, n2, cap2, zs2, rfl, hl2, hm2, hn2, hN2, hw2⟩ := open_nums Try.underlying26 Try.underlying3 (by kernel_rfl) (hval 2 26 v2 rfl rfl) h2
    exact walk W E0 hE0 a1 w1 A2 n2 cap2 zs2 hl2 hm2 hn2 hN2 hw2

theorem over : Rows.boardTurnsRow.holds Try.pinned (OpenSpec.ofChange Rows.boardTurnsSpec) :=
  OpenClaim.holds_of_wide 7 Try.f7 rfl rfl rfl rfl rfl rfl rfl ⟨rfl, rfl, rfl, rfl, rfl⟩ rfl rfl rfl rfl rfl (by kernel_rfl) Try.func7 (by kernel_rfl)
    (of_decide_eq_true (by kernel_rfl)) (by unfold Func.isWrapper; first | (rw [if_pos (by decide +kernel)]; kernel_rfl) | (rw [if_neg (by decide +kernel)]; exact ⟨rfl, rfl⟩))
    (fun os started H enc _ => lifted os started H enc)

theorem proved : Rows.BoardTurnsSaid := over
#print axioms proved
end Go.Proofs.Ytjmpafpampmncaa.boardTurns
