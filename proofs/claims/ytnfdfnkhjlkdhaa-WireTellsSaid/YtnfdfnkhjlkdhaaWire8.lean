/- What the parts of a packet come to: how one is read. -/
import Derived.Test.YtnfdfnkhjlkdhaaWire7
import Derived.Test.YtnfdfnkhjlkdhaaRead
namespace Go.Proofs.Ytnfdfnkhjlkdhaa
open Go.ChangeShapes Go.WideShapes Go.ChangeAt Go.RowKit
/-- All but these two blocks. -/
def But2 (g q : Nat) (w w' : World) : Prop := (∀ b, b < w.heap.size → b ≠ g → b ≠ q → w'.heap[b]? = w.heap[b]?) ∧ w.heap.size ≤ w'.heap.size ∧ (∀ B w0, B ≤ g → B ≤ q → Below B w0 w → Below B w0 w')
def Pt5.am (x : Pt5) : Nat := if x.j ≤ 11 then x.sz.toNat else if x.j = 12 then 16 else 8
/-- What a packet comes to when this part is read. -/
def Pt5.rd (x : Pt5) (rest : List Int) (f : Bool) (q : Pk) : Pk :=
  if x.j ≤ 11 then { q with h := q.h.set x.j (be (ntake rest f (x.am : Int))) } else if nbad rest f (x.am : Int) = true then q else if x.j = 12 then { q with s := rest.take 16 } else { q with t := rest.take 8 }
theorem setRow_same8 {w : World} {g : Nat} {t : TypeId} {cs : Array Value} (h : w.heap[g]? = some (.cells cs t)) : setRow w g t cs = w := by
  refine world_eq (fun k => ?_) rfl rfl rfl rfl
  by_cases hk : k = g
  · subst hk; rw [setRow_row (row_lt h), h]
  · exact setRow_far hk
/-- A copy into the midst of a block that is known whole: the block is written, nothing else. -/
theorem wpList_copy_atG {P : Program} {w : World} {ops : Array Oper} {rest : List Oper} {o : Oper} {a : Act} {Q : Exit → Act → World → Prop} (hgd : o.guard = none) (d s : Operand) (dT sT : TypeId)
    (ho : o.op = .call { callee := .builtin .copy, args := #[d, s], argTypes := #[dT, sT] }) (elem : TypeId) (hu : P.underlying dT = some (.slice elem)) (hsz : (P.info? elem).map (·.size) = some 1)
    (dp sp : Option Addr) (dLen dCap sLen sCap : Nat) (hd : a.eval d = .slice dp dLen dCap) (hs : a.eval s = .slice sp sLen sCap)
    (g off : Nat) (cur : List Value) (t : TypeId) (hg : w.heap[g]? = some (.cells cur.toArray t)) (bs : List Int) (hn : bs.length = Nat.min sLen dLen)
    (hdp : dp = some ⟨g, off, none⟩) (hN : Nums .u8 w sp bs) (hfit : off + bs.length ≤ cur.length)
    (h : wpList P ops Q rest (a.put o.dst (goInt bs.length)) (setRow w g t (splice cur off (nrow .u8 bs)).toArray)) :
    wpList P ops Q (o :: rest) a w := by
  subst hdp
  have e : (nrow .u8 bs).length = bs.length := nrow_len _ _
  by_cases h0 : bs.length = 0
  · obtain rfl : bs = [] := List.eq_nil_of_length_eq_zero h0
    refine wpList_copy_nothing hgd d s dT sT ho elem hu hsz _ sp dLen dCap sLen sCap hd hs (by simpa using hn.symm) ?_
    have e2 : splice cur off (nrow .u8 []) = cur := by simp [splice, nrow]
    rw [e2] at h
    have e3 : setRow w g t cur.toArray = w := setRow_same8 hg
    rw [e3] at h
    exact h
  · rcases hN with h1 | ⟨b, o2, rfl, hb, hc⟩
    · rw [h1] at h0; exact absurd rfl h0
    · refine wpList_copy_own hgd d s dT sT ho elem hu hsz g off dLen dCap ⟨b, o2, none⟩ sLen sCap hd hs cur.toArray t hg (nrow .u8 bs) (by rw [e]; exact hn) (fun i v hv => ?_) (by rw [e]; simpa using hfit) (nrow_one _ _) ?_
      · have hi : i < bs.length := by
          have := (List.getElem?_eq_some_iff.1 hv).1
          rwa [e] at this
        rw [add_plain, hc i hi]
        have := ncs_at .u8 bs i hi
        unfold ncs at this
        rw [List.getElem?_toArray] at this
        rw [← this]; exact hv
      · rw [e, setRow_eq hg]
        simpa [splice, nrow_len] using h
set_option maxHeartbeats 1000000 in
theorem read_session (sz lo hi : Int) (k : Nat) (hk : min (max sz 1) 7 = (k : Int)) (w : World) (K g gq : Nat) (hne : g < gq) (hK : K ≤ gq) (rest : List Int) (f : Bool) (H : Half rdT K w g rest f) (hb : ∀ x ∈ rest, 0 ≤ x ∧ x ≤ 255) (hlen : rest.length ≤ 1000000) (cq : Array Value) (y : Int) (Rq : w.heap[gq]? = some (.cells cq pkT)) (Cq : cq[1]? = some (.int .i64 y)) :
    Calls Try.prog 27 #[.agg #[.func (.func 60) #[] #[], .nilFunc, .int .i64 sz, .int .i64 lo, .int .i64 hi], .pointer (some ⟨g, 0, none⟩), .pointer (some ⟨gq, 0, none⟩)] w fun e w' => e = .returned (.tuple #[]) ∧ w'.heap[gq]? = some (.cells (cq.setIfInBounds 1 (.int .i64 (be (ntake rest f (k : Int))))) pkT) ∧ Half rdT K w' g (ndrop rest f (k : Int)) (nbad rest f (k : Int)) ∧ But2 g gq w w' := by
  have Z := nil_row
  have HH := Lib.hid H
  have Hb := Lib.hid hb
  have HKk := Lib.hid hk
  have hl := row_lt Rq
  clear H hb hk
  go_enter Try.func27, Try.ntmps27
  go_wp2_with fail
  have R := row_new (W := w) (cs := #[.func (.func 60) #[] #[], .nilFunc, .int .i64 sz, .int .i64 lo, .int .i64 hi]) (t := ptT) (m := (0, 0))
  have B : Below w.heap.size w (w.alloc (.cells #[.func (.func 60) #[] #[], .nilFunc, .int .i64 sz, .int .i64 lo, .int .i64 hi] ptT)) := (Below.refl _ _).alloc (Nat.le_refl _) _
  have Rq := row_kept Rq B hl
  have HV := Lib.hid (HH.out.below HH.out.lt (by omega) B)
  generalize w.alloc (.cells #[.func (.func 60) #[] #[], .nilFunc, .int .i64 sz, .int .i64 lo, .int .i64 hi] ptT) = V at R B Rq HV ⊢
  have KR := row_cells R
  refine region_tail 7 (by kernel_rfl) (by kernel_rfl) ?_
  simp only [List.take_succ_cons, List.take_zero, List.drop_succ_cons, List.drop_zero]
  repeat (quiet_step ((go_at_call 60; exact Calls.quiet_of_same ((at_session _ gq).mono fun _ _ h => ⟨h.1, h.2.symm⟩))))
  refine wpQuiet_nil ?_
  intro m
  have HD := Lib.hid (show Half rdT K (V.drewN m) g rest f from HV.out)
  have RD : (V.drewN m).heap[gq]? = some (.cells cq pkT) := Rq
  have BD := below_drewN B m
  go_wp2_with (first
    | (go_at_call 26; refine (fld04.numH HD.out Hb.out hlen sz).mono ?_; rintro e w1 ⟨rfl, H1, hbut, hbel⟩; rw [HKk.out] at H1 ⊢; have R1 := (hbut.1 gq (row_lt RD) (by omega)).trans RD; obtain ⟨s0, s1, c0, c1, f0, f1, z1⟩ := rows1 R1))
  go_end0
  obtain ⟨A, c, h1, hN, hc, hc', hA⟩ := H1
  have hA' : ∀ a, A = some a → a.block ≠ gq := fun a ha => by have := (hA a ha).1; omega
  refine ⟨rfl, row_written R1, ⟨A, c, (setRow_far (by omega)).trans h1, But.set.nums hN hA', hc, hc', hA⟩, fun b hb1 hb2 hb3 => ?_, ?_, fun B w0 hB hB' hw => ?_⟩
  · exact (setRow_far hb3).trans ((hbut.1 b (Nat.lt_of_lt_of_le hb1 BD.size) hb2).trans (BD.block b hb1))
  · exact Nat.le_trans (Nat.le_trans BD.size hbut.2) (by rw [setRow_size]; exact Nat.le_refl _)
  · exact setRow_below (hbel B w0 hB (hw.trans (BD.mono (Nat.le_of_lt (by omega))))) hB'
set_option maxHeartbeats 1000000 in
theorem read_seq (sz lo hi : Int) (k : Nat) (hk : min (max sz 1) 7 = (k : Int)) (w : World) (K g gq : Nat) (hne : g < gq) (hK : K ≤ gq) (rest : List Int) (f : Bool) (H : Half rdT K w g rest f) (hb : ∀ x ∈ rest, 0 ≤ x ∧ x ≤ 255) (hlen : rest.length ≤ 1000000) (cq : Array Value) (y : Int) (Rq : w.heap[gq]? = some (.cells cq pkT)) (Cq : cq[2]? = some (.int .i64 y)) :
    Calls Try.prog 27 #[.agg #[.func (.func 61) #[] #[], .nilFunc, .int .i64 sz, .int .i64 lo, .int .i64 hi], .pointer (some ⟨g, 0, none⟩), .pointer (some ⟨gq, 0, none⟩)] w fun e w' => e = .returned (.tuple #[]) ∧ w'.heap[gq]? = some (.cells (cq.setIfInBounds 2 (.int .i64 (be (ntake rest f (k : Int))))) pkT) ∧ Half rdT K w' g (ndrop rest f (k : Int)) (nbad rest f (k : Int)) ∧ But2 g gq w w' := by
  have Z := nil_row
  have HH := Lib.hid H
  have Hb := Lib.hid hb
  have HKk := Lib.hid hk
  have hl := row_lt Rq
  clear H hb hk
  go_enter Try.func27, Try.ntmps27
  go_wp2_with fail
  have R := row_new (W := w) (cs := #[.func (.func 61) #[] #[], .nilFunc, .int .i64 sz, .int .i64 lo, .int .i64 hi]) (t := ptT) (m := (0, 0))
  have B : Below w.heap.size w (w.alloc (.cells #[.func (.func 61) #[] #[], .nilFunc, .int .i64 sz, .int .i64 lo, .int .i64 hi] ptT)) := (Below.refl _ _).alloc (Nat.le_refl _) _
  have Rq := row_kept Rq B hl
  have HV := Lib.hid (HH.out.below HH.out.lt (by omega) B)
  generalize w.alloc (.cells #[.func (.func 61) #[] #[], .nilFunc, .int .i64 sz, .int .i64 lo, .int .i64 hi] ptT) = V at R B Rq HV ⊢
  have KR := row_cells R
  refine region_tail 7 (by kernel_rfl) (by kernel_rfl) ?_
  simp only [List.take_succ_cons, List.take_zero, List.drop_succ_cons, List.drop_zero]
  repeat (quiet_step ((go_at_call 61; exact Calls.quiet_of_same ((at_seq _ gq).mono fun _ _ h => ⟨h.1, h.2.symm⟩))))
  refine wpQuiet_nil ?_
  intro m
  have HD := Lib.hid (show Half rdT K (V.drewN m) g rest f from HV.out)
  have RD : (V.drewN m).heap[gq]? = some (.cells cq pkT) := Rq
  have BD := below_drewN B m
  go_wp2_with (first
    | (go_at_call 26; refine (fld04.numH HD.out Hb.out hlen sz).mono ?_; rintro e w1 ⟨rfl, H1, hbut, hbel⟩; rw [HKk.out] at H1 ⊢; have R1 := (hbut.1 gq (row_lt RD) (by omega)).trans RD; obtain ⟨s0, s1, c0, c1, f0, f1, z1⟩ := rows1 R1))
  go_end0
  obtain ⟨A, c, h1, hN, hc, hc', hA⟩ := H1
  have hA' : ∀ a, A = some a → a.block ≠ gq := fun a ha => by have := (hA a ha).1; omega
  refine ⟨rfl, row_written R1, ⟨A, c, (setRow_far (by omega)).trans h1, But.set.nums hN hA', hc, hc', hA⟩, fun b hb1 hb2 hb3 => ?_, ?_, fun B w0 hB hB' hw => ?_⟩
  · exact (setRow_far hb3).trans ((hbut.1 b (Nat.lt_of_lt_of_le hb1 BD.size) hb2).trans (BD.block b hb1))
  · exact Nat.le_trans (Nat.le_trans BD.size hbut.2) (by rw [setRow_size]; exact Nat.le_refl _)
  · exact setRow_below (hbel B w0 hB (hw.trans (BD.mono (Nat.le_of_lt (by omega))))) hB'
set_option maxHeartbeats 1000000 in
theorem read_user (sz lo hi : Int) (k : Nat) (hk : min (max sz 1) 7 = (k : Int)) (w : World) (K g gq : Nat) (hne : g < gq) (hK : K ≤ gq) (rest : List Int) (f : Bool) (H : Half rdT K w g rest f) (hb : ∀ x ∈ rest, 0 ≤ x ∧ x ≤ 255) (hlen : rest.length ≤ 1000000) (cq : Array Value) (y : Int) (Rq : w.heap[gq]? = some (.cells cq pkT)) (Cq : cq[3]? = some (.int .i64 y)) :
    Calls Try.prog 27 #[.agg #[.func (.func 59) #[] #[], .nilFunc, .int .i64 sz, .int .i64 lo, .int .i64 hi], .pointer (some ⟨g, 0, none⟩), .pointer (some ⟨gq, 0, none⟩)] w fun e w' => e = .returned (.tuple #[]) ∧ w'.heap[gq]? = some (.cells (cq.setIfInBounds 3 (.int .i64 (be (ntake rest f (k : Int))))) pkT) ∧ Half rdT K w' g (ndrop rest f (k : Int)) (nbad rest f (k : Int)) ∧ But2 g gq w w' := by
  have Z := nil_row
  have HH := Lib.hid H
  have Hb := Lib.hid hb
  have HKk := Lib.hid hk
  have hl := row_lt Rq
  clear H hb hk
  go_enter Try.func27, Try.ntmps27
  go_wp2_with fail
  have R := row_new (W := w) (cs := #[.func (.func 59) #[] #[], .nilFunc, .int .i64 sz, .int .i64 lo, .int .i64 hi]) (t := ptT) (m := (0, 0))
  have B : Below w.heap.size w (w.alloc (.cells #[.func (.func 59) #[] #[], .nilFunc, .int .i64 sz, .int .i64 lo, .int .i64 hi] ptT)) := (Below.refl _ _).alloc (Nat.le_refl _) _
  have Rq := row_kept Rq B hl
  have HV := Lib.hid (HH.out.below HH.out.lt (by omega) B)
  generalize w.alloc (.cells #[.func (.func 59) #[] #[], .nilFunc, .int .i64 sz, .int .i64 lo, .int .i64 hi] ptT) = V at R B Rq HV ⊢
  have KR := row_cells R
  refine region_tail 7 (by kernel_rfl) (by kernel_rfl) ?_
  simp only [List.take_succ_cons, List.take_zero, List.drop_succ_cons, List.drop_zero]
  repeat (quiet_step ((go_at_call 59; exact Calls.quiet_of_same ((at_user _ gq).mono fun _ _ h => ⟨h.1, h.2.symm⟩))))
  refine wpQuiet_nil ?_
  intro m
  have HD := Lib.hid (show Half rdT K (V.drewN m) g rest f from HV.out)
  have RD : (V.drewN m).heap[gq]? = some (.cells cq pkT) := Rq
  have BD := below_drewN B m
  go_wp2_with (first
    | (go_at_call 26; refine (fld04.numH HD.out Hb.out hlen sz).mono ?_; rintro e w1 ⟨rfl, H1, hbut, hbel⟩; rw [HKk.out] at H1 ⊢; have R1 := (hbut.1 gq (row_lt RD) (by omega)).trans RD; obtain ⟨s0, s1, c0, c1, f0, f1, z1⟩ := rows1 R1))
  go_end0
  obtain ⟨A, c, h1, hN, hc, hc', hA⟩ := H1
  have hA' : ∀ a, A = some a → a.block ≠ gq := fun a ha => by have := (hA a ha).1; omega
  refine ⟨rfl, row_written R1, ⟨A, c, (setRow_far (by omega)).trans h1, But.set.nums hN hA', hc, hc', hA⟩, fun b hb1 hb2 hb3 => ?_, ?_, fun B w0 hB hB' hw => ?_⟩
  · exact (setRow_far hb3).trans ((hbut.1 b (Nat.lt_of_lt_of_le hb1 BD.size) hb2).trans (BD.block b hb1))
  · exact Nat.le_trans (Nat.le_trans BD.size hbut.2) (by rw [setRow_size]; exact Nat.le_refl _)
  · exact setRow_below (hbel B w0 hB (hw.trans (BD.mono (Nat.le_of_lt (by omega))))) hB'
set_option maxHeartbeats 1000000 in
theorem read_op (sz lo hi : Int) (k : Nat) (hk : min (max sz 1) 7 = (k : Int)) (w : World) (K g gq : Nat) (hne : g < gq) (hK : K ≤ gq) (rest : List Int) (f : Bool) (H : Half rdT K w g rest f) (hb : ∀ x ∈ rest, 0 ≤ x ∧ x ≤ 255) (hlen : rest.length ≤ 1000000) (cq : Array Value) (y : Int) (Rq : w.heap[gq]? = some (.cells cq pkT)) (Cq : cq[4]? = some (.int .i64 y)) :
    Calls Try.prog 27 #[.agg #[.func (.func 64) #[] #[], .nilFunc, .int .i64 sz, .int .i64 lo, .int .i64 hi], .pointer (some ⟨g, 0, none⟩), .pointer (some ⟨gq, 0, none⟩)] w fun e w' => e = .returned (.tuple #[]) ∧ w'.heap[gq]? = some (.cells (cq.setIfInBounds 4 (.int .i64 (be (ntake rest f (k : Int))))) pkT) ∧ Half rdT K w' g (ndrop rest f (k : Int)) (nbad rest f (k : Int)) ∧ But2 g gq w w' := by
  have Z := nil_row
  have HH := Lib.hid H
  have Hb := Lib.hid hb
  have HKk := Lib.hid hk
  have hl := row_lt Rq
  clear H hb hk
  go_enter Try.func27, Try.ntmps27
  go_wp2_with fail
  have R := row_new (W := w) (cs := #[.func (.func 64) #[] #[], .nilFunc, .int .i64 sz, .int .i64 lo, .int .i64 hi]) (t := ptT) (m := (0, 0))
  have B : Below w.heap.size w (w.alloc (.cells #[.func (.func 64) #[] #[], .nilFunc, .int .i64 sz, .int .i64 lo, .int .i64 hi] ptT)) := (Below.refl _ _).alloc (Nat.le_refl _) _
  have Rq := row_kept Rq B hl
  have HV := Lib.hid (HH.out.below HH.out.lt (by omega) B)
  generalize w.alloc (.cells #[.func (.func 64) #[] #[], .nilFunc, .int .i64 sz, .int .i64 lo, .int .i64 hi] ptT) = V at R B Rq HV ⊢
  have KR := row_cells R
  refine region_tail 7 (by kernel_rfl) (by kernel_rfl) ?_
  simp only [List.take_succ_cons, List.take_zero, List.drop_succ_cons, List.drop_zero]
  repeat (quiet_step ((go_at_call 64; exact Calls.quiet_of_same ((at_op _ gq).mono fun _ _ h => ⟨h.1, h.2.symm⟩))))
  refine wpQuiet_nil ?_
  intro m
  have HD := Lib.hid (show Half rdT K (V.drewN m) g rest f from HV.out)
  have RD : (V.drewN m).heap[gq]? = some (.cells cq pkT) := Rq
  have BD := below_drewN B m
  go_wp2_with (first
    | (go_at_call 26; refine (fld04.numH HD.out Hb.out hlen sz).mono ?_; rintro e w1 ⟨rfl, H1, hbut, hbel⟩; rw [HKk.out] at H1 ⊢; have R1 := (hbut.1 gq (row_lt RD) (by omega)).trans RD; obtain ⟨s0, s1, c0, c1, f0, f1, z1⟩ := rows1 R1))
  go_end0
  obtain ⟨A, c, h1, hN, hc, hc', hA⟩ := H1
  have hA' : ∀ a, A = some a → a.block ≠ gq := fun a ha => by have := (hA a ha).1; omega
  refine ⟨rfl, row_written R1, ⟨A, c, (setRow_far (by omega)).trans h1, But.set.nums hN hA', hc, hc', hA⟩, fun b hb1 hb2 hb3 => ?_, ?_, fun B w0 hB hB' hw => ?_⟩
  · exact (setRow_far hb3).trans ((hbut.1 b (Nat.lt_of_lt_of_le hb1 BD.size) hb2).trans (BD.block b hb1))
  · exact Nat.le_trans (Nat.le_trans BD.size hbut.2) (by rw [setRow_size]; exact Nat.le_refl _)
  · exact setRow_below (hbel B w0 hB (hw.trans (BD.mono (Nat.le_of_lt (by omega))))) hB'
set_option maxHeartbeats 1000000 in
theorem read_status (sz lo hi : Int) (k : Nat) (hk : min (max sz 1) 7 = (k : Int)) (w : World) (K g gq : Nat) (hne : g < gq) (hK : K ≤ gq) (rest : List Int) (f : Bool) (H : Half rdT K w g rest f) (hb : ∀ x ∈ rest, 0 ≤ x ∧ x ≤ 255) (hlen : rest.length ≤ 1000000) (cq : Array Value) (y : Int) (Rq : w.heap[gq]? = some (.cells cq pkT)) (Cq : cq[5]? = some (.int .i64 y)) :
    Calls Try.prog 27 #[.agg #[.func (.func 63) #[] #[], .nilFunc, .int .i64 sz, .int .i64 lo, .int .i64 hi], .pointer (some ⟨g, 0, none⟩), .pointer (some ⟨gq, 0, none⟩)] w fun e w' => e = .returned (.tuple #[]) ∧ w'.heap[gq]? = some (.cells (cq.setIfInBounds 5 (.int .i64 (be (ntake rest f (k : Int))))) pkT) ∧ Half rdT K w' g (ndrop rest f (k : Int)) (nbad rest f (k : Int)) ∧ But2 g gq w w' := by
  have Z := nil_row
  have HH := Lib.hid H
  have Hb := Lib.hid hb
  have HKk := Lib.hid hk
  have hl := row_lt Rq
  clear H hb hk
  go_enter Try.func27, Try.ntmps27
  go_wp2_with fail
  have R := row_new (W := w) (cs := #[.func (.func 63) #[] #[], .nilFunc, .int .i64 sz, .int .i64 lo, .int .i64 hi]) (t := ptT) (m := (0, 0))
  have B : Below w.heap.size w (w.alloc (.cells #[.func (.func 63) #[] #[], .nilFunc, .int .i64 sz, .int .i64 lo, .int .i64 hi] ptT)) := (Below.refl _ _).alloc (Nat.le_refl _) _
  have Rq := row_kept Rq B hl
  have HV := Lib.hid (HH.out.below HH.out.lt (by omega) B)
  generalize w.alloc (.cells #[.func (.func 63) #[] #[], .nilFunc, .int .i64 sz, .int .i64 lo, .int .i64 hi] ptT) = V at R B Rq HV ⊢
  have KR := row_cells R
  refine region_tail 7 (by kernel_rfl) (by kernel_rfl) ?_
  simp only [List.take_succ_cons, List.take_zero, List.drop_succ_cons, List.drop_zero]
  repeat (quiet_step ((go_at_call 63; exact Calls.quiet_of_same ((at_status _ gq).mono fun _ _ h => ⟨h.1, h.2.symm⟩))))
  refine wpQuiet_nil ?_
  intro m
  have HD := Lib.hid (show Half rdT K (V.drewN m) g rest f from HV.out)
  have RD : (V.drewN m).heap[gq]? = some (.cells cq pkT) := Rq
  have BD := below_drewN B m
  go_wp2_with (first
    | (go_at_call 26; refine (fld04.numH HD.out Hb.out hlen sz).mono ?_; rintro e w1 ⟨rfl, H1, hbut, hbel⟩; rw [HKk.out] at H1 ⊢; have R1 := (hbut.1 gq (row_lt RD) (by omega)).trans RD; obtain ⟨s0, s1, c0, c1, f0, f1, z1⟩ := rows1 R1))
  go_end0
  obtain ⟨A, c, h1, hN, hc, hc', hA⟩ := H1
  have hA' : ∀ a, A = some a → a.block ≠ gq := fun a ha => by have := (hA a ha).1; omega
  refine ⟨rfl, row_written R1, ⟨A, c, (setRow_far (by omega)).trans h1, But.set.nums hN hA', hc, hc', hA⟩, fun b hb1 hb2 hb3 => ?_, ?_, fun B w0 hB hB' hw => ?_⟩
  · exact (setRow_far hb3).trans ((hbut.1 b (Nat.lt_of_lt_of_le hb1 BD.size) hb2).trans (BD.block b hb1))
  · exact Nat.le_trans (Nat.le_trans BD.size hbut.2) (by rw [setRow_size]; exact Nat.le_refl _)
  · exact setRow_below (hbel B w0 hB (hw.trans (BD.mono (Nat.le_of_lt (by omega))))) hB'
set_option maxHeartbeats 1000000 in
theorem read_count (sz lo hi : Int) (k : Nat) (hk : min (max sz 1) 7 = (k : Int)) (w : World) (K g gq : Nat) (hne : g < gq) (hK : K ≤ gq) (rest : List Int) (f : Bool) (H : Half rdT K w g rest f) (hb : ∀ x ∈ rest, 0 ≤ x ∧ x ≤ 255) (hlen : rest.length ≤ 1000000) (cq : Array Value) (y : Int) (Rq : w.heap[gq]? = some (.cells cq pkT)) (Cq : cq[6]? = some (.int .i64 y)) :
    Calls Try.prog 27 #[.agg #[.func (.func 66) #[] #[], .nilFunc, .int .i64 sz, .int .i64 lo, .int .i64 hi], .pointer (some ⟨g, 0, none⟩), .pointer (some ⟨gq, 0, none⟩)] w fun e w' => e = .returned (.tuple #[]) ∧ w'.heap[gq]? = some (.cells (cq.setIfInBounds 6 (.int .i64 (be (ntake rest f (k : Int))))) pkT) ∧ Half rdT K w' g (ndrop rest f (k : Int)) (nbad rest f (k : Int)) ∧ But2 g gq w w' := by
  have Z := nil_row
  have HH := Lib.hid H
  have Hb := Lib.hid hb
  have HKk := Lib.hid hk
  have hl := row_lt Rq
  clear H hb hk
  go_enter Try.func27, Try.ntmps27
  go_wp2_with fail
  have R := row_new (W := w) (cs := #[.func (.func 66) #[] #[], .nilFunc, .int .i64 sz, .int .i64 lo, .int .i64 hi]) (t := ptT) (m := (0, 0))
  have B : Below w.heap.size w (w.alloc (.cells #[.func (.func 66) #[] #[], .nilFunc, .int .i64 sz, .int .i64 lo, .int .i64 hi] ptT)) := (Below.refl _ _).alloc (Nat.le_refl _) _
  have Rq := row_kept Rq B hl
  have HV := Lib.hid (HH.out.below HH.out.lt (by omega) B)
  generalize w.alloc (.cells #[.func (.func 66) #[] #[], .nilFunc, .int .i64 sz, .int .i64 lo, .int .i64 hi] ptT) = V at R B Rq HV ⊢
  have KR := row_cells R
  refine region_tail 7 (by kernel_rfl) (by kernel_rfl) ?_
  simp only [List.take_succ_cons, List.take_zero, List.drop_succ_cons, List.drop_zero]
  repeat (quiet_step ((go_at_call 66; exact Calls.quiet_of_same ((at_count _ gq).mono fun _ _ h => ⟨h.1, h.2.symm⟩))))
  refine wpQuiet_nil ?_
  intro m
  have HD := Lib.hid (show Half rdT K (V.drewN m) g rest f from HV.out)
  have RD : (V.drewN m).heap[gq]? = some (.cells cq pkT) := Rq
  have BD := below_drewN B m
  go_wp2_with (first
    | (go_at_call 26; refine (fld04.numH HD.out Hb.out hlen sz).mono ?_; rintro e w1 ⟨rfl, H1, hbut, hbel⟩; rw [HKk.out] at H1 ⊢; have R1 := (hbut.1 gq (row_lt RD) (by omega)).trans RD; obtain ⟨s0, s1, c0, c1, f0, f1, z1⟩ := rows1 R1))
  go_end0
  obtain ⟨A, c, h1, hN, hc, hc', hA⟩ := H1
  have hA' : ∀ a, A = some a → a.block ≠ gq := fun a ha => by have := (hA a ha).1; omega
  refine ⟨rfl, row_written R1, ⟨A, c, (setRow_far (by omega)).trans h1, But.set.nums hN hA', hc, hc', hA⟩, fun b hb1 hb2 hb3 => ?_, ?_, fun B w0 hB hB' hw => ?_⟩
  · exact (setRow_far hb3).trans ((hbut.1 b (Nat.lt_of_lt_of_le hb1 BD.size) hb2).trans (BD.block b hb1))
  · exact Nat.le_trans (Nat.le_trans BD.size hbut.2) (by rw [setRow_size]; exact Nat.le_refl _)
  · exact setRow_below (hbel B w0 hB (hw.trans (BD.mono (Nat.le_of_lt (by omega))))) hB'
set_option maxHeartbeats 1000000 in
theorem read_version (sz lo hi : Int) (k : Nat) (hk : min (max sz 1) 7 = (k : Int)) (w : World) (K g gq : Nat) (hne : g < gq) (hK : K ≤ gq) (rest : List Int) (f : Bool) (H : Half rdT K w g rest f) (hb : ∀ x ∈ rest, 0 ≤ x ∧ x ≤ 255) (hlen : rest.length ≤ 1000000) (cq : Array Value) (y : Int) (Rq : w.heap[gq]? = some (.cells cq pkT)) (Cq : cq[7]? = some (.int .i64 y)) :
    Calls Try.prog 27 #[.agg #[.func (.func 65) #[] #[], .nilFunc, .int .i64 sz, .int .i64 lo, .int .i64 hi], .pointer (some ⟨g, 0, none⟩), .pointer (some ⟨gq, 0, none⟩)] w fun e w' => e = .returned (.tuple #[]) ∧ w'.heap[gq]? = some (.cells (cq.setIfInBounds 7 (.int .i64 (be (ntake rest f (k : Int))))) pkT) ∧ Half rdT K w' g (ndrop rest f (k : Int)) (nbad rest f (k : Int)) ∧ But2 g gq w w' := by
  have Z := nil_row
  have HH := Lib.hid H
  have Hb := Lib.hid hb
  have HKk := Lib.hid hk
  have hl := row_lt Rq
  clear H hb hk
  go_enter Try.func27, Try.ntmps27
  go_wp2_with fail
  have R := row_new (W := w) (cs := #[.func (.func 65) #[] #[], .nilFunc, .int .i64 sz, .int .i64 lo, .int .i64 hi]) (t := ptT) (m := (0, 0))
  have B : Below w.heap.size w (w.alloc (.cells #[.func (.func 65) #[] #[], .nilFunc, .int .i64 sz, .int .i64 lo, .int .i64 hi] ptT)) := (Below.refl _ _).alloc (Nat.le_refl _) _
  have Rq := row_kept Rq B hl
  have HV := Lib.hid (HH.out.below HH.out.lt (by omega) B)
  generalize w.alloc (.cells #[.func (.func 65) #[] #[], .nilFunc, .int .i64 sz, .int .i64 lo, .int .i64 hi] ptT) = V at R B Rq HV ⊢
  have KR := row_cells R
  refine region_tail 7 (by kernel_rfl) (by kernel_rfl) ?_
  simp only [List.take_succ_cons, List.take_zero, List.drop_succ_cons, List.drop_zero]
  repeat (quiet_step ((go_at_call 65; exact Calls.quiet_of_same ((at_version _ gq).mono fun _ _ h => ⟨h.1, h.2.symm⟩))))
  refine wpQuiet_nil ?_
  intro m
  have HD := Lib.hid (show Half rdT K (V.drewN m) g rest f from HV.out)
  have RD : (V.drewN m).heap[gq]? = some (.cells cq pkT) := Rq
  have BD := below_drewN B m
  go_wp2_with (first
    | (go_at_call 26; refine (fld04.numH HD.out Hb.out hlen sz).mono ?_; rintro e w1 ⟨rfl, H1, hbut, hbel⟩; rw [HKk.out] at H1 ⊢; have R1 := (hbut.1 gq (row_lt RD) (by omega)).trans RD; obtain ⟨s0, s1, c0, c1, f0, f1, z1⟩ := rows1 R1))
  go_end0
  obtain ⟨A, c, h1, hN, hc, hc', hA⟩ := H1
  have hA' : ∀ a, A = some a → a.block ≠ gq := fun a ha => by have := (hA a ha).1; omega
  refine ⟨rfl, row_written R1, ⟨A, c, (setRow_far (by omega)).trans h1, But.set.nums hN hA', hc, hc', hA⟩, fun b hb1 hb2 hb3 => ?_, ?_, fun B w0 hB hB' hw => ?_⟩
  · exact (setRow_far hb3).trans ((hbut.1 b (Nat.lt_of_lt_of_le hb1 BD.size) hb2).trans (BD.block b hb1))
  · exact Nat.le_trans (Nat.le_trans BD.size hbut.2) (by rw [setRow_size]; exact Nat.le_refl _)
  · exact setRow_below (hbel B w0 hB (hw.trans (BD.mono (Nat.le_of_lt (by omega))))) hB'
set_option maxHeartbeats 1000000 in
theorem read_ack (sz lo hi : Int) (k : Nat) (hk : min (max sz 1) 7 = (k : Int)) (w : World) (K g gq : Nat) (hne : g < gq) (hK : K ≤ gq) (rest : List Int) (f : Bool) (H : Half rdT K w g rest f) (hb : ∀ x ∈ rest, 0 ≤ x ∧ x ≤ 255) (hlen : rest.length ≤ 1000000) (cq : Array Value) (y : Int) (Rq : w.heap[gq]? = some (.cells cq pkT)) (Cq : cq[8]? = some (.int .i64 y)) :
    Calls Try.prog 27 #[.agg #[.func (.func 67) #[] #[], .nilFunc, .int .i64 sz, .int .i64 lo, .int .i64 hi], .pointer (some ⟨g, 0, none⟩), .pointer (some ⟨gq, 0, none⟩)] w fun e w' => e = .returned (.tuple #[]) ∧ w'.heap[gq]? = some (.cells (cq.setIfInBounds 8 (.int .i64 (be (ntake rest f (k : Int))))) pkT) ∧ Half rdT K w' g (ndrop rest f (k : Int)) (nbad rest f (k : Int)) ∧ But2 g gq w w' := by
  have Z := nil_row
  have HH := Lib.hid H
  have Hb := Lib.hid hb
  have HKk := Lib.hid hk
  have hl := row_lt Rq
  clear H hb hk
  go_enter Try.func27, Try.ntmps27
  go_wp2_with fail
  have R := row_new (W := w) (cs := #[.func (.func 67) #[] #[], .nilFunc, .int .i64 sz, .int .i64 lo, .int .i64 hi]) (t := ptT) (m := (0, 0))
  have B : Below w.heap.size w (w.alloc (.cells #[.func (.func 67) #[] #[], .nilFunc, .int .i64 sz, .int .i64 lo, .int .i64 hi] ptT)) := (Below.refl _ _).alloc (Nat.le_refl _) _
  have Rq := row_kept Rq B hl
  have HV := Lib.hid (HH.out.below HH.out.lt (by omega) B)
  generalize w.alloc (.cells #[.func (.func 67) #[] #[], .nilFunc, .int .i64 sz, .int .i64 lo, .int .i64 hi] ptT) = V at R B Rq HV ⊢
  have KR := row_cells R
  refine region_tail 7 (by kernel_rfl) (by kernel_rfl) ?_
  simp only [List.take_succ_cons, List.take_zero, List.drop_succ_cons, List.drop_zero]
  repeat (quiet_step ((go_at_call 67; exact Calls.quiet_of_same ((at_ack _ gq).mono fun _ _ h => ⟨h.1, h.2.symm⟩))))
  refine wpQuiet_nil ?_
  intro m
  have HD := Lib.hid (show Half rdT K (V.drewN m) g rest f from HV.out)
  have RD : (V.drewN m).heap[gq]? = some (.cells cq pkT) := Rq
  have BD := below_drewN B m
  go_wp2_with (first
    | (go_at_call 26; refine (fld04.numH HD.out Hb.out hlen sz).mono ?_; rintro e w1 ⟨rfl, H1, hbut, hbel⟩; rw [HKk.out] at H1 ⊢; have R1 := (hbut.1 gq (row_lt RD) (by omega)).trans RD; obtain ⟨s0, s1, c0, c1, f0, f1, z1⟩ := rows1 R1))
  go_end0
  obtain ⟨A, c, h1, hN, hc, hc', hA⟩ := H1
  have hA' : ∀ a, A = some a → a.block ≠ gq := fun a ha => by have := (hA a ha).1; omega
  refine ⟨rfl, row_written R1, ⟨A, c, (setRow_far (by omega)).trans h1, But.set.nums hN hA', hc, hc', hA⟩, fun b hb1 hb2 hb3 => ?_, ?_, fun B w0 hB hB' hw => ?_⟩
  · exact (setRow_far hb3).trans ((hbut.1 b (Nat.lt_of_lt_of_le hb1 BD.size) hb2).trans (BD.block b hb1))
  · exact Nat.le_trans (Nat.le_trans BD.size hbut.2) (by rw [setRow_size]; exact Nat.le_refl _)
  · exact setRow_below (hbel B w0 hB (hw.trans (BD.mono (Nat.le_of_lt (by omega))))) hB'
set_option maxHeartbeats 1000000 in
theorem read_sack (sz lo hi : Int) (k : Nat) (hk : min (max sz 1) 7 = (k : Int)) (w : World) (K g gq : Nat) (hne : g < gq) (hK : K ≤ gq) (rest : List Int) (f : Bool) (H : Half rdT K w g rest f) (hb : ∀ x ∈ rest, 0 ≤ x ∧ x ≤ 255) (hlen : rest.length ≤ 1000000) (cq : Array Value) (y : Int) (Rq : w.heap[gq]? = some (.cells cq pkT)) (Cq : cq[9]? = some (.int .i64 y)) :
    Calls Try.prog 27 #[.agg #[.func (.func 68) #[] #[], .nilFunc, .int .i64 sz, .int .i64 lo, .int .i64 hi], .pointer (some ⟨g, 0, none⟩), .pointer (some ⟨gq, 0, none⟩)] w fun e w' => e = .returned (.tuple #[]) ∧ w'.heap[gq]? = some (.cells (cq.setIfInBounds 9 (.int .i64 (be (ntake rest f (k : Int))))) pkT) ∧ Half rdT K w' g (ndrop rest f (k : Int)) (nbad rest f (k : Int)) ∧ But2 g gq w w' := by
  have Z := nil_row
  have HH := Lib.hid H
  have Hb := Lib.hid hb
  have HKk := Lib.hid hk
  have hl := row_lt Rq
  clear H hb hk
  go_enter Try.func27, Try.ntmps27
  go_wp2_with fail
  have R := row_new (W := w) (cs := #[.func (.func 68) #[] #[], .nilFunc, .int .i64 sz, .int .i64 lo, .int .i64 hi]) (t := ptT) (m := (0, 0))
  have B : Below w.heap.size w (w.alloc (.cells #[.func (.func 68) #[] #[], .nilFunc, .int .i64 sz, .int .i64 lo, .int .i64 hi] ptT)) := (Below.refl _ _).alloc (Nat.le_refl _) _
  have Rq := row_kept Rq B hl
  have HV := Lib.hid (HH.out.below HH.out.lt (by omega) B)
  generalize w.alloc (.cells #[.func (.func 68) #[] #[], .nilFunc, .int .i64 sz, .int .i64 lo, .int .i64 hi] ptT) = V at R B Rq HV ⊢
  have KR := row_cells R
  refine region_tail 7 (by kernel_rfl) (by kernel_rfl) ?_
  simp only [List.take_succ_cons, List.take_zero, List.drop_succ_cons, List.drop_zero]
  repeat (quiet_step ((go_at_call 68; exact Calls.quiet_of_same ((at_sack _ gq).mono fun _ _ h => ⟨h.1, h.2.symm⟩))))
  refine wpQuiet_nil ?_
  intro m
  have HD := Lib.hid (show Half rdT K (V.drewN m) g rest f from HV.out)
  have RD : (V.drewN m).heap[gq]? = some (.cells cq pkT) := Rq
  have BD := below_drewN B m
  go_wp2_with (first
    | (go_at_call 26; refine (fld04.numH HD.out Hb.out hlen sz).mono ?_; rintro e w1 ⟨rfl, H1, hbut, hbel⟩; rw [HKk.out] at H1 ⊢; have R1 := (hbut.1 gq (row_lt RD) (by omega)).trans RD; obtain ⟨s0, s1, c0, c1, f0, f1, z1⟩ := rows1 R1))
  go_end0
  obtain ⟨A, c, h1, hN, hc, hc', hA⟩ := H1
  have hA' : ∀ a, A = some a → a.block ≠ gq := fun a ha => by have := (hA a ha).1; omega
  refine ⟨rfl, row_written R1, ⟨A, c, (setRow_far (by omega)).trans h1, But.set.nums hN hA', hc, hc', hA⟩, fun b hb1 hb2 hb3 => ?_, ?_, fun B w0 hB hB' hw => ?_⟩
  · exact (setRow_far hb3).trans ((hbut.1 b (Nat.lt_of_lt_of_le hb1 BD.size) hb2).trans (BD.block b hb1))
  · exact Nat.le_trans (Nat.le_trans BD.size hbut.2) (by rw [setRow_size]; exact Nat.le_refl _)
  · exact setRow_below (hbel B w0 hB (hw.trans (BD.mono (Nat.le_of_lt (by omega))))) hB'
set_option maxHeartbeats 1000000 in
theorem read_nonce (sz lo hi : Int) (k : Nat) (hk : min (max sz 1) 7 = (k : Int)) (w : World) (K g gq : Nat) (hne : g < gq) (hK : K ≤ gq) (rest : List Int) (f : Bool) (H : Half rdT K w g rest f) (hb : ∀ x ∈ rest, 0 ≤ x ∧ x ≤ 255) (hlen : rest.length ≤ 1000000) (cq : Array Value) (y : Int) (Rq : w.heap[gq]? = some (.cells cq pkT)) (Cq : cq[10]? = some (.int .i64 y)) :
    Calls Try.prog 27 #[.agg #[.func (.func 56) #[] #[], .nilFunc, .int .i64 sz, .int .i64 lo, .int .i64 hi], .pointer (some ⟨g, 0, none⟩), .pointer (some ⟨gq, 0, none⟩)] w fun e w' => e = .returned (.tuple #[]) ∧ w'.heap[gq]? = some (.cells (cq.setIfInBounds 10 (.int .i64 (be (ntake rest f (k : Int))))) pkT) ∧ Half rdT K w' g (ndrop rest f (k : Int)) (nbad rest f (k : Int)) ∧ But2 g gq w w' := by
  have Z := nil_row
  have HH := Lib.hid H
  have Hb := Lib.hid hb
  have HKk := Lib.hid hk
  have hl := row_lt Rq
  clear H hb hk
  go_enter Try.func27, Try.ntmps27
  go_wp2_with fail
  have R := row_new (W := w) (cs := #[.func (.func 56) #[] #[], .nilFunc, .int .i64 sz, .int .i64 lo, .int .i64 hi]) (t := ptT) (m := (0, 0))
  have B : Below w.heap.size w (w.alloc (.cells #[.func (.func 56) #[] #[], .nilFunc, .int .i64 sz, .int .i64 lo, .int .i64 hi] ptT)) := (Below.refl _ _).alloc (Nat.le_refl _) _
  have Rq := row_kept Rq B hl
  have HV := Lib.hid (HH.out.below HH.out.lt (by omega) B)
  generalize w.alloc (.cells #[.func (.func 56) #[] #[], .nilFunc, .int .i64 sz, .int .i64 lo, .int .i64 hi] ptT) = V at R B Rq HV ⊢
  have KR := row_cells R
  refine region_tail 7 (by kernel_rfl) (by kernel_rfl) ?_
  simp only [List.take_succ_cons, List.take_zero, List.drop_succ_cons, List.drop_zero]
  repeat (quiet_step ((go_at_call 56; exact Calls.quiet_of_same ((at_nonce _ gq).mono fun _ _ h => ⟨h.1, h.2.symm⟩))))
  refine wpQuiet_nil ?_
  intro m
  have HD := Lib.hid (show Half rdT K (V.drewN m) g rest f from HV.out)
  have RD : (V.drewN m).heap[gq]? = some (.cells cq pkT) := Rq
  have BD := below_drewN B m
  go_wp2_with (first
    | (go_at_call 26; refine (fld04.numH HD.out Hb.out hlen sz).mono ?_; rintro e w1 ⟨rfl, H1, hbut, hbel⟩; rw [HKk.out] at H1 ⊢; have R1 := (hbut.1 gq (row_lt RD) (by omega)).trans RD; obtain ⟨s0, s1, c0, c1, f0, f1, z1⟩ := rows1 R1))
  go_end0
  obtain ⟨A, c, h1, hN, hc, hc', hA⟩ := H1
  have hA' : ∀ a, A = some a → a.block ≠ gq := fun a ha => by have := (hA a ha).1; omega
  refine ⟨rfl, row_written R1, ⟨A, c, (setRow_far (by omega)).trans h1, But.set.nums hN hA', hc, hc', hA⟩, fun b hb1 hb2 hb3 => ?_, ?_, fun B w0 hB hB' hw => ?_⟩
  · exact (setRow_far hb3).trans ((hbut.1 b (Nat.lt_of_lt_of_le hb1 BD.size) hb2).trans (BD.block b hb1))
  · exact Nat.le_trans (Nat.le_trans BD.size hbut.2) (by rw [setRow_size]; exact Nat.le_refl _)
  · exact setRow_below (hbel B w0 hB (hw.trans (BD.mono (Nat.le_of_lt (by omega))))) hB'
set_option maxHeartbeats 1000000 in
theorem read_epoch (sz lo hi : Int) (k : Nat) (hk : min (max sz 1) 7 = (k : Int)) (w : World) (K g gq : Nat) (hne : g < gq) (hK : K ≤ gq) (rest : List Int) (f : Bool) (H : Half rdT K w g rest f) (hb : ∀ x ∈ rest, 0 ≤ x ∧ x ≤ 255) (hlen : rest.length ≤ 1000000) (cq : Array Value) (y : Int) (Rq : w.heap[gq]? = some (.cells cq pkT)) (Cq : cq[11]? = some (.int .i64 y)) :
    Calls Try.prog 27 #[.agg #[.func (.func 57) #[] #[], .nilFunc, .int .i64 sz, .int .i64 lo, .int .i64 hi], .pointer (some ⟨g, 0, none⟩), .pointer (some ⟨gq, 0, none⟩)] w fun e w' => e = .returned (.tuple #[]) ∧ w'.heap[gq]? = some (.cells (cq.setIfInBounds 11 (.int .i64 (be (ntake rest f (k : Int))))) pkT) ∧ Half rdT K w' g (ndrop rest f (k : Int)) (nbad rest f (k : Int)) ∧ But2 g gq w w' := by
  have Z := nil_row
  have HH := Lib.hid H
  have Hb := Lib.hid hb
  have HKk := Lib.hid hk
  have hl := row_lt Rq
  clear H hb hk
  go_enter Try.func27, Try.ntmps27
  go_wp2_with fail
  have R := row_new (W := w) (cs := #[.func (.func 57) #[] #[], .nilFunc, .int .i64 sz, .int .i64 lo, .int .i64 hi]) (t := ptT) (m := (0, 0))
  have B : Below w.heap.size w (w.alloc (.cells #[.func (.func 57) #[] #[], .nilFunc, .int .i64 sz, .int .i64 lo, .int .i64 hi] ptT)) := (Below.refl _ _).alloc (Nat.le_refl _) _
  have Rq := row_kept Rq B hl
  have HV := Lib.hid (HH.out.below HH.out.lt (by omega) B)
  generalize w.alloc (.cells #[.func (.func 57) #[] #[], .nilFunc, .int .i64 sz, .int .i64 lo, .int .i64 hi] ptT) = V at R B Rq HV ⊢
  have KR := row_cells R
  refine region_tail 7 (by kernel_rfl) (by kernel_rfl) ?_
  simp only [List.take_succ_cons, List.take_zero, List.drop_succ_cons, List.drop_zero]
  repeat (quiet_step ((go_at_call 57; exact Calls.quiet_of_same ((at_epoch _ gq).mono fun _ _ h => ⟨h.1, h.2.symm⟩))))
  refine wpQuiet_nil ?_
  intro m
  have HD := Lib.hid (show Half rdT K (V.drewN m) g rest f from HV.out)
  have RD : (V.drewN m).heap[gq]? = some (.cells cq pkT) := Rq
  have BD := below_drewN B m
  go_wp2_with (first
    | (go_at_call 26; refine (fld04.numH HD.out Hb.out hlen sz).mono ?_; rintro e w1 ⟨rfl, H1, hbut, hbel⟩; rw [HKk.out] at H1 ⊢; have R1 := (hbut.1 gq (row_lt RD) (by omega)).trans RD; obtain ⟨s0, s1, c0, c1, f0, f1, z1⟩ := rows1 R1))
  go_end0
  obtain ⟨A, c, h1, hN, hc, hc', hA⟩ := H1
  have hA' : ∀ a, A = some a → a.block ≠ gq := fun a ha => by have := (hA a ha).1; omega
  refine ⟨rfl, row_written R1, ⟨A, c, (setRow_far (by omega)).trans h1, But.set.nums hN hA', hc, hc', hA⟩, fun b hb1 hb2 hb3 => ?_, ?_, fun B w0 hB hB' hw => ?_⟩
  · exact (setRow_far hb3).trans ((hbut.1 b (Nat.lt_of_lt_of_le hb1 BD.size) hb2).trans (BD.block b hb1))
  · exact Nat.le_trans (Nat.le_trans BD.size hbut.2) (by rw [setRow_size]; exact Nat.le_refl _)
  · exact setRow_below (hbel B w0 hB (hw.trans (BD.mono (Nat.le_of_lt (by omega))))) hB'
set_option maxHeartbeats 1000000 in
theorem read_secret (sz lo hi : Int) (w : World) (K g gq : Nat) (hne : g < gq) (hK : K ≤ gq) (rest : List Int) (f : Bool) (H : Half rdT K w g rest f) (hlen : rest.length ≤ 1000000) (cq : List Value) (hcq : cq.length = 36) (Rq : w.heap[gq]? = some (.cells cq.toArray pkT)) :
    Calls Try.prog 27 #[.agg #[.nilFunc, .func (.func 58) #[] #[], .int .i64 sz, .int .i64 lo, .int .i64 hi], .pointer (some ⟨g, 0, none⟩), .pointer (some ⟨gq, 0, none⟩)] w fun e w' => e = .returned (.tuple #[]) ∧ w'.heap[gq]? = some (.cells (splice cq 12 (nrow .u8 (ntake rest f 16))).toArray pkT) ∧ Half rdT K w' g (ndrop rest f 16) (nbad rest f 16) ∧ But2 g gq w w' := by
  have Z := fun_row
  have HH := Lib.hid H
  have Hq := Lib.hid hcq
  have hl := row_lt Rq
  have HT := Lib.hid (show (ntake rest f 16).length ≤ 16 by
    unfold ntake
    split
    · exact Nat.zero_le _
    · rw [List.length_take]; omega)
  clear H hcq
  go_enter Try.func27, Try.ntmps27
  go_wp2_with (first
    | (go_at_call 58; refine (at_secret _ gq).mono ?_; rintro e w' ⟨rfl, rfl⟩))
  have B : Below w.heap.size w (w.alloc (.cells #[.nilFunc, .func (.func 58) #[] #[], .int .i64 sz, .int .i64 lo, .int .i64 hi] ptT)) := (Below.refl _ _).alloc (Nat.le_refl _) _
  have Rq := row_kept Rq B hl
  have HV := Lib.hid (HH.out.below HH.out.lt (by omega) B)
  generalize w.alloc (.cells #[.nilFunc, .func (.func 58) #[] #[], .int .i64 sz, .int .i64 lo, .int .i64 hi] ptT) = V at B Rq HV ⊢
  refine (fld04.takeH HV.out hlen 16).mono ?_
  rintro e w1 ⟨A', c', rfl, hO, H1, hbut, hbel⟩
  have R1 := (hbut.1 gq (row_lt Rq) (by omega)).trans Rq
  have Bd : Below g w1 w1 := Below.refl _ _
  have HO := Lib.hid hO
  obtain ⟨A, c, h1, hN, hc, hc', hA⟩ := H1
  have hA' : ∀ a, A = some a → a.block ≠ gq := fun a ha => by have := (hA a ha).1; omega
  have HN := Lib.hid (And.intro h1 (And.intro hN (And.intro hc (And.intro hc' (And.intro hA hA')))))
  clear hO h1 hN hc hc' hA hA'
  obtain ⟨bs, hbs⟩ : ∃ bs, ntake rest f 16 = bs := ⟨_, rfl⟩
  rw [hbs] at HO HT ⊢
  have Hbs := Lib.hid hbs
  clear hbs
  go_wp2_with (first
    | (refine wpList_copy_atG rfl (.tmp 14) (.tmp 18) _ _ rfl 5 (by kernel_rfl) (by kernel_rfl) (some ⟨gq, 12, none⟩) A' 16 16 bs.length c' rfl rfl gq 12 cq pkT R1 bs (Nat.min_eq_left HT.out).symm rfl HO.out.nums (by have := HT.out; have := Hq.out; omega) ?_))
  refine bodyPost_ret (results_none rfl _ _ _) rfl ?_
  obtain ⟨h1, hN, hc, hc', hA, hA'⟩ := HN.out
  refine ⟨rfl, (by rw [Hbs.out]; exact row_written R1), ⟨A, c, (setRow_far (by omega)).trans h1, But.set.nums hN hA', hc, hc', hA⟩, fun b hb1 hb2 hb3 => ?_, ?_, fun B' w0 hB hB' hw => ?_⟩
  · exact (setRow_far hb3).trans ((hbut.1 b (Nat.lt_of_lt_of_le hb1 B.size) hb2).trans (B.block b hb1))
  · exact Nat.le_trans (Nat.le_trans B.size hbut.2) (by rw [setRow_size]; exact Nat.le_refl _)
  · exact setRow_below (hbel B' w0 hB (hw.trans (B.mono (Nat.le_of_lt (by omega))))) hB'
set_option maxHeartbeats 1000000 in
theorem read_tag (sz lo hi : Int) (w : World) (K g gq : Nat) (hne : g < gq) (hK : K ≤ gq) (rest : List Int) (f : Bool) (H : Half rdT K w g rest f) (hlen : rest.length ≤ 1000000) (cq : List Value) (hcq : cq.length = 36) (Rq : w.heap[gq]? = some (.cells cq.toArray pkT)) :
    Calls Try.prog 27 #[.agg #[.nilFunc, .func (.func 62) #[] #[], .int .i64 sz, .int .i64 lo, .int .i64 hi], .pointer (some ⟨g, 0, none⟩), .pointer (some ⟨gq, 0, none⟩)] w fun e w' => e = .returned (.tuple #[]) ∧ w'.heap[gq]? = some (.cells (splice cq 28 (nrow .u8 (ntake rest f 8))).toArray pkT) ∧ Half rdT K w' g (ndrop rest f 8) (nbad rest f 8) ∧ But2 g gq w w' := by
  have Z := fun_row
  have HH := Lib.hid H
  have Hq := Lib.hid hcq
  have hl := row_lt Rq
  have HT := Lib.hid (show (ntake rest f 8).length ≤ 8 by
    unfold ntake
    split
    · exact Nat.zero_le _
    · rw [List.length_take]; omega)
  clear H hcq
  go_enter Try.func27, Try.ntmps27
  go_wp2_with (first
    | (go_at_call 62; refine (at_tag _ gq).mono ?_; rintro e w' ⟨rfl, rfl⟩))
  have B : Below w.heap.size w (w.alloc (.cells #[.nilFunc, .func (.func 62) #[] #[], .int .i64 sz, .int .i64 lo, .int .i64 hi] ptT)) := (Below.refl _ _).alloc (Nat.le_refl _) _
  have Rq := row_kept Rq B hl
  have HV := Lib.hid (HH.out.below HH.out.lt (by omega) B)
  generalize w.alloc (.cells #[.nilFunc, .func (.func 62) #[] #[], .int .i64 sz, .int .i64 lo, .int .i64 hi] ptT) = V at B Rq HV ⊢
  refine (fld04.takeH HV.out hlen 8).mono ?_
  rintro e w1 ⟨A', c', rfl, hO, H1, hbut, hbel⟩
  have R1 := (hbut.1 gq (row_lt Rq) (by omega)).trans Rq
  have Bd : Below g w1 w1 := Below.refl _ _
  have HO := Lib.hid hO
  obtain ⟨A, c, h1, hN, hc, hc', hA⟩ := H1
  have hA' : ∀ a, A = some a → a.block ≠ gq := fun a ha => by have := (hA a ha).1; omega
  have HN := Lib.hid (And.intro h1 (And.intro hN (And.intro hc (And.intro hc' (And.intro hA hA')))))
  clear hO h1 hN hc hc' hA hA'
  obtain ⟨bs, hbs⟩ : ∃ bs, ntake rest f 8 = bs := ⟨_, rfl⟩
  rw [hbs] at HO HT ⊢
  have Hbs := Lib.hid hbs
  clear hbs
  go_wp2_with (first
    | (refine wpList_copy_atG rfl (.tmp 14) (.tmp 18) _ _ rfl 5 (by kernel_rfl) (by kernel_rfl) (some ⟨gq, 28, none⟩) A' 8 8 bs.length c' rfl rfl gq 28 cq pkT R1 bs (Nat.min_eq_left HT.out).symm rfl HO.out.nums (by have := HT.out; have := Hq.out; omega) ?_))
  refine bodyPost_ret (results_none rfl _ _ _) rfl ?_
  obtain ⟨h1, hN, hc, hc', hA, hA'⟩ := HN.out
  refine ⟨rfl, (by rw [Hbs.out]; exact row_written R1), ⟨A, c, (setRow_far (by omega)).trans h1, But.set.nums hN hA', hc, hc', hA⟩, fun b hb1 hb2 hb3 => ?_, ?_, fun B' w0 hB hB' hw => ?_⟩
  · exact (setRow_far hb3).trans ((hbut.1 b (Nat.lt_of_lt_of_le hb1 B.size) hb2).trans (B.block b hb1))
  · exact Nat.le_trans (Nat.le_trans B.size hbut.2) (by rw [setRow_size]; exact Nat.le_refl _)
  · exact setRow_below (hbel B' w0 hB (hw.trans (B.mono (Nat.le_of_lt (by omega))))) hB'
theorem read_part (x : Pt5) (hx : x.Ok) (q : Pk) (hq : q.Wf) (w : World) (K g gq : Nat) (hne : g < gq) (hK : K ≤ gq) (rest : List Int) (f : Bool) (H : Half rdT K w g rest f) (hb : ∀ x ∈ rest, 0 ≤ x ∧ x ≤ 255) (hlen : rest.length ≤ 1000000) (Rq : w.heap[gq]? = some (.cells (pcs q).toArray pkT)) :
    Calls Try.prog 27 #[.agg x.cs.toArray, .pointer (some ⟨g, 0, none⟩), .pointer (some ⟨gq, 0, none⟩)] w fun e w' => e = .returned (.tuple #[]) ∧ w'.heap[gq]? = some (.cells (pcs (x.rd rest f q)).toArray pkT) ∧ Half rdT K w' g (ndrop rest f (x.am : Int)) (nbad rest f (x.am : Int)) ∧ But2 g gq w w' := by
  have Cq := fun (i : Nat) (hi : i < 12) => show (pcs q).toArray[i]? = _ from (List.getElem?_toArray ..).trans (pcs_at hq i hi)
  have hsz := hx.sz
  obtain ⟨j, sz, lo, hi⟩ := x
  rcases j_cases hx with h | h | h | h | h | h | h | h | h | h | h | h | h
  all_goals
    simp only at h
    subst h
  · have hk : min (max sz 1) 7 = ((sz.toNat : Nat) : Int) := by
      rcases hsz (show 1 ≤ 11 by decide) with h | h <;> (simp only at h; subst h; decide)
    refine (read_session sz lo hi sz.toNat hk w K g gq hne hK rest f H hb hlen _ _ Rq (Cq 1 (by decide))).mono ?_
    rintro e w' ⟨rfl, h1, h2, h3⟩
    refine ⟨rfl, ?_, h2, h3⟩
    rw [h1, List.setIfInBounds_toArray, pcs_set hq 1 (by decide)]
    rfl
  · have hk : min (max sz 1) 7 = ((sz.toNat : Nat) : Int) := by
      rcases hsz (show 2 ≤ 11 by decide) with h | h <;> (simp only at h; subst h; decide)
    refine (read_seq sz lo hi sz.toNat hk w K g gq hne hK rest f H hb hlen _ _ Rq (Cq 2 (by decide))).mono ?_
    rintro e w' ⟨rfl, h1, h2, h3⟩
    refine ⟨rfl, ?_, h2, h3⟩
    rw [h1, List.setIfInBounds_toArray, pcs_set hq 2 (by decide)]
    rfl
  · have hk : min (max sz 1) 7 = ((sz.toNat : Nat) : Int) := by
      rcases hsz (show 3 ≤ 11 by decide) with h | h <;> (simp only at h; subst h; decide)
    refine (read_user sz lo hi sz.toNat hk w K g gq hne hK rest f H hb hlen _ _ Rq (Cq 3 (by decide))).mono ?_
    rintro e w' ⟨rfl, h1, h2, h3⟩
    refine ⟨rfl, ?_, h2, h3⟩
    rw [h1, List.setIfInBounds_toArray, pcs_set hq 3 (by decide)]
    rfl
  · have hk : min (max sz 1) 7 = ((sz.toNat : Nat) : Int) := by
      rcases hsz (show 4 ≤ 11 by decide) with h | h <;> (simp only at h; subst h; decide)
    refine (read_op sz lo hi sz.toNat hk w K g gq hne hK rest f H hb hlen _ _ Rq (Cq 4 (by decide))).mono ?_
    rintro e w' ⟨rfl, h1, h2, h3⟩
    refine ⟨rfl, ?_, h2, h3⟩
    rw [h1, List.setIfInBounds_toArray, pcs_set hq 4 (by decide)]
    rfl
  · have hk : min (max sz 1) 7 = ((sz.toNat : Nat) : Int) := by
      rcases hsz (show 5 ≤ 11 by decide) with h | h <;> (simp only at h; subst h; decide)
    refine (read_status sz lo hi sz.toNat hk w K g gq hne hK rest f H hb hlen _ _ Rq (Cq 5 (by decide))).mono ?_
    rintro e w' ⟨rfl, h1, h2, h3⟩
    refine ⟨rfl, ?_, h2, h3⟩
    rw [h1, List.setIfInBounds_toArray, pcs_set hq 5 (by decide)]
    rfl
  · have hk : min (max sz 1) 7 = ((sz.toNat : Nat) : Int) := by
      rcases hsz (show 6 ≤ 11 by decide) with h | h <;> (simp only at h; subst h; decide)
    refine (read_count sz lo hi sz.toNat hk w K g gq hne hK rest f H hb hlen _ _ Rq (Cq 6 (by decide))).mono ?_
    rintro e w' ⟨rfl, h1, h2, h3⟩
    refine ⟨rfl, ?_, h2, h3⟩
    rw [h1, List.setIfInBounds_toArray, pcs_set hq 6 (by decide)]
    rfl
  · have hk : min (max sz 1) 7 = ((sz.toNat : Nat) : Int) := by
      rcases hsz (show 7 ≤ 11 by decide) with h | h <;> (simp only at h; subst h; decide)
    refine (read_version sz lo hi sz.toNat hk w K g gq hne hK rest f H hb hlen _ _ Rq (Cq 7 (by decide))).mono ?_
    rintro e w' ⟨rfl, h1, h2, h3⟩
    refine ⟨rfl, ?_, h2, h3⟩
    rw [h1, List.setIfInBounds_toArray, pcs_set hq 7 (by decide)]
    rfl
  · have hk : min (max sz 1) 7 = ((sz.toNat : Nat) : Int) := by
      rcases hsz (show 8 ≤ 11 by decide) with h | h <;> (simp only at h; subst h; decide)
    refine (read_ack sz lo hi sz.toNat hk w K g gq hne hK rest f H hb hlen _ _ Rq (Cq 8 (by decide))).mono ?_
    rintro e w' ⟨rfl, h1, h2, h3⟩
    refine ⟨rfl, ?_, h2, h3⟩
    rw [h1, List.setIfInBounds_toArray, pcs_set hq 8 (by decide)]
    rfl
  · have hk : min (max sz 1) 7 = ((sz.toNat : Nat) : Int) := by
      rcases hsz (show 9 ≤ 11 by decide) with h | h <;> (simp only at h; subst h; decide)
    refine (read_sack sz lo hi sz.toNat hk w K g gq hne hK rest f H hb hlen _ _ Rq (Cq 9 (by decide))).mono ?_
    rintro e w' ⟨rfl, h1, h2, h3⟩
    refine ⟨rfl, ?_, h2, h3⟩
    rw [h1, List.setIfInBounds_toArray, pcs_set hq 9 (by decide)]
    rfl
  · have hk : min (max sz 1) 7 = ((sz.toNat : Nat) : Int) := by
      rcases hsz (show 10 ≤ 11 by decide) with h | h <;> (simp only at h; subst h; decide)
    refine (read_nonce sz lo hi sz.toNat hk w K g gq hne hK rest f H hb hlen _ _ Rq (Cq 10 (by decide))).mono ?_
    rintro e w' ⟨rfl, h1, h2, h3⟩
    refine ⟨rfl, ?_, h2, h3⟩
    rw [h1, List.setIfInBounds_toArray, pcs_set hq 10 (by decide)]
    rfl
  · have hk : min (max sz 1) 7 = ((sz.toNat : Nat) : Int) := by
      rcases hsz (show 11 ≤ 11 by decide) with h | h <;> (simp only at h; subst h; decide)
    refine (read_epoch sz lo hi sz.toNat hk w K g gq hne hK rest f H hb hlen _ _ Rq (Cq 11 (by decide))).mono ?_
    rintro e w' ⟨rfl, h1, h2, h3⟩
    refine ⟨rfl, ?_, h2, h3⟩
    rw [h1, List.setIfInBounds_toArray, pcs_set hq 11 (by decide)]
    rfl
  · refine (read_secret sz lo hi w K g gq hne hK rest f H hlen _ (pcs_len hq) Rq).mono ?_
    rintro e w' ⟨rfl, h1, h2, h3⟩
    refine ⟨rfl, ?_, h2, h3⟩
    rw [h1]
    cases hbad : nbad rest f 16 with
    | true =>
      have e1 : ntake rest f 16 = [] := by simp [ntake, hbad]
      have e2 : Pt5.rd ⟨12, sz, lo, hi⟩ rest f q = q := by simp [Pt5.rd, Pt5.am, hbad]
      rw [e1, e2]
      simp [splice, nrow]
    | false =>
      have hl : 16 ≤ rest.length := by
        simp [nbad] at hbad
        omega
      have e1 : ntake rest f 16 = rest.take 16 := by simp [ntake, hbad]
      have e2 : Pt5.rd ⟨12, sz, lo, hi⟩ rest f q = { q with s := rest.take 16 } := by simp [Pt5.rd, Pt5.am, hbad]
      rw [e1, e2, splice_secret hq (by rw [List.length_take]; omega)]
  · refine (read_tag sz lo hi w K g gq hne hK rest f H hlen _ (pcs_len hq) Rq).mono ?_
    rintro e w' ⟨rfl, h1, h2, h3⟩
    refine ⟨rfl, ?_, h2, h3⟩
    rw [h1]
    cases hbad : nbad rest f 8 with
    | true =>
      have e1 : ntake rest f 8 = [] := by simp [ntake, hbad]
      have e2 : Pt5.rd ⟨13, sz, lo, hi⟩ rest f q = q := by simp [Pt5.rd, Pt5.am, hbad]
      rw [e1, e2]
      simp [splice, nrow]
    | false =>
      have hl : 8 ≤ rest.length := by
        simp [nbad] at hbad
        omega
      have e1 : ntake rest f 8 = rest.take 8 := by simp [ntake, hbad]
      have e2 : Pt5.rd ⟨13, sz, lo, hi⟩ rest f q = { q with t := rest.take 8 } := by simp [Pt5.rd, Pt5.am, hbad]
      rw [e1, e2, splice_tag hq (by rw [List.length_take]; omega)]
end Go.Proofs.Ytnfdfnkhjlkdhaa
