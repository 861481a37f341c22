/- Texts of this proof, merged: Tag, WireMath, Wire, Mem6. -/
import Derived.Test.YtpglhkjgcahdbaaDoorQ6
import Derived.Deep.CutRange
import Derived.Test.YtpglhkjgcahdbaaDoorQ4
import Derived.Test.YtpglhkjgcahdbaaDoorQ5
import Derived.Laws.ResultCell
import Derived.Laws.OwnMore
/- The key of a session, by the program. -/
namespace Go.Proofs.YtpglhkjgcahdbaaDoor
open Go.ChangeShapes Go.WideShapes Go.ChangeAt Go.RowKit
abbrev z16 : List Int := List.replicate 16 0
theorem zero_b16 (W : World) : (zeroValue b16T).run Tryd.prog W = .ok (.agg (nrow .u8 z16).toArray) W := by kernel_rfl
theorem info_b16 : (Tryd.prog.info? b16T).map (·.size) = some 16 := by kernel_rfl
theorem z16_len : (nrow .u8 z16).length = 16 := rfl
theorem lay_wf (x : Int) (k : Nat) : ∀ z ∈ lay x k, 0 ≤ z ∧ z < 256 := fun z hz => by have := lay_byte x k z hz; omega
/-- The key of a session. -/
def tk (key : List Int) (s n : Int) : List Int := (Mac.hmac key (lay s 7 ++ lay n 7)).take 16
theorem tk_len (key : List Int) (s n : Int) : (tk key s n).length = 16 := by
  unfold tk
  rw [List.length_take, Mac.hmac_len]; rfl
theorem arr_at (W : World) (x : Option Addr) (n c : Nat) (h : 16 ≤ n) : (Instr.arrayAt b16T (.slice x n c)).run Tryd.prog W = .ok (.pointer x) W := by
  have h2 : ¬ n < 16 := by omega
  simp [Instr.arrayAt, run_underlying Tryd.underlying23, h2]
theorem arr8_at (W : World) (x : Option Addr) (n c : Nat) (h : 8 ≤ n) : (Instr.arrayAt b8T (.slice x n c)).run Tryd.prog W = .ok (.pointer x) W := by
  have h2 : ¬ n < 8 := by omega
  simp [Instr.arrayAt, run_underlying Tryd.underlying24, h2]
theorem range_take {W : World} {g m : Nat} {L : List Value} {t : TypeId} (h : W.heap[g]? = some (.cells L.toArray t)) : W.rangeAt g 0 (L.take m) := fun j v hv => by
  have h2 : L[j]? = some v := by
    rw [List.getElem?_take] at hv
    split at hv
    · exact hv
    · cases hv
  exact range_row h j v h2
theorem put7_any (w : World) (x : Int) (wx : -9223372036854775808 ≤ x ∧ x ≤ 9223372036854775807) :
    Calls Tryd.prog 22 #[.slice none 0 0, .int .i64 x, .int .i64 7] w fun e w' => ∃ A' c', e = .returned (.slice A' 7 c') ∧ (7 ≤ c' ∧ c' ≤ maxLen) ∧ Nums .u8 w' A' (lay x 7) ∧ Below w.heap.size w w' := by
  refine (put_any w none 0 0 [] rfl Nums.nil (by decide) x 7 wx 7 rfl).mono ?_
  rintro e w' ⟨A', c', rfl, hO, hB⟩
  rw [List.nil_append] at hO
  have hl := hO.len
  rw [lay_len] at hl
  exact ⟨A', c', rfl, hl, hO.nums, hB⟩
set_option maxRecDepth 100000 in
set_option maxHeartbeats 2000000 in
theorem key_any (w : World) (A : Option Addr) (n cap : Nat) (key : List Int) (hn : key.length = n) (hN : Nums .u8 w A key) (hc : n ≤ cap) (hm : cap ≤ maxLen) (hlen : n ≤ 1000000) (hwf : ∀ z ∈ key, 0 ≤ z ∧ z < 256)
    (a m : Int) (wa : -9223372036854775808 ≤ a ∧ a ≤ 9223372036854775807) (wm : -9223372036854775808 ≤ m ∧ m ≤ 9223372036854775807) (c : List Int) (hck : tk key a m = c) (ht : Kt w) :
    Calls Tryd.prog 11 #[.slice A n cap, .int .i64 a, .int .i64 m] w fun x w' => x = .returned (.agg (nrow .u8 c).toArray) ∧ Below w.heap.size w w' := by
  have z0 := zero_b32'
  have z1 := zero_b16
  have HN := Lib.hid hN
  have Hn := Lib.hid hn
  have Hwf := Lib.hid hwf
  have HT := Lib.hid ht
  have HC := Lib.hid (And.intro hc (And.intro hm hlen))
  obtain ⟨r, hr⟩ : ∃ r, Mac.hmac key (lay a 7 ++ lay m 7) = r := ⟨_, rfl⟩
  have hr32 : r.length = 32 := by rw [← hr]; exact Mac.hmac_len _ _
  have hcr : r.take 16 = c := by rw [← hck, ← hr]; rfl
  have SN := sha_new r hr32
  have LR : (nrow .u8 r).length = 32 := by rw [nrow_len]; exact hr32
  have Hr := Lib.hid hr
  have Hcr := Lib.hid hcr
  have Wa := Lib.hid wa
  have Wm := Lib.hid wm
  have Hmw := Lib.hid (show ∀ z ∈ lay a 7 ++ lay m 7, 0 ≤ z ∧ z < 256 from Mac.app_wf (lay_wf _ _) (lay_wf _ _))
  have Hl7 := Lib.hid (fun x => lay_len x 7)
  clear hN hn hwf ht hc hm hlen hr hr32 hcr hck wa wm
  go_enter Tryd.func11, Tryd.ntmps11
  go_wp2_with fail
  have RR := row_new (W := w) (cs := (nrow .u8 z16).toArray) (t := b16T) (m := (0, 0))
  have B0 : Below w.heap.size w (w.alloc (.cells (nrow .u8 z16).toArray b16T)) := (Below.refl _ _).alloc (Nat.le_refl _) _
  generalize w.alloc (.cells (nrow .u8 z16).toArray b16T) = W0 at RR B0 ⊢
  refine (put7_any W0 a Wa.out).mono ?_
  rintro x w1 ⟨A1, c1, rfl, hc1, hN1, hB1⟩
  have RR := row_kept RR hB1 (row_lt RR)
  have B1 := B0.trans (hB1.mono B0.size)
  clear hB1 B0
  go_wp2_with fail
  refine (put7_any w1 m Wm.out).mono ?_
  rintro x w2 ⟨A2, c2, rfl, hc2, hN2, hB2⟩
  have RR := row_kept RR hB2 (row_lt RR)
  have B2 := B1.trans (hB2.mono B1.size)
  have hN1 := hN1.below hB2
  have P1 := parts_two (t := 22) (W := w2) (g := w2.heap.size) (ca := c1) (cb := c2) rfl hN1 (Hl7.out a) hc1.1 hc1.2 hN2 (Hl7.out m) hc2.1 hc2.2
  have A1' := (Below.refl w2.heap.size w2).alloc (Nat.le_refl _) (.cells #[.slice A1 7 c1, .slice A2 7 c2] 22)
  have B3 := B2.trans (A1'.mono B2.size)
  have RR := row_kept RR A1' (row_lt RR)
  have K2 := HT.out.keep B3 HT.out.2
  clear hB2 B1 B2 hN1 hN2 A1'
  go_wp2_with fail
  refine (of_any _ A n cap key Hn.out (HN.out.below B3) HC.out.1 HC.out.2.1 HC.out.2.2 Hwf.out _ 2 2 _ (lay a 7 ++ lay m 7) r (by simp [flat]) Hr.out rfl (Nat.le_refl _) (show (2 : Nat) ≤ maxLen by decide) P1 (by simp [Hl7.out]) (by decide) Hmw.out K2).mono ?_
  rintro x w3 ⟨rfl, hB3⟩
  have RR := row_kept RR hB3 (row_lt RR)
  have B4 := B3.trans (hB3.mono B3.size)
  clear hB3 K2 P1 B3
  go_upto_region 2 with (fail)
  have AN := (Below.refl w3.heap.size w3).alloc (Nat.le_refl _) (.cells (nrow .u8 r).toArray b32T)
  have RG := row_new (W := w3) (cs := (nrow .u8 r).toArray) (t := b32T) (m := (0, 0))
  have RC := row_kept RR AN (row_lt RR)
  have BW := B4.trans (AN.mono B4.size)
  generalize w3.alloc (.cells (nrow .u8 r).toArray b32T) = V at RG RC BW ⊢
  have RT := Lib.hid (range_take (m := 16) RG)
  have LT : (nrow .u8 r).take 16 = nrow .u8 c := by rw [← Hcr.out]; simp [nrow, List.map_take]
  have LC : (nrow .u8 c).length = 16 := by rw [← LT, List.length_take, LR]; rfl
  rw [LT] at RT
  have hAA := fun W x c => arr_at W x 16 c (Nat.le_refl 16)
  clear AN RG RR SN B4
  go_wp2_with (first
    | (refine wpList_load_mid rfl b16T (.tmp 16) rfl w3.heap.size 0 rfl (nrow .u8 c) _ RT.out Tryd.underlying23 rfl (by rw [info_b16, LC]) ?_)
    | (refine wpl_arr_store info_b16 rfl (.tmp 6) (.tmp 17) rfl w.heap.size (nrow .u8 c) (nrow .u8 z16) LC z16_len (nrow_one _ _) rfl rfl RC ?_))
  exact bodyPost_ret (arr_results Tryd.underlying23 info_b16 Tryd.results11 LC rfl (row_written RC)) rfl ⟨rfl, setRow_below BW (Nat.le_refl _)⟩
end Go.Proofs.YtpglhkjgcahdbaaDoor
/- What a packet of each kind holds; which packets are right; their bytes. No program in it but its numbers of functions. -/
namespace Go.Proofs.YtpglhkjgcahdbaaDoor
open Go.RowKit
/-- One thing that a packet holds: the place (12: Secret, 13: Tag), in how many bytes, from what to what. -/
structure Pt5 where
  j : Nat
  sz : Int
  lo : Int
  hi : Int
def fnPart (j : Nat) : FuncId :=
  if j = 1 then 67 else if j = 2 then 68 else if j = 3 then 66 else if j = 4 then 71
  else if j = 5 then 70 else if j = 6 then 73 else if j = 7 then 72 else if j = 8 then 74
  else if j = 9 then 75 else if j = 10 then 63 else if j = 11 then 64 else if j = 12 then 65 else 69
/-- Its cells. -/
def Pt5.cs (x : Pt5) : List Value := [if x.j ≤ 11 then .func (.func (fnPart x.j)) #[] #[] else .nilFunc, if x.j ≤ 11 then .nilFunc else .func (.func (fnPart x.j)) #[] #[], .int .i64 x.sz, .int .i64 x.lo, .int .i64 x.hi]
theorem Pt5.cs_len (x : Pt5) : x.cs.length = 5 := rfl
def Pt5.fits (x : Pt5) (p : Pk) : Bool := if x.j ≤ 11 then decide (x.lo ≤ p.h.getD x.j 0) && decide (p.h.getD x.j 0 ≤ x.hi) else true
def Pt5.copy (x : Pt5) (p q : Pk) : Pk := if x.j ≤ 11 then { q with h := q.h.set x.j (p.h.getD x.j 0) } else if x.j = 12 then { q with s := p.s } else { q with t := p.t }
def Pt5.put (x : Pt5) (p : Pk) : List Int := if x.j ≤ 11 then lay (p.h.getD x.j 0) x.sz.toNat else if x.j = 12 then p.s else p.t
structure Pt5.Ok (x : Pt5) : Prop where
  j1 : 1 ≤ x.j
  j2 : x.j ≤ 13
  sz : x.j ≤ 11 → x.sz = 1 ∨ x.sz = 4
def ptSession : Pt5 := ⟨1, 4, 1, 1073741824⟩
def ptSeq : Pt5 := ⟨2, 4, 1, 1073741824⟩
def ptUser (l : Int) : Pt5 := ⟨3, 1, l, 16⟩
def ptOp (l m : Int) : Pt5 := ⟨4, 1, l, m⟩
def ptStatus (l : Int) : Pt5 := ⟨5, 1, l, 3⟩
def ptCount : Pt5 := ⟨6, 1, 0, 4⟩
def ptVersion : Pt5 := ⟨7, 4, 0, 1073741824⟩
def ptAck : Pt5 := ⟨8, 4, 0, 1073741824⟩
def ptSack : Pt5 := ⟨9, 1, 0, 255⟩
def ptNonce : Pt5 := ⟨10, 4, 0, 1073741824⟩
def ptEpoch : Pt5 := ⟨11, 4, 0, 1073741824⟩
def ptSecret : Pt5 := ⟨12, 0, 0, 0⟩
def ptTag : Pt5 := ⟨13, 0, 0, 0⟩
/-- What a packet of a kind holds. -/
def held (k : Int) : List Pt5 :=
  if k = 1 then [ptNonce] else if k = 2 then [ptNonce, ptEpoch, ptSecret] else if k = 3 then [ptUser 1, ptNonce, ptEpoch, ptSecret] else if k = 4 then [ptSession, ptNonce, ptSecret]
  else if k = 5 then [ptSession, ptSeq, ptTag] else if k = 6 then [ptSession, ptSeq, ptStatus 1, ptTag] else if k = 7 then [ptSession, ptSeq, ptOp 1 7, ptUser 1, ptTag]
  else if k = 8 then [ptSession, ptSeq, ptUser 0, ptVersion, ptStatus 0, ptCount, ptTag] else if k = 9 then [ptSession, ptAck, ptSack, ptTag] else if k = 10 then [ptSession, ptSeq, ptTag]
  else if k = 11 then [ptSession, ptSeq, ptOp 0 15, ptTag] else if k = 12 then [ptNonce, ptOp 0 15] else []
theorem held_cases (k : Int) : k = 1 ∨ k = 2 ∨ k = 3 ∨ k = 4 ∨ k = 5 ∨ k = 6 ∨ k = 7 ∨ k = 8 ∨ k = 9 ∨ k = 10 ∨ k = 11 ∨ k = 12 ∨ (k ≠ 1 ∧ k ≠ 2 ∧ k ≠ 3 ∧ k ≠ 4 ∧ k ≠ 5 ∧ k ≠ 6 ∧ k ≠ 7 ∧ k ≠ 8 ∧ k ≠ 9 ∧ k ≠ 10 ∧ k ≠ 11 ∧ k ≠ 12) := by omega
theorem held_none {k : Int} (h : k ≠ 1 ∧ k ≠ 2 ∧ k ≠ 3 ∧ k ≠ 4 ∧ k ≠ 5 ∧ k ≠ 6 ∧ k ≠ 7 ∧ k ≠ 8 ∧ k ≠ 9 ∧ k ≠ 10 ∧ k ≠ 11 ∧ k ≠ 12) : held k = [] := by
  obtain ⟨h1, h2, h3, h4, h5, h6, h7, h8, h9, h10, h11, h12⟩ := h
  simp only [held, h1, h2, h3, h4, h5, h6, h7, h8, h9, h10, h11, h12, if_false]
theorem held_ok (k : Int) : ∀ x ∈ held k, x.Ok := by
  rcases held_cases k with rfl | rfl | rfl | rfl | rfl | rfl | rfl | rfl | rfl | rfl | rfl | rfl | h
  case inr.inr.inr.inr.inr.inr.inr.inr.inr.inr.inr.inr => rw [held_none h]; intro x hx; cases hx
  all_goals
    intro x hx
    simp [held] at hx
    (first | (rcases hx with rfl | rfl | rfl | rfl | rfl | rfl | rfl) | (rcases hx with rfl | rfl | rfl | rfl | rfl) | (rcases hx with rfl | rfl | rfl | rfl) | (rcases hx with rfl | rfl | rfl) | (rcases hx with rfl | rfl) | (subst hx))
    all_goals exact ⟨by decide, by decide, by decide⟩
theorem held_len (k : Int) : (held k).length ≤ 7 := by
  rcases held_cases k with rfl | rfl | rfl | rfl | rfl | rfl | rfl | rfl | rfl | rfl | rfl | rfl | h
  case inr.inr.inr.inr.inr.inr.inr.inr.inr.inr.inr.inr => rw [held_none h]; decide
  all_goals decide
def Pk.kind (p : Pk) : Int := p.h.getD 0 0
def pkBare (k : Int) : Pk := ⟨(List.replicate 12 0).set 0 k, List.replicate 16 0, List.replicate 8 0⟩
theorem pkBare_wf (k : Int) : (pkBare k).Wf := ⟨rfl, rfl, rfl⟩
def Pk.copied (p : Pk) (l : List Pt5) : Pk := l.foldl (fun q x => x.copy p q) (pkBare p.kind)
def Pk.nobody (p : Pk) : Bool := decide (p.kind = 8) && decide (p.h.getD 3 0 = 0) && !(decide (p.h.getD 7 0 = 0) && decide (p.h.getD 5 0 = 0) && decide (p.h.getD 6 0 = 0))
/-- Whether a packet is right. -/
def Pk.right (p : Pk) : Bool := (held p.kind).all (fun x => x.fits p) && (decide (held p.kind ≠ []) && decide (p = p.copied (held p.kind)) && !p.nobody)
/-- Its bytes. -/
def Pk.laid (p : Pk) (l : List Pt5) : List Int := lay p.kind 1 ++ l.flatMap (fun x => x.put p)
def Pk.enc (p : Pk) : List Int := p.laid (held p.kind)
theorem Pt5.copy_wf {x : Pt5} {p q : Pk} (hp : p.Wf) (hq : q.Wf) : (x.copy p q).Wf := by
  unfold Pt5.copy
  split
  · exact ⟨by simpa using hq.h, hq.s, hq.t⟩
  · split
    · exact ⟨hq.h, hp.s, hq.t⟩
    · exact ⟨hq.h, hq.s, hp.t⟩
theorem Pk.copied_snoc (p : Pk) (l : List Pt5) (x : Pt5) : p.copied (l ++ [x]) = x.copy p (p.copied l) := by simp [Pk.copied, List.foldl_append]
theorem Pk.copied_wf {p : Pk} (hp : p.Wf) (l : List Pt5) : (p.copied l).Wf := by
  unfold Pk.copied
  have : ∀ (l : List Pt5) (q : Pk), q.Wf → (l.foldl (fun q x => x.copy p q) q).Wf := fun l => by
    induction l with
    | nil => intro q hq; exact hq
    | cons x r ih => intro q hq; exact ih _ (Pt5.copy_wf hp hq)
  exact this l _ (pkBare_wf _)
theorem Pk.laid_snoc (p : Pk) (l : List Pt5) (x : Pt5) : p.laid (l ++ [x]) = p.laid l ++ x.put p := by simp [Pk.laid, List.append_assoc]
theorem Pt5.put_len {x : Pt5} {p : Pk} (hx : x.Ok) (hp : p.Wf) : (x.put p).length ≤ 16 := by
  unfold Pt5.put
  split
  · rename_i h
    rw [lay_len]
    rcases hx.sz h with h | h <;> rw [h] <;> decide
  · split
    · rw [hp.s]; exact Nat.le_refl _
    · rw [hp.t]; decide
theorem Pk.laid_len {p : Pk} (hp : p.Wf) : ∀ l : List Pt5, (∀ x ∈ l, x.Ok) → (p.laid l).length ≤ 1 + 16 * l.length := by
  intro l
  unfold Pk.laid
  rw [List.length_append, lay_len]
  intro h
  have : ∀ l : List Pt5, (∀ x ∈ l, x.Ok) → (l.flatMap (fun x => x.put p)).length ≤ 16 * l.length := by
    intro l
    induction l with
    | nil => intro _; simp
    | cons x r ih =>
      intro h
      rw [List.flatMap_cons, List.length_append, List.length_cons]
      have h1 := Pt5.put_len (h x (List.mem_cons_self ..)) hp
      have h2 := ih (fun y hy => h y (List.mem_cons_of_mem _ hy))
      omega
  have := this l h
  omega
/-- The slice of parts that 'held' hands back. -/
def PtsAt (w : World) (A : Option Addr) (l : List Pt5) : Prop := l = [] ∨ ∃ g t, A = some ⟨g, 0, none⟩ ∧ w.heap[g]? = some (.cells (l.flatMap Pt5.cs).toArray t)
theorem PtsAt.below {w w' : World} {A : Option Addr} {l : List Pt5} (h : PtsAt w A l) (hb : Below w.heap.size w w') : PtsAt w' A l := by
  rcases h with h | ⟨g, t, h1, h2⟩
  · exact Or.inl h
  · exact Or.inr ⟨g, t, h1, row_kept h2 hb (row_lt h2)⟩
theorem flat5_at : ∀ (l : List Pt5) (i : Nat) (x : Pt5), l[i]? = some x → ∀ (j : Nat), j < 5 → (l.flatMap Pt5.cs)[i * 5 + j]? = x.cs[j]?
  | [], i, x, h, _, _ => by cases h
  | y :: r, 0, x, h, j, hj => by
    simp at h
    subst h
    rw [List.flatMap_cons, List.getElem?_append_left (by rw [Pt5.cs_len]; omega)]
    simp
  | y :: r, i + 1, x, h, j, hj => by
    rw [List.flatMap_cons, List.getElem?_append_right (by rw [Pt5.cs_len]; omega), Pt5.cs_len]
    have := flat5_at r i x (by simpa using h) j hj
    rw [show (i + 1) * 5 + j - 5 = i * 5 + j by omega]
    exact this
theorem range5 {W : World} {g : Nat} {l : List Pt5} {t : TypeId} (h : W.heap[g]? = some (.cells (l.flatMap Pt5.cs).toArray t)) {i : Nat} {x : Pt5} (hx : l[i]? = some x) : W.rangeAt g (i * 5) x.cs := fun j v hv => by
  have hj : j < 5 := by
    have := (List.getElem?_eq_some_iff.1 hv).1
    rwa [Pt5.cs_len] at this
  rw [cell_of_row _ _ _ _ _ _ h, List.getElem?_toArray, flat5_at l i x hx j hj]
  exact hv
theorem Pt5.cs_one (x : Pt5) : ∀ v ∈ x.cs, v.oneCell' = true := by
  intro v hv
  simp only [Pt5.cs, List.mem_cons, List.not_mem_nil, or_false] at hv
  rcases hv with rfl | rfl | rfl | rfl | rfl
  · split <;> rfl
  · split <;> rfl
  · rfl
  · rfl
  · rfl
end Go.Proofs.YtpglhkjgcahdbaaDoor
/- What the parts of a packet come to: where they are, what holds of them. -/
namespace Go.Proofs.YtpglhkjgcahdbaaDoor
open Go.ChangeShapes Go.WideShapes Go.ChangeAt Go.RowKit
abbrev ptT : TypeId := 50
theorem info_pt : (Tryd.prog.info? ptT).map (·.size) = some 5 := by kernel_rfl
abbrev ptZ : List Value := [.nilFunc, .nilFunc, .int .i64 0, .int .i64 0, .int .i64 0]
theorem zero_pt (W : World) : (zeroValue ptT).run Tryd.prog W = .ok (.agg ptZ.toArray) W := by kernel_rfl
theorem row_results {P : Program} {T : TypeId} {d : TypeDesc} {n : Nat} {fn : Func} {u : Tmp} (hu : P.underlying T = some d) (hd : d.isRow = true) (hi : (P.info? T).map (·.size) = some n) (hr : fn.results = #[.cell u T]) {tmps : Array Value} {W : World} {g : Nat} {L : List Value} (hL : L.length = n) (h6 : tmps.getD u undef = .pointer (some ⟨g, 0, none⟩)) (hW : W.heap[g]? = some (.cells L.toArray T)) :
    (results fn tmps).run P W = .ok (.agg L.toArray) W := by
  have hl := run_loadVar_mid (P := P) W g 0 T L _ (range_row hW) hu hd (by rw [hi, hL])
  rw [results_cell_one hr tmps P W, h6]
  simp only [asAddr, Sem.run_pure, Result.andThen_ok, hl]
theorem at_session (w : World) (g : Nat) : Calls Tryd.prog 67 #[.pointer (some ⟨g, 0, none⟩)] w fun e w' => e = .returned (.pointer (some ⟨g, 1, none⟩)) ∧ w = w' := by
  go_enter Tryd.func67, Tryd.ntmps67
  go_wp2
  go_ret
  exact ⟨rfl, rfl⟩
theorem at_seq (w : World) (g : Nat) : Calls Tryd.prog 68 #[.pointer (some ⟨g, 0, none⟩)] w fun e w' => e = .returned (.pointer (some ⟨g, 2, none⟩)) ∧ w = w' := by
  go_enter Tryd.func68, Tryd.ntmps68
  go_wp2
  go_ret
  exact ⟨rfl, rfl⟩
theorem at_user (w : World) (g : Nat) : Calls Tryd.prog 66 #[.pointer (some ⟨g, 0, none⟩)] w fun e w' => e = .returned (.pointer (some ⟨g, 3, none⟩)) ∧ w = w' := by
  go_enter Tryd.func66, Tryd.ntmps66
  go_wp2
  go_ret
  exact ⟨rfl, rfl⟩
theorem at_op (w : World) (g : Nat) : Calls Tryd.prog 71 #[.pointer (some ⟨g, 0, none⟩)] w fun e w' => e = .returned (.pointer (some ⟨g, 4, none⟩)) ∧ w = w' := by
  go_enter Tryd.func71, Tryd.ntmps71
  go_wp2
  go_ret
  exact ⟨rfl, rfl⟩
theorem at_status (w : World) (g : Nat) : Calls Tryd.prog 70 #[.pointer (some ⟨g, 0, none⟩)] w fun e w' => e = .returned (.pointer (some ⟨g, 5, none⟩)) ∧ w = w' := by
  go_enter Tryd.func70, Tryd.ntmps70
  go_wp2
  go_ret
  exact ⟨rfl, rfl⟩
theorem at_count (w : World) (g : Nat) : Calls Tryd.prog 73 #[.pointer (some ⟨g, 0, none⟩)] w fun e w' => e = .returned (.pointer (some ⟨g, 6, none⟩)) ∧ w = w' := by
  go_enter Tryd.func73, Tryd.ntmps73
  go_wp2
  go_ret
  exact ⟨rfl, rfl⟩
theorem at_version (w : World) (g : Nat) : Calls Tryd.prog 72 #[.pointer (some ⟨g, 0, none⟩)] w fun e w' => e = .returned (.pointer (some ⟨g, 7, none⟩)) ∧ w = w' := by
  go_enter Tryd.func72, Tryd.ntmps72
  go_wp2
  go_ret
  exact ⟨rfl, rfl⟩
theorem at_ack (w : World) (g : Nat) : Calls Tryd.prog 74 #[.pointer (some ⟨g, 0, none⟩)] w fun e w' => e = .returned (.pointer (some ⟨g, 8, none⟩)) ∧ w = w' := by
  go_enter Tryd.func74, Tryd.ntmps74
  go_wp2
  go_ret
  exact ⟨rfl, rfl⟩
theorem at_sack (w : World) (g : Nat) : Calls Tryd.prog 75 #[.pointer (some ⟨g, 0, none⟩)] w fun e w' => e = .returned (.pointer (some ⟨g, 9, none⟩)) ∧ w = w' := by
  go_enter Tryd.func75, Tryd.ntmps75
  go_wp2
  go_ret
  exact ⟨rfl, rfl⟩
theorem at_nonce (w : World) (g : Nat) : Calls Tryd.prog 63 #[.pointer (some ⟨g, 0, none⟩)] w fun e w' => e = .returned (.pointer (some ⟨g, 10, none⟩)) ∧ w = w' := by
  go_enter Tryd.func63, Tryd.ntmps63
  go_wp2
  go_ret
  exact ⟨rfl, rfl⟩
theorem at_epoch (w : World) (g : Nat) : Calls Tryd.prog 64 #[.pointer (some ⟨g, 0, none⟩)] w fun e w' => e = .returned (.pointer (some ⟨g, 11, none⟩)) ∧ w = w' := by
  go_enter Tryd.func64, Tryd.ntmps64
  go_wp2
  go_ret
  exact ⟨rfl, rfl⟩
theorem at_secret (w : World) (g : Nat) : Calls Tryd.prog 65 #[.pointer (some ⟨g, 0, none⟩)] w fun e w' => e = .returned (.slice (some ⟨g, 12, none⟩) 16 16) ∧ w = w' := by
  go_enter Tryd.func65, Tryd.ntmps65
  go_wp2
  go_ret
  exact ⟨rfl, rfl⟩
theorem at_tag (w : World) (g : Nat) : Calls Tryd.prog 69 #[.pointer (some ⟨g, 0, none⟩)] w fun e w' => e = .returned (.slice (some ⟨g, 28, none⟩) 8 8) ∧ w = w' := by
  go_enter Tryd.func69, Tryd.ntmps69
  go_wp2
  go_ret
  exact ⟨rfl, rfl⟩
theorem is_session (w : World) : Calls Tryd.prog 44 #[] w fun e w' => e = .returned (.agg #[.func (.func 67) #[] #[], .nilFunc, .int .i64 4, .int .i64 1, .int .i64 1073741824]) ∧ Below w.heap.size w w' := by
  go_enter Tryd.func44, Tryd.ntmps44
  have R := row_new (W := w) (cs := ptZ.toArray) (t := ptT) (m := (0, 0))
  have B : Below w.heap.size w (w.alloc (.cells ptZ.toArray ptT)) := (Below.refl _ _).alloc (Nat.le_refl _) _
  go_wp2_with (first
    | (refine wpl_arr_store info_pt rfl (.tmp 0) (.tmp 1) rfl w.heap.size [.func (.func 67) #[] #[], .nilFunc, .int .i64 4, .int .i64 1, .int .i64 1073741824] ptZ rfl rfl (by simp [Value.oneCell']) rfl rfl R ?_))
  exact bodyPost_ret (row_results Tryd.underlying50 rfl info_pt Tryd.results44 rfl rfl (row_written R)) rfl ⟨rfl, setRow_below B (Nat.le_refl _)⟩
theorem is_seq (w : World) : Calls Tryd.prog 45 #[] w fun e w' => e = .returned (.agg #[.func (.func 68) #[] #[], .nilFunc, .int .i64 4, .int .i64 1, .int .i64 1073741824]) ∧ Below w.heap.size w w' := by
  go_enter Tryd.func45, Tryd.ntmps45
  have R := row_new (W := w) (cs := ptZ.toArray) (t := ptT) (m := (0, 0))
  have B : Below w.heap.size w (w.alloc (.cells ptZ.toArray ptT)) := (Below.refl _ _).alloc (Nat.le_refl _) _
  go_wp2_with (first
    | (refine wpl_arr_store info_pt rfl (.tmp 0) (.tmp 1) rfl w.heap.size [.func (.func 68) #[] #[], .nilFunc, .int .i64 4, .int .i64 1, .int .i64 1073741824] ptZ rfl rfl (by simp [Value.oneCell']) rfl rfl R ?_))
  exact bodyPost_ret (row_results Tryd.underlying50 rfl info_pt Tryd.results45 rfl rfl (row_written R)) rfl ⟨rfl, setRow_below B (Nat.le_refl _)⟩
theorem is_user (w : World) (l : Int) : Calls Tryd.prog 43 #[.int .i64 l] w fun e w' => e = .returned (.agg #[.func (.func 66) #[] #[], .nilFunc, .int .i64 1, .int .i64 l, .int .i64 16]) ∧ Below w.heap.size w w' := by
  go_enter Tryd.func43, Tryd.ntmps43
  have R := row_new (W := w) (cs := ptZ.toArray) (t := ptT) (m := (0, 0))
  have B : Below w.heap.size w (w.alloc (.cells ptZ.toArray ptT)) := (Below.refl _ _).alloc (Nat.le_refl _) _
  go_wp2_with (first
    | (refine wpl_arr_store info_pt rfl (.tmp 2) (.tmp 4) rfl w.heap.size [.func (.func 66) #[] #[], .nilFunc, .int .i64 1, .int .i64 l, .int .i64 16] ptZ rfl rfl (by simp [Value.oneCell']) rfl rfl R ?_))
  exact bodyPost_ret (row_results Tryd.underlying50 rfl info_pt Tryd.results43 rfl rfl (row_written R)) rfl ⟨rfl, setRow_below B (Nat.le_refl _)⟩
theorem is_op (w : World) (l : Int) (m : Int) : Calls Tryd.prog 48 #[.int .i64 l, .int .i64 m] w fun e w' => e = .returned (.agg #[.func (.func 71) #[] #[], .nilFunc, .int .i64 1, .int .i64 l, .int .i64 m]) ∧ Below w.heap.size w w' := by
  go_enter Tryd.func48, Tryd.ntmps48
  have R := row_new (W := w) (cs := ptZ.toArray) (t := ptT) (m := (0, 0))
  have B : Below w.heap.size w (w.alloc (.cells ptZ.toArray ptT)) := (Below.refl _ _).alloc (Nat.le_refl _) _
  go_wp2_with (first
    | (refine wpl_arr_store info_pt rfl (.tmp 4) (.tmp 7) rfl w.heap.size [.func (.func 71) #[] #[], .nilFunc, .int .i64 1, .int .i64 l, .int .i64 m] ptZ rfl rfl (by simp [Value.oneCell']) rfl rfl R ?_))
  exact bodyPost_ret (row_results Tryd.underlying50 rfl info_pt Tryd.results48 rfl rfl (row_written R)) rfl ⟨rfl, setRow_below B (Nat.le_refl _)⟩
theorem is_status (w : World) (l : Int) : Calls Tryd.prog 47 #[.int .i64 l] w fun e w' => e = .returned (.agg #[.func (.func 70) #[] #[], .nilFunc, .int .i64 1, .int .i64 l, .int .i64 3]) ∧ Below w.heap.size w w' := by
  go_enter Tryd.func47, Tryd.ntmps47
  have R := row_new (W := w) (cs := ptZ.toArray) (t := ptT) (m := (0, 0))
  have B : Below w.heap.size w (w.alloc (.cells ptZ.toArray ptT)) := (Below.refl _ _).alloc (Nat.le_refl _) _
  go_wp2_with (first
    | (refine wpl_arr_store info_pt rfl (.tmp 2) (.tmp 4) rfl w.heap.size [.func (.func 70) #[] #[], .nilFunc, .int .i64 1, .int .i64 l, .int .i64 3] ptZ rfl rfl (by simp [Value.oneCell']) rfl rfl R ?_))
  exact bodyPost_ret (row_results Tryd.underlying50 rfl info_pt Tryd.results47 rfl rfl (row_written R)) rfl ⟨rfl, setRow_below B (Nat.le_refl _)⟩
theorem is_count (w : World) : Calls Tryd.prog 50 #[] w fun e w' => e = .returned (.agg #[.func (.func 73) #[] #[], .nilFunc, .int .i64 1, .int .i64 0, .int .i64 4]) ∧ Below w.heap.size w w' := by
  go_enter Tryd.func50, Tryd.ntmps50
  have R := row_new (W := w) (cs := ptZ.toArray) (t := ptT) (m := (0, 0))
  have B : Below w.heap.size w (w.alloc (.cells ptZ.toArray ptT)) := (Below.refl _ _).alloc (Nat.le_refl _) _
  go_wp2_with (first
    | (refine wpl_arr_store info_pt rfl (.tmp 0) (.tmp 1) rfl w.heap.size [.func (.func 73) #[] #[], .nilFunc, .int .i64 1, .int .i64 0, .int .i64 4] ptZ rfl rfl (by simp [Value.oneCell']) rfl rfl R ?_))
  exact bodyPost_ret (row_results Tryd.underlying50 rfl info_pt Tryd.results50 rfl rfl (row_written R)) rfl ⟨rfl, setRow_below B (Nat.le_refl _)⟩
theorem is_version (w : World) : Calls Tryd.prog 49 #[] w fun e w' => e = .returned (.agg #[.func (.func 72) #[] #[], .nilFunc, .int .i64 4, .int .i64 0, .int .i64 1073741824]) ∧ Below w.heap.size w w' := by
  go_enter Tryd.func49, Tryd.ntmps49
  have R := row_new (W := w) (cs := ptZ.toArray) (t := ptT) (m := (0, 0))
  have B : Below w.heap.size w (w.alloc (.cells ptZ.toArray ptT)) := (Below.refl _ _).alloc (Nat.le_refl _) _
  go_wp2_with (first
    | (refine wpl_arr_store info_pt rfl (.tmp 0) (.tmp 1) rfl w.heap.size [.func (.func 72) #[] #[], .nilFunc, .int .i64 4, .int .i64 0, .int .i64 1073741824] ptZ rfl rfl (by simp [Value.oneCell']) rfl rfl R ?_))
  exact bodyPost_ret (row_results Tryd.underlying50 rfl info_pt Tryd.results49 rfl rfl (row_written R)) rfl ⟨rfl, setRow_below B (Nat.le_refl _)⟩
theorem is_ack (w : World) : Calls Tryd.prog 51 #[] w fun e w' => e = .returned (.agg #[.func (.func 74) #[] #[], .nilFunc, .int .i64 4, .int .i64 0, .int .i64 1073741824]) ∧ Below w.heap.size w w' := by
  go_enter Tryd.func51, Tryd.ntmps51
  have R := row_new (W := w) (cs := ptZ.toArray) (t := ptT) (m := (0, 0))
  have B : Below w.heap.size w (w.alloc (.cells ptZ.toArray ptT)) := (Below.refl _ _).alloc (Nat.le_refl _) _
  go_wp2_with (first
    | (refine wpl_arr_store info_pt rfl (.tmp 0) (.tmp 1) rfl w.heap.size [.func (.func 74) #[] #[], .nilFunc, .int .i64 4, .int .i64 0, .int .i64 1073741824] ptZ rfl rfl (by simp [Value.oneCell']) rfl rfl R ?_))
  exact bodyPost_ret (row_results Tryd.underlying50 rfl info_pt Tryd.results51 rfl rfl (row_written R)) rfl ⟨rfl, setRow_below B (Nat.le_refl _)⟩
theorem is_sack (w : World) : Calls Tryd.prog 52 #[] w fun e w' => e = .returned (.agg #[.func (.func 75) #[] #[], .nilFunc, .int .i64 1, .int .i64 0, .int .i64 255]) ∧ Below w.heap.size w w' := by
  go_enter Tryd.func52, Tryd.ntmps52
  have R := row_new (W := w) (cs := ptZ.toArray) (t := ptT) (m := (0, 0))
  have B : Below w.heap.size w (w.alloc (.cells ptZ.toArray ptT)) := (Below.refl _ _).alloc (Nat.le_refl _) _
  go_wp2_with (first
    | (refine wpl_arr_store info_pt rfl (.tmp 0) (.tmp 1) rfl w.heap.size [.func (.func 75) #[] #[], .nilFunc, .int .i64 1, .int .i64 0, .int .i64 255] ptZ rfl rfl (by simp [Value.oneCell']) rfl rfl R ?_))
  exact bodyPost_ret (row_results Tryd.underlying50 rfl info_pt Tryd.results52 rfl rfl (row_written R)) rfl ⟨rfl, setRow_below B (Nat.le_refl _)⟩
theorem is_nonce (w : World) : Calls Tryd.prog 40 #[] w fun e w' => e = .returned (.agg #[.func (.func 63) #[] #[], .nilFunc, .int .i64 4, .int .i64 0, .int .i64 1073741824]) ∧ Below w.heap.size w w' := by
  go_enter Tryd.func40, Tryd.ntmps40
  have R := row_new (W := w) (cs := ptZ.toArray) (t := ptT) (m := (0, 0))
  have B : Below w.heap.size w (w.alloc (.cells ptZ.toArray ptT)) := (Below.refl _ _).alloc (Nat.le_refl _) _
  go_wp2_with (first
    | (refine wpl_arr_store info_pt rfl (.tmp 0) (.tmp 1) rfl w.heap.size [.func (.func 63) #[] #[], .nilFunc, .int .i64 4, .int .i64 0, .int .i64 1073741824] ptZ rfl rfl (by simp [Value.oneCell']) rfl rfl R ?_))
  exact bodyPost_ret (row_results Tryd.underlying50 rfl info_pt Tryd.results40 rfl rfl (row_written R)) rfl ⟨rfl, setRow_below B (Nat.le_refl _)⟩
theorem is_epoch (w : World) : Calls Tryd.prog 41 #[] w fun e w' => e = .returned (.agg #[.func (.func 64) #[] #[], .nilFunc, .int .i64 4, .int .i64 0, .int .i64 1073741824]) ∧ Below w.heap.size w w' := by
  go_enter Tryd.func41, Tryd.ntmps41
  have R := row_new (W := w) (cs := ptZ.toArray) (t := ptT) (m := (0, 0))
  have B : Below w.heap.size w (w.alloc (.cells ptZ.toArray ptT)) := (Below.refl _ _).alloc (Nat.le_refl _) _
  go_wp2_with (first
    | (refine wpl_arr_store info_pt rfl (.tmp 0) (.tmp 1) rfl w.heap.size [.func (.func 64) #[] #[], .nilFunc, .int .i64 4, .int .i64 0, .int .i64 1073741824] ptZ rfl rfl (by simp [Value.oneCell']) rfl rfl R ?_))
  exact bodyPost_ret (row_results Tryd.underlying50 rfl info_pt Tryd.results41 rfl rfl (row_written R)) rfl ⟨rfl, setRow_below B (Nat.le_refl _)⟩
theorem is_secret (w : World) : Calls Tryd.prog 42 #[] w fun e w' => e = .returned (.agg #[.nilFunc, .func (.func 65) #[] #[], .int .i64 0, .int .i64 0, .int .i64 0]) ∧ Below w.heap.size w w' := by
  go_enter Tryd.func42, Tryd.ntmps42
  have R := row_new (W := w) (cs := ptZ.toArray) (t := ptT) (m := (0, 0))
  have B : Below w.heap.size w (w.alloc (.cells ptZ.toArray ptT)) := (Below.refl _ _).alloc (Nat.le_refl _) _
  go_wp2_with (first
    | (refine wpl_arr_store info_pt rfl (.tmp 0) (.tmp 1) rfl w.heap.size [.nilFunc, .func (.func 65) #[] #[], .int .i64 0, .int .i64 0, .int .i64 0] ptZ rfl rfl (by simp [Value.oneCell']) rfl rfl R ?_))
  exact bodyPost_ret (row_results Tryd.underlying50 rfl info_pt Tryd.results42 rfl rfl (row_written R)) rfl ⟨rfl, setRow_below B (Nat.le_refl _)⟩
theorem is_tag (w : World) : Calls Tryd.prog 46 #[] w fun e w' => e = .returned (.agg #[.nilFunc, .func (.func 69) #[] #[], .int .i64 0, .int .i64 0, .int .i64 0]) ∧ Below w.heap.size w w' := by
  go_enter Tryd.func46, Tryd.ntmps46
  have R := row_new (W := w) (cs := ptZ.toArray) (t := ptT) (m := (0, 0))
  have B : Below w.heap.size w (w.alloc (.cells ptZ.toArray ptT)) := (Below.refl _ _).alloc (Nat.le_refl _) _
  go_wp2_with (first
    | (refine wpl_arr_store info_pt rfl (.tmp 0) (.tmp 1) rfl w.heap.size [.nilFunc, .func (.func 69) #[] #[], .int .i64 0, .int .i64 0, .int .i64 0] ptZ rfl rfl (by simp [Value.oneCell']) rfl rfl R ?_))
  exact bodyPost_ret (row_results Tryd.underlying50 rfl info_pt Tryd.results46 rfl rfl (row_written R)) rfl ⟨rfl, setRow_below B (Nat.le_refl _)⟩
set_option maxRecDepth 100000 in
set_option maxHeartbeats 2000000 in
theorem held_any (k : Int) (w : World) : Calls Tryd.prog 24 #[.int .i64 k] w fun e w' => ∃ A, e = .returned (.slice A (held k).length (held k).length) ∧ PtsAt w' A (held k) ∧ Below w.heap.size w w' := by
  have B : Below w.heap.size w w := Below.refl _ _
  rcases held_cases k with rfl | rfl | rfl | rfl | rfl | rfl | rfl | rfl | rfl | rfl | rfl | rfl | h
  case inr.inr.inr.inr.inr.inr.inr.inr.inr.inr.inr.inr =>
    rw [held_none h]
    obtain ⟨h1, h2, h3, h4, h5, h6, h7, h8, h9, h10, h11, h12⟩ := h
    have b1 : (k == 1) = false := beq_eq_false_iff_ne.2 h1
    have b2 : (k == 2) = false := beq_eq_false_iff_ne.2 h2
    have b3 : (k == 3) = false := beq_eq_false_iff_ne.2 h3
    have b4 : (k == 4) = false := beq_eq_false_iff_ne.2 h4
    have b5 : (k == 5) = false := beq_eq_false_iff_ne.2 h5
    have b6 : (k == 6) = false := beq_eq_false_iff_ne.2 h6
    have b7 : (k == 7) = false := beq_eq_false_iff_ne.2 h7
    have b8 : (k == 8) = false := beq_eq_false_iff_ne.2 h8
    have b9 : (k == 9) = false := beq_eq_false_iff_ne.2 h9
    have b10 : (k == 10) = false := beq_eq_false_iff_ne.2 h10
    have b11 : (k == 11) = false := beq_eq_false_iff_ne.2 h11
    have b12 : (k == 12) = false := beq_eq_false_iff_ne.2 h12
    clear h1 h2 h3 h4 h5 h6 h7 h8 h9 h10 h11 h12
    go_enter Tryd.func24, Tryd.ntmps24
    go_wp2
    go_ret
    exact ⟨none, rfl, Or.inl rfl, B⟩
  all_goals
    go_enter Tryd.func24, Tryd.ntmps24
    go_wp2_with (first
      | (go_at_call 44; refine (is_session _).mono ?_; rintro e w' ⟨rfl, hb⟩; have B := B.trans (hb.mono B.size); clear hb)
      | (go_at_call 45; refine (is_seq _).mono ?_; rintro e w' ⟨rfl, hb⟩; have B := B.trans (hb.mono B.size); clear hb)
      | (go_at_call 43; refine (is_user _ _).mono ?_; rintro e w' ⟨rfl, hb⟩; have B := B.trans (hb.mono B.size); clear hb)
      | (go_at_call 48; refine (is_op _ _ _).mono ?_; rintro e w' ⟨rfl, hb⟩; have B := B.trans (hb.mono B.size); clear hb)
      | (go_at_call 47; refine (is_status _ _).mono ?_; rintro e w' ⟨rfl, hb⟩; have B := B.trans (hb.mono B.size); clear hb)
      | (go_at_call 50; refine (is_count _).mono ?_; rintro e w' ⟨rfl, hb⟩; have B := B.trans (hb.mono B.size); clear hb)
      | (go_at_call 49; refine (is_version _).mono ?_; rintro e w' ⟨rfl, hb⟩; have B := B.trans (hb.mono B.size); clear hb)
      | (go_at_call 51; refine (is_ack _).mono ?_; rintro e w' ⟨rfl, hb⟩; have B := B.trans (hb.mono B.size); clear hb)
      | (go_at_call 52; refine (is_sack _).mono ?_; rintro e w' ⟨rfl, hb⟩; have B := B.trans (hb.mono B.size); clear hb)
      | (go_at_call 40; refine (is_nonce _).mono ?_; rintro e w' ⟨rfl, hb⟩; have B := B.trans (hb.mono B.size); clear hb)
      | (go_at_call 41; refine (is_epoch _).mono ?_; rintro e w' ⟨rfl, hb⟩; have B := B.trans (hb.mono B.size); clear hb)
      | (go_at_call 42; refine (is_secret _).mono ?_; rintro e w' ⟨rfl, hb⟩; have B := B.trans (hb.mono B.size); clear hb)
      | (go_at_call 46; refine (is_tag _).mono ?_; rintro e w' ⟨rfl, hb⟩; have B := B.trans (hb.mono B.size); clear hb)
      )
    go_ret
    exact ⟨_, rfl, Or.inr ⟨_, _, rfl, row_new⟩, B.alloc B.size _⟩
end Go.Proofs.YtpglhkjgcahdbaaDoor
/- 'append' of a row of numbers that may be nil. -/
namespace Go.Proofs.YtpglhkjgcahdbaaDoor
open Go.ChangeShapes Go.WideShapes Go.ChangeAt Go.RowKit
theorem wpList_append_rowA {k : IntKind} {E : TypeId} {base : Nat} {w : World} {A : Option Addr} {c : Nat} {l : List Int} {P : Program} {Q : Exit → Act → World → Prop} {ops : Array Oper} {rest : List Oper} {o : Oper} {a : Act} (hgd : Region.wanted o (yielded ops a.tmps) = true) (s x : Operand) (t : TypeId)
    (ho : o.op = .call { callee := .builtin .append, args := #[s, x], argTypes := #[t, t] })
    (i : TypeInfo) (bytes : Nat) (ht : P.underlying t = some (.slice E)) (hi : P.info? E = some i) (hz : i.zero = some (.int k 0)) (hsize : i.size = 1) (hby : i.bytes = bytes) (hb8 : bytes ≤ 8)
    (n : Nat) (hn : l.length = n) (hs : a.eval s = .slice A n c) (hown : OwnN k E base w A c l)
    (ad : Option Addr) (m cc : Nat) (xs : List Int) (hx : a.eval x = .slice ad m cc) (hm : xs.length = m) (hcell : Nums k w ad xs) (hlen : l.length + m < 17592186044415)
    (B : Nat) (W0 : World) (hB : B ≤ base) (hbelow : Below B W0 w)
    (h : ∀ A' c' w', OwnN k E base w' A' c' (l ++ xs) → Below B W0 w' → wpList P ops Q rest (a.put o.dst (.slice A' (n + m) c')) w') : wpList P ops Q (o :: rest) a w := by
  cases ad with
  | some ad => exact wpList_append_row hgd s x t ho i bytes ht hi hz hsize hby hb8 n hn hs hown ad m cc xs hx hm hcell hlen B W0 hB hbelow h
  | none =>
    obtain rfl : xs = [] := by
      rcases hcell with h | ⟨b, off, h, _⟩
      · exact h
      · cases h
    obtain rfl : m = 0 := by simpa using hm.symm
    have h1 := h A c w (by simpa using hown) hbelow
    refine BigFrame.wpList_want hgd fun K hK => ?_
    have h2 := hK _ _ h1
    have hr : (Builtin.append_ #[t, t] o.type #[.slice A n c, .slice none 0 cc]).run P w = .ok (.slice A (n + 0) c) w := by
      subst hn
      rcases hown.1.2 with ⟨hv, h0⟩ | ⟨g, cap, cur, hv, _, _, hnc, _⟩
      · injection hv with e1 e2 e3
        subst e1; subst e3
        rw [e2]
        simp [Builtin.append_, run_underlying ht, sizeOf, typeInfo, hi, Builtin.lenOf, Builtin.firstCells]
      · injection hv with e1 e2 e3
        subst e1; subst e3
        simp [Builtin.append_, run_underlying ht, sizeOf, typeInfo, hi, Builtin.lenOf, Builtin.firstCells, hnc, storeCells]
    unfold Oper.wp execOp
    simp only [ho, resolve, invoke, builtin, Sem.run_bind, Sem.run_pure, Result.andThen_ok, List.map_toArray, List.map_cons, List.map_nil, hs, hx, hr]
    exact h2
end Go.Proofs.YtpglhkjgcahdbaaDoor
