/- RingTells holds for any room and any numbers, push by push: what the program's ring holds, and has lost, is what the document's does. No condition. -/
import Derived.Test.YtiokdfijodfmpaaRingMath
import Derived.Test.YtiokdfijodfmpaaRingPush
import Derived.Test.YtiokdfijodfmpaaMat
namespace Go.Proofs.Ytiokdfijodfmpaa.ringTells
open Go.ChangeShapes Go.WideShapes Go.ChangeAt Go.RowKit

theorem pushes_ref : ∀ (zs : List Int) (R : RS), R.Ok → R.l + zs.length ≤ 1099511627776 → ref08.pushLs (R.e + 1) (R.list, R.l) zs = ((R.pushes zs).list, (R.pushes zs).l)
  | [], R, _, _ => rfl
  | z :: zs, R, h, hl => by
    simp only [List.length_cons] at hl
    obtain ⟨p1, p2, p3⟩ := RS.push_ok h (by omega) z
    have ih := pushes_ref zs (R.push z) p1 (by omega)
    obtain ⟨q1, q2⟩ := RS.push_h h z
    have q3 := RS.push_list h (by omega) z
    have e : ref08.pushL (R.e + 1) (R.list, R.l) z = ((R.push z).list, (R.push z).l) := by
      unfold ref08.pushL
      have hlen := RS.list_len R
      have h0 := h.h0
      have h1 := h.h1
      have e0 := h.e0
      dsimp only
      by_cases hf : R.e < R.h
      · rw [if_pos (by omega), q3, if_pos hf, q2, List.drop_append_of_le_length (by omega)]
        congr 1
        omega
      · rw [if_neg (by omega), q3, if_neg hf, q2]
        congr 1
        omega
    show ref08.pushLs (R.e + 1) (ref08.pushL (R.e + 1) (R.list, R.l) z) zs = _
    rw [e, ← p3]
    exact ih

def lv (L : List Int) : Int := L.getD (L.length - 1) 0
def lb (L : List Int) : Bool := decide (0 < L.length)
theorem last_p {w : World} {g : Nat} {R : RS} {v : Int} {b : Bool} (hv : lv R.list = v) (hb : lb R.list = b) (hR : RingAt w g R) (hO : R.Ok) :
    Calls Try.prog 12 #[.pointer (some ⟨g, 0, none⟩)] w fun e w' => e = .returned (.tuple #[.int .i64 v, .bool b]) ∧ ∃ n, w' = w.drewN n := by
  subst hv; subst hb
  have hlen := RS.list_len R
  have h0 := hO.h0
  by_cases h : R.h = 0
  · have e : R.list = [] := List.eq_nil_of_length_eq_zero (by omega)
    rw [e]
    refine (last_none hR h).mono ?_
    rintro e w' ⟨rfl, rfl⟩
    exact ⟨rfl, 0, rfl⟩
  · have e : R.nums (R.place (R.h - 1)).toNat = lv R.list := by
      unfold lv
      have e1 : R.list.length - 1 < R.list.length := by omega
      rw [List.getD, List.getElem?_eq_getElem e1]
      simp only [RS.list, List.getElem_map, List.getElem_range, Option.getD_some, List.length_map, List.length_range]
      congr 2
      congr 1
      omega
    have e2 : lb R.list = true := by unfold lb; exact decide_eq_true (by omega)
    rw [← e, e2]
    exact last_some hR hO (by omega)
theorem last_r {w : World} {g : Nat} {L : List Int} {room gone : Int} {v : Int} {b : Bool} (hv : lv L = v) (hb : lb L = b) (hn : L.length ≤ 1000000) (hR : ref08.RHalf w g L room gone) :
    Calls Try.prog 13 #[.pointer (some ⟨g, 0, none⟩)] w fun e w' => e = .returned (.tuple #[.int .i64 v, .bool b]) ∧ ∃ n, w' = w.drewN n := by
  subst hv; subst hb
  by_cases h : L.length = 0
  · have e : L = [] := List.eq_nil_of_length_eq_zero h
    subst e
    refine (ref08.last_none hR).mono ?_
    rintro e w' ⟨rfl, rfl⟩
    exact ⟨rfl, 0, rfl⟩
  · have e2 : lb L = true := by unfold lb; exact decide_eq_true (by omega)
    rw [e2]
    exact ref08.last_some (n := L.length - 1) (by omega) rfl (by omega) hR
theorem half_drewN {w : World} {g : Nat} {L : List Int} {room gone : Int} (h : ref08.RHalf w g L room gone) (n : Nat) : ref08.RHalf (w.drewN n) g L room gone := h
theorem half_only {w w' : World} {g g2 : Nat} {L : List Int} {room gone : Int} (h : ref08.RHalf w g2 L room gone) (ho : Only g w w') (hne : g < g2) : ref08.RHalf w' g2 L room gone := by
  obtain ⟨A, c, h1, hN, h3, h4, h5⟩ := h
  exact ⟨A, c, (ho.1 g2 (by omega)).trans h1, ho.nums hN (fun b off hA => by have := h5 _ hA; simp at this; omega), h3, h4, h5⟩
theorem len_r {w : World} {g n : Nat} {L : List Int} {room gone : Int} (hn : L.length = n) (h : ref08.RHalf w g L room gone) :
    Calls Try.prog 18 #[.pointer (some ⟨g, 0, none⟩)] w fun e w' => e = .returned (.int .i64 n) ∧ w = w' := by
  subst hn; exact ref08.len_any h
theorem lost_r {w : World} {g : Nat} {L : List Int} {room gone v : Int} (hv : gone = v) (h : ref08.RHalf w g L room gone) :
    Calls Try.prog 20 #[.pointer (some ⟨g, 0, none⟩)] w fun e w' => e = .returned (.int .i64 v) ∧ w = w' := by
  subst hv; exact ref08.lost_any h
theorem all_r {w : World} {g n : Nat} {L : List Int} {room gone : Int} (hn : L.length = n) (hlen : n ≤ 1000000) (h : ref08.RHalf w g L room gone) :
    Calls Try.prog 16 #[.pointer (some ⟨g, 0, none⟩)] w fun e w' => ∃ A' c', e = .returned (.slice A' n c') ∧ OwnN .i64 3 w.heap.size w' A' c' L ∧ Below w.heap.size w w' := by
  subst hn; exact ref08.all_any h hlen
theorem same_t {w : World} {A : Option Addr} {n c : Nat} {xs : List Int} (hn : xs.length = n) (hN : Nums .i64 w A xs) {B : Option Addr} {d : Nat} (hM : Nums .i64 w B xs) (hlen : n ≤ 140737488355328) :
    Calls Try.prog 15 #[.slice A n c, .slice B n d] w fun e w' => e = .returned (.bool true) ∧ ∃ q, w' = w.drewN q := by
  refine (same_any w A n c xs hn hN B n d xs hn hM hlen hlen).mono ?_
  rintro e w' ⟨rfl, h⟩
  exact ⟨by simp, h⟩
/-- The row that is overwritten: none, or a block of the call's own. -/
theorem own_row {w : World} {base n c b : Nat} {zs : List Int} (h : OwnN .i64 3 base w (some ⟨b, 0, none⟩) c zs) (hn : zs.length = n) : ∃ cur, w.heap[b]? = some (.cells cur 3) ∧ n ≤ cur.size ∧ base ≤ b ∧ b < w.heap.size := by
  rcases h.1.2 with ⟨h1, h0⟩ | ⟨g, cap, cur, hv, hb, hh, h3, h4, h5, h6⟩
  · cases h1
  · injection hv with e1 e2 e3
    injection e1 with e1
    injection e1 with e1
    subst e1
    exact ⟨cur, hh, by omega, hb, row_lt hh⟩

set_option maxRecDepth 10000 in
set_option maxHeartbeats 8000000 in
theorem walk (w : World) (x : Int) (wx : (Lit.int .i64 x).wf = true)
    (LA : Option Addr) (ln lcap : Nat) (R : Nat → Option Addr) (C : Nat → Nat) (Z : Nat → List Int) (hll : ln ≤ lcap) (hlm : lcap ≤ maxLen) (hP : Mat .i64 w LA ln R C Z) :
    Calls Try.prog 3 #[.int .i64 x, .slice LA ln lcap] w fun e w' => e = .returned (.bool true) ∧ Below w.heap.size w w' := by
  have HP := Lib.hid hP
  unfold maxLen at hlm
  clear wx hP
  by_cases h5 : 50 < ln
  · go_enter Try.func3, Try.ntmps3
    go_wp2_with (first
      | (go_at_call 7; refine (small_any _).mono ?_; rintro e w' ⟨rfl, hb⟩)
      )
    go_ret
    exact ⟨rfl, hb⟩
  · have l5 : ln ≤ 50 := by omega
    clear h5
    have s1 : (RS.made x).Ok := made_ok x
    have s2 : (RS.made x).e + 1 = min (max x 1) 64 := by unfold RS.made; simp only; omega
    have s3 : (RS.made x).l = 0 := rfl
    have s4 : (RS.made x).list = [] := rfl
    have S1 := Lib.hid s1
    have S2 := Lib.hid s2
    have S3 := Lib.hid s3
    have S4 := Lib.hid s4
    clear s1 s2 s3 s4
    go_enter Try.func3, Try.ntmps3
    go_wp2_with fail
    refine (small_any _).mono ?_
    rintro e w1 ⟨rfl, B1⟩
    go_wp2_with fail
    refine (new_to x B1 B1.size).mono ?_
    rintro e w2 ⟨rfl, R2, z2, B2, -⟩
    have hg1 := B1.size
    go_wp2_with fail
    refine (ref08.new_any x _).mono ?_
    rintro e w3 ⟨rfl, H3, b3⟩
    have R3 := ring_at R2 b3
    have B3 := B2.trans (b3.mono B2.size)
    rw [← S2.out] at H3
    have HI3 : ref08.RHalf w3 w2.heap.size (RS.made x).list ((RS.made x).e + 1) (RS.made x).l := by rw [S4.out, S3.out]; exact H3
    have hz3 : (RS.made x).l = 0 := S3.out
    generalize RS.made x = S0 at S1 S2 S3 S4 R2 R3 H3 HI3 hz3
    generalize w1.heap.size = g1 at *
    generalize w2.heap.size = g2 at *
    clear B1 B2 b3 R2 H3 S2 S3 S4
    go_wp2_with fail
    go_loopw [8] (fun i wr => ∃ (j : Nat) (S : RS), j ≤ ln ∧ i = .int .i64 j ∧ RingAt wr g1 S ∧ S.Ok ∧ S.l ≤ 200 * (j : Int) ∧ ref08.RHalf wr g2 S.list (S.e + 1) S.l ∧ Below w.heap.size w wr) (fun i _ => ln - (intOf i).toNat)
    case atStart => exact ⟨0, S0, Nat.zero_le _, rfl, R3, S1.out, by omega, HI3, B3⟩
    case round =>
      clear R3 HI3 B3 S1 hz3
      obtain ⟨j, S, hj, rfl, MR, MO, ML, MH, MB⟩ := hrel
      by_cases hjl : j < ln
      · rcases HP.out with h0 | ⟨b, off, hLA, hlt, hc⟩
        · omega
        rw [hLA]
        obtain ⟨c0, cN, cl, cm, -, ca⟩ := hc j hjl
        generalize Z j = zs at c0 cN cl ca
        generalize R j = A at c0 cN ca
        generalize C j = cp at c0 cl cm
        have hcell := Lib.hid (fun (W : World) (h : Below w.heap.size w W) => (h.cell (p := ⟨b, off + j, none⟩) hlt).trans c0)
        have hnums := Lib.hid (fun (W : World) (h : Below w.heap.size w W) => cN.below h)
        have cD := (MB.cell (p := ⟨b, off + j, none⟩) hlt).trans c0
        have q1 : (j : Int) < (ln : Int) := by omega
        have q0 : (0 : Int) ≤ (j : Int) := by omega
        obtain ⟨nz, hnz⟩ : ∃ nz, zs.length = nz := ⟨_, rfl⟩
        rw [hnz] at c0 cD ca hcell cl
        have Hnz := Lib.hid hnz
        have Hca := Lib.hid ca
        clear hc hLA c0 cN hnz ca HP
        by_cases h2 : 200 < nz
        · go_wp2_with fail
          go_ret
          exact ⟨rfl, MB⟩
        · have hsl : 0 ≤ S.l := MO.l0
          have hse := MO.e0
          have hse1 := MO.e1
          have hsh := MO.h1
          have hsh0 := MO.h0
          have hlen := RS.list_len S
          have hpr := Lib.hid (pushes_ref zs S MO (by rw [Hnz.out]; omega))
          obtain ⟨-, o2, o3⟩ := RS.pushes_ok zs MO (by rw [Hnz.out]; omega)
          rw [Hnz.out] at o2
          obtain ⟨S', hS'⟩ : ∃ S', S.pushes zs = S' := ⟨_, rfl⟩
          rw [hS'] at o2 o3 hpr
          have HS' := Lib.hid hS'
          clear hS'
          go_wp2_with fail
          refine (push_to zs HS'.out MR MO A nz cp Hnz.out (hnums.out _ MB) (by omega) (by omega) (fun h0 b' off' hA => by have := Hca.out h0 _ hA; simp at this; omega) MB (by omega)).mono ?_
          rintro e w4 ⟨rfl, R4, O4, only4, B4⟩
          have H4 := half_only MH only4 z2
          have c4 := hcell.out _ B4
          clear cD MR MH only4 MB
          go_wp2_with fail
          refine (ref08.push_any H4 (by omega) (by omega) (by omega) A nz cp zs Hnz.out (hnums.out _ B4) (by omega) (fun h0 a hA => by have := Hca.out h0 _ hA; omega)).mono ?_
          rintro e w5 ⟨rfl, H5, keep5⟩
          have B5 := keep5 w.heap.size w (by omega) B4
          have R5 : RingAt w5 g1 S' := row_kept R4 (keep5 g2 w4 (Nat.le_refl _) (Below.refl _ _)) z2
          rw [hpr.out, ← o3] at H5
          dsimp only at H5
          clear H4 R4 keep5 c4 B4
          have hlen' := RS.list_len S'
          have hh0 := O4.h0
          have hh1 := O4.h1
          have he1 := O4.e1
          obtain ⟨n, hn⟩ : ∃ n : Nat, S'.list.length = n := ⟨_, rfl⟩
          have hSh : S'.h = (n : Int) := by omega
          have hn64 : n ≤ 64 := by omega
          obtain ⟨v, hv⟩ : ∃ v, lv S'.list = v := ⟨_, rfl⟩
          obtain ⟨bb, hbb⟩ : ∃ b, lb S'.list = b := ⟨_, rfl⟩
          obtain ⟨xs, hxs⟩ : ∃ xs, S'.list = xs := ⟨_, rfl⟩
          obtain ⟨gl, hgl⟩ : ∃ gl, S'.l = gl := ⟨_, rfl⟩
          have HV := Lib.hid hv
          have HBB := Lib.hid hbb
          have HXS := Lib.hid hxs
          have HN := Lib.hid hn
          have HSH := Lib.hid hSh
          have HGL := Lib.hid hgl
          have O5 := Lib.hid O4
          have P5 := Lib.hid R5
          have G5 := Lib.hid H5
          have xn := Lib.hid (show xs.length = n by rw [← hxs]; exact hn)
          have fin := Lib.hid (And.intro o2 (And.intro ML hsl))
          clear hv hbb hxs hn hSh hgl hlen hlen' hh0 hh1 he1 R5 H5 O4 o2 o3 hpr HS' MO hse hse1 hsh hsh0 hsl ML
          go_wp2_with (first
            | (go_at_call 12; refine (last_p HV.out HBB.out P5.out O5.out).mono ?_; rintro e w' ⟨rfl, q2, rfl⟩)
            | (go_at_call 13; refine (last_r HV.out HBB.out (by rw [HN.out]; omega) (half_drewN G5.out _)).mono ?_; rintro e w' ⟨rfl, q3, rfl⟩)
            | (go_at_call 14; refine (all_to HXS.out xn.out (P5.out.drewN _) O5.out).mono ?_; rintro e w6 ⟨b6, c6, rfl, hO6, b56⟩; have b56 : Below w5.heap.size w5 w6 := (below_drewN (Below.refl _ _) (q2 + q3)).trans b56; have P6 := Lib.hid (ring_at P5.out b56); have G6 := Lib.hid (G5.out.below b56))
            | (go_at_call 16; refine (all_r HN.out (by omega) G6.out).mono ?_; rintro e w7 ⟨A7, c7, rfl, hO7, b67⟩; have P7 := Lib.hid (ring_at P6.out b67); have G7 := Lib.hid (G6.out.below b67); have hO7 : OwnN .i64 3 w6.heap.size w7 A7 c7 xs := (by rw [← HXS.out]; exact hO7))
            | (go_at_call 15; refine (same_t xn.out (hO6.nums.below b67) hO7.nums (by omega)).mono ?_; rintro e w8 ⟨rfl, q8, rfl⟩)
            | (go_at_call 17; refine (len_to HSH.out (P7.out.drewN _)).mono ?_; rintro e w' ⟨rfl, rfl⟩)
            | (go_at_call 18; refine (len_r HN.out (half_drewN G7.out _)).mono ?_; rintro e w' ⟨rfl, rfl⟩)
            | (go_at_call 19; refine (lost_to HGL.out (P7.out.drewN _)).mono ?_; rintro e w' ⟨rfl, rfl⟩)
            | (go_at_call 20; refine (lost_r HGL.out (half_drewN G7.out _)).mono ?_; rintro e w' ⟨rfl, rfl⟩)
            )
          obtain ⟨cur, hrow, hsz, hlo, hhi⟩ := own_row hO6 xn.out
          have b68 : Below w6.heap.size w6 (w7.drewN q8) := below_drewN b67 q8
          have b58 : Below w5.heap.size w5 (w7.drewN q8) := b56.trans (b68.mono b56.size)
          have hrow8 := row_kept hrow b68 hhi
          have hlo5 : w5.heap.size ≤ b6 := hlo
          clear hO6 hO7 b56 b67 P6 G6 P7 G7 hrow hlo hhi b68
          go_wp2_with fail
          go_loopw [14] (fun i wr => ∃ (m : Nat), m ≤ n ∧ i = .int .i64 m ∧ Below w5.heap.size w5 wr ∧ ∃ cur, wr.heap[b6]? = some (.cells cur 3) ∧ n ≤ cur.size) (fun i _ => n - (intOf i).toNat)
          case atStart => exact ⟨0, Nat.zero_le _, rfl, b58, cur, hrow8, hsz⟩
          case round =>
            clear b58 hrow8 hsz cur
            obtain ⟨m, hm, rfl, bw, cur, hrow, hsz⟩ := hrel
            by_cases hmn : m < n
            · obtain ⟨z, hz⟩ : ∃ z, cur[m]? = some z := ⟨cur[m]'(by omega), Array.getElem?_eq_getElem (by omega)⟩
              obtain ⟨t0, t1, d0, d1, f0, f1, y1⟩ := rows1 hrow
              have hcell : wr.cell? ⟨b6, m, none⟩ = some z := by rw [d0, hz]
              have q1 : (m : Int) < (n : Int) := by omega
              have q0 : (0 : Int) ≤ (m : Int) := by omega
              clear d1 f1 y1 t1 hcell
              go_wp2_with fail
              go_roundw
              case rel => exact ⟨m + 1, by omega, by go_num, setRow_below bw hlo5, _, row_written hrow, by simpa using hsz⟩
              case measure => simp [intOf]; omega
            · obtain rfl : m = n := by omega
              have R9 := ring_at P5.out bw
              have H9 := G5.out.below bw
              have B9 := B5.trans (bw.mono B5.size)
              obtain ⟨f1, f2, f3⟩ := fin.out
              clear bw hrow
              go_wp2_with fail
              go_roundw
              case rel => exact ⟨j + 1, S', by omega, by go_num, R9, O5.out, by omega, H9, B9⟩
              case measure => simp [intOf]; omega
      · obtain rfl : j = ln := by omega
        go_wp2
        go_ret
        exact ⟨rfl, MB⟩

theorem own : ownKnob Try.prog.godebug = none := by kernel_rfl
theorem laid : laidOutB Try.prog = true := by kernel_rfl

set_option maxRecDepth 100000 in
theorem lifted (os : Os) (started : os.Started) (H : Type) (enc : TypeId × Value → H) :
    ReturnsInHanded {} Try.checked os 3 .any (Rows.ringTellsSpec.pre6 enc Try.prog Try.f3 Rows.ringTellsRow.domain false) (Rows.ringTellsSpec.post enc Try.prog Try.f3 false true false false) := by
  refine law_lifted (C := Try.checked) (B := 4) own started (by kernel_rfl) Try.func3
    (ChangeSpec.witness6 (enc := enc) (C := Try.checked) false ⟨#[], #[.int .i64 0, .slice none 0 0], []⟩ 8 (by kernel_rfl) (by kernel_rfl) (by kernel_rfl) (by kernel_rfl))
    rfl rfl Try.underlying4 laid (of_decide_eq_true (by kernel_rfl)) ?_ ?_
  · intro ds hl
    rw [Try.params3] at hl
    match ds, hl with
    | [d0, d1], _ => rfl
  · intro W base args ds ps hval hA hlt hz
    rw [Try.params3] at hA hval
    obtain ⟨v0, vs0, d0, ds0, p0, q0, hargs, rfl, rfl, h0, r0⟩ := trodAll_cons hA
    obtain ⟨v1, vs1, d1, ds1, p1, q1, rfl, rfl, rfl, h1, r1⟩ := trodAll_cons r0
    obtain ⟨rfl, rfl, rfl⟩ := trodAll_nil r1
    obtain rfl : args = #[v0, v1] := by cases args; simp_all
    obtain ⟨a0, rfl, rfl, rfl, w0⟩ := open_int Try.underlying3 (hval 0 3 v0 rfl rfl) h0
    obtain ⟨A1, n1, cap1, R1, C1, Z1, rfl, hl1, hm1, hP1⟩ := open_mat Try.underlying22 Try.underlying28 Try.underlying3 (by kernel_rfl) (by kernel_rfl) (hval 1 22 v1 rfl rfl) h1
    exact walk W a0 w0 A1 n1 cap1 R1 C1 Z1 hl1 hm1 hP1

theorem over : Rows.ringTellsRow.holds Try.pinned (OpenSpec.ofChange Rows.ringTellsSpec) :=
  OpenClaim.holds_of_wide 3 Try.f3 rfl rfl rfl rfl rfl rfl rfl ⟨rfl, rfl, rfl, rfl, rfl⟩ rfl rfl rfl rfl rfl (by kernel_rfl) Try.func3 (by kernel_rfl)
    (of_decide_eq_true (by kernel_rfl)) (by unfold Func.isWrapper; first | (rw [if_pos (by decide +kernel)]; kernel_rfl) | (rw [if_neg (by decide +kernel)]; exact ⟨rfl, rfl⟩))
    (fun os started H enc _ => lifted os started H enc)

theorem proved : Rows.RingTellsSaid := over
#print axioms proved
end Go.Proofs.Ytiokdfijodfmpaa.ringTells
