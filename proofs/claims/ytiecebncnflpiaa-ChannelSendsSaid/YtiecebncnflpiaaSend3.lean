/- slices.IndexFunc and slices.DeleteFunc at flights; what package send asks of a flight. -/
import Derived.Test.YtiecebncnflpiaaSend2
import Derived.Test.YtiecebncnflpiaaRecs3
import Derived.Shelf.Abstract
namespace Go.Proofs.Ytiecebncnflpiaa
open Go.ChangeShapes Go.WideShapes Go.ChangeAt Go.RowKit Go.Shelf

/-- What is asked of a predicate: in every world that is as w was below B. -/
def Asks (B : Nat) (w : World) (g : Nat) (lb : Array Value) (p : Fl → Bool) : Prop :=
  ∀ (W : World) (x : Fl), Below B w W → Calls Try.prog g (#[Fl.val x] ++ lb) W fun e w' => e = .returned (.bool (p x)) ∧ Below W.heap.size W w'
theorem Asks.mono {B : Nat} {w V : World} {g : Nat} {lb : Array Value} {p : Fl → Bool} (h : Asks B w g lb p) (hV : Below B w V) {B2 : Nat} (hB : B ≤ B2) : Asks B2 V g lb p := fun W x hW => h W x (hV.trans (hW.mono hB))

set_option maxHeartbeats 1000000 in
theorem index_any (p : Fl → Bool) (g : Nat) (lb : Array Value) (eg : ∀ args w, (callFunc g args).run Try.prog w = .ok (.enter g args) w) (w : World) (A : Option Addr) (n c : Nat) (l : List Fl) (hn : l.length = n) (hN : Fls w A l) (hk : n ≤ 1000000) (hp : Asks w.heap.size w g lb p) {v : Int} (hv : idx p l = v) :
    Calls Try.prog 65 #[.slice A n c, .func (.func g) #[] lb] w fun e w' => e = .returned (.int .i64 v) ∧ Below w.heap.size w w' := by
  have Hn := Lib.hid hn
  have HN := Lib.hid hN
  have HP := Lib.hid hp
  have HV := Lib.hid hv
  clear hn hN hp hv
  go_enter Try.func65, Try.ntmps65
  go_wp2
  go_loopw [8] (fun i wr => ∃ (j : Nat), j ≤ n ∧ i = .int .i64 j ∧ Hid (∀ t, t < j → p (l.getD t .zero) = false) ∧ Below w.heap.size w wr) (fun i _ => n - (intOf i).toNat)
  case atStart => exact ⟨0, Nat.zero_le _, rfl, (fun t ht => absurd ht (Nat.not_lt_zero _) : ∀ t, t < 0 → _), Below.refl _ _⟩
  case round =>
    obtain ⟨j, hj, rfl, HF, hB⟩ := hrel
    by_cases hjn : j < n
    · obtain ⟨b, off, rfl, hb, c0, c1, c2, c3, c4, c5, c6⟩ := (Fls.below HN.out hB).at (i := j) (by rw [Hn.out]; exact hjn)
      have HC := Lib.hid (HP.out wr (l.getD j .zero) hB)
      have HX := Lib.hid (show ∃ x, l.getD j .zero = x from ⟨_, rfl⟩)
      generalize hf : l.getD j .zero = f at c0 c1 c2 c3 c4 c5 c6 HC
      obtain ⟨r, hr⟩ : ∃ r, p f = r := ⟨_, rfl⟩
      have hcall := HC.out
      rw [hr] at hcall
      have HCC := Lib.hid hcall
      have HFF := Lib.hid (show p (l.getD j .zero) = r by rw [hf]; exact hr)
      have HBB := Lib.hid hB
      clear hcall HC hr hf HX hB
      obtain ⟨fq, fu, fv, fs, fc, fa, ft⟩ := f
      simp only at c0 c1 c2 c3 c4 c5 c6
      have q1 : (j : Int) < (n : Int) := by omega
      have q0 : (0 : Int) ≤ (j : Int) := by omega
      cases r
      · go_wp2_with (go_at_fn g; refine HCC.out.mono ?_; rintro e w' ⟨rfl, hb'⟩)
        go_roundw
        case rel => exact ⟨j + 1, by omega, by go_num, (fun t ht => by
          by_cases e : t = j
          · subst e; exact HFF.out
          · exact HF.out t (by omega) : ∀ t, t < j + 1 → _), HBB.out.trans (hb'.mono HBB.out.size)⟩
        case measure => simp [intOf]; omega
      · have e : v = (j : Int) := by rw [← HV.out]; exact idx_hit p l .zero j (by rw [Hn.out]; exact hjn) HFF.out HF.out
        subst e
        go_wp2_with (go_at_fn g; refine HCC.out.mono ?_; rintro e w' ⟨rfl, hb'⟩)
        go_ret
        exact ⟨rfl, HBB.out.trans (hb'.mono HBB.out.size)⟩
    · obtain rfl : j = n := by omega
      have e : v = -1 := by rw [← HV.out]; exact idx_miss p l .zero (by rw [Hn.out]; exact HF.out)
      subst e
      go_wp2
      go_ret
      exact ⟨rfl, hB⟩
end Go.Proofs.Ytiecebncnflpiaa
