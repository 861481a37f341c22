/- When two rows of bytes are equal: package mac's Equal, and the document's own. -/
import Derived.Test.YtmdlhcelibciiaaDoorDigTo
import Derived.Lib.Strings
namespace Go.Proofs.YtmdlhcelibciiaaDoor
open Go.ChangeShapes Go.WideShapes Go.ChangeAt Go.RowKit
theorem byte_inj {x y : Int} (hx : 0 ≤ x ∧ x < 256) (hy : 0 ≤ y ∧ y < 256) (h : UInt8.ofNat x.toNat = UInt8.ofNat y.toNat) : x = y := by
  have := congrArg UInt8.toNat h
  simp only [UInt8.toNat_ofNat'] at this
  omega
theorem map_inj : ∀ (a b : List Int), (∀ z ∈ a, 0 ≤ z ∧ z < 256) → (∀ z ∈ b, 0 ≤ z ∧ z < 256) → a.map (fun n => UInt8.ofNat n.toNat) = b.map (fun n => UInt8.ofNat n.toNat) → a = b
  | [], [], _, _, _ => rfl
  | [], _ :: _, _, _, h => by simp at h
  | _ :: _, [], _, _, h => by simp at h
  | x :: a, y :: b, ha, hb, h => by
    rw [List.map_cons, List.map_cons] at h
    injection h with h1 h2
    rw [byte_inj (ha x (List.mem_cons_self ..)) (hb y (List.mem_cons_self ..)) h1, map_inj a b (fun z hz => ha z (List.mem_cons_of_mem _ hz)) (fun z hz => hb z (List.mem_cons_of_mem _ hz)) h2]
theorem str_inj {a b : List Int} (ha : ∀ z ∈ a, 0 ≤ z ∧ z < 256) (hb : ∀ z ∈ b, 0 ≤ z ∧ z < 256) : ((strOfNums a).toList == (strOfNums b).toList) = decide (a = b) := by
  rw [ByteArray.toList_eq, ByteArray.toList_eq, strOfNums_data, strOfNums_data]
  by_cases h : a = b
  · subst h; simp
  · rw [decide_eq_false h]
    exact beq_eq_false_iff_ne.2 fun he => h (map_inj a b ha hb he)
theorem bytesEqual_any (w : World) (A B : Option Addr) (n m ca cb : Nat) (a b : List Int) (hn : a.length = n) (hm : b.length = m) (hA : Nums .u8 w A a) (hB : Nums .u8 w B b) (ha : ∀ z ∈ a, 0 ≤ z ∧ z < 256) (hb : ∀ z ∈ b, 0 ≤ z ∧ z < 256) (r : Bool) (hr : decide (a = b) = r) :
    Calls Tryd.prog 18 #[.slice A n ca, .slice B m cb] w fun e w' => e = .returned (.bool r) ∧ w = w' := by
  have T1 := text_of_nums (cap := ca) Tryd.underlying22 Tryd.underlying5 Tryd.underlying9 hA hn
  have T2 := text_of_nums (cap := cb) Tryd.underlying22 Tryd.underlying5 Tryd.underlying9 hB hm
  have E := str_inj ha hb
  rw [hr] at E
  generalize strOfNums a = s at T1 E
  generalize strOfNums b = t at T2 E
  clear hr ha hb hA hB hn hm
  go_enter Tryd.func18, Tryd.ntmps18
  go_wp2
  go_ret
  exact ⟨rfl, rfl⟩
theorem equal_any (w : World) (A B : Option Addr) (n m ca cb : Nat) (a b : List Int) (hn : a.length = n) (hm : b.length = m) (hA : Nums .u8 w A a) (hB : Nums .u8 w B b) (ha : ∀ z ∈ a, 0 ≤ z ∧ z < 256) (hb : ∀ z ∈ b, 0 ≤ z ∧ z < 256) (r : Bool) (hr : decide (a = b) = r) :
    Calls Tryd.prog 11 #[.slice A n ca, .slice B m cb] w fun e w' => e = .returned (.bool r) ∧ w = w' := by
  have H := Lib.hid (bytesEqual_any w A B n m ca cb a b hn hm hA hB ha hb r hr)
  clear hr ha hb hA hB hn hm
  go_enter Tryd.func11, Tryd.ntmps11
  go_wp2_with (go_at_call 18; refine H.out.mono ?_; rintro e w' ⟨rfl, rfl⟩)
  go_ret
  exact ⟨rfl, rfl⟩
theorem requal_any (w : World) (A B : Option Addr) (n m ca cb : Nat) (a b : List Int) (hn : a.length = n) (hm : b.length = m) (hA : Nums .u8 w A a) (hB : Nums .u8 w B b) (ha : ∀ z ∈ a, 0 ≤ z ∧ z < 256) (hb : ∀ z ∈ b, 0 ≤ z ∧ z < 256) (r : Bool) (hr : decide (a = b) = r) :
    Calls Tryd.prog 12 #[.slice A n ca, .slice B m cb] w fun e w' => e = .returned (.bool r) ∧ w = w' := by
  have T1 := text_of_nums (cap := ca) Tryd.underlying22 Tryd.underlying5 Tryd.underlying9 hA hn
  have T2 := text_of_nums (cap := cb) Tryd.underlying22 Tryd.underlying5 Tryd.underlying9 hB hm
  have E := str_inj ha hb
  rw [hr] at E
  generalize strOfNums a = s at T1 E
  generalize strOfNums b = t at T2 E
  clear hr ha hb hA hB hn hm
  go_enter Tryd.func12, Tryd.ntmps12
  go_wp2
  go_ret
  exact ⟨rfl, rfl⟩
end Go.Proofs.YtmdlhcelibciiaaDoor
