/- What the program's twoDigits answers, and its Itoa of a year. -/
import Derived.Test.YtanndhoimpnhpaaDoorCalL
import Derived.Test.YtanndhoimpnhpaaDoorShelf
import Derived.Lib.ItoaMem
import Derived.Laws.Concat
namespace Go.Proofs.YtanndhoimpnhpaaDoor
open Go.ChangeShapes Go.WideShapes Go.ChangeAt Go.RowKit Cal Txt

/-- A number below 100 with two digits. -/
def tw (n : Nat) : ByteArray := ⟨#[UInt8.ofNat (48 + n / 10), UInt8.ofNat (48 + n % 10)]⟩
def dash : ByteArray := ⟨#[45]⟩
/-- A date as a text. -/
def dateS (y m d : Nat) : ByteArray := tw (y / 100) ++ tw (y % 100) ++ dash ++ tw m ++ dash ++ tw d

theorem dec_small (i : Nat) (h : i < 10) : (⟨#[48]⟩ : ByteArray) ++ ⟨(Lib.decDigits i).toArray⟩ = tw i := by
  revert i; decide +kernel
theorem dec_two (i : Nat) (h0 : 10 ≤ i) (h : i < 100) : (⟨(Lib.decDigits i).toArray⟩ : ByteArray) = tw i := by
  have : ∀ j : Fin 90, (⟨(Lib.decDigits (10 + j)).toArray⟩ : ByteArray) = tw (10 + j) := by decide +kernel
  have h2 := this ⟨i - 10, by omega⟩
  have e : 10 + (i - 10) = i := by omega
  simp only [e] at h2
  exact h2
theorem dec_year (i : Nat) (h0 : 1900 ≤ i) (h : i < 2201) : (⟨(Lib.decDigits i).toArray⟩ : ByteArray) = tw (i / 100) ++ tw (i % 100) := by
  have : ∀ j : Fin 301, (⟨(Lib.decDigits (1900 + j)).toArray⟩ : ByteArray) = tw ((1900 + j) / 100) ++ tw ((1900 + j) % 100) := by decide +kernel
  have h2 := this ⟨i - 1900, by omega⟩
  have e : 1900 + (i - 1900) = i := by omega
  simp only [e] at h2
  exact h2

theorem below_grow (w : World) (k : Nat) (os : Array Obj) : Below w.heap.size w (Sort.grow (w.drewN k) os) := by
  refine ⟨rfl, rfl, rfl, ?_, fun j hj => ?_⟩
  · show w.heap.size ≤ (w.heap ++ os).size
    simp
  · show (w.heap ++ os)[j]? = w.heap[j]?
    rw [Array.getElem?_append_left hj]

theorem itoaYear (i : Nat) (h0 : 1900 ≤ i) (h1 : i < 2201) (w : World) (htab : Lib.TabIs Tryd.prog w "internal/strconv.uint64pow10" .u64 Lib.pow10Tab) :
    Calls Tryd.prog 58 #[.int .i64 i] w fun e w' => e = .returned (.string (tw (i / 100) ++ tw (i % 100))) ∧ Below w.heap.size w w' := by
  refine (Tryd.strconv_Itoa i (by omega) (by omega) w htab).mono ?_
  rintro e w' ⟨rfl, k, os, rfl⟩
  refine ⟨?_, below_grow w k os⟩
  rw [← dec_year i h0 h1, Lib.itoa_nonneg]

theorem dec_size (i : Nat) (h : i < 10) : (⟨(Lib.decDigits i).toArray⟩ : ByteArray).size = 1 := by
  revert i; decide +kernel
theorem twoDigits_core (i : Nat) (X : ByteArray) (h : i < 10) (hX : X.size = 1) (w : World) (H : ∀ w : World, Calls Tryd.prog 58 #[.int .i64 i] w fun e w' => e = .returned (.string X) ∧ w' = w) :
    Calls Tryd.prog 59 #[.int .i64 i] w fun e w' => e = .returned (.string ((⟨#[48]⟩ : ByteArray) ++ X)) ∧ w' = w := by
  go_enter Tryd.func59, Tryd.ntmps59
  go_wp2_with (go_at_call 58; refine (H _).mono ?_; rintro e w' ⟨rfl, rfl⟩; clear H)
  go_ret
  exact ⟨rfl, rfl⟩
theorem twoDigits_any (i : Nat) (hi : i < 100) (w : World) :
    Calls Tryd.prog 59 #[.int .i64 i] w fun e w' => e = .returned (.string (tw i)) ∧ w' = w := by
  by_cases h : i < 10
  · rw [← dec_small i h]
    exact twoDigits_core i _ h (dec_size i h) w (fun w => Tryd.strconv_Itoa_small i (by omega) w)
  · have h10 : 10 ≤ i := by omega
    rw [← dec_two i h10 hi]
    go_enter Tryd.func59, Tryd.ntmps59
    go_wp2_with (go_at_call 58; refine (Tryd.strconv_Itoa_small _ (by omega) _).mono ?_; rintro e w' ⟨rfl, rfl⟩)
    go_ret
    exact ⟨rfl, rfl⟩
end Go.Proofs.YtanndhoimpnhpaaDoor
