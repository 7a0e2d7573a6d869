/- The bytes of a date's text, a year on; a row of ten bytes as a text. -/
import Derived.Test.YtanndhoimpnhpaaDoorCalS
import Derived.Lib.ConvBytes
import Derived.Lib.AtoiErrMem
namespace Go.Proofs.YtanndhoimpnhpaaDoor
open Go.ChangeShapes Go.WideShapes Go.ChangeAt Go.RowKit Cal Txt

/-- Byte j of a text, as a number. -/
def byt (S : ByteArray) (j : Nat) : Int := ((S.data.toList.getD j 0).toNat : Int)

theorem byt_0 (y m d : Nat) (h : y < 10000) : byt (dateS y m d) 0 = 48 + ((y / 100 / 10 : Nat) : Int) := digit_byte (y / 100 / 10) (by omega)
theorem byt_1 (y m d : Nat) : byt (dateS y m d) 1 = 48 + ((y / 100 % 10 : Nat) : Int) := digit_byte (y / 100 % 10) (by omega)
theorem byt_2 (y m d : Nat) : byt (dateS y m d) 2 = 48 + ((y % 100 / 10 : Nat) : Int) := digit_byte (y % 100 / 10) (by omega)
theorem byt_3 (y m d : Nat) : byt (dateS y m d) 3 = 48 + ((y % 100 % 10 : Nat) : Int) := digit_byte (y % 100 % 10) (by omega)
theorem byt_rest (y m d j : Nat) (h4 : 4 ≤ j) (h10 : j < 10) : byt (dateS (y + 1) m d) j = byt (dateS y m d) j := by
  rcases (show j = 4 ∨ j = 5 ∨ j = 6 ∨ j = 7 ∨ j = 8 ∨ j = 9 by omega) with h | h | h | h | h | h <;> subst h <;> rfl

/-- What adding 1 to the four digits does. -/
theorem later_cases (y m d : Nat) (h : y ≤ 2198) (h0 : 1900 ≤ y) :
    48 ≤ byt (dateS y m d) 0 ∧ byt (dateS y m d) 0 ≤ 56 ∧ 48 ≤ byt (dateS y m d) 1 ∧ byt (dateS y m d) 1 ≤ 57 ∧ 48 ≤ byt (dateS y m d) 2 ∧ byt (dateS y m d) 2 ≤ 57 ∧ 48 ≤ byt (dateS y m d) 3 ∧ byt (dateS y m d) 3 ≤ 57 ∧
    ((byt (dateS y m d) 3 ≤ 56 ∧ byt (dateS (y + 1) m d) 0 = byt (dateS y m d) 0 ∧ byt (dateS (y + 1) m d) 1 = byt (dateS y m d) 1 ∧ byt (dateS (y + 1) m d) 2 = byt (dateS y m d) 2 ∧ byt (dateS (y + 1) m d) 3 = byt (dateS y m d) 3 + 1) ∨
     (byt (dateS y m d) 3 = 57 ∧ byt (dateS y m d) 2 ≤ 56 ∧ byt (dateS (y + 1) m d) 0 = byt (dateS y m d) 0 ∧ byt (dateS (y + 1) m d) 1 = byt (dateS y m d) 1 ∧ byt (dateS (y + 1) m d) 2 = byt (dateS y m d) 2 + 1 ∧ byt (dateS (y + 1) m d) 3 = 48) ∨
     (byt (dateS y m d) 3 = 57 ∧ byt (dateS y m d) 2 = 57 ∧ byt (dateS y m d) 1 ≤ 56 ∧ byt (dateS (y + 1) m d) 0 = byt (dateS y m d) 0 ∧ byt (dateS (y + 1) m d) 1 = byt (dateS y m d) 1 + 1 ∧ byt (dateS (y + 1) m d) 2 = 48 ∧ byt (dateS (y + 1) m d) 3 = 48) ∨
     (byt (dateS y m d) 3 = 57 ∧ byt (dateS y m d) 2 = 57 ∧ byt (dateS y m d) 1 = 57 ∧ byt (dateS (y + 1) m d) 0 = byt (dateS y m d) 0 + 1 ∧ byt (dateS (y + 1) m d) 1 = 48 ∧ byt (dateS (y + 1) m d) 2 = 48 ∧ byt (dateS (y + 1) m d) 3 = 48)) := by
  rw [byt_0 y m d (by omega), byt_1 y m d, byt_2 y m d, byt_3 y m d, byt_0 (y + 1) m d (by omega), byt_1 (y + 1) m d, byt_2 (y + 1) m d, byt_3 (y + 1) m d]
  refine ⟨by omega, by omega, by omega, by omega, by omega, by omega, by omega, by omega, ?_⟩
  by_cases h3 : y % 100 % 10 = 9
  · by_cases h2 : y % 100 / 10 = 9
    · by_cases h1 : y / 100 % 10 = 9
      · exact .inr (.inr (.inr ⟨by omega, by omega, by omega, by omega, by omega, by omega, by omega⟩))
      · exact .inr (.inr (.inl ⟨by omega, by omega, by omega, by omega, by omega, by omega, by omega⟩))
    · exact .inr (.inl ⟨by omega, by omega, by omega, by omega, by omega, by omega⟩)
  · exact .inl ⟨by omega, by omega, by omega, by omega, by omega⟩

/-- The row that []byte makes. -/
theorem bytes_row (w : World) (e : TypeId) (S : ByteArray) (hS : S.size = 10) :
    (∀ j, j < 10 → (Lib.bytesWorld w e S).cell? ⟨w.heap.size, j, none⟩ = some (.int .u8 (byt S j))) ∧ (∀ j, j < 10 → (Lib.bytesWorld w e S).frozen? ⟨w.heap.size, j, none⟩ = false) ∧ (Lib.bytesWorld w e S).heap.size = w.heap.size + 1 := by
  refine ⟨fun j hj => Lib.bytesWorld_cell w e S j (by omega), fun j hj => ?_, Lib.bytesWorld_size w e S⟩
  have hsz : 10 ≤ (Lib.bytesCells w e S).size := by
    unfold Lib.bytesCells
    rw [Array.size_append, Array.size_map]
    have : S.data.size = 10 := hS
    omega
  have h := Lib.bytesWorld_at_new w e S
  simp only [World.frozen?, h]
  simp
  omega

/-- A row of ten bytes as a text. -/
theorem row_text (W : World) (B cap : Nat) (S : ByteArray) (hS : S.size = 10) (hc : ∀ j, j < 10 → W.cell? ⟨B, j, none⟩ = some (.int .u8 (byt S j))) :
    (convert 34 9 (.slice (some ⟨B, 0, none⟩) 10 cap)).run Tryd.prog W = .ok (.string S) W := by
  have hl : S.data.toList.length = 10 := by simpa using hS
  have h := run_convert_bytes_back (P := Tryd.prog) W 34 9 5 ⟨B, 0, none⟩ cap S.data.toList Tryd.underlying34 Tryd.underlying5 Tryd.underlying9 (fun j hj => by
    have := hc j (by omega)
    simp only [byt] at this
    have e : S.data.toList.getD j 0 = S.data.toList[j] := by rw [List.getD_eq_getElem?_getD, List.getElem?_eq_getElem hj]; rfl
    rw [e] at this
    rw [Lib.add_plain, Nat.zero_add]
    exact this)
  rw [hl] at h
  exact h
end Go.Proofs.YtanndhoimpnhpaaDoor
