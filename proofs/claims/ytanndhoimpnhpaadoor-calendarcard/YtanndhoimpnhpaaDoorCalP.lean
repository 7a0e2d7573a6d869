/- Dates as texts: that a date's text is read back as that date, and that the next date's text is greater. -/
import Derived.Test.YtanndhoimpnhpaaDoorCalO
namespace Go.Proofs.YtanndhoimpnhpaaDoor
open Go.ChangeShapes Go.WideShapes Go.ChangeAt Go.RowKit Cal Txt

theorem tw_num (i : Nat) (h : i < 100) : dok (tw i) = true ∧ dnum (tw i) = i := by
  have : ∀ j : Fin 100, dok (tw j) = true ∧ dnum (tw j) = (j : Nat) := by decide +kernel
  exact this ⟨i, h⟩
theorem year_num (i : Nat) (h0 : 1900 ≤ i) (h : i < 2200) : dok (tw (i / 100) ++ tw (i % 100)) = true ∧ dnum (tw (i / 100) ++ tw (i % 100)) = i := by
  have : ∀ j : Fin 300, dok (tw ((1900 + j) / 100) ++ tw ((1900 + j) % 100)) = true ∧ dnum (tw ((1900 + j) / 100) ++ tw ((1900 + j) % 100)) = ((1900 + j : Nat) : Int) := by decide +kernel
  have h2 := this ⟨i - 1900, by omega⟩
  have e : 1900 + (i - 1900) = i := by omega
  simp only [e] at h2
  exact h2
theorem dateS_size (y m d : Nat) : (dateS y m d).size = 10 := rfl
theorem dateS_year (y m d : Nat) : (dateS y m d).extract 0 4 = tw (y / 100) ++ tw (y % 100) := rfl
theorem dateS_month (y m d : Nat) : (dateS y m d).extract 5 7 = tw m := rfl
theorem dateS_day (y m d : Nat) : (dateS y m d).extract 8 10 = tw d := rfl
theorem dateS_rest (y m d : Nat) : (dateS y m d).extract 5 10 = tw m ++ dash ++ tw d := rfl
theorem dateS_4 (y m d : Nat) : (dateS y m d).data.toList[4]? = some 45 := rfl
theorem dateS_7 (y m d : Nat) : (dateS y m d).data.toList[7]? = some 45 := rfl

theorem dateS_good (y m d : Nat) (hok : Ok y m d) (hy : y ≤ 2199) : good (dateS y m d) = true ∧ dayV (dateS y m d) = num y m d := by
  have db := dim_bd y m
  obtain ⟨a1, a2, a3, a4, a5, a6⟩ := hok
  obtain ⟨k1, e1⟩ := year_num y (by omega) (by omega)
  obtain ⟨k2, e2⟩ := tw_num m (by omega)
  obtain ⟨k3, e3⟩ := tw_num d (by omega)
  have g : good (dateS y m d) = true := by
    unfold good
    rw [dateS_size, dateS_4, dateS_7, dateS_year, dateS_month, dateS_day, k1, k2, k3, e1, e2, e3]
    have y2 : (y : Int) ≤ 2199 := by omega
    simp [dateB, a1, a3, a4, a5, a6, y2]
  refine ⟨g, ?_⟩
  rw [dayV_yes g, dateS_year, dateS_month, dateS_day, e1, e2, e3]

/-! ### The order of texts -/
theorem less_app : ∀ (p a b : List UInt8), Op.bytesLess a b = true → Op.bytesLess (p ++ a) (p ++ b) = true
  | [], _, _, h => h
  | c :: p, a, b, h => by
    simp only [List.cons_append, Op.bytesLess]
    simp [less_app p a b h]
theorem less_tail : ∀ (a b r r' : List UInt8), a.length = b.length → Op.bytesLess a b = true → Op.bytesLess (a ++ r) (b ++ r') = true
  | [], [], _, _, _, h => by simp [Op.bytesLess] at h
  | [], _ :: _, _, _, hl, _ => by simp at hl
  | _ :: _, [], _, _, hl, _ => by simp at hl
  | c :: a, e :: b, r, r', hl, h => by
    simp only [List.cons_append, Op.bytesLess, Bool.or_eq_true, Bool.and_eq_true] at h ⊢
    rcases h with h | ⟨h1, h2⟩
    · exact .inl h
    · exact .inr ⟨h1, less_tail a b r r' (by simpa using hl) h2⟩
theorem tw_less (i : Nat) (h : i < 99) : Op.bytesLess (tw i).toList (tw (i + 1)).toList = true := by
  have : ∀ j : Fin 99, Op.bytesLess (tw j).toList (tw (j + 1)).toList = true := by decide +kernel
  exact this ⟨i, h⟩
theorem year_less (i : Nat) (h0 : 1900 ≤ i) (h : i < 2200) : Op.bytesLess (tw (i / 100) ++ tw (i % 100)).toList (tw ((i + 1) / 100) ++ tw ((i + 1) % 100)).toList = true := by
  have : ∀ j : Fin 300, Op.bytesLess (tw ((1900 + j) / 100) ++ tw ((1900 + j) % 100)).toList (tw ((1900 + j + 1) / 100) ++ tw ((1900 + j + 1) % 100)).toList = true := by decide +kernel
  have h2 := this ⟨i - 1900, by omega⟩
  have e : 1900 + (i - 1900) = i := by omega
  simp only [e] at h2
  exact h2
end Go.Proofs.YtanndhoimpnhpaaDoor
