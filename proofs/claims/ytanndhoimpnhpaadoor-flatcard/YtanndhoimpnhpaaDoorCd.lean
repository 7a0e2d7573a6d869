/- The day of the month and the weight of a day, as functions; of a right day there is one of each. -/
import Derived.Test.YtanndhoimpnhpaaDoorCal
namespace Go.Proofs.YtanndhoimpnhpaaDoor.Cal

def IsD (n d : Int) : Prop := ∃ y m, Ok y m d ∧ num y m d = n
theorem IsD.one {n d d' : Int} (h : IsD n d) (h' : IsD n d') : d = d' := by
  obtain ⟨y, m, o, e⟩ := h
  obtain ⟨y', m', o', e'⟩ := h'
  exact (one_date y m d y' m' d' o o' (e.trans e'.symm)).2.2
open Classical in
noncomputable def cdOf (n : Int) : Int := if h : ∃ d, IsD n d then Classical.choose h else 0
theorem cdOf_is {n d : Int} (h : IsD n d) : cdOf n = d := by
  have hx : ∃ d, IsD n d := ⟨d, h⟩
  unfold cdOf
  rw [dif_pos hx]
  exact (Classical.choose_spec hx).one h
open Classical in
noncomputable def tOf (n : Int) : Int := if h : ∃ t, IsT n t then Classical.choose h else 0
theorem tOf_is {n t : Int} (h : IsT n t) : tOf n = t := by
  have hx : ∃ t, IsT n t := ⟨t, h⟩
  unfold tOf
  rw [dif_pos hx]
  exact (Classical.choose_spec hx).one h
open Classical in
noncomputable def wtOf (b n : Int) : Int := if b = 3 ∧ 0 ≤ n ∧ n ≤ 109572 then tOf (n + 1) - tOf n else 1
theorem wtOf_one {b : Int} (n : Int) (h : ¬ b = 3) : wtOf b n = 1 := by
  unfold wtOf
  rw [if_neg (fun x => h x.1)]
theorem wtOf_three {n p q : Int} (h0 : 0 ≤ n) (h1 : n ≤ 109572) (hp : IsT (n + 1) p) (hq : IsT n q) : wtOf 3 n = p - q := by
  unfold wtOf
  rw [if_pos ⟨rfl, h0, h1⟩, tOf_is hp, tOf_is hq]
/-- The next day's place is at most three further. -/
theorem t3_next (y m d : Int) (h : Ok y m d) : 0 ≤ t3 (ny y m d) (nm y m d) (nd y m d) - t3 y m d ∧ t3 (ny y m d) (nm y m d) (nd y m d) - t3 y m d ≤ 3 := by
  obtain ⟨a1, a2, a3, a4, a5, a6⟩ := h
  have hb := dim_bd y m
  unfold t3 cap ny nm nd
  by_cases h1 : d < dim y m
  · simp only [h1, if_true]
    (repeat' split) <;> omega
  · simp only [h1, if_false]
    by_cases h2 : m < 12
    · simp only [h2, if_true]
      (repeat' split) <;> omega
    · simp only [h2, if_false]
      have h12 : m = 12 := by omega
      subst h12
      have : dim y 12 = 31 := by simp [dim]
      (repeat' split) <;> omega
end Go.Proofs.YtanndhoimpnhpaaDoor.Cal
