/- The calendar as plain arithmetic: lengths of years and months, a date's number, that a number has one date, and what the next date is. -/
namespace Go.Proofs.YtanndhoimpnhpaaDoor.Cal

def lp (y : Int) : Int := if y % 4 = 0 ∧ (¬ y % 100 = 0 ∨ y % 400 = 0) then 1 else 0
def dim (y m : Int) : Int := if m = 2 then 28 + lp y else if m = 4 ∨ m = 6 ∨ m = 9 ∨ m = 11 then 30 else 31
def ys (y : Int) : Int := 365 * (y - 1900) + ((y - 1) / 4 - (y - 1) / 100 + (y - 1) / 400) - 460
def cum (y m : Int) : Int := if m ≤ 2 then 31 * (m - 1) else (153 * (m - 3) + 2) / 5 + 59 + lp y
def num (y m d : Int) : Int := ys y + cum y m + d - 1
def Ok (y m d : Int) : Prop := 1900 ≤ y ∧ y ≤ 2200 ∧ 1 ≤ m ∧ m ≤ 12 ∧ 1 ≤ d ∧ d ≤ dim y m
def cap (d : Int) : Int := if d ≤ 30 then d else 30
def t3 (y m d : Int) : Int := 360 * y + 30 * m + cap d

theorem lp_01 (y : Int) : 0 ≤ lp y ∧ lp y ≤ 1 := by unfold lp; split <;> omega
theorem ys_succ (y : Int) : ys (y + 1) = ys y + 365 + lp y := by
  unfold ys lp
  split <;> omega
theorem ys_mono (a b : Int) (h : a ≤ b) : ys a ≤ ys b := by unfold ys; omega
theorem ys_first : ys 1900 = 0 := by decide
theorem ys_last : ys 2200 = 109573 := by decide
theorem ys_bd (y : Int) (a : 1900 ≤ y) (b : y ≤ 2201) : 0 ≤ ys y ∧ ys y ≤ 109938 := by unfold ys; omega
theorem ys_guess (n : Int) (h : 0 ≤ n) : ys (1900 + n / 366) ≤ n := by unfold ys; omega
theorem dim_bd (y m : Int) : 28 ≤ dim y m ∧ dim y m ≤ 31 := by
  have := lp_01 y
  unfold dim; repeat' split
  all_goals omega
theorem months (m : Int) (a : 1 ≤ m) (b : m ≤ 12) : m = 1 ∨ m = 2 ∨ m = 3 ∨ m = 4 ∨ m = 5 ∨ m = 6 ∨ m = 7 ∨ m = 8 ∨ m = 9 ∨ m = 10 ∨ m = 11 ∨ m = 12 := by omega
theorem cum_succ (y m : Int) (a : 1 ≤ m) (b : m ≤ 12) : cum y (m + 1) = cum y m + dim y m := by
  rcases months m a b with h | h | h | h | h | h | h | h | h | h | h | h <;> subst h <;> simp [cum, dim] <;> omega
theorem cum_one (y : Int) : cum y 1 = 0 := by simp [cum]
theorem cum_end (y : Int) : cum y 13 = 365 + lp y := by simp [cum]
theorem cum_mono (y a b : Int) (h1 : 1 ≤ a) (h : a ≤ b) : cum y a ≤ cum y b := by
  have := lp_01 y
  unfold cum; repeat' split
  all_goals omega
theorem cum_bd (y m : Int) (a : 1 ≤ m) (b : m ≤ 13) : 0 ≤ cum y m ∧ cum y m ≤ 366 := by
  have := lp_01 y
  unfold cum; split <;> omega
/-- A date's day within its year. -/
theorem in_year (y m d : Int) (a : 1 ≤ m) (b : m ≤ 12) (c : 1 ≤ d) (e : d ≤ dim y m) : 0 ≤ cum y m + d - 1 ∧ cum y m + d - 1 < 365 + lp y := by
  have h1 := cum_bd y m a (by omega)
  have h2 := cum_succ y m a b
  have h3 := cum_mono y (m + 1) 13 (by omega) (by omega)
  have h4 := cum_end y
  omega
/-- A number has one date. -/
theorem one_date (y m d y' m' d' : Int) (h : Ok y m d) (h' : Ok y' m' d') (e : num y m d = num y' m' d') : y = y' ∧ m = m' ∧ d = d' := by
  obtain ⟨a1, a2, a3, a4, a5, a6⟩ := h
  obtain ⟨b1, b2, b3, b4, b5, b6⟩ := h'
  unfold num at e
  have i1 := in_year y m d a3 a4 a5 a6
  have i2 := in_year y' m' d' b3 b4 b5 b6
  have hy : y = y' := by
    rcases Int.lt_trichotomy y y' with h | h | h
    · have g1 := ys_mono (y + 1) y' (by omega)
      have g2 := ys_succ y
      omega
    · exact h
    · have g1 := ys_mono (y' + 1) y (by omega)
      have g2 := ys_succ y'
      omega
  subst hy
  have hm : m = m' := by
    rcases Int.lt_trichotomy m m' with h | h | h
    · have g1 := cum_mono y (m + 1) m' (by omega) (by omega)
      have g2 := cum_succ y m a3 a4
      omega
    · exact h
    · have g1 := cum_mono y (m' + 1) m (by omega) (by omega)
      have g2 := cum_succ y m' b3 b4
      omega
  subst hm
  exact ⟨rfl, rfl, by omega⟩
theorem num_bd (y m d : Int) (h : Ok y m d) : 0 ≤ num y m d ∧ num y m d ≤ 109938 := by
  obtain ⟨a1, a2, a3, a4, a5, a6⟩ := h
  have i1 := in_year y m d a3 a4 a5 a6
  have g := ys_bd y a1 (by omega)
  have g2 := ys_bd (y + 1) (by omega) (by omega)
  have g3 := ys_succ y
  unfold num
  omega
/-- The date of a day up to the one behind the last: its year is at most 2200; within the days at most 2199. -/
theorem year_le (y m d : Int) (h : Ok y m d) (hn : num y m d ≤ 109572) : y ≤ 2199 := by
  obtain ⟨a1, a2, a3, a4, a5, a6⟩ := h
  have i1 := in_year y m d a3 a4 a5 a6
  unfold num at hn
  apply Int.not_lt.mp
  intro h
  have g := ys_mono 2200 y (by omega)
  have g2 := ys_last
  omega
theorem t3_bd (y m d : Int) (h : Ok y m d) : 684031 ≤ t3 y m d ∧ t3 y m d ≤ 792390 := by
  obtain ⟨a1, a2, a3, a4, a5, a6⟩ := h
  unfold t3 cap; split <;> omega

/-- The next date. -/
def nd (y m d : Int) : Int := if d < dim y m then d + 1 else 1
def nm (y m d : Int) : Int := if d < dim y m then m else if m < 12 then m + 1 else 1
def ny (y m d : Int) : Int := if d < dim y m then y else if m < 12 then y else y + 1
theorem next_num (y m d : Int) (h : Ok y m d) : num (ny y m d) (nm y m d) (nd y m d) = num y m d + 1 := by
  obtain ⟨a1, a2, a3, a4, a5, a6⟩ := h
  unfold nd nm ny
  split
  · unfold num; omega
  · split
    · have := cum_succ y m a3 a4
      unfold num; omega
    · have e : m = 12 := by omega
      subst e
      have g1 := cum_succ y 12 (by omega) (by omega)
      have g2 := cum_end y
      have g3 := ys_succ y
      have g4 := cum_one (y + 1)
      unfold num
      rw [show (12 : Int) + 1 = 13 from rfl] at g1
      omega
theorem next_ok (y m d : Int) (h : Ok y m d) (hn : num y m d ≤ 109572) : Ok (ny y m d) (nm y m d) (nd y m d) := by
  have hy := year_le y m d h hn
  obtain ⟨a1, a2, a3, a4, a5, a6⟩ := h
  unfold nd nm ny
  split
  · exact ⟨a1, a2, a3, a4, by omega, by omega⟩
  · split
    · have := dim_bd y (m + 1)
      exact ⟨a1, a2, by omega, by omega, by omega, by omega⟩
    · have := dim_bd (y + 1) 1
      exact ⟨by omega, by omega, by omega, by omega, by omega, by omega⟩

/-- The document's t of a day, as a relation. -/
def IsT (n t : Int) : Prop := ∃ y m d, Ok y m d ∧ num y m d = n ∧ t = t3 y m d
theorem IsT.one {n t t' : Int} (h : IsT n t) (h' : IsT n t') : t = t' := by
  obtain ⟨y, m, d, k, e, rfl⟩ := h
  obtain ⟨y', m', d', k', e', rfl⟩ := h'
  obtain ⟨rfl, rfl, rfl⟩ := one_date _ _ _ _ _ _ k k' (e.trans e'.symm)
  rfl
theorem IsT.bd {n t : Int} (h : IsT n t) : 684031 ≤ t ∧ t ≤ 792390 := by
  obtain ⟨y, m, d, k, e, rfl⟩ := h
  exact t3_bd y m d k
theorem ok_mk {y m d : Int} (a : 1900 ≤ y) (b : y ≤ 2200) (c : 1 ≤ m) (e : m ≤ 12) (f : 1 ≤ d) (g : d ≤ dim y m) : Ok y m d := ⟨a, b, c, e, f, g⟩
theorem month_end (n y m : Int) (h1 : 1 ≤ m) (h2 : m ≤ 12) (hz : n < ys (y + 1)) (hr : dim y m ≤ n - ys y - cum y m) : m < 12 := by
  apply Int.not_le.mp
  intro h
  obtain rfl : m = 12 := by omega
  have g1 := cum_succ y 12 (by omega) (by omega)
  have g2 := cum_end y
  have g3 := ys_succ y
  rw [show (12 : Int) + 1 = 13 from rfl] at g1
  omega
end Go.Proofs.YtanndhoimpnhpaaDoor.Cal
