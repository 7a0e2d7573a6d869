/- What the calendar is for: the next day's text is greater, weights add up and are not below 0, a year on. -/
import Derived.Test.YtanndhoimpnhpaaDoorCalP
namespace Go.Proofs.YtanndhoimpnhpaaDoor
open Go.ChangeShapes Go.WideShapes Go.ChangeAt Go.RowKit Cal Txt

theorem toList_app (a b : ByteArray) : (a ++ b).toList = a.toList ++ b.toList := by
  rw [ByteArray.toList_eq, ByteArray.toList_eq, ByteArray.toList_eq]
  simp
theorem len_tw (i : Nat) : (tw i).toList.length = 2 := by rw [ByteArray.toList_eq]; rfl

theorem next_less (y m d y' m' d' : Nat) (hok : Ok y m d) (hok' : Ok y' m' d') (hn : num y' m' d' = num y m d + 1) (hl : num y m d ≤ 109572) :
    Op.bytesLess (dateS y m d).toList (dateS y' m' d').toList = true := by
  have hy := year_le y m d hok hl
  obtain ⟨e1, e2, e3⟩ := one_date _ _ _ _ _ _ hok' (next_ok y m d hok hl) (hn.trans (next_num y m d hok).symm)
  have db := dim_bd y m
  obtain ⟨a1, a2, a3, a4, a5, a6⟩ := hok
  unfold dateS
  simp only [toList_app]
  by_cases h1 : (d : Int) < dim y m
  · have f1 : y' = y := by simp [ny, h1] at e1; omega
    have f2 : m' = m := by simp [nm, h1] at e2; omega
    have f3 : d' = d + 1 := by simp [nd, h1] at e3; omega
    subst f1 f2 f3
    exact less_app _ _ _ (tw_less d (by omega))
  · by_cases h2 : (m : Int) < 12
    · have f1 : y' = y := by simp [ny, h1, h2] at e1; omega
      have f2 : m' = m + 1 := by simp [nm, h1, h2] at e2; omega
      subst f1 f2
      simp only [List.append_assoc]
      refine less_app _ _ _ (less_app _ _ _ (less_app _ _ _ (less_tail _ _ _ _ (by rw [len_tw, len_tw]) (tw_less m (by omega)))))
    · have f1 : y' = y + 1 := by simp [ny, h1, h2] at e1; omega
      subst f1
      have hyl := year_less y (by omega) (by omega)
      rw [toList_app, toList_app] at hyl
      rw [List.append_assoc, List.append_assoc, List.append_assoc, List.append_assoc ((tw ((y + 1) / 100)).toList ++ (tw ((y + 1) % 100)).toList), List.append_assoc ((tw ((y + 1) / 100)).toList ++ (tw ((y + 1) % 100)).toList), List.append_assoc ((tw ((y + 1) / 100)).toList ++ (tw ((y + 1) % 100)).toList)]
      refine less_tail _ _ _ _ ?_ hyl
      simp [len_tw]

theorem t3_next (y m d : Int) (h : Ok y m d) : t3 y m d ≤ t3 (ny y m d) (nm y m d) (nd y m d) := by
  obtain ⟨a1, a2, a3, a4, a5, a6⟩ := h
  unfold t3 ny nm nd cap
  repeat' split
  all_goals omega
theorem isT_up {n p : Int} (h : IsT n p) : ∀ k : Nat, n + k ≤ 109573 → ∃ q, IsT (n + k) q ∧ p ≤ q
  | 0, _ => ⟨p, by simpa using h, Int.le_refl _⟩
  | k + 1, hk => by
    obtain ⟨q, ⟨y, m, d, hok, hn, rfl⟩, hq⟩ := isT_up h k (by omega)
    refine ⟨_, ⟨_, _, _, next_ok y m d hok (by omega), by rw [next_num y m d hok]; omega, rfl⟩, Int.le_trans hq (t3_next y m d hok)⟩
theorem isT_mono {n n' p q : Int} (h : IsT n p) (h' : IsT n' q) (hle : n ≤ n') (hl : n' ≤ 109573) : p ≤ q := by
  obtain ⟨q', hq, hpq⟩ := isT_up h (n' - n).toNat (by omega)
  have e : n + ((n' - n).toNat : Int) = n' := by omega
  rw [e] at hq
  rw [h'.one hq]
  exact hpq

theorem WSpec.ok {b f t v c : Int} (h : WSpec b f t v c) (b0 : 1 ≤ b) (b1 : b ≤ 3) (f0 : 0 ≤ f) (ft : f ≤ t) (t1 : t ≤ 109572) : c = 0 ∧ (b = 3 → ∃ p q, IsT t p ∧ IsT f q ∧ v = p - q) ∧ (¬ b = 3 → v = t - f) := by
  rcases h with ⟨a1, rfl, rfl⟩ | ⟨a1, a2, a3, rfl, rfl⟩ | ⟨a1, a2, a3, a4, a5, rfl, a6, a7⟩
  · omega
  · omega
  · exact ⟨rfl, a6, a7⟩
/-- Three weights, of a span and its two parts. -/
theorem three_w {b f g t x y z c1 c2 c3 : Int} (h1 : WSpec b f g x c1) (h2 : WSpec b g t y c2) (h3 : WSpec b f t z c3) (b0 : 1 ≤ b) (b1 : b ≤ 3) (f0 : 0 ≤ f) (fg : f ≤ g) (gt : g ≤ t) (t1 : t ≤ 109572) :
    c1 = 0 ∧ c2 = 0 ∧ c3 = 0 ∧ x + y = z ∧ 0 ≤ x ∧ 0 ≤ y ∧ x ≤ 200000 ∧ y ≤ 200000 ∧ (¬ b = 3 → z = t - f) := by
  obtain ⟨r1, p1, q1⟩ := h1.ok b0 b1 f0 fg (by omega)
  obtain ⟨r2, p2, q2⟩ := h2.ok b0 b1 (by omega) gt t1
  obtain ⟨r3, p3, q3⟩ := h3.ok b0 b1 f0 (by omega) t1
  by_cases e : b = 3
  · obtain ⟨u1, u2, i1, i2, rfl⟩ := p1 e
    obtain ⟨u3, u4, i3, i4, rfl⟩ := p2 e
    obtain ⟨u5, u6, i5, i6, rfl⟩ := p3 e
    have m1 := isT_mono i2 i1 fg (by omega)
    have m2 := isT_mono i4 i3 gt (by omega)
    have k1 := i1.one i4
    have k2 := i3.one i5
    have k3 := i2.one i6
    have b1 := i1.bd
    have b2 := i2.bd
    have b3 := i3.bd
    clear p1 p2 p3 q1 q2 q3
    exact ⟨r1, r2, r3, by omega, by omega, by omega, by omega, by omega, fun h => absurd e h⟩
  · have k1 := q1 e
    have k2 := q2 e
    have k3 := q3 e
    clear p1 p2 p3 q1 q2 q3
    exact ⟨r1, r2, r3, by omega, by omega, by omega, by omega, by omega, fun _ => k3⟩

/-- A year on. -/
theorem later_ok (y m d : Int) (h : Ok y m d) (hy : y ≤ 2198) (hx : ¬ (m = 2 ∧ d = 29)) : Ok (y + 1) m d ∧ (num (y + 1) m d - num y m d = 365 ∨ num (y + 1) m d - num y m d = 366) ∧ num (y + 1) m d ≤ 109572 := by
  obtain ⟨a1, a2, a3, a4, a5, a6⟩ := h
  have g1 := lp_01 y
  have g2 := lp_01 (y + 1)
  have hd : d ≤ dim (y + 1) m := by
    unfold dim at a6 ⊢
    repeat' split at a6
    all_goals (repeat' split)
    all_goals omega
  have hok : Ok (y + 1) m d := ⟨by omega, by omega, a3, a4, a5, hd⟩
  refine ⟨hok, ?_, ?_⟩
  · have s1 := ys_succ y
    unfold num cum
    split <;> omega
  · have i1 := in_year (y + 1) m d a3 a4 a5 hd
    have s1 := ys_succ (y + 1)
    have s2 := ys_mono (y + 1 + 1) 2200 (by omega)
    have s3 := ys_last
    unfold num
    omega
theorem later_w (y m d v c : Int) (h : Ok y m d) (h' : Ok (y + 1) m d) (hw : WSpec 3 (num y m d) (num (y + 1) m d) v c) (n0 : 0 ≤ num y m d) (n1 : num y m d ≤ num (y + 1) m d) (n2 : num (y + 1) m d ≤ 109572) : c = 0 ∧ v = 360 := by
  obtain ⟨r, p, _⟩ := hw.ok (by decide) (by decide) n0 n1 n2
  obtain ⟨u, u', i, i', rfl⟩ := p rfl
  have e1 := i.one ⟨_, _, _, h', rfl, rfl⟩
  have e2 := i'.one ⟨_, _, _, h, rfl, rfl⟩
  refine ⟨r, ?_⟩
  rw [e1, e2]
  unfold t3
  omega
/-- What a day far from the end has for its year. -/
theorem year_far (y m d : Int) (h : Ok y m d) (hn : num y m d ≤ 109205) : y ≤ 2198 := by
  obtain ⟨a1, a2, a3, a4, a5, a6⟩ := h
  have i1 := in_year y m d a3 a4 a5 a6
  unfold num at hn
  apply Int.not_lt.mp
  intro h
  have g := ys_mono 2199 y (by omega)
  have g2 : ys 2199 = 109208 := by decide
  omega
/-- '02-29' and no other. -/
theorem is29 (m d : Nat) (hm : m ≤ 12) (hd : d ≤ 31) : ((tw m ++ dash ++ tw d).toList == [48, 50, 45, 50, 57]) = (decide (m = 2) && decide (d = 29)) := by
  have : ∀ (i : Fin 13) (j : Fin 32), ((tw i ++ dash ++ tw j).toList == [48, 50, 45, 50, 57]) = (decide ((i : Nat) = 2) && decide ((j : Nat) = 29)) := by decide +kernel
  exact this ⟨m, by omega⟩ ⟨d, by omega⟩
end Go.Proofs.YtanndhoimpnhpaaDoor
