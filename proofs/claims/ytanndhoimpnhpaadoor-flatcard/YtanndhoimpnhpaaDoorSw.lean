/- Weights of days: each at most three; of 3700 days at most 4320 in all; what fines come to. -/
import Derived.Test.YtanndhoimpnhpaaDoorCd
import Derived.Test.YtanndhoimpnhpaaDoorDy
namespace Go.Proofs.YtanndhoimpnhpaaDoor.Cal

theorem has_civ : ∀ n : Nat, n ≤ 109573 → ∃ y m d : Int, Ok y m d ∧ num y m d = n
  | 0, _ => ⟨1900, 1, 1, ok_mk (by decide) (by decide) (by decide) (by decide) (by decide) (by decide), by decide⟩
  | n + 1, h => by
    obtain ⟨y, m, d, hok, hn⟩ := has_civ n (by omega)
    exact ⟨_, _, _, next_ok y m d hok (by omega), by rw [next_num y m d hok]; omega⟩
theorem t_next (n : Int) (h0 : 0 ≤ n) (h1 : n ≤ 109572) : ∃ p q, IsT (n + 1) p ∧ IsT n q ∧ 0 ≤ p - q ∧ p - q ≤ 3 := by
  obtain ⟨y, m, d, hok, hn⟩ := has_civ n.toNat (by omega)
  rw [Int.toNat_of_nonneg h0] at hn
  have hb := t3_next y m d hok
  exact ⟨_, _, ⟨_, _, _, next_ok y m d hok (by omega), by rw [next_num y m d hok, hn], rfl⟩, ⟨y, m, d, hok, hn, rfl⟩, hb.1, hb.2⟩
theorem wtOf_bd (b n : Int) : 0 ≤ wtOf b n ∧ wtOf b n ≤ 3 := by
  by_cases h : b = 3 ∧ 0 ≤ n ∧ n ≤ 109572
  · obtain ⟨h3, h0, h1⟩ := h
    obtain ⟨p, q, hp, hq, b0, b1⟩ := t_next n h0 h1
    rw [h3, wtOf_three h0 h1 hp hq]
    exact ⟨b0, b1⟩
  · unfold wtOf
    rw [if_neg h]
    decide
theorem is_t (n : Int) (h0 : 0 ≤ n) (h1 : n ≤ 109573) : IsT n (tOf n) := by
  obtain ⟨y, m, d, hok, hn⟩ := has_civ n.toNat (by omega)
  rw [Int.toNat_of_nonneg h0] at hn
  have : IsT n (t3 y m d) := ⟨y, m, d, hok, hn, rfl⟩
  rw [tOf_is this]
  exact this
/-- The weight of the k-th day. -/
noncomputable def wsOf (b st : Int) (k : Nat) : Nat := (wtOf b (st + k)).toNat
theorem wsOf_le (b st : Int) (k : Nat) : wsOf b st k ≤ 3 := by
  have := wtOf_bd b (st + k)
  unfold wsOf
  omega
theorem wsOf_eq (b st : Int) (k : Nat) : wtOf b (st + k) = wsOf b st k := by
  have := wtOf_bd b (st + k)
  unfold wsOf
  omega
theorem sw_one (b st : Int) (h : ¬ b = 3) : ∀ k : Nat, Ln.sw (wsOf b st) k = k
  | 0 => rfl
  | k + 1 => by
    show Ln.sw (wsOf b st) k + wsOf b st k = k + 1
    rw [sw_one b st h k]
    unfold wsOf
    rw [wtOf_one _ h]
    rfl
theorem sw_three (st : Int) (h0 : 0 ≤ st) : ∀ k : Nat, st + k ≤ 109573 → (Ln.sw (wsOf 3 st) k : Int) = tOf (st + k) - tOf st
  | 0, _ => by simp [Ln.sw]
  | k + 1, h => by
    have ih := sw_three st h0 k (by omega)
    have hw : wtOf 3 (st + k) = tOf (st + k + 1) - tOf (st + k) := wtOf_three (by omega) (by omega) (is_t _ (by omega) (by omega)) (is_t _ (by omega) (by omega))
    have he := wsOf_eq 3 st k
    show ((Ln.sw (wsOf 3 st) k + wsOf 3 st k : Nat) : Int) = _
    have e : st + ((k + 1 : Nat) : Int) = st + k + 1 := by omega
    rw [e]
    omega
theorem t_far (st : Int) (k : Nat) (hk : k ≤ 3700) (p q : Int) (hp : IsT (st + k) p) (hq : IsT st q) : p - q ≤ 4320 := by
  obtain ⟨y, m, d, ⟨a1, a2, a3, a4, a5, a6⟩, hn, rfl⟩ := hp
  obtain ⟨y', m', d', ⟨b1, b2, b3, b4, b5, b6⟩, hn', rfl⟩ := hq
  have i1 := in_year y m d a3 a4 a5 a6
  have i2 := in_year y' m' d' b3 b4 b5 b6
  have l2 := lp_01 y'
  unfold num at hn hn'
  have hy : y - y' ≤ 11 := by
    have hz : ys y - ys y' ≤ 3700 + 366 := by omega
    unfold ys at hz
    omega
  unfold t3 cap
  (repeat' split) <;> omega
theorem sw_bd (b st : Int) (h0 : 0 ≤ st) (h1 : st ≤ 105872) (k : Nat) (hk : k ≤ 3700) : Ln.sw (wsOf b st) k ≤ 4320 := by
  by_cases h : b = 3
  · subst h
    have e := sw_three st h0 k (by omega)
    have := t_far st k hk _ _ (is_t (st + k) (by omega) (by omega)) (is_t st h0 (by omega))
    omega
  · rw [sw_one b st h k]
    omega
end Go.Proofs.YtanndhoimpnhpaaDoor.Cal
namespace Go.Proofs.YtanndhoimpnhpaaDoor.Ln
open Cal
theorem tot_bound {t : Terms} (ht : OkT t) (l : List Ev) (hl : ∀ e ∈ l, OkE t e) (hn : l.length ≤ 40) (k : Nat) : (if 0 < k then t.pr else 0) + tot t k l ≤ 4100000000000 := by
  have h1 := tot_le t k l hl
  have h2 := ht.pr0
  have h3 := ht.pr1
  split <;> omega
/-- What fines come to, in all. -/
theorem run_fn {t : Terms} (ht : OkT t) (l : List Ev) (hl : ∀ e ∈ l, OkE t e) (hn : l.length ≤ 40) : ∀ k : Nat, k ≤ 3700 → (run t cdOf (wtOf t.ba) l k).fn ≤ 656820000000000000000000 * (sw (wsOf t.ba t.st) k : Int)
  | 0, _ => by simp [run, start, sw]
  | k + 1, hk => by
    have ih := run_fn ht l hl hn k (by omega)
    have hI := run_inv ht cdOf (wtOf t.ba) (wsOf t.ba t.st) (wsOf_le _ _) (wsOf_eq _ _) l hl k
    have hs := sw_bd t.ba t.st ht.st0 ht.st1 k (by omega)
    have hlk := tot_bound ht l hl hn (k + 1)
    have ts := tot_succ t k l
    have I1 := Inv.events (t.st + k) l (hI.early (t.st + k) (cdOf (t.st + k)) ht) hl
    have hL : (if 0 < k then t.pr else 0) + tot t k l + (if t.st + (k : Int) = t.st then t.pr else 0) + lents (t.st + k) l ≤ 4100000000000 := by
      rw [if_pos (Nat.succ_pos k)] at hlk
      by_cases h0 : 0 < k
      · rw [if_pos h0, if_neg (by omega)]; omega
      · rw [if_neg h0, if_pos (by omega)]; omega
    have hb := I1.bound hs hL
    have g1 := I1.pr
    have g2 := I1.it
    have g3 := I1.du
    have g4 := I1.la
    have fe := events_fn (t.st + k) l (early t (t.st + k) (cdOf (t.st + k)) (run t cdOf (wtOf t.ba) l k))
    rw [early_fn] at fe
    have hw := wsOf_eq t.ba t.st k
    have hw3 := wsOf_le t.ba t.st k
    have e : (run t cdOf (wtOf t.ba) l (k + 1)).fn = (run t cdOf (wtOf t.ba) l k).fn + (l.foldl (event (t.st + k)) (early t (t.st + k) (cdOf (t.st + k)) (run t cdOf (wtOf t.ba) l k))).g.la * (t.fi * wtOf t.ba (t.st + k)) := by
      rw [← fe]
      rfl
    rw [e, hw]
    generalize (l.foldl (event (t.st + k)) (early t (t.st + k) (cdOf (t.st + k)) (run t cdOf (wtOf t.ba) l k))).g.la = la at *
    have m1 : t.fi * (wsOf t.ba t.st k : Int) ≤ 1000000 * (wsOf t.ba t.st k : Int) := Int.mul_le_mul_of_nonneg_right ht.fi1 (by omega)
    have m0 : 0 ≤ t.fi * (wsOf t.ba t.st k : Int) := Int.mul_nonneg ht.fi0 (by omega)
    have m2 : la * (t.fi * (wsOf t.ba t.st k : Int)) ≤ 656820000000000000 * (1000000 * (wsOf t.ba t.st k : Int)) := Int.mul_le_mul (by omega) m1 m0 (by decide)
    show _ ≤ 656820000000000000000000 * ((sw (wsOf t.ba t.st) k + wsOf t.ba t.st k : Nat) : Int)
    omega
theorem run_fn_bd {t : Terms} (ht : OkT t) (l : List Ev) (hl : ∀ e ∈ l, OkE t e) (hn : l.length ≤ 40) (k : Nat) (hk : k ≤ 3700) : (run t cdOf (wtOf t.ba) l k).fn / den t ≤ 8000000000000000000 := by
  have h := run_fn ht l hl hn k hk
  have hs := sw_bd t.ba t.st ht.st0 ht.st1 k hk
  have hd := den_bd t
  refine Int.le_trans (Int.ediv_le_ediv (b := 656820000000000000000000 * 4320) (by omega) (by omega)) ?_
  refine Int.ediv_le_of_le_mul (by omega) ?_
  omega
end Go.Proofs.YtanndhoimpnhpaaDoor.Ln
