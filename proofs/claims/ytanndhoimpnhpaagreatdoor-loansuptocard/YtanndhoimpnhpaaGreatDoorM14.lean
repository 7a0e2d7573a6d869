/- Joined by program: Sw, LnK, Mid, Bp, Bk. -/
import Derived.Test.YtanndhoimpnhpaaGreatDoorM7
import Derived.Test.YtanndhoimpnhpaaGreatDoorM9
import Derived.Test.YtanndhoimpnhpaaGreatDoorM13
import Derived.Test.YtanndhoimpnhpaaGreatDoorM4
import Derived.Test.YtanndhoimpnhpaaGreatDoorM1
import Derived.Maps.AppendAt
import Derived.Test.YtanndhoimpnhpaaGreatDoorM11
/- Weights of days: each at most three; of 3700 days at most 4320 in all; what fines come to. -/
namespace Go.Proofs.YtanndhoimpnhpaaGreatDoor.Cal

theorem has_civ : ∀ n : Nat, n ≤ 109573 → ∃ y m d : Int, Ok y m d ∧ num y m d = n
  | 0, _ => ⟨1900, 1, 1, ok_mk (by decide) (by decide) (by decide) (by decide) (by decide) (by decide), by decide⟩
  | n + 1, h => by
    obtain ⟨y, m, d, hok, hn⟩ := has_civ n (by omega)
    exact ⟨_, _, _, next_ok y m d hok (by omega), by rw [next_num y m d hok]; omega⟩
theorem t_next (n : Int) (h0 : 0 ≤ n) (h1 : n ≤ 109572) : ∃ p q, IsT (n + 1) p ∧ IsT n q ∧ 0 ≤ p - q ∧ p - q ≤ 3 := by
  obtain ⟨y, m, d, hok, hn⟩ := has_civ n.toNat (by omega)
  rw [Int.toNat_of_nonneg h0] at hn
  have hb := t3_next y m d hok
  exact ⟨_, _, ⟨_, _, _, next_ok y m d hok (by omega), by rw [next_num y m d hok, hn], rfl⟩, ⟨y, m, d, hok, hn, rfl⟩, hb.1, hb.2⟩
theorem wtOf_bd (b n : Int) : 0 ≤ wtOf b n ∧ wtOf b n ≤ 3 := by
  by_cases h : b = 3 ∧ 0 ≤ n ∧ n ≤ 109572
  · obtain ⟨h3, h0, h1⟩ := h
    obtain ⟨p, q, hp, hq, b0, b1⟩ := t_next n h0 h1
    rw [h3, wtOf_three h0 h1 hp hq]
    exact ⟨b0, b1⟩
  · unfold wtOf
    rw [if_neg h]
    decide
theorem is_t (n : Int) (h0 : 0 ≤ n) (h1 : n ≤ 109573) : IsT n (tOf n) := by
  obtain ⟨y, m, d, hok, hn⟩ := has_civ n.toNat (by omega)
  rw [Int.toNat_of_nonneg h0] at hn
  have : IsT n (t3 y m d) := ⟨y, m, d, hok, hn, rfl⟩
  rw [tOf_is this]
  exact this
/-- The weight of the k-th day. -/
noncomputable def wsOf (b st : Int) (k : Nat) : Nat := (wtOf b (st + k)).toNat
theorem wsOf_le (b st : Int) (k : Nat) : wsOf b st k ≤ 3 := by
  have := wtOf_bd b (st + k)
  unfold wsOf
  omega
theorem wsOf_eq (b st : Int) (k : Nat) : wtOf b (st + k) = wsOf b st k := by
  have := wtOf_bd b (st + k)
  unfold wsOf
  omega
theorem sw_one (b st : Int) (h : ¬ b = 3) : ∀ k : Nat, Ln.sw (wsOf b st) k = k
  | 0 => rfl
  | k + 1 => by
    show Ln.sw (wsOf b st) k + wsOf b st k = k + 1
    rw [sw_one b st h k]
    unfold wsOf
    rw [wtOf_one _ h]
    rfl
theorem sw_three (st : Int) (h0 : 0 ≤ st) : ∀ k : Nat, st + k ≤ 109573 → (Ln.sw (wsOf 3 st) k : Int) = tOf (st + k) - tOf st
  | 0, _ => by simp [Ln.sw]
  | k + 1, h => by
    have ih := sw_three st h0 k (by omega)
    have hw : wtOf 3 (st + k) = tOf (st + k + 1) - tOf (st + k) := wtOf_three (by omega) (by omega) (is_t _ (by omega) (by omega)) (is_t _ (by omega) (by omega))
    have he := wsOf_eq 3 st k
    show ((Ln.sw (wsOf 3 st) k + wsOf 3 st k : Nat) : Int) = _
    have e : st + ((k + 1 : Nat) : Int) = st + k + 1 := by omega
    rw [e]
    omega
theorem t_far (st : Int) (k : Nat) (hk : k ≤ 3700) (p q : Int) (hp : IsT (st + k) p) (hq : IsT st q) : p - q ≤ 4320 := by
  obtain ⟨y, m, d, ⟨a1, a2, a3, a4, a5, a6⟩, hn, rfl⟩ := hp
  obtain ⟨y', m', d', ⟨b1, b2, b3, b4, b5, b6⟩, hn', rfl⟩ := hq
  have i1 := in_year y m d a3 a4 a5 a6
  have i2 := in_year y' m' d' b3 b4 b5 b6
  have l2 := lp_01 y'
  unfold num at hn hn'
  have hy : y - y' ≤ 11 := by
    have hz : ys y - ys y' ≤ 3700 + 366 := by omega
    unfold ys at hz
    omega
  unfold t3 cap
  (repeat' split) <;> omega
theorem sw_bd (b st : Int) (h0 : 0 ≤ st) (h1 : st ≤ 105872) (k : Nat) (hk : k ≤ 3700) : Ln.sw (wsOf b st) k ≤ 4320 := by
  by_cases h : b = 3
  · subst h
    have e := sw_three st h0 k (by omega)
    have := t_far st k hk _ _ (is_t (st + k) (by omega) (by omega)) (is_t st h0 (by omega))
    omega
  · rw [sw_one b st h k]
    omega
end Go.Proofs.YtanndhoimpnhpaaGreatDoor.Cal
namespace Go.Proofs.YtanndhoimpnhpaaGreatDoor.Ln
open Cal
theorem tot_bound {t : Terms} (ht : OkT t) (l : List Ev) (hl : ∀ e ∈ l, OkE t e) (hn : l.length ≤ 40) (k : Nat) : (if 0 < k then t.pr else 0) + tot t k l ≤ 4100000000000 := by
  have h1 := tot_le t k l hl
  have h2 := ht.pr0
  have h3 := ht.pr1
  split <;> omega
/-- What fines come to, in all. -/
theorem run_fn {t : Terms} (ht : OkT t) (l : List Ev) (hl : ∀ e ∈ l, OkE t e) (hn : l.length ≤ 40) : ∀ k : Nat, k ≤ 3700 → (run t cdOf (wtOf t.ba) l k).fn ≤ 656820000000000000000000 * (sw (wsOf t.ba t.st) k : Int)
  | 0, _ => by simp [run, start, sw]
  | k + 1, hk => by
    have ih := run_fn ht l hl hn k (by omega)
    have hI := run_inv ht cdOf (wtOf t.ba) (wsOf t.ba t.st) (wsOf_le _ _) (wsOf_eq _ _) l hl k
    have hs := sw_bd t.ba t.st ht.st0 ht.st1 k (by omega)
    have hlk := tot_bound ht l hl hn (k + 1)
    have ts := tot_succ t k l
    have I1 := Inv.events (t.st + k) l (hI.early (t.st + k) (cdOf (t.st + k)) ht) hl
    have hL : (if 0 < k then t.pr else 0) + tot t k l + (if t.st + (k : Int) = t.st then t.pr else 0) + lents (t.st + k) l ≤ 4100000000000 := by
      rw [if_pos (Nat.succ_pos k)] at hlk
      by_cases h0 : 0 < k
      · rw [if_pos h0, if_neg (by omega)]; omega
      · rw [if_neg h0, if_pos (by omega)]; omega
    have hb := I1.bound hs hL
    have g1 := I1.pr
    have g2 := I1.it
    have g3 := I1.du
    have g4 := I1.la
    have fe := events_fn (t.st + k) l (early t (t.st + k) (cdOf (t.st + k)) (run t cdOf (wtOf t.ba) l k))
    rw [early_fn] at fe
    have hw := wsOf_eq t.ba t.st k
    have hw3 := wsOf_le t.ba t.st k
    have e : (run t cdOf (wtOf t.ba) l (k + 1)).fn = (run t cdOf (wtOf t.ba) l k).fn + (l.foldl (event (t.st + k)) (early t (t.st + k) (cdOf (t.st + k)) (run t cdOf (wtOf t.ba) l k))).g.la * (t.fi * wtOf t.ba (t.st + k)) := by
      rw [← fe]
      rfl
    rw [e, hw]
    generalize (l.foldl (event (t.st + k)) (early t (t.st + k) (cdOf (t.st + k)) (run t cdOf (wtOf t.ba) l k))).g.la = la at *
    have m1 : t.fi * (wsOf t.ba t.st k : Int) ≤ 1000000 * (wsOf t.ba t.st k : Int) := Int.mul_le_mul_of_nonneg_right ht.fi1 (by omega)
    have m0 : 0 ≤ t.fi * (wsOf t.ba t.st k : Int) := Int.mul_nonneg ht.fi0 (by omega)
    have m2 : la * (t.fi * (wsOf t.ba t.st k : Int)) ≤ 656820000000000000 * (1000000 * (wsOf t.ba t.st k : Int)) := Int.mul_le_mul (by omega) m1 m0 (by decide)
    show _ ≤ 656820000000000000000000 * ((sw (wsOf t.ba t.st) k + wsOf t.ba t.st k : Nat) : Int)
    omega
theorem run_fn_bd {t : Terms} (ht : OkT t) (l : List Ev) (hl : ∀ e ∈ l, OkE t e) (hn : l.length ≤ 40) (k : Nat) (hk : k ≤ 3700) : (run t cdOf (wtOf t.ba) l k).fn / den t ≤ 8000000000000000000 := by
  have h := run_fn ht l hl hn k hk
  have hs := sw_bd t.ba t.st ht.st0 ht.st1 k hk
  have hd := den_bd t
  refine Int.le_trans (Int.ediv_le_ediv (b := 656820000000000000000000 * 4320) (by omega) (by omega)) ?_
  refine Int.ediv_le_of_le_mul (by omega) ?_
  omega
end Go.Proofs.YtanndhoimpnhpaaGreatDoor.Ln

/- A day, as the document goes through it, is a day of the loan's arithmetic. -/
namespace Go.Proofs.YtanndhoimpnhpaaGreatDoor
open Go.ChangeShapes Go.WideShapes Go.ChangeAt Go.RowKit Lg Cal

namespace Ln
theorem event_ea (n : Int) (y : Dy) (e : Ev) : (event n y e).g.ea = y.g.ea := by
  unfold event
  (repeat' split) <;> rfl
theorem events_ea (n : Int) : ∀ (l : List Ev) (y : Dy), (l.foldl (event n) y).g.ea = y.g.ea
  | [], _ => rfl
  | e :: r, y => (events_ea n r (event n y e)).trans (event_ea n y e)
theorem early_ea (t : Terms) (n cd : Int) (g : St) : (early t n cd g).g.ea = g.ea := by
  unfold early
  by_cases h : n = t.st
  · simp only [h, ne_eq, not_true, false_and, if_false, if_true]
    rfl
  · simp only [h, ne_eq, not_false_eq_true, true_and, if_false]
    split <;> rfl
end Ln
/-- The document's weight of a day. -/
theorem refweight_any (b n cy cm cd : Int) (w : World) (hok : Ok cy cm cd) (hn : num cy cm cd = n) (n0 : 0 ≤ n) (n1 : n ≤ 109572) :
    Calls Tryz.prog 121 #[.int .i64 b, .agg #[.int .i64 cy, .int .i64 cm, .int .i64 cd]] w fun e w' => e = .returned (.int .i64 (wtOf b n)) ∧ Below w.heap.size w w' := by
  by_cases hb : b = 3
  · subst hb
    have h := refweight_three cy cm cd w hok (by omega)
    have e : wtOf 3 n = t3 (ny cy cm cd) (nm cy cm cd) (nd cy cm cd) - t3 cy cm cd :=
      wtOf_three n0 n1 ⟨_, _, _, next_ok cy cm cd hok (by omega), by rw [next_num cy cm cd hok, hn], rfl⟩ ⟨cy, cm, cd, hok, hn, rfl⟩
    rw [e]
    exact h
  · rw [wtOf_one n hb]
    exact refweight_one b cy cm cd w hb

theorem refday_any (S : Nat → Prop) (w : World) (G : Nat) (pa : Option Addr) (ecap E : Nat) (t : Ln.Terms) (g : Ln.St) (dy : Int) (ev fv av : Value) (l : List Ln.Ev) (n cy cm cd : Int) (hG : At w G (gl t g dy ev fv av)) (hl : l.length ≤ 40)
    (hE : l ≠ [] → pa = some ⟨E, 0, none⟩ ∧ At w E (evs l) ∧ ¬ E = G) (hOk : ∀ e ∈ l, Ln.OkE t e) (n0 : 0 ≤ n) (n1 : n ≤ 109572) (hok : Ok cy cm cd) (hnum : num cy cm cd = n) (L : Int) (s : Nat) (hI : Ln.Inv t L s g) (ht : Ln.OkT t)
    (wt : Nat) (hwt : wtOf t.ba n = wt) (hw3 : wt ≤ 3) (hs : s + wt ≤ 4320) (hL : L + (if n = t.st then t.pr else 0) + Ln.lents n l ≤ 4100000000000) (hfn : (Ln.day t n cd wt l g).g.fn / Ln.den t ≤ 8000000000000000000) (hea : (Ln.day t n cd wt l g).g.ea / Ln.den t ≤ 8000000000000000000)
    (hev : LongIs S w ev g.ea) (hfv : LongIs S w fv g.fn) (hSG : S G) (hSl : ∀ b, S b → b < w.heap.size) :
    Calls Tryz.prog 95 #[.pointer (some ⟨G, 0, none⟩), .int .i64 n, .agg #[.int .i64 cy, .int .i64 cm, .int .i64 cd], .slice pa l.length ecap] w fun e w' => e = .returned (.tuple #[]) ∧ ∃ r1 r2, DayW S w G t (Ln.day t n cd wt l g) dy r1 r2 (Ln.day t n cd wt l g).g.ea (Ln.day t n cd wt l g).g.fn w' := by
  have hd := Ln.den_bd t
  have hlen := Ln.lents_nn n l hOk
  have hpr := ht.pr0
  have hL0 := hI.L0
  have hif : 0 ≤ (if n = t.st then t.pr else 0) := by split <;> omega
  have I0 := hI.early n cd ht
  have A0 := Ln.Am.early (n := n) hI (by omega) (by omega) ht cd
  have If := Ln.Inv.events n l I0 hOk
  have fe := Ln.events_fn n l (Ln.early t n cd g)
  rw [Ln.early_fn] at fe
  have ee := Ln.events_ea n l (Ln.early t n cd g)
  rw [Ln.early_ea] at ee
  have hw0 : (0 : Int) ≤ wt := by omega
  have hw3' : (wt : Int) ≤ 3 := by omega
  have hfn' : ((l.foldl (Ln.event n) (Ln.early t n cd g)).g.fn + (l.foldl (Ln.event n) (Ln.early t n cd g)).g.la * (t.fi * wt)) / Ln.den t ≤ 8000000000000000000 := hfn
  have hea' : ((l.foldl (Ln.event n) (Ln.early t n cd g)).g.ea + (l.foldl (Ln.event n) (Ln.early t n cd g)).g.pr * ((l.foldl (Ln.event n) (Ln.early t n cd g)).g.rt * wt)) / Ln.den t ≤ 8000000000000000000 := hea
  have m2 : 0 ≤ (l.foldl (Ln.event n) (Ln.early t n cd g)).g.la * (t.fi * wt) := Int.mul_nonneg If.la (Int.mul_nonneg ht.fi0 hw0)
  have m1 : 0 ≤ (l.foldl (Ln.event n) (Ln.early t n cd g)).g.pr * ((l.foldl (Ln.event n) (Ln.early t n cd g)).g.rt * wt) := Int.mul_nonneg If.pr (Int.mul_nonneg If.rt0 hw0)
  have hg0 : g.fn / Ln.den t ≤ 8000000000000000000 := Int.le_trans (Int.ediv_le_ediv (by omega) (by omega)) hfn'
  have hg1 : g.ea / Ln.den t ≤ 8000000000000000000 := Int.le_trans (Int.ediv_le_ediv (by omega) (by omega)) hea'
  have Af := Ln.Am.events n l A0 I0 (by omega) (by rw [Ln.early_fn]; exact hg0) hL hOk
  obtain ⟨k11, f1, k12, f2⟩ := If.late_can ht wt hw3 hs hL hfn' Af
  have hbf := If.bound (by omega) hL
  have i1 := If.pr
  have i2 := If.it
  have i3 := If.du
  have i4 := If.la
  have eY : upto t n cd l g l.length = l.foldl (Ln.event n) (Ln.early t n cd g) := by unfold upto; rw [List.take_length]
  have big : ∀ x : Int, x / Ln.den t ≤ 8000000000000000000 → x < 1000000 ^ 6 := by
    intro x hx
    have h1 := Int.mul_ediv_add_emod x (Ln.den t)
    have h2 := Int.emod_lt_of_pos x (show 0 < Ln.den t by omega)
    have h3 : Ln.den t * (x / Ln.den t) ≤ Ln.den t * 8000000000000000000 := Int.mul_le_mul_of_nonneg_left hx (by omega)
    omega
  have pd : ∀ x : Int, x / Ln.den t ≤ 8000000000000000000 → x / 1000000 / Ln.year t ≤ 9000000000000000000 := by
    intro x hx
    have := Ln.part_den t x
    unfold Ln.part at this
    rw [this]
    omega
  have q1 := Ln.quo_more (Ln.den t) (l.foldl (Ln.event n) (Ln.early t n cd g)).g.ea ((l.foldl (Ln.event n) (Ln.early t n cd g)).g.pr * ((l.foldl (Ln.event n) (Ln.early t n cd g)).g.rt * wt)) (by omega)
  have q2 := Ln.quo_more (Ln.den t) (l.foldl (Ln.event n) (Ln.early t n cd g)).g.fn ((l.foldl (Ln.event n) (Ln.early t n cd g)).g.la * (t.fi * wt)) (by omega)
  rw [q1] at k11 k12 f2
  rw [q2] at k12
  have st0 : ∀ k, k ≤ l.length → Ln.Fit (upto t n cd l g k) ∧ (∃ L, L ≤ 4100000000000 ∧ Ln.Am (upto t n cd l g k) L) ∧ (upto t n cd l g k).g.cr ≤ 4100000000000 ∧ (upto t n cd l g k).g.pr + (upto t n cd l g k).g.it ≤ 656820000000000000 := by
    intro k _
    have hlk : ∀ e ∈ l.take k, Ln.OkE t e := fun e he => hOk e (List.mem_of_mem_take he)
    have hld : ∀ e ∈ l.drop k, Ln.OkE t e := fun e he => hOk e (List.mem_of_mem_drop he)
    have e1 : Ln.lents n l = Ln.lents n (l.take k) + Ln.lents n (l.drop k) := by rw [← Ln.lents_append, List.take_append_drop]
    have e2 := Ln.lents_nn n (l.drop k) hld
    have Ik := Ln.Inv.events n (l.take k) I0 hlk
    have fk := Ln.events_fn n (l.take k) (Ln.early t n cd g)
    rw [Ln.early_fn] at fk
    have Ak := Ln.Am.events n (l.take k) A0 I0 (by omega) (by rw [Ln.early_fn]; exact hg0) (by omega) hlk
    have hb := Ik.bound (by omega) (by omega)
    have j1 := Ik.pr
    have j2 := Ik.it
    have j3 := Ik.du
    have j4 := Ik.la
    have j5 := Ik.cr1
    exact ⟨Ik.fit (by omega) (by omega) (by rw [fk]; exact hg0) _, ⟨_, by omega, Ak⟩, by show ((l.take k).foldl (Ln.event n) (Ln.early t n cd g)).g.cr ≤ _; omega, by show ((l.take k).foldl (Ln.event n) (Ln.early t n cd g)).g.pr + ((l.take k).foldl (Ln.event n) (Ln.early t n cd g)).g.it ≤ _; omega⟩
  have r0 : 0 ≤ (l.foldl (Ln.event n) (Ln.early t n cd g)).g.rt * wt := Int.mul_nonneg If.rt0 hw0
  have r1 : (l.foldl (Ln.event n) (Ln.early t n cd g)).g.rt * wt ≤ 1000000 * 3 := Int.mul_le_mul If.rt1 hw3' hw0 (by decide)
  have r2 : 0 ≤ t.fi * wt := Int.mul_nonneg ht.fi0 hw0
  have r3 : t.fi * wt ≤ 1000000 * 3 := Int.mul_le_mul ht.fi1 hw3' hw0 (by decide)
  have pp : ∀ x : Int, x / 1000000 / Ln.year t = x / Ln.den t := fun x => Ln.part_den t x
  have hcore := day_core S w G pa ecap E t g dy ev fv av l n cy cm cd hG hl (hI.fit (by omega) (by omega) hg0 _) (hI.bound (by omega) (by omega)) ht.pr0 ht.pr1 hE hOk st0 n0 (by omega) wt (fun W => by rw [← hwt]; exact refweight_any t.ba n cy cm cd W hok hnum n0 n1) hev hfv ⟨hSG, hSl⟩
    (by
      rw [eY]
      rw [ee] at hea'
      rw [fe] at hfn'
      exact ⟨r0, r1, r2, r3, i1, by omega, i4, by omega, big _ hea', big _ hfn'⟩)
    (by
      rw [eY]
      rw [ee] at hea'
      rw [fe] at hfn'
      exact ⟨pd _ hg1, pd _ hea', pd _ hg0, pd _ hfn'⟩)
    (by
      rw [eY]
      simp only [pp]
      rw [ee] at k11 k12 f2
      rw [fe] at k12
      exact ⟨k11, f1.of_g rfl rfl rfl rfl rfl rfl, k12, f2.of_g rfl rfl rfl rfl rfl rfl⟩)
    ⟨hI.can_over (by omega) (by omega), hI.fit_over (by omega) (by omega) hg0 _, hI.can_fall (by omega) (by omega)⟩
  refine hcore.mono ?_
  rintro e w' ⟨rfl, v1, v2, hD⟩
  refine ⟨rfl, v1, v2, ?_⟩
  rw [eY] at hD
  obtain ⟨hgon, l1, l2, kp, sg, slt⟩ := hD
  have x1 : (Ln.day t n cd wt l g).g.ea = g.ea + (l.foldl (Ln.event n) (Ln.early t n cd g)).g.pr * ((l.foldl (Ln.event n) (Ln.early t n cd g)).g.rt * wt) := by rw [← ee]; rfl
  have x2 : (Ln.day t n cd wt l g).g.fn = g.fn + (l.foldl (Ln.event n) (Ln.early t n cd g)).g.la * (t.fi * wt) := by rw [← fe]; rfl
  rw [x1, x2]
  refine ⟨?_, l1, l2, kp, sg, slt⟩
  rw [← ee, ← fe] at hgon
  obtain ⟨ne, ⟨cap, hg⟩, hA⟩ := hgon
  exact ⟨ne, ⟨cap, hg⟩, hA⟩
end Go.Proofs.YtanndhoimpnhpaaGreatDoor

/- A piece of a block as a list: what both sides' Run want of it. -/
namespace Go.Proofs.YtanndhoimpnhpaaGreatDoor
open Go.RowKit

/-- A list with some places written over. -/
def setl : List Value → Nat → List Value → List Value
  | l, _, [] => l
  | l, o, v :: r => setl (l.set o v) (o + 1) r
theorem At.setCells {b : Nat} : ∀ (m : List Value) (o : Nat) (l : List Value) (w : World), At w b l → o + m.length ≤ l.length → At (w.setCells b o m) b (setl l o m)
  | [], _, _, _, h, _ => h
  | v :: r, o, l, w, h, hl => by
    have hl' : o + (r.length + 1) ≤ l.length := hl
    exact At.setCells r (o + 1) (l.set o v) _ (h.set o (by omega) v) (by rw [List.length_set]; omega)
theorem At.there_mid {w : World} {b : Nat} {l : List Value} (h : At w b l) (o n : Nat) (hn : o + n ≤ l.length) : w.there b o n := fun j hj => by
  obtain ⟨h1, h2⟩ := h (o + j) l[o + j] (List.getElem?_eq_getElem (by omega))
  exact ⟨by rw [h1]; rfl, h2⟩
/-- A loan's terms in memory. -/
def tl6 (t : Ln.Terms) : List Value := [.int .i64 t.st, .int .i64 t.pr, .int .i64 t.rt, .int .i64 t.fi, .int .i64 t.ba, .int .i64 t.du]
/-- A loan's balance in memory. -/
def bl8 (g : Ln.St) (day : Int) : List Value := [.int .i64 g.pr, .int .i64 g.it, .int .i64 g.du, .int .i64 g.la, .int .i64 g.fi, .int .i64 g.cr, .int .i64 g.rt, .int .i64 day]

end Go.Proofs.YtanndhoimpnhpaaGreatDoor

/- The book's entries as cells; what is in it of a day and a kind; what a day's amounts write into it. (Plain: of neither side.) -/
namespace Go.Proofs.YtanndhoimpnhpaaGreatDoor
open Go.RowKit

structure En where
  d : Int
  k : Int
  a : Int
/-- The cells of entries, one behind the other. -/
def ens : List En → List Value
  | [] => []
  | e :: r => .int .i64 e.d :: .int .i64 e.k :: .int .i64 e.a :: ens r
theorem ens_len : ∀ l : List En, (ens l).length = l.length * 3
  | [] => rfl
  | e :: r => by
    have := ens_len r
    simp only [ens, List.length_cons]
    omega
theorem ens_append : ∀ l r : List En, ens (l ++ r) = ens l ++ ens r
  | [], _ => rfl
  | e :: l, r => by simp only [List.cons_append, ens, ens_append l r]
theorem ens_at : ∀ (l : List En) (k : Nat) (h : k < l.length), (ens l)[k * 3]? = some (.int .i64 l[k].d) ∧ (ens l)[k * 3 + 1]? = some (.int .i64 l[k].k) ∧ (ens l)[k * 3 + 2]? = some (.int .i64 l[k].a)
  | e :: r, 0, _ => ⟨rfl, rfl, rfl⟩
  | e :: r, k + 1, h => by
    have ih := ens_at r k (by simpa using h)
    have e1 : (k + 1) * 3 = k * 3 + 1 + 1 + 1 := by omega
    rw [e1]
    exact ih
theorem en_range {w : World} {base : Nat} {T : TypeId} {n cap g : Nat} {L : List En} (h : w.ownsRow base T 3 (.slice (some ⟨g, 0, none⟩) n cap) n (ens L)) (hn : n = L.length) (k : Nat) (hk : k < L.length) :
    w.cell? ⟨g, k * 3, none⟩ = some (.int .i64 L[k].d) ∧ w.cell? ⟨g, k * 3 + 1, none⟩ = some (.int .i64 L[k].k) ∧ w.cell? ⟨g, k * 3 + 2, none⟩ = some (.int .i64 L[k].a) := by
  obtain ⟨q0, q1, q2⟩ := ens_at L k hk
  exact ⟨(h.cellAt _ (by omega)).trans q0, (h.cellAt _ (by omega)).trans q1, (h.cellAt _ (by omega)).trans q2⟩
/-- What entries make of the place of a day and a kind, as sums of 64 bits. -/
def hv (st : Int) (l : List En) (i : Nat) : Int := l.foldl (fun s e => if 13 * (e.d - st) + e.k = i then IntKind.i64.wrap (s + e.a) else s) 0
theorem hv_take (st : Int) (l : List En) (k : Nat) (hk : k < l.length) (i : Nat) : hv st (l.take (k + 1)) i = if 13 * (l[k].d - st) + l[k].k = i then IntKind.i64.wrap (hv st (l.take k) i + l[k].a) else hv st (l.take k) i := by
  unfold hv
  rw [List.take_succ_eq_append_getElem hk, List.foldl_append]
  rfl
/-- Cells of whole numbers by their places. -/
def hc (n : Nat) (f : Nat → Int) : List Value := (List.range n).map (fun i => .int .i64 (f i))
theorem hc_at (n : Nat) (f : Nat → Int) (i : Nat) (h : i < n) : (hc n f)[i]? = some (.int .i64 (f i)) := by
  unfold hc
  rw [List.getElem?_map, List.getElem?_range h]
  rfl
theorem hc_len (n : Nat) (f : Nat → Int) : (hc n f).length = n := by simp [hc]
theorem hc_set (n : Nat) (f g : Nat → Int) (i : Nat) (v : Int) (hg : ∀ j, j < n → g j = if j = i then v else f j) : (hc n f).set i (.int .i64 v) = hc n g := by
  apply List.ext_getElem?
  intro j
  by_cases hj : j < n
  · rw [hc_at n g j hj, hg j hj]
    by_cases e : j = i
    · subst e
      rw [if_pos rfl, List.getElem?_set_self (by rw [hc_len]; exact hj)]
    · rw [if_neg e, List.getElem?_set_ne (Ne.symm e), hc_at n f j hj]
  · rw [List.getElem?_eq_none (by rw [List.length_set, hc_len]; omega), List.getElem?_eq_none (by rw [hc_len]; omega)]
/-- What one kind writes. -/
def kindW (n : Int) (k : Nat) (is am : Int) : List En :=
  if is = am then [] else (if is = 0 then [] else [⟨n, k, wrap64 (-is)⟩]) ++ (if am = 0 then [] else [⟨n, k, am⟩])
/-- What the kinds 1 to j write. -/
def kindsW (n : Int) (h am : Nat → Int) : Nat → List En
  | 0 => []
  | j + 1 => kindsW n h am j ++ kindW n (j + 1) (h (j + 1)) (am (j + 1))
theorem kindW_len (n : Int) (k : Nat) (is am : Int) : (kindW n k is am).length ≤ 2 := by
  unfold kindW
  (repeat' split) <;> simp
theorem kindsW_len (n : Int) (h am : Nat → Int) : ∀ j, (kindsW n h am j).length ≤ 2 * j
  | 0 => Nat.le_refl _
  | j + 1 => by
    have h1 := kindsW_len n h am j
    have h2 := kindW_len n (j + 1) (h (j + 1)) (am (j + 1))
    simp only [kindsW, List.length_append]
    omega
/-- What the first k days write behind a book. -/
def bookW (st : Int) (hf : Nat → Int) (am : Nat → Nat → Int) (M0 : List En) : Nat → List En
  | 0 => M0
  | k + 1 => bookW st hf am M0 k ++ kindsW (st + k) (fun j => hf (13 * k + j)) (am k) 12
theorem bookW_len (st : Int) (hf : Nat → Int) (am : Nat → Nat → Int) (M0 : List En) : ∀ k, (bookW st hf am M0 k).length ≤ M0.length + 24 * k
  | 0 => Nat.le_refl _
  | k + 1 => by
    have h1 := bookW_len st hf am M0 k
    have h2 := kindsW_len (st + k) (fun j => hf (13 * k + j)) (am k) 12
    simp only [bookW, List.length_append]
    omega
/-- The loops of a function's code, in their order, each with those in it behind it. -/
def loopsOf : Code → List Code
  | .loop c => c :: loopsOf c
  | .seq a b => loopsOf a ++ loopsOf b
  | .block _ c => loopsOf c
  | .scope c => loopsOf c
  | .cond _ a b => loopsOf a ++ loopsOf b
  | _ => []
end Go.Proofs.YtanndhoimpnhpaaGreatDoor

/- The book's entries on the document's side. -/
namespace Go.Proofs.YtanndhoimpnhpaaGreatDoor
open Go.ChangeShapes Go.WideShapes Go.ChangeAt Go.RowKit

theorem infoEn : (Tryz.prog.info? 114).map (fun i => (i.zero, i.size, i.bytes)) = some (some (.agg #[.int .i64 0, .int .i64 0, .int .i64 0]), 3, 24) := by kernel_rfl

end Go.Proofs.YtanndhoimpnhpaaGreatDoor
