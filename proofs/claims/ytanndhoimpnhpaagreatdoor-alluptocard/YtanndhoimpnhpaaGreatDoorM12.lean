/- Joined by program: Sw, LnK, Bk, RnA. -/
import Derived.Test.YtanndhoimpnhpaaGreatDoorM11
import Derived.Test.YtanndhoimpnhpaaGreatDoorM3
import Derived.Test.YtanndhoimpnhpaaGreatDoorM5
import Derived.Test.YtanndhoimpnhpaaGreatDoorM4
import Derived.Test.YtanndhoimpnhpaaGreatDoorM8
import Derived.Test.YtanndhoimpnhpaaGreatDoorM9
import Derived.Test.YtanndhoimpnhpaaGreatDoorM1
namespace Go.Proofs.YtanndhoimpnhpaaGreatDoor.Cal
theorem has_civ : ∀ n : Nat, n ≤ 109573 → ∃ y m d : Int, Ok y m d ∧ num y m d = n
  | 0, _ => ⟨1900, 1, 1, ok_mk (by decide) (by decide) (by decide) (by decide) (by decide) (by decide), by decide⟩
  | n + 1, h => by
    obtain ⟨y, m, d, hok, hn⟩ := has_civ n (by omega)
    exact ⟨_, _, _, next_ok y m d hok (by omega), by rw [next_num y m d hok]; omega⟩
theorem t_next (n : Int) (h0 : 0 ≤ n) (h1 : n ≤ 109572) : ∃ p q, IsT (n + 1) p ∧ IsT n q ∧ 0 ≤ p - q ∧ p - q ≤ 3 := by
  obtain ⟨y, m, d, hok, hn⟩ := has_civ n.toNat (by omega)
  rw [Int.toNat_of_nonneg h0] at hn
  have hb := t3_next y m d hok
  exact ⟨_, _, ⟨_, _, _, next_ok y m d hok (by omega), by rw [next_num y m d hok, hn], rfl⟩, ⟨y, m, d, hok, hn, rfl⟩, hb.1, hb.2⟩
theorem wtOf_bd (b n : Int) : 0 ≤ wtOf b n ∧ wtOf b n ≤ 3 := by
  by_cases h : b = 3 ∧ 0 ≤ n ∧ n ≤ 109572
  · obtain ⟨h3, h0, h1⟩ := h
    obtain ⟨p, q, hp, hq, b0, b1⟩ := t_next n h0 h1
    rw [h3, wtOf_three h0 h1 hp hq]
    exact ⟨b0, b1⟩
  · unfold wtOf
    rw [if_neg h]
    decide
theorem is_t (n : Int) (h0 : 0 ≤ n) (h1 : n ≤ 109573) : IsT n (tOf n) := by
  obtain ⟨y, m, d, hok, hn⟩ := has_civ n.toNat (by omega)
  rw [Int.toNat_of_nonneg h0] at hn
  have : IsT n (t3 y m d) := ⟨y, m, d, hok, hn, rfl⟩
  rw [tOf_is this]
  exact this
noncomputable def wsOf (b st : Int) (k : Nat) : Nat := (wtOf b (st + k)).toNat
theorem wsOf_le (b st : Int) (k : Nat) : wsOf b st k ≤ 3 := by
  have := wtOf_bd b (st + k)
  unfold wsOf
  omega
theorem wsOf_eq (b st : Int) (k : Nat) : wtOf b (st + k) = wsOf b st k := by
  have := wtOf_bd b (st + k)
  unfold wsOf
  omega
theorem sw_one (b st : Int) (h : ¬ b = 3) : ∀ k : Nat, Ln.sw (wsOf b st) k = k
  | 0 => rfl
  | k + 1 => by
    show Ln.sw (wsOf b st) k + wsOf b st k = k + 1
    rw [sw_one b st h k]
    unfold wsOf
    rw [wtOf_one _ h]
    rfl
theorem sw_three (st : Int) (h0 : 0 ≤ st) : ∀ k : Nat, st + k ≤ 109573 → (Ln.sw (wsOf 3 st) k : Int) = tOf (st + k) - tOf st
  | 0, _ => by simp [Ln.sw]
  | k + 1, h => by
    have ih := sw_three st h0 k (by omega)
    have hw : wtOf 3 (st + k) = tOf (st + k + 1) - tOf (st + k) := wtOf_three (by omega) (by omega) (is_t _ (by omega) (by omega)) (is_t _ (by omega) (by omega))
    have he := wsOf_eq 3 st k
    show ((Ln.sw (wsOf 3 st) k + wsOf 3 st k : Nat) : Int) = _
    have e : st + ((k + 1 : Nat) : Int) = st + k + 1 := by omega
    rw [e]
    omega
theorem t_far (st : Int) (k : Nat) (hk : k ≤ 3700) (p q : Int) (hp : IsT (st + k) p) (hq : IsT st q) : p - q ≤ 4320 := by
  obtain ⟨y, m, d, ⟨a1, a2, a3, a4, a5, a6⟩, hn, rfl⟩ := hp
  obtain ⟨y', m', d', ⟨b1, b2, b3, b4, b5, b6⟩, hn', rfl⟩ := hq
  have i1 := in_year y m d a3 a4 a5 a6
  have i2 := in_year y' m' d' b3 b4 b5 b6
  have l2 := lp_01 y'
  unfold num at hn hn'
  have hy : y - y' ≤ 11 := by
    have hz : ys y - ys y' ≤ 3700 + 366 := by omega
    unfold ys at hz
    omega
  unfold t3 cap
  (repeat' split) <;> omega
theorem sw_bd (b st : Int) (h0 : 0 ≤ st) (h1 : st ≤ 105872) (k : Nat) (hk : k ≤ 3700) : Ln.sw (wsOf b st) k ≤ 4320 := by
  by_cases h : b = 3
  · subst h
    have e := sw_three st h0 k (by omega)
    have := t_far st k hk _ _ (is_t (st + k) (by omega) (by omega)) (is_t st h0 (by omega))
    omega
  · rw [sw_one b st h k]
    omega
end Go.Proofs.YtanndhoimpnhpaaGreatDoor.Cal
namespace Go.Proofs.YtanndhoimpnhpaaGreatDoor.Ln
open Cal
theorem tot_bound {t : Terms} (ht : OkT t) (l : List Ev) (hl : ∀ e ∈ l, OkE t e) (hn : l.length ≤ 40) (k : Nat) : (if 0 < k then t.pr else 0) + tot t k l ≤ 4100000000000 := by
  have h1 := tot_le t k l hl
  have h2 := ht.pr0
  have h3 := ht.pr1
  split <;> omega
theorem run_fn {t : Terms} (ht : OkT t) (l : List Ev) (hl : ∀ e ∈ l, OkE t e) (hn : l.length ≤ 40) : ∀ k : Nat, k ≤ 3700 → (run t cdOf (wtOf t.ba) l k).fn ≤ 656820000000000000000000 * (sw (wsOf t.ba t.st) k : Int)
  | 0, _ => by simp [run, start, sw]
  | k + 1, hk => by
    have ih := run_fn ht l hl hn k (by omega)
    have hI := run_inv ht cdOf (wtOf t.ba) (wsOf t.ba t.st) (wsOf_le _ _) (wsOf_eq _ _) l hl k
    have hs := sw_bd t.ba t.st ht.st0 ht.st1 k (by omega)
    have hlk := tot_bound ht l hl hn (k + 1)
    have ts := tot_succ t k l
    have I1 := Inv.events (t.st + k) l (hI.early (t.st + k) (cdOf (t.st + k)) ht) hl
    have hL : (if 0 < k then t.pr else 0) + tot t k l + (if t.st + (k : Int) = t.st then t.pr else 0) + lents (t.st + k) l ≤ 4100000000000 := by
      rw [if_pos (Nat.succ_pos k)] at hlk
      by_cases h0 : 0 < k
      · rw [if_pos h0, if_neg (by omega)]; omega
      · rw [if_neg h0, if_pos (by omega)]; omega
    have hb := I1.bound hs hL
    have g1 := I1.pr
    have g2 := I1.it
    have g3 := I1.du
    have g4 := I1.la
    have fe := events_fn (t.st + k) l (early t (t.st + k) (cdOf (t.st + k)) (run t cdOf (wtOf t.ba) l k))
    rw [early_fn] at fe
    have hw := wsOf_eq t.ba t.st k
    have hw3 := wsOf_le t.ba t.st k
    have e : (run t cdOf (wtOf t.ba) l (k + 1)).fn = (run t cdOf (wtOf t.ba) l k).fn + (l.foldl (event (t.st + k)) (early t (t.st + k) (cdOf (t.st + k)) (run t cdOf (wtOf t.ba) l k))).g.la * (t.fi * wtOf t.ba (t.st + k)) := by
      rw [← fe]
      rfl
    rw [e, hw]
    generalize (l.foldl (event (t.st + k)) (early t (t.st + k) (cdOf (t.st + k)) (run t cdOf (wtOf t.ba) l k))).g.la = la at *
    have m1 : t.fi * (wsOf t.ba t.st k : Int) ≤ 1000000 * (wsOf t.ba t.st k : Int) := Int.mul_le_mul_of_nonneg_right ht.fi1 (by omega)
    have m0 : 0 ≤ t.fi * (wsOf t.ba t.st k : Int) := Int.mul_nonneg ht.fi0 (by omega)
    have m2 : la * (t.fi * (wsOf t.ba t.st k : Int)) ≤ 656820000000000000 * (1000000 * (wsOf t.ba t.st k : Int)) := Int.mul_le_mul (by omega) m1 m0 (by decide)
    show _ ≤ 656820000000000000000000 * ((sw (wsOf t.ba t.st) k + wsOf t.ba t.st k : Nat) : Int)
    omega
theorem run_fn_bd {t : Terms} (ht : OkT t) (l : List Ev) (hl : ∀ e ∈ l, OkE t e) (hn : l.length ≤ 40) (k : Nat) (hk : k ≤ 3700) : (run t cdOf (wtOf t.ba) l k).fn / den t ≤ 8000000000000000000 := by
  have h := run_fn ht l hl hn k hk
  have hs := sw_bd t.ba t.st ht.st0 ht.st1 k hk
  have hd := den_bd t
  refine Int.le_trans (Int.ediv_le_ediv (b := 656820000000000000000000 * 4320) (by omega) (by omega)) ?_
  refine Int.ediv_le_of_le_mul (by omega) ?_
  omega
end Go.Proofs.YtanndhoimpnhpaaGreatDoor.Ln
namespace Go.Proofs.YtanndhoimpnhpaaGreatDoor
open Go.ChangeShapes Go.WideShapes Go.ChangeAt Go.RowKit Lg Cal
namespace Ln
theorem event_ea (n : Int) (y : Dy) (e : Ev) : (event n y e).g.ea = y.g.ea := by
  unfold event
  (repeat' split) <;> rfl
theorem events_ea (n : Int) : ∀ (l : List Ev) (y : Dy), (l.foldl (event n) y).g.ea = y.g.ea
  | [], _ => rfl
  | e :: r, y => (events_ea n r (event n y e)).trans (event_ea n y e)
theorem early_ea (t : Terms) (n cd : Int) (g : St) : (early t n cd g).g.ea = g.ea := by
  unfold early
  by_cases h : n = t.st
  · simp only [h, ne_eq, not_true, false_and, if_false, if_true]
    rfl
  · simp only [h, ne_eq, not_false_eq_true, true_and, if_false]
    split <;> rfl
end Ln
theorem refweight_any (b n cy cm cd : Int) (w : World) (hok : Ok cy cm cd) (hn : num cy cm cd = n) (n0 : 0 ≤ n) (n1 : n ≤ 109572) :
    Calls Tryz.prog 121 #[.int .i64 b, .agg #[.int .i64 cy, .int .i64 cm, .int .i64 cd]] w fun e w' => e = .returned (.int .i64 (wtOf b n)) ∧ Below w.heap.size w w' := by
  by_cases hb : b = 3
  · subst hb
    have h := refweight_three cy cm cd w hok (by omega)
    have e : wtOf 3 n = t3 (ny cy cm cd) (nm cy cm cd) (nd cy cm cd) - t3 cy cm cd :=
      wtOf_three n0 n1 ⟨_, _, _, next_ok cy cm cd hok (by omega), by rw [next_num cy cm cd hok, hn], rfl⟩ ⟨cy, cm, cd, hok, hn, rfl⟩
    rw [e]
    exact h
  · rw [wtOf_one n hb]
    exact refweight_one b cy cm cd w hb
theorem refday_any (S : Nat → Prop) (w : World) (G : Nat) (pa : Option Addr) (ecap E : Nat) (t : Ln.Terms) (g : Ln.St) (dy : Int) (ev fv av : Value) (l : List Ln.Ev) (n cy cm cd : Int) (hG : At w G (gl t g dy ev fv av)) (hl : l.length ≤ 40)
    (hE : l ≠ [] → pa = some ⟨E, 0, none⟩ ∧ At w E (evs l) ∧ ¬ E = G) (hOk : ∀ e ∈ l, Ln.OkE t e) (n0 : 0 ≤ n) (n1 : n ≤ 109572) (hok : Ok cy cm cd) (hnum : num cy cm cd = n) (L : Int) (s : Nat) (hI : Ln.Inv t L s g) (ht : Ln.OkT t)
    (wt : Nat) (hwt : wtOf t.ba n = wt) (hw3 : wt ≤ 3) (hs : s + wt ≤ 4320) (hL : L + (if n = t.st then t.pr else 0) + Ln.lents n l ≤ 4100000000000) (hfn : (Ln.day t n cd wt l g).g.fn / Ln.den t ≤ 8000000000000000000) (hea : (Ln.day t n cd wt l g).g.ea / Ln.den t ≤ 8000000000000000000)
    (hev : LongIs S w ev g.ea) (hfv : LongIs S w fv g.fn) (hSG : S G) (hSl : ∀ b, S b → b < w.heap.size) :
    Calls Tryz.prog 95 #[.pointer (some ⟨G, 0, none⟩), .int .i64 n, .agg #[.int .i64 cy, .int .i64 cm, .int .i64 cd], .slice pa l.length ecap] w fun e w' => e = .returned (.tuple #[]) ∧ ∃ r1 r2, DayW S w G t (Ln.day t n cd wt l g) dy r1 r2 (Ln.day t n cd wt l g).g.ea (Ln.day t n cd wt l g).g.fn w' := by
  have hd := Ln.den_bd t
  have hlen := Ln.lents_nn n l hOk
  have hpr := ht.pr0
  have hL0 := hI.L0
  have hif : 0 ≤ (if n = t.st then t.pr else 0) := by split <;> omega
  have I0 := hI.early n cd ht
  have A0 := Ln.Am.early (n := n) hI (by omega) (by omega) ht cd
  have If := Ln.Inv.events n l I0 hOk
  have fe := Ln.events_fn n l (Ln.early t n cd g)
  rw [Ln.early_fn] at fe
  have ee := Ln.events_ea n l (Ln.early t n cd g)
  rw [Ln.early_ea] at ee
  have hw0 : (0 : Int) ≤ wt := by omega
  have hw3' : (wt : Int) ≤ 3 := by omega
  have hfn' : ((l.foldl (Ln.event n) (Ln.early t n cd g)).g.fn + (l.foldl (Ln.event n) (Ln.early t n cd g)).g.la * (t.fi * wt)) / Ln.den t ≤ 8000000000000000000 := hfn
  have hea' : ((l.foldl (Ln.event n) (Ln.early t n cd g)).g.ea + (l.foldl (Ln.event n) (Ln.early t n cd g)).g.pr * ((l.foldl (Ln.event n) (Ln.early t n cd g)).g.rt * wt)) / Ln.den t ≤ 8000000000000000000 := hea
  have m2 : 0 ≤ (l.foldl (Ln.event n) (Ln.early t n cd g)).g.la * (t.fi * wt) := Int.mul_nonneg If.la (Int.mul_nonneg ht.fi0 hw0)
  have m1 : 0 ≤ (l.foldl (Ln.event n) (Ln.early t n cd g)).g.pr * ((l.foldl (Ln.event n) (Ln.early t n cd g)).g.rt * wt) := Int.mul_nonneg If.pr (Int.mul_nonneg If.rt0 hw0)
  have hg0 : g.fn / Ln.den t ≤ 8000000000000000000 := Int.le_trans (Int.ediv_le_ediv (by omega) (by omega)) hfn'
  have hg1 : g.ea / Ln.den t ≤ 8000000000000000000 := Int.le_trans (Int.ediv_le_ediv (by omega) (by omega)) hea'
  have Af := Ln.Am.events n l A0 I0 (by omega) (by rw [Ln.early_fn]; exact hg0) hL hOk
  obtain ⟨k11, f1, k12, f2⟩ := If.late_can ht wt hw3 hs hL hfn' Af
  have hbf := If.bound (by omega) hL
  have i1 := If.pr
  have i2 := If.it
  have i3 := If.du
  have i4 := If.la
  have eY : upto t n cd l g l.length = l.foldl (Ln.event n) (Ln.early t n cd g) := by unfold upto; rw [List.take_length]
  have big : ∀ x : Int, x / Ln.den t ≤ 8000000000000000000 → x < 1000000 ^ 6 := by
    intro x hx
    have h1 := Int.mul_ediv_add_emod x (Ln.den t)
    have h2 := Int.emod_lt_of_pos x (show 0 < Ln.den t by omega)
    have h3 : Ln.den t * (x / Ln.den t) ≤ Ln.den t * 8000000000000000000 := Int.mul_le_mul_of_nonneg_left hx (by omega)
    omega
  have pd : ∀ x : Int, x / Ln.den t ≤ 8000000000000000000 → x / 1000000 / Ln.year t ≤ 9000000000000000000 := by
    intro x hx
    have := Ln.part_den t x
    unfold Ln.part at this
    rw [this]
    omega
  have q1 := Ln.quo_more (Ln.den t) (l.foldl (Ln.event n) (Ln.early t n cd g)).g.ea ((l.foldl (Ln.event n) (Ln.early t n cd g)).g.pr * ((l.foldl (Ln.event n) (Ln.early t n cd g)).g.rt * wt)) (by omega)
  have q2 := Ln.quo_more (Ln.den t) (l.foldl (Ln.event n) (Ln.early t n cd g)).g.fn ((l.foldl (Ln.event n) (Ln.early t n cd g)).g.la * (t.fi * wt)) (by omega)
  rw [q1] at k11 k12 f2
  rw [q2] at k12
  have st0 : ∀ k, k ≤ l.length → Ln.Fit (upto t n cd l g k) ∧ (∃ L, L ≤ 4100000000000 ∧ Ln.Am (upto t n cd l g k) L) ∧ (upto t n cd l g k).g.cr ≤ 4100000000000 ∧ (upto t n cd l g k).g.pr + (upto t n cd l g k).g.it ≤ 656820000000000000 := by
    intro k _
    have hlk : ∀ e ∈ l.take k, Ln.OkE t e := fun e he => hOk e (List.mem_of_mem_take he)
    have hld : ∀ e ∈ l.drop k, Ln.OkE t e := fun e he => hOk e (List.mem_of_mem_drop he)
    have e1 : Ln.lents n l = Ln.lents n (l.take k) + Ln.lents n (l.drop k) := by rw [← Ln.lents_append, List.take_append_drop]
    have e2 := Ln.lents_nn n (l.drop k) hld
    have Ik := Ln.Inv.events n (l.take k) I0 hlk
    have fk := Ln.events_fn n (l.take k) (Ln.early t n cd g)
    rw [Ln.early_fn] at fk
    have Ak := Ln.Am.events n (l.take k) A0 I0 (by omega) (by rw [Ln.early_fn]; exact hg0) (by omega) hlk
    have hb := Ik.bound (by omega) (by omega)
    have j1 := Ik.pr
    have j2 := Ik.it
    have j3 := Ik.du
    have j4 := Ik.la
    have j5 := Ik.cr1
    exact ⟨Ik.fit (by omega) (by omega) (by rw [fk]; exact hg0) _, ⟨_, by omega, Ak⟩, by show ((l.take k).foldl (Ln.event n) (Ln.early t n cd g)).g.cr ≤ _; omega, by show ((l.take k).foldl (Ln.event n) (Ln.early t n cd g)).g.pr + ((l.take k).foldl (Ln.event n) (Ln.early t n cd g)).g.it ≤ _; omega⟩
  have r0 : 0 ≤ (l.foldl (Ln.event n) (Ln.early t n cd g)).g.rt * wt := Int.mul_nonneg If.rt0 hw0
  have r1 : (l.foldl (Ln.event n) (Ln.early t n cd g)).g.rt * wt ≤ 1000000 * 3 := Int.mul_le_mul If.rt1 hw3' hw0 (by decide)
  have r2 : 0 ≤ t.fi * wt := Int.mul_nonneg ht.fi0 hw0
  have r3 : t.fi * wt ≤ 1000000 * 3 := Int.mul_le_mul ht.fi1 hw3' hw0 (by decide)
  have pp : ∀ x : Int, x / 1000000 / Ln.year t = x / Ln.den t := fun x => Ln.part_den t x
  have hcore := day_core S w G pa ecap E t g dy ev fv av l n cy cm cd hG hl (hI.fit (by omega) (by omega) hg0 _) (hI.bound (by omega) (by omega)) ht.pr0 ht.pr1 hE hOk st0 n0 (by omega) wt (fun W => by rw [← hwt]; exact refweight_any t.ba n cy cm cd W hok hnum n0 n1) hev hfv ⟨hSG, hSl⟩
    (by
      rw [eY]
      rw [ee] at hea'
      rw [fe] at hfn'
      exact ⟨r0, r1, r2, r3, i1, by omega, i4, by omega, big _ hea', big _ hfn'⟩)
    (by
      rw [eY]
      rw [ee] at hea'
      rw [fe] at hfn'
      exact ⟨pd _ hg1, pd _ hea', pd _ hg0, pd _ hfn'⟩)
    (by
      rw [eY]
      simp only [pp]
      rw [ee] at k11 k12 f2
      rw [fe] at k12
      exact ⟨k11, f1.of_g rfl rfl rfl rfl rfl rfl, k12, f2.of_g rfl rfl rfl rfl rfl rfl⟩)
    ⟨hI.can_over (by omega) (by omega), hI.fit_over (by omega) (by omega) hg0 _, hI.can_fall (by omega) (by omega)⟩
  refine hcore.mono ?_
  rintro e w' ⟨rfl, v1, v2, hD⟩
  refine ⟨rfl, v1, v2, ?_⟩
  rw [eY] at hD
  obtain ⟨hgon, l1, l2, kp, sg, slt⟩ := hD
  have x1 : (Ln.day t n cd wt l g).g.ea = g.ea + (l.foldl (Ln.event n) (Ln.early t n cd g)).g.pr * ((l.foldl (Ln.event n) (Ln.early t n cd g)).g.rt * wt) := by rw [← ee]; rfl
  have x2 : (Ln.day t n cd wt l g).g.fn = g.fn + (l.foldl (Ln.event n) (Ln.early t n cd g)).g.la * (t.fi * wt) := by rw [← fe]; rfl
  rw [x1, x2]
  refine ⟨?_, l1, l2, kp, sg, slt⟩
  rw [← ee, ← fe] at hgon
  obtain ⟨ne, ⟨cap, hg⟩, hA⟩ := hgon
  exact ⟨ne, ⟨cap, hg⟩, hA⟩
end Go.Proofs.YtanndhoimpnhpaaGreatDoor
namespace Go.Proofs.YtanndhoimpnhpaaGreatDoor
open Go.ChangeShapes Go.WideShapes Go.ChangeAt Go.RowKit
theorem infoEn : (Tryz.prog.info? 114).map (fun i => (i.zero, i.size, i.bytes)) = some (some (.agg #[.int .i64 0, .int .i64 0, .int .i64 0]), 3, 24) := by kernel_rfl
end Go.Proofs.YtanndhoimpnhpaaGreatDoor
namespace Go.Proofs.YtanndhoimpnhpaaGreatDoor
open Go.ChangeShapes Go.WideShapes Go.ChangeAt Go.RowKit
noncomputable def runL1 : Code := (((Tryz.f60).body.map loopsOf).getD [])[0]?.getD .skip
set_option maxRecDepth 1000000 in
set_option maxHeartbeats 8000000 in
theorem run_loop1 (w : World) (B H N : Nat) (t : Ln.Terms) (evv : Value) (g0 : Ln.St) (day0 : Int) (bkv : Value) (base : Nat) (L : List En) (hB : At w B (dl t evv g0 day0 bkv)) (hown : w.ownsRow base 114 3 bkv L.length (ens L)) (hH : At w H (hc N (fun _ => 0))) (hHB : ¬ H = B) (hbH : ∀ b, bkv.ownBlock = some b → ¬ b = H) (hN : N ≤ 48100) (hL : L.length ≤ 5000000000000)
    (HOk : Hid (∀ e ∈ L, t.st ≤ e.d ∧ e.d ≤ t.st + 3700 ∧ 1 ≤ e.k ∧ e.k ≤ 12 ∧ 13 * (e.d - t.st) + e.k < N))
    (c1 c2 c3 c4 c5 c6 c9 c10 c11 c12 c13 c14 c15 c16 c17 c18 c19 c20 c21 c22 c23 c24 c25 c26 c27 c28 c29 c30 c31 c32 c33 c34 c35 c36 c37 c38 c39 c40 c41 c42 c43 c44 c45 c46 c47 c48 c49 c50 c51 c52 c53 c54 c55 c56 c57 c58 c59 c60 c61 c62 c63 c64 c65 c66 c67 c68 c69 c70 c71 c72 c73 c74 c75 c76 c77 c78 c79 c80 c81 c82 c83 c84 c85 c86 c87 c88 c89 c90 c91 c92 c93 c94 c95 c96 c97 c98 c99 c100 c101 c102 c103 c104 c105 c106 c107 c108 c109 c110 c111 c112 c113 c114 c115 c116 c117 c118 c119 c120 c121 c122 c123 c124 c125 c126 c127 c128 c129 c130 c131 c132 c133 c134 c135 c136 c137 c138 c139 c140 c141 c142 c143 c144 c145 c146 c147 c148 c149 c150 c151 c152 c153 c154 c155 c156 c157 c158 c159 c160 c161 c162 c163 c164 c165 c166 c167 c168 c169 c170 c171 c172 c173 c174 c175 c176 c177 c178 c179 c180 c181 c182 c183 c184 c185 c186 c187 c188 c189 c190 c191 c192 c193 c194 c195 c196 c197 c198 c199 c200 c201 c202 c203 c204 c205 c206 c207 c208 c209 : Value) (Q0 : Exit → Act → World → Prop) (hpan : ∀ x (a : Act) o v w, Q0 (.panic x) (a.put o v) w → Q0 (.panic x) a w)
    (hexit : ∀ (u8 u9 u57 u58 u59 u60 u61 u62 u63 u64 u65 u66 u67 u68 u69 u70 u71 u72 u73 u74 u75 u76 u77 u78 u79 u80 u81 u82 u83 u84 u85 u86 u87 u88 u89 u90 u91 u92 u93 u94 u95 u96 u97 u98 u99 u100 u101 u102 u103 u104 u105 : Value) (wz : World), At wz H (hc N (hv t.st L)) → Keep (fun b => b = H) w wz → Q0 (.exit 0) ⟨((.pointer (some ⟨B, 0, none⟩)) :: c1 :: c2 :: c3 :: c4 :: c5 :: c6 :: (.slice (some ⟨H, 0, none⟩) N N) :: u8 :: u9 :: c10 :: c11 :: c12 :: c13 :: c14 :: c15 :: c16 :: c17 :: c18 :: c19 :: c20 :: c21 :: c22 :: c23 :: c24 :: c25 :: c26 :: c27 :: c28 :: c29 :: c30 :: c31 :: c32 :: c33 :: c34 :: c35 :: c36 :: c37 :: c38 :: c39 :: c40 :: c41 :: c42 :: c43 :: c44 :: c45 :: c46 :: c47 :: c48 :: c49 :: c50 :: c51 :: c52 :: c53 :: c54 :: c55 :: c56 :: u57 :: u58 :: u59 :: u60 :: u61 :: u62 :: u63 :: u64 :: u65 :: u66 :: u67 :: u68 :: u69 :: u70 :: u71 :: u72 :: u73 :: u74 :: u75 :: u76 :: u77 :: u78 :: u79 :: u80 :: u81 :: u82 :: u83 :: u84 :: u85 :: u86 :: u87 :: u88 :: u89 :: u90 :: u91 :: u92 :: u93 :: u94 :: u95 :: u96 :: u97 :: u98 :: u99 :: u100 :: u101 :: u102 :: u103 :: u104 :: u105 :: c106 :: c107 :: c108 :: c109 :: c110 :: c111 :: c112 :: c113 :: c114 :: c115 :: c116 :: c117 :: c118 :: c119 :: c120 :: c121 :: c122 :: c123 :: c124 :: c125 :: c126 :: c127 :: c128 :: c129 :: c130 :: c131 :: c132 :: c133 :: c134 :: c135 :: c136 :: c137 :: c138 :: c139 :: c140 :: c141 :: c142 :: c143 :: c144 :: c145 :: c146 :: c147 :: c148 :: c149 :: c150 :: c151 :: c152 :: c153 :: c154 :: c155 :: c156 :: c157 :: c158 :: c159 :: c160 :: c161 :: c162 :: c163 :: c164 :: c165 :: c166 :: c167 :: c168 :: c169 :: c170 :: c171 :: c172 :: c173 :: c174 :: c175 :: c176 :: c177 :: c178 :: c179 :: c180 :: c181 :: c182 :: c183 :: c184 :: c185 :: c186 :: c187 :: c188 :: c189 :: c190 :: c191 :: c192 :: c193 :: c194 :: c195 :: c196 :: c197 :: c198 :: c199 :: c200 :: c201 :: c202 :: c203 :: c204 :: c205 :: c206 :: c207 :: c208 :: c209 :: []).toArray, []⟩ wz) :
    Code.wp Tryz.prog (Code.loop runL1) Q0 ⟨((.pointer (some ⟨B, 0, none⟩)) :: c1 :: c2 :: c3 :: c4 :: c5 :: c6 :: (.slice (some ⟨H, 0, none⟩) N N) :: (.int .i64 0) :: c9 :: c10 :: c11 :: c12 :: c13 :: c14 :: c15 :: c16 :: c17 :: c18 :: c19 :: c20 :: c21 :: c22 :: c23 :: c24 :: c25 :: c26 :: c27 :: c28 :: c29 :: c30 :: c31 :: c32 :: c33 :: c34 :: c35 :: c36 :: c37 :: c38 :: c39 :: c40 :: c41 :: c42 :: c43 :: c44 :: c45 :: c46 :: c47 :: c48 :: c49 :: c50 :: c51 :: c52 :: c53 :: c54 :: c55 :: c56 :: c57 :: c58 :: c59 :: c60 :: c61 :: c62 :: c63 :: c64 :: c65 :: c66 :: c67 :: c68 :: c69 :: c70 :: c71 :: c72 :: c73 :: c74 :: c75 :: c76 :: c77 :: c78 :: c79 :: c80 :: c81 :: c82 :: c83 :: c84 :: c85 :: c86 :: c87 :: c88 :: c89 :: c90 :: c91 :: c92 :: c93 :: c94 :: c95 :: c96 :: c97 :: c98 :: c99 :: c100 :: c101 :: c102 :: c103 :: c104 :: c105 :: c106 :: c107 :: c108 :: c109 :: c110 :: c111 :: c112 :: c113 :: c114 :: c115 :: c116 :: c117 :: c118 :: c119 :: c120 :: c121 :: c122 :: c123 :: c124 :: c125 :: c126 :: c127 :: c128 :: c129 :: c130 :: c131 :: c132 :: c133 :: c134 :: c135 :: c136 :: c137 :: c138 :: c139 :: c140 :: c141 :: c142 :: c143 :: c144 :: c145 :: c146 :: c147 :: c148 :: c149 :: c150 :: c151 :: c152 :: c153 :: c154 :: c155 :: c156 :: c157 :: c158 :: c159 :: c160 :: c161 :: c162 :: c163 :: c164 :: c165 :: c166 :: c167 :: c168 :: c169 :: c170 :: c171 :: c172 :: c173 :: c174 :: c175 :: c176 :: c177 :: c178 :: c179 :: c180 :: c181 :: c182 :: c183 :: c184 :: c185 :: c186 :: c187 :: c188 :: c189 :: c190 :: c191 :: c192 :: c193 :: c194 :: c195 :: c196 :: c197 :: c198 :: c199 :: c200 :: c201 :: c202 :: c203 :: c204 :: c205 :: c206 :: c207 :: c208 :: c209 :: []).toArray, []⟩ w := by
  conv => arg 2; arg 1; whnf
  have HB := (show Hid _ from hB)
  have HO := (show Hid _ from hown)
  have HH := (show Hid _ from hH)
  clear hB hown hH
  go_loopw [8] (fun i wr => ∃ k : Nat, k ≤ L.length ∧ i = .int .i64 k ∧ At wr H (hc N (hv t.st (L.take k))) ∧ Keep (fun b => b = H) w wr) (fun i _ => L.length - (intOf i).toNat)
  case atStart => exact ⟨0, by omega, rfl, HH.out, Keep.refl _ _⟩
  case round =>
    obtain ⟨k, hk, rfl, hat, hkp⟩ := hrel
    have hBw : At wr B (dl t evv g0 day0 bkv) := At.keep (v := .int .i64 t.st) HB.out hkp (fun h => hHB h.symm)
    have c_0 : wr.cell? ⟨B, 0, none⟩ = some (.int .i64 t.st) := hBw.cell 0 rfl
    have c_15 : wr.cell? ⟨B, 15, none⟩ = some bkv := hBw.cell 15 rfl
    obtain ⟨p0, cap0, rfl⟩ := own_slice HO.out
    by_cases hlt : k < L.length
    · have hO2 : w.ownsRow base 114 3 (.slice p0 L.length cap0) L.length (ens L) := HO.out
      obtain ⟨g, cap2, hform, hgb, hgl⟩ := hO2.form (by omega)
      obtain ⟨rfl, rfl⟩ : p0 = some ⟨g, 0, none⟩ ∧ cap0 = cap2 := by
        injection hform with a b c
        exact ⟨a, c⟩
      obtain ⟨q0, q1, q2⟩ := en_range hO2 rfl k hlt
      have hgH : ¬ g = H := hbH g rfl
      have hkg := hkp.block g (World.block_lt_of_cell? _ _ q0) hgH
      have r0 : wr.drew.cell? ⟨g, k * 3, none⟩ = some (.int .i64 L[k].d) := (World.cell?_of_block (w := w) (a := ⟨g, k * 3, none⟩) hkg).trans q0
      have r1 : wr.drew.cell? ⟨g, k * 3 + 1, none⟩ = some (.int .i64 L[k].k) := (World.cell?_of_block (w := w) (a := ⟨g, k * 3 + 1, none⟩) hkg).trans q1
      have r2 : wr.drew.cell? ⟨g, k * 3 + 2, none⟩ = some (.int .i64 L[k].a) := (World.cell?_of_block (w := w) (a := ⟨g, k * 3 + 2, none⟩) hkg).trans q2
      obtain ⟨o0, o1, o2, o3, o4⟩ := HOk.out L[k] (List.getElem_mem hlt)
      have HV := (show Hid _ from hv_take t.st L k hlt)
      clear hO2 hform q0 q1 q2 hkg
      generalize hed : L[k].d = ed at *
      generalize hek : L[k].k = ek at *
      generalize hea : L[k].a = ea at *
      obtain ⟨j, hj⟩ : ∃ j : Nat, 13 * (ed - t.st) + ek = (j : Int) := ⟨(13 * (ed - t.st) + ek).toNat, by omega⟩
      have hjN : j < N := by omega
      have x1 : IntKind.i64.wrap (ed - t.st) = ed - t.st := by rw [IntKind.wrap_i64]; omega
      have x2 : IntKind.i64.wrap (13 * (ed - t.st)) = 13 * (ed - t.st) := by rw [IntKind.wrap_i64]; omega
      have x3 : IntKind.i64.wrap (13 * (ed - t.st) + ek) = (j : Int) := by rw [hj, IntKind.wrap_i64]; omega
      have x4 : IntKind.i64.wrap (j : Int) = j := by rw [IntKind.wrap_i64]; omega
      have d_0 : wr.drew.cell? ⟨B, 0, none⟩ = some (.int .i64 t.st) := c_0
      have d_15 : wr.drew.cell? ⟨B, 15, none⟩ = some (.slice (some ⟨g, 0, none⟩) L.length cap0) := c_15
      go_wp2_with fail
      clear c_0 c_15
      refine wp_region_held_drew (S := fun wz => wz = wr.drew) (by kernel_rfl) rfl (fun hHeld => ?_)
      refine wpAnyH_take (i := 0) (v := .pointer (some ⟨B, 0, none⟩)) rfl (by kernel_rfl) (by kernel_rfl) (by kernel_rfl) (fun _ _ _ h => hpan _ _ _ _ _ h) (Or.inl ⟨by rfl, fun wx hSw => by (subst hSw; go_simp)⟩) (by assumption) ?_
      simp only [Act.put, List.getElem_toArray, List.getElem_cons_zero, List.setIfInBounds_toArray, List.set_cons_zero, List.set_cons_succ]
      refine wpAnyH_take (i := 1) (v := .pointer (some ⟨B, 0, none⟩)) rfl (by kernel_rfl) (by kernel_rfl) (by kernel_rfl) (fun _ _ _ h => hpan _ _ _ _ _ h) (Or.inl ⟨by rfl, fun wx hSw => by (subst hSw; go_simp)⟩) (by assumption) ?_
      simp only [Act.put, List.getElem_toArray, List.getElem_cons_succ, List.getElem_cons_zero, List.setIfInBounds_toArray, List.set_cons_zero, List.set_cons_succ]
      refine wpAnyH_take (i := 2) (v := .pointer (some ⟨B, 15, none⟩)) rfl (by kernel_rfl) (by kernel_rfl) (by kernel_rfl) (fun _ _ _ h => hpan _ _ _ _ _ h) (Or.inl ⟨by rfl, fun wx hSw => by (subst hSw; go_simp)⟩) (by assumption) ?_
      simp only [Act.put, List.getElem_toArray, List.getElem_cons_succ, List.getElem_cons_zero, List.setIfInBounds_toArray, List.set_cons_zero, List.set_cons_succ]
      refine wpAnyH_take (i := 3) (v := .slice (some ⟨g, 0, none⟩) L.length cap0) rfl (by kernel_rfl) (by kernel_rfl) (by kernel_rfl) (fun _ _ _ h => hpan _ _ _ _ _ h) (Or.inl ⟨by rfl, fun wx hSw => by (subst hSw; go_simp)⟩) (by assumption) ?_
      simp only [Act.put, List.getElem_toArray, List.getElem_cons_succ, List.getElem_cons_zero, List.setIfInBounds_toArray, List.set_cons_zero, List.set_cons_succ]
      refine wpAnyH_take (i := 4) (v := .int .i64 k) rfl (by kernel_rfl) (by kernel_rfl) (by kernel_rfl) (fun _ _ _ h => hpan _ _ _ _ _ h) (Or.inl ⟨by rfl, fun wx hSw => by (subst hSw; go_simp)⟩) (by assumption) ?_
      simp only [Act.put, List.getElem_toArray, List.getElem_cons_succ, List.getElem_cons_zero, List.setIfInBounds_toArray, List.set_cons_zero, List.set_cons_succ]
      refine wpAnyH_take (i := 5) (v := .pointer (some ⟨g, k * 3, none⟩)) rfl (by kernel_rfl) (by kernel_rfl) (by kernel_rfl) (fun _ _ _ h => hpan _ _ _ _ _ h) (Or.inl ⟨by rfl, fun wx hSw => by (subst hSw; go_simp)⟩) (by assumption) ?_
      simp only [Act.put, List.getElem_toArray, List.getElem_cons_succ, List.getElem_cons_zero, List.setIfInBounds_toArray, List.set_cons_zero, List.set_cons_succ]
      refine wpAnyH_take (i := 6) (v := .pointer (some ⟨g, k * 3, none⟩)) rfl (by kernel_rfl) (by kernel_rfl) (by kernel_rfl) (fun _ _ _ h => hpan _ _ _ _ _ h) (Or.inl ⟨by rfl, fun wx hSw => by (subst hSw; go_simp)⟩) (by assumption) ?_
      simp only [Act.put, List.getElem_toArray, List.getElem_cons_succ, List.getElem_cons_zero, List.setIfInBounds_toArray, List.set_cons_zero, List.set_cons_succ]
      refine wpAnyH_take (i := 7) (v := .int .i64 ed) rfl (by kernel_rfl) (by kernel_rfl) (by kernel_rfl) (fun _ _ _ h => hpan _ _ _ _ _ h) (Or.inl ⟨by rfl, fun wx hSw => by (subst hSw; go_simp)⟩) (by assumption) ?_
      simp only [Act.put, List.getElem_toArray, List.getElem_cons_succ, List.getElem_cons_zero, List.setIfInBounds_toArray, List.set_cons_zero, List.set_cons_succ]
      refine wpAnyH_take (i := 8) (v := .pointer (some ⟨B, 0, none⟩)) rfl (by kernel_rfl) (by kernel_rfl) (by kernel_rfl) (fun _ _ _ h => hpan _ _ _ _ _ h) (Or.inl ⟨by rfl, fun wx hSw => by (subst hSw; go_simp)⟩) (by assumption) ?_
      simp only [Act.put, List.getElem_toArray, List.getElem_cons_succ, List.getElem_cons_zero, List.setIfInBounds_toArray, List.set_cons_zero, List.set_cons_succ]
      refine wpAnyH_take (i := 9) (v := .pointer (some ⟨B, 0, none⟩)) rfl (by kernel_rfl) (by kernel_rfl) (by kernel_rfl) (fun _ _ _ h => hpan _ _ _ _ _ h) (Or.inl ⟨by rfl, fun wx hSw => by (subst hSw; go_simp)⟩) (by assumption) ?_
      simp only [Act.put, List.getElem_toArray, List.getElem_cons_succ, List.getElem_cons_zero, List.setIfInBounds_toArray, List.set_cons_zero, List.set_cons_succ]
      refine wpAnyH_take (i := 10) (v := .pointer (some ⟨B, 0, none⟩)) rfl (by kernel_rfl) (by kernel_rfl) (by kernel_rfl) (fun _ _ _ h => hpan _ _ _ _ _ h) (Or.inl ⟨by rfl, fun wx hSw => by (subst hSw; go_simp)⟩) (by assumption) ?_
      simp only [Act.put, List.getElem_toArray, List.getElem_cons_succ, List.getElem_cons_zero, List.setIfInBounds_toArray, List.set_cons_zero, List.set_cons_succ]
      refine wpAnyH_take (i := 11) (v := .pointer (some ⟨B, 0, none⟩)) rfl (by kernel_rfl) (by kernel_rfl) (by kernel_rfl) (fun _ _ _ h => hpan _ _ _ _ _ h) (Or.inl ⟨by rfl, fun wx hSw => by (subst hSw; go_simp)⟩) (by assumption) ?_
      simp only [Act.put, List.getElem_toArray, List.getElem_cons_succ, List.getElem_cons_zero, List.setIfInBounds_toArray, List.set_cons_zero, List.set_cons_succ]
      refine wpAnyH_take (i := 12) (v := .int .i64 t.st) rfl (by kernel_rfl) (by kernel_rfl) (by kernel_rfl) (fun _ _ _ h => hpan _ _ _ _ _ h) (Or.inl ⟨by rfl, fun wx hSw => by (subst hSw; go_simp)⟩) (by assumption) ?_
      simp only [Act.put, List.getElem_toArray, List.getElem_cons_succ, List.getElem_cons_zero, List.setIfInBounds_toArray, List.set_cons_zero, List.set_cons_succ]
      refine wpAnyH_take (i := 13) (v := .int .i64 (ed - t.st)) rfl (by kernel_rfl) (by kernel_rfl) (by kernel_rfl) (fun _ _ _ h => hpan _ _ _ _ _ h) (Or.inl ⟨by rfl, fun wx hSw => by (subst hSw; go_simp)⟩) (by assumption) ?_
      simp only [Act.put, List.getElem_toArray, List.getElem_cons_succ, List.getElem_cons_zero, List.setIfInBounds_toArray, List.set_cons_zero, List.set_cons_succ]
      refine wpAnyH_take (i := 14) (v := .int .i64 (13 * (ed - t.st))) rfl (by kernel_rfl) (by kernel_rfl) (by kernel_rfl) (fun _ _ _ h => hpan _ _ _ _ _ h) (Or.inl ⟨by rfl, fun wx hSw => by (subst hSw; go_simp)⟩) (by assumption) ?_
      simp only [Act.put, List.getElem_toArray, List.getElem_cons_succ, List.getElem_cons_zero, List.setIfInBounds_toArray, List.set_cons_zero, List.set_cons_succ]
      refine wpAnyH_take (i := 15) (v := .pointer (some ⟨B, 0, none⟩)) rfl (by kernel_rfl) (by kernel_rfl) (by kernel_rfl) (fun _ _ _ h => hpan _ _ _ _ _ h) (Or.inl ⟨by rfl, fun wx hSw => by (subst hSw; go_simp)⟩) (by assumption) ?_
      simp only [Act.put, List.getElem_toArray, List.getElem_cons_succ, List.getElem_cons_zero, List.setIfInBounds_toArray, List.set_cons_zero, List.set_cons_succ]
      refine wpAnyH_take (i := 16) (v := .pointer (some ⟨B, 0, none⟩)) rfl (by kernel_rfl) (by kernel_rfl) (by kernel_rfl) (fun _ _ _ h => hpan _ _ _ _ _ h) (Or.inl ⟨by rfl, fun wx hSw => by (subst hSw; go_simp)⟩) (by assumption) ?_
      simp only [Act.put, List.getElem_toArray, List.getElem_cons_succ, List.getElem_cons_zero, List.setIfInBounds_toArray, List.set_cons_zero, List.set_cons_succ]
      refine wpAnyH_take (i := 17) (v := .pointer (some ⟨B, 15, none⟩)) rfl (by kernel_rfl) (by kernel_rfl) (by kernel_rfl) (fun _ _ _ h => hpan _ _ _ _ _ h) (Or.inl ⟨by rfl, fun wx hSw => by (subst hSw; go_simp)⟩) (by assumption) ?_
      simp only [Act.put, List.getElem_toArray, List.getElem_cons_succ, List.getElem_cons_zero, List.setIfInBounds_toArray, List.set_cons_zero, List.set_cons_succ]
      refine wpAnyH_take (i := 18) (v := .slice (some ⟨g, 0, none⟩) L.length cap0) rfl (by kernel_rfl) (by kernel_rfl) (by kernel_rfl) (fun _ _ _ h => hpan _ _ _ _ _ h) (Or.inl ⟨by rfl, fun wx hSw => by (subst hSw; go_simp)⟩) (by assumption) ?_
      simp only [Act.put, List.getElem_toArray, List.getElem_cons_succ, List.getElem_cons_zero, List.setIfInBounds_toArray, List.set_cons_zero, List.set_cons_succ]
      refine wpAnyH_take (i := 19) (v := .int .i64 k) rfl (by kernel_rfl) (by kernel_rfl) (by kernel_rfl) (fun _ _ _ h => hpan _ _ _ _ _ h) (Or.inl ⟨by rfl, fun wx hSw => by (subst hSw; go_simp)⟩) (by assumption) ?_
      simp only [Act.put, List.getElem_toArray, List.getElem_cons_succ, List.getElem_cons_zero, List.setIfInBounds_toArray, List.set_cons_zero, List.set_cons_succ]
      refine wpAnyH_take (i := 20) (v := .pointer (some ⟨g, k * 3, none⟩)) rfl (by kernel_rfl) (by kernel_rfl) (by kernel_rfl) (fun _ _ _ h => hpan _ _ _ _ _ h) (Or.inl ⟨by rfl, fun wx hSw => by (subst hSw; go_simp)⟩) (by assumption) ?_
      simp only [Act.put, List.getElem_toArray, List.getElem_cons_succ, List.getElem_cons_zero, List.setIfInBounds_toArray, List.set_cons_zero, List.set_cons_succ]
      refine wpAnyH_take (i := 21) (v := .pointer (some ⟨g, k * 3 + 1, none⟩)) rfl (by kernel_rfl) (by kernel_rfl) (by kernel_rfl) (fun _ _ _ h => hpan _ _ _ _ _ h) (Or.inl ⟨by rfl, fun wx hSw => by (subst hSw; go_simp)⟩) (by assumption) ?_
      simp only [Act.put, List.getElem_toArray, List.getElem_cons_succ, List.getElem_cons_zero, List.setIfInBounds_toArray, List.set_cons_zero, List.set_cons_succ]
      refine wpAnyH_take (i := 22) (v := .int .i64 ek) rfl (by kernel_rfl) (by kernel_rfl) (by kernel_rfl) (fun _ _ _ h => hpan _ _ _ _ _ h) (Or.inl ⟨by rfl, fun wx hSw => by (subst hSw; go_simp)⟩) (by assumption) ?_
      simp only [Act.put, List.getElem_toArray, List.getElem_cons_succ, List.getElem_cons_zero, List.setIfInBounds_toArray, List.set_cons_zero, List.set_cons_succ]
      refine wpAnyH_take (i := 23) (v := .int .i64 j) rfl (by kernel_rfl) (by kernel_rfl) (by kernel_rfl) (fun _ _ _ h => hpan _ _ _ _ _ h) (Or.inl ⟨by rfl, fun wx hSw => by (subst hSw; go_simp)⟩) (by assumption) ?_
      simp only [Act.put, List.getElem_toArray, List.getElem_cons_succ, List.getElem_cons_zero, List.setIfInBounds_toArray, List.set_cons_zero, List.set_cons_succ]
      refine wpAnyH_take (i := 24) (v := .int .i64 j) rfl (by kernel_rfl) (by kernel_rfl) (by kernel_rfl) (fun _ _ _ h => hpan _ _ _ _ _ h) (Or.inl ⟨by rfl, fun wx hSw => by (subst hSw; go_simp)⟩) (by assumption) ?_
      simp only [Act.put, List.getElem_toArray, List.getElem_cons_succ, List.getElem_cons_zero, List.setIfInBounds_toArray, List.set_cons_zero, List.set_cons_succ]
      refine wpAnyH_done (by kernel_rfl) ?_ _
      clear hHeld
      have aH : At wr.drew.drew H (hc N (hv t.st (L.take k))) := hat.drew.drew
      have kH : Keep (fun b => b = H) w wr.drew.drew := hkp.drew.drew
      have y0 : wr.drew.drew.cell? ⟨H, j, none⟩ = some (.int .i64 (hv t.st (L.take k) j)) := aH.cell j (hc_at N _ j hjN)
      have y1 : wr.drew.drew.frozen? ⟨H, j, none⟩ = false := aH.free j (hc_at N _ j hjN)
      have y2 : wr.drew.drew.cell? ⟨B, 15, none⟩ = some (.slice (some ⟨g, 0, none⟩) L.length cap0) := d_15
      have y3 : wr.drew.drew.cell? ⟨g, k * 3 + 2, none⟩ = some (.int .i64 ea) := r2
      clear d_0 d_15 r0 r1 r2 x1 x2 x3 x4
      go_wp2_with fail
      have HX : Hid (hv t.st (L.take (k + 1)) j = IntKind.i64.wrap (hv t.st (L.take k) j + ea)) := by show _ = _; rw [HV.out j, if_pos hj]
      generalize hxx : hv t.st (L.take k) j = x at *
      refine wp_region_held_drew (S := fun wz => wz.cell? ⟨B, 15, none⟩ = some (.slice (some ⟨g, 0, none⟩) L.length cap0) ∧ wz.cell? ⟨g, k * 3 + 2, none⟩ = some (.int .i64 ea)) (by kernel_rfl) ⟨y2, y3⟩ (fun hHeld => ?_)
      generalize wr.drew.drew = U at *
      refine wpAnyH_take (i := 0) (v := .slice (some ⟨H, 0, none⟩) N N) rfl (by kernel_rfl) (by kernel_rfl) (by kernel_rfl) (fun _ _ _ h => hpan _ _ _ _ _ h) (Or.inl ⟨by rfl, fun wx hSw => by (obtain ⟨_, _⟩ := hSw; go_simp)⟩) (by assumption) ?_
      simp only [Act.put, List.getElem_toArray, List.getElem_cons_zero, List.setIfInBounds_toArray, List.set_cons_zero, List.set_cons_succ]
      refine wpAnyH_take (i := 1) (v := .int .i64 j) rfl (by kernel_rfl) (by kernel_rfl) (by kernel_rfl) (fun _ _ _ h => hpan _ _ _ _ _ h) (Or.inl ⟨by rfl, fun wx hSw => by (obtain ⟨_, _⟩ := hSw; go_simp)⟩) (by assumption) ?_
      simp only [Act.put, List.getElem_toArray, List.getElem_cons_succ, List.getElem_cons_zero, List.setIfInBounds_toArray, List.set_cons_zero, List.set_cons_succ]
      refine wpAnyH_take (i := 2) (v := .slice (some ⟨H, 0, none⟩) N N) rfl (by kernel_rfl) (by kernel_rfl) (by kernel_rfl) (fun _ _ _ h => hpan _ _ _ _ _ h) (Or.inl ⟨by rfl, fun wx hSw => by (obtain ⟨_, _⟩ := hSw; go_simp)⟩) (by assumption) ?_
      simp only [Act.put, List.getElem_toArray, List.getElem_cons_succ, List.getElem_cons_zero, List.setIfInBounds_toArray, List.set_cons_zero, List.set_cons_succ]
      refine wpAnyH_take (i := 3) (v := .int .i64 j) rfl (by kernel_rfl) (by kernel_rfl) (by kernel_rfl) (fun _ _ _ h => hpan _ _ _ _ _ h) (Or.inl ⟨by rfl, fun wx hSw => by (obtain ⟨_, _⟩ := hSw; go_simp)⟩) (by assumption) ?_
      simp only [Act.put, List.getElem_toArray, List.getElem_cons_succ, List.getElem_cons_zero, List.setIfInBounds_toArray, List.set_cons_zero, List.set_cons_succ]
      refine wpAnyH_take (i := 4) (v := .pointer (some ⟨H, j, none⟩)) rfl (by kernel_rfl) (by kernel_rfl) (by kernel_rfl) (fun _ _ _ h => hpan _ _ _ _ _ h) (Or.inl ⟨by rfl, fun wx hSw => by (obtain ⟨_, _⟩ := hSw; go_simp)⟩) (by assumption) ?_
      simp only [Act.put, List.getElem_toArray, List.getElem_cons_succ, List.getElem_cons_zero, List.setIfInBounds_toArray, List.set_cons_zero, List.set_cons_succ]
      refine wpAnyH_take (i := 6) (v := .pointer (some ⟨B, 0, none⟩)) rfl (by kernel_rfl) (by kernel_rfl) (by kernel_rfl) (fun _ _ _ h => hpan _ _ _ _ _ h) (Or.inl ⟨by rfl, fun wx hSw => by (obtain ⟨_, _⟩ := hSw; go_simp)⟩) (by assumption) ?_
      simp only [Act.put, List.getElem_toArray, List.getElem_cons_succ, List.getElem_cons_zero, List.setIfInBounds_toArray, List.set_cons_zero, List.set_cons_succ]
      refine wpAnyH_take (i := 7) (v := .pointer (some ⟨B, 0, none⟩)) rfl (by kernel_rfl) (by kernel_rfl) (by kernel_rfl) (fun _ _ _ h => hpan _ _ _ _ _ h) (Or.inl ⟨by rfl, fun wx hSw => by (obtain ⟨_, _⟩ := hSw; go_simp)⟩) (by assumption) ?_
      simp only [Act.put, List.getElem_toArray, List.getElem_cons_succ, List.getElem_cons_zero, List.setIfInBounds_toArray, List.set_cons_zero, List.set_cons_succ]
      refine wpAnyH_take (i := 8) (v := .pointer (some ⟨B, 15, none⟩)) rfl (by kernel_rfl) (by kernel_rfl) (by kernel_rfl) (fun _ _ _ h => hpan _ _ _ _ _ h) (Or.inl ⟨by rfl, fun wx hSw => by (obtain ⟨_, _⟩ := hSw; go_simp)⟩) (by assumption) ?_
      simp only [Act.put, List.getElem_toArray, List.getElem_cons_succ, List.getElem_cons_zero, List.setIfInBounds_toArray, List.set_cons_zero, List.set_cons_succ]
      refine wpAnyH_take (i := 9) (v := .slice (some ⟨g, 0, none⟩) L.length cap0) rfl (by kernel_rfl) (by kernel_rfl) (by kernel_rfl) (fun _ _ _ h => hpan _ _ _ _ _ h) (Or.inl ⟨by rfl, fun wx hSw => by (obtain ⟨_, _⟩ := hSw; go_simp)⟩) (by assumption) ?_
      simp only [Act.put, List.getElem_toArray, List.getElem_cons_succ, List.getElem_cons_zero, List.setIfInBounds_toArray, List.set_cons_zero, List.set_cons_succ]
      refine wpAnyH_take (i := 10) (v := .int .i64 k) rfl (by kernel_rfl) (by kernel_rfl) (by kernel_rfl) (fun _ _ _ h => hpan _ _ _ _ _ h) (Or.inl ⟨by rfl, fun wx hSw => by (obtain ⟨_, _⟩ := hSw; go_simp)⟩) (by assumption) ?_
      simp only [Act.put, List.getElem_toArray, List.getElem_cons_succ, List.getElem_cons_zero, List.setIfInBounds_toArray, List.set_cons_zero, List.set_cons_succ]
      refine wpAnyH_take (i := 11) (v := .pointer (some ⟨g, k * 3, none⟩)) rfl (by kernel_rfl) (by kernel_rfl) (by kernel_rfl) (fun _ _ _ h => hpan _ _ _ _ _ h) (Or.inl ⟨by rfl, fun wx hSw => by (obtain ⟨_, _⟩ := hSw; go_simp)⟩) (by assumption) ?_
      simp only [Act.put, List.getElem_toArray, List.getElem_cons_succ, List.getElem_cons_zero, List.setIfInBounds_toArray, List.set_cons_zero, List.set_cons_succ]
      refine wpAnyH_take (i := 12) (v := .pointer (some ⟨g, k * 3 + 2, none⟩)) rfl (by kernel_rfl) (by kernel_rfl) (by kernel_rfl) (fun _ _ _ h => hpan _ _ _ _ _ h) (Or.inl ⟨by rfl, fun wx hSw => by (obtain ⟨_, _⟩ := hSw; go_simp)⟩) (by assumption) ?_
      simp only [Act.put, List.getElem_toArray, List.getElem_cons_succ, List.getElem_cons_zero, List.setIfInBounds_toArray, List.set_cons_zero, List.set_cons_succ]
      refine wpAnyH_take (i := 13) (v := .int .i64 ea) rfl (by kernel_rfl) (by kernel_rfl) (by kernel_rfl) (fun _ _ _ h => hpan _ _ _ _ _ h) (Or.inl ⟨by rfl, fun wx hSw => by (obtain ⟨_, _⟩ := hSw; go_simp)⟩) (by assumption) ?_
      simp only [Act.put, List.getElem_toArray, List.getElem_cons_succ, List.getElem_cons_zero, List.setIfInBounds_toArray, List.set_cons_zero, List.set_cons_succ]
      refine wpAnyH_ready (rs := [5]) (by kernel_rfl) (by simp) ?_
      refine AllReadyH.cons rfl (fun K hK => ?_) AllReadyH.nil
      go_simp
      refine hK.out _ _ hHeld (fun _ => ?_)
      clear hK K
      refine wpAnyH_take (i := 14) (v := .int .i64 (IntKind.i64.wrap (x + ea))) rfl (by kernel_rfl) (by kernel_rfl) (by kernel_rfl) (fun _ _ _ h => hpan _ _ _ _ _ h) (Or.inl ⟨by rfl, fun wx hSw => by (obtain ⟨_, _⟩ := hSw; go_simp)⟩) (by assumption) ?_
      simp only [Act.put, List.getElem_toArray, List.getElem_cons_succ, List.getElem_cons_zero, List.setIfInBounds_toArray, List.set_cons_zero, List.set_cons_succ]
      refine wpAnyH_take (i := 15) (v := .pointer (some ⟨H, j, none⟩)) rfl (by kernel_rfl) (by kernel_rfl) (by kernel_rfl) (fun _ _ _ h => hpan _ _ _ _ _ h) (Or.inl ⟨by rfl, fun wx hSw => by (obtain ⟨_, _⟩ := hSw; go_simp)⟩) (by assumption) ?_
      simp only [Act.put, List.getElem_toArray, List.getElem_cons_succ, List.getElem_cons_zero, List.setIfInBounds_toArray, List.set_cons_zero, List.set_cons_succ]
      refine wpAnyH_ready (rs := [16]) (by kernel_rfl) (by simp) ?_
      refine AllReadyH.cons rfl (fun K hK => ?_) AllReadyH.nil
      go_simp
      have aN : At (U.setCell ⟨H, j, none⟩ (.int .i64 (IntKind.i64.wrap (x + ea)))) H (hc N (hv t.st (L.take (k + 1)))) := by
        have := aH.set j (by rw [hc_len]; exact hjN) (.int .i64 (IntKind.i64.wrap (x + ea)))
        rw [hc_set N (hv t.st (L.take k)) (hv t.st (L.take (k + 1))) j _ (fun i hi => ?_)] at this
        · exact this
        · by_cases hij : i = j
          · subst hij; rw [if_pos rfl, HX.out]
          · rw [if_neg hij, HV.out i, if_neg (by omega)]
      have kN : Keep (fun b => b = H) w (U.setCell ⟨H, j, none⟩ (.int .i64 (IntKind.i64.wrap (x + ea)))) := kH.set (S := fun b => b = H) rfl j _
      have z2 : (U.setCell ⟨H, j, none⟩ (.int .i64 (IntKind.i64.wrap (x + ea)))).cell? ⟨B, 15, none⟩ = some (.slice (some ⟨g, 0, none⟩) L.length cap0) := by
        rw [World.cell?_setCell_other _ _ _ _ (fun q => hHB (by injection q))]; exact y2
      have z3 : (U.setCell ⟨H, j, none⟩ (.int .i64 (IntKind.i64.wrap (x + ea)))).cell? ⟨g, k * 3 + 2, none⟩ = some (.int .i64 ea) := by
        rw [World.cell?_setCell_other _ _ _ _ (fun q => hgH (by injection q with q; exact q.symm))]; exact y3
      refine hK.out _ _ ⟨z2, z3⟩ (fun _ => ?_)
      clear hK K
      generalize U.setCell ⟨H, j, none⟩ (.int .i64 (IntKind.i64.wrap (x + ea))) = U2 at *
      refine wpAnyH_done (by kernel_rfl) ?_ _
      go_wp2_with fail
      go_roundw
      case rel => exact ⟨k + 1, by omega, by go_num, aN, kN⟩
      case measure => simp [intOf]; omega
    · obtain rfl : k = L.length := by omega
      rw [List.take_length] at hat
      clear hlt HB HO HH HOk hbH hBw
      go_wp2_with fail
      exact hexit _ _ _ _ _ _ _ _ _ _ _ _ _ _ _ _ _ _ _ _ _ _ _ _ _ _ _ _ _ _ _ _ _ _ _ _ _ _ _ _ _ _ _ _ _ _ _ _ _ _ _ _ hat hkp
end Go.Proofs.YtanndhoimpnhpaaGreatDoor
