/- Joined by program: Loan, Can, Ev. -/
import Derived.WalkKit
/- A loan's days as plain arithmetic, as the document tells them: what a day does to what is owed, and that no number comes near 2^63. -/
namespace Go.Proofs.YtanndhoimpnhpaaGreatDoor.Ln

structure Terms where
  st : Int
  pr : Int
  rt : Int
  fi : Int
  ba : Int
  du : Int
structure Ev where
  d : Int
  k : Int
  s : Int
  a : Int
/-- What is owed, the rate, the day from which things fall due again, the two sums over all days. -/
structure St where
  pr : Int
  it : Int
  du : Int
  la : Int
  fi : Int
  cr : Int
  rt : Int
  fr : Int
  ea : Int
  fn : Int
/-- With the day's amounts by kinds. -/
structure Dy where
  g : St
  am : Nat → Int

def upd (f : Nat → Int) (k : Nat) (a : Int) : Nat → Int := fun i => if i = k then f i + a else f i
def move (g : St) (k : Nat) (a : Int) : St :=
  match k with
  | 1 => { g with pr := g.pr + a }
  | 2 => { g with la := g.la + a, du := g.du - a }
  | 3 => { g with du := g.du + a, it := g.it - a }
  | 4 => { g with pr := g.pr + a, it := g.it - a }
  | 5 => { g with fi := g.fi - a }
  | 6 => { g with la := g.la - a }
  | 7 => { g with du := g.du - a }
  | 8 => { g with it := g.it - a }
  | 9 => { g with pr := g.pr - a }
  | 10 => { g with cr := g.cr + a }
  | 11 => { g with it := g.it + a }
  | 12 => { g with fi := g.fi + a }
  | _ => g
def enter (y : Dy) (k : Nat) (a : Int) : Dy := ⟨move y.g k a, upd y.am k a⟩
def least (a b : Int) : Int := if b < a then b else a
def pay (y : Dy) (a : Int) : Dy :=
  let x5 := least y.g.fi a
  let x6 := least y.g.la (a - x5)
  let x7 := least y.g.du (a - x5 - x6)
  let x8 := least y.g.it (a - x5 - x6 - x7)
  let x9 := least y.g.pr (a - x5 - x6 - x7 - x8)
  enter (enter (enter (enter (enter (enter y 5 x5) 6 x6) 7 x7) 8 x8) 9 x9) 10 (a - x5 - x6 - x7 - x8 - x9)
/-- One event of day n. -/
def event (n : Int) (y : Dy) (e : Ev) : Dy :=
  if e.d ≠ n then y
  else if e.k = 1 then enter y 1 e.a
  else if e.k = 2 then { y with g := { y.g with rt := e.a } }
  else if e.k = 3 then (if y.g.fr < n + e.a then { y with g := { y.g with fr := n + e.a } } else y)
  else if e.k = 4 then enter y 4 y.g.it
  else if e.k = 5 then pay y e.a
  else y
def year (t : Terms) : Int := if t.ba = 1 then 365 else 360
def part (t : Terms) (x : Int) : Int := x / 1000000 / year t
/-- The day's beginning: what was lent first, what falls due; cd: the day of the month. -/
def early (t : Terms) (n cd : Int) (g : St) : Dy :=
  let y0 : Dy := ⟨g, fun _ => 0⟩
  let y1 := if n = t.st then enter y0 1 t.pr else y0
  if n ≠ t.st ∧ cd = t.du ∧ y1.g.fr ≤ n then (let y2 := enter y1 2 y1.g.du; enter y2 3 y2.g.it) else y1
/-- The day's end: interest and fine; w: the day's weight. -/
def late (t : Terms) (w : Int) (y : Dy) : Dy :=
  let ea := y.g.ea + y.g.pr * (y.g.rt * w)
  let fn := y.g.fn + y.g.la * (t.fi * w)
  let y1 : Dy := ⟨{ y.g with ea := ea, fn := fn }, y.am⟩
  enter (enter y1 11 (part t ea - part t y.g.ea)) 12 (part t fn - part t y.g.fn)
def day (t : Terms) (n cd w : Int) (l : List Ev) (g : St) : Dy := late t w (l.foldl (event n) (early t n cd g))
def start (t : Terms) : St := ⟨0, 0, 0, 0, 0, 0, t.rt, 0, 0, 0⟩
/-- The state ahead of day Start + k; cd, wt: day of the month and weight of each day. -/
def run (t : Terms) (cd wt : Int → Int) (l : List Ev) : Nat → St
  | 0 => start t
  | k + 1 => (day t (t.st + k) (cd (t.st + k)) (wt (t.st + k)) l (run t cd wt l k)).g

/-! ### Bounds -/
structure OkT (t : Terms) : Prop where
  st0 : 0 ≤ t.st
  st1 : t.st ≤ 105872
  pr0 : 0 ≤ t.pr
  pr1 : t.pr ≤ 100000000000
  rt0 : 0 ≤ t.rt
  rt1 : t.rt ≤ 1000000
  fi0 : 0 ≤ t.fi
  fi1 : t.fi ≤ 1000000
  ba0 : 1 ≤ t.ba
  ba1 : t.ba ≤ 3
structure OkE (t : Terms) (e : Ev) : Prop where
  d0 : t.st ≤ e.d
  d1 : e.d ≤ t.st + 3700
  k0 : 1 ≤ e.k
  k1 : e.k ≤ 5
  a0 : 0 ≤ e.a
  a1 : e.a ≤ 100000000000
  rt : e.k = 2 → e.a ≤ 1000000
  ho : e.k = 3 → e.a ≤ 400
def den (t : Terms) : Int := 1000000 * year t
theorem year_bd (t : Terms) : 360 ≤ year t ∧ year t ≤ 365 := by unfold year; split <;> omega
theorem den_bd (t : Terms) : 360000000 ≤ den t ∧ den t ≤ 365000000 := by
  have := year_bd t
  unfold den; omega
theorem part_den (t : Terms) (x : Int) : part t x = x / den t := by
  unfold part den
  rw [Int.ediv_ediv_of_nonneg (by decide)]
/-- What can be owed when L was lent and weights of s have gone by. -/
structure Inv (t : Terms) (L : Int) (s : Nat) (g : St) : Prop where
  pr : 0 ≤ g.pr
  it : 0 ≤ g.it
  du : 0 ≤ g.du
  la : 0 ≤ g.la
  fi : 0 ≤ g.fi
  cr : 0 ≤ g.cr
  rt0 : 0 ≤ g.rt
  rt1 : g.rt ≤ 1000000
  ea : 0 ≤ g.ea
  fn : 0 ≤ g.fn
  L0 : 0 ≤ L
  cr1 : g.cr ≤ L
  fi1 : g.fi ≤ g.fn / den t
  grow : (den t * (g.pr + g.it + g.du + g.la) + g.ea % den t) * 360 ^ s ≤ den t * L * 361 ^ s

theorem Inv.start {t : Terms} (h : OkT t) : Inv t 0 0 (start t) := by
  refine ⟨?_, ?_, ?_, ?_, ?_, ?_, h.rt0, h.rt1, ?_, ?_, Int.le_refl _, ?_, ?_, ?_⟩ <;> simp [Ln.start]

theorem pw : ∀ s : Nat, (360 : Int) ^ s ≤ 361 ^ s
  | 0 => by decide
  | s + 1 => by
    rw [Int.pow_succ, Int.pow_succ]
    exact Int.mul_le_mul (pw s) (by decide) (by decide) (Int.le_of_lt (Int.pow_pos (by decide)))
/-- More is lent. -/
theorem Inv.lend {t : Terms} {L : Int} {s : Nat} {g : St} (h : Inv t L s g) (a : Int) (ha : 0 ≤ a) : Inv t (L + a) s { g with pr := g.pr + a } := by
  have hd := den_bd t
  refine ⟨by have := h.pr; show 0 ≤ g.pr + a; omega, h.it, h.du, h.la, h.fi, h.cr, h.rt0, h.rt1, h.ea, h.fn, by have := h.L0; omega, by have := h.cr1; show g.cr ≤ L + a; omega, h.fi1, ?_⟩
  show (den t * (g.pr + a + g.it + g.du + g.la) + g.ea % den t) * 360 ^ s ≤ den t * (L + a) * 361 ^ s
  have e1 : (den t * (g.pr + a + g.it + g.du + g.la) + g.ea % den t) * 360 ^ s = (den t * (g.pr + g.it + g.du + g.la) + g.ea % den t) * 360 ^ s + den t * a * 360 ^ s := by
    rw [← Int.add_mul]; congr 1
    have : den t * (g.pr + a + g.it + g.du + g.la) = den t * (g.pr + g.it + g.du + g.la) + den t * a := by rw [← Int.mul_add]; congr 1; omega
    omega
  have e2 : den t * (L + a) * 361 ^ s = den t * L * 361 ^ s + den t * a * 361 ^ s := by rw [Int.mul_add, Int.add_mul]
  have := Int.mul_le_mul_of_nonneg_left (pw s) (show 0 ≤ den t * a from Int.mul_nonneg (by omega) ha)
  have hg := h.grow
  rw [e1, e2]
  omega
/-- L may be greater. -/
theorem Inv.more {t : Terms} {L : Int} {s : Nat} {g : St} (h : Inv t L s g) (a : Int) (ha : 0 ≤ a) : Inv t (L + a) s g := by
  have hd := den_bd t
  refine ⟨h.pr, h.it, h.du, h.la, h.fi, h.cr, h.rt0, h.rt1, h.ea, h.fn, by have := h.L0; omega, by have := h.cr1; omega, h.fi1, Int.le_trans h.grow ?_⟩
  refine Int.mul_le_mul_of_nonneg_right ?_ (Int.le_of_lt (Int.pow_pos (by decide)))
  exact Int.mul_le_mul_of_nonneg_left (by omega) (by omega)
/-- What is owed does not grow; the sum of interest and of fines stay. -/
theorem Inv.less {t : Terms} {L : Int} {s : Nat} {g g' : St} (h : Inv t L s g) (p : 0 ≤ g'.pr) (i : 0 ≤ g'.it) (d : 0 ≤ g'.du) (l : 0 ≤ g'.la) (f : 0 ≤ g'.fi) (c : 0 ≤ g'.cr) (r0 : 0 ≤ g'.rt) (r1 : g'.rt ≤ 1000000) (he : g'.ea = g.ea) (hf : g'.fn = g.fn)
    (hle : g'.pr + g'.it + g'.du + g'.la ≤ g.pr + g.it + g.du + g.la) (hc : g'.cr ≤ L) (hff : g'.fi ≤ g.fi) : Inv t L s g' := by
  have hd := den_bd t
  refine ⟨p, i, d, l, f, c, r0, r1, by rw [he]; exact h.ea, by rw [hf]; exact h.fn, h.L0, hc, by rw [hf]; exact Int.le_trans hff h.fi1, ?_⟩
  rw [he]
  refine Int.le_trans (Int.mul_le_mul_of_nonneg_right ?_ (Int.le_of_lt (Int.pow_pos (by decide)))) h.grow
  have := Int.mul_le_mul_of_nonneg_left hle (show 0 ≤ den t by omega)
  omega

/-! ### Each step keeps the bounds -/
theorem least_le (a b : Int) : least a b ≤ a ∧ least a b ≤ b := by unfold least; split <;> omega
theorem least_nn (a b : Int) (ha : 0 ≤ a) (hb : 0 ≤ b) : 0 ≤ least a b := by unfold least; split <;> omega
theorem Inv.pay {t : Terms} {L : Int} {s : Nat} {y : Dy} (h : Inv t L s y.g) (a : Int) (ha : 0 ≤ a) : Inv t (L + a) s (Ln.pay y a).g := by
  have l5 := least_le y.g.fi a
  have n5 := least_nn y.g.fi a h.fi ha
  have l6 := least_le y.g.la (a - least y.g.fi a)
  have n6 := least_nn y.g.la (a - least y.g.fi a) h.la (by omega)
  have l7 := least_le y.g.du (a - least y.g.fi a - least y.g.la (a - least y.g.fi a))
  have n7 := least_nn y.g.du (a - least y.g.fi a - least y.g.la (a - least y.g.fi a)) h.du (by omega)
  generalize e5 : least y.g.fi a = x5 at *
  generalize e6 : least y.g.la (a - x5) = x6 at *
  generalize e7 : least y.g.du (a - x5 - x6) = x7 at *
  have l8 := least_le y.g.it (a - x5 - x6 - x7)
  have n8 := least_nn y.g.it (a - x5 - x6 - x7) h.it (by omega)
  generalize e8 : least y.g.it (a - x5 - x6 - x7) = x8 at *
  have l9 := least_le y.g.pr (a - x5 - x6 - x7 - x8)
  have n9 := least_nn y.g.pr (a - x5 - x6 - x7 - x8) h.pr (by omega)
  generalize e9 : least y.g.pr (a - x5 - x6 - x7 - x8) = x9 at *
  have hp := h.pr
  have hi := h.it
  have hd := h.du
  have hl := h.la
  have hf := h.fi
  have hc := h.cr
  have e : (Ln.pay y a).g = { y.g with fi := y.g.fi - x5, la := y.g.la - x6, du := y.g.du - x7, it := y.g.it - x8, pr := y.g.pr - x9, cr := y.g.cr + (a - x5 - x6 - x7 - x8 - x9) } := by
    unfold Ln.pay
    simp only [e5, e6, e7, e8, e9]
    rfl
  rw [e]
  have hc1 := h.cr1
  refine (h.more a ha).less ?_ ?_ ?_ ?_ ?_ ?_ h.rt0 h.rt1 rfl rfl ?_ ?_ ?_
  · show 0 ≤ y.g.pr - x9; omega
  · show 0 ≤ y.g.it - x8; omega
  · show 0 ≤ y.g.du - x7; omega
  · show 0 ≤ y.g.la - x6; omega
  · show 0 ≤ y.g.fi - x5; omega
  · show 0 ≤ y.g.cr + (a - x5 - x6 - x7 - x8 - x9); omega
  · show y.g.pr - x9 + (y.g.it - x8) + (y.g.du - x7) + (y.g.la - x6) ≤ _; omega
  · show y.g.cr + (a - x5 - x6 - x7 - x8 - x9) ≤ L + a; omega
  · show y.g.fi - x5 ≤ y.g.fi; omega

/-- What an event brings on day n at most. -/
def lent (n : Int) (e : Ev) : Int := if e.d = n then e.a else 0
theorem Inv.event {t : Terms} {L : Int} {s : Nat} {y : Dy} (h : Inv t L s y.g) (n : Int) (e : Ev) (he : OkE t e) : Inv t (L + lent n e) s (Ln.event n y e).g := by
  have ha := he.a0
  unfold Ln.event lent
  by_cases hd : e.d = n
  · simp only [hd, ne_eq, not_true, if_false, if_true]
    have hm := h.more e.a ha
    by_cases h1 : e.k = 1
    · simp only [h1, if_true]
      exact h.lend e.a ha
    · simp only [h1, if_false]
      by_cases h2 : e.k = 2
      · simp only [h2, if_true]
        exact hm.less h.pr h.it h.du h.la h.fi h.cr ha (he.rt h2) rfl rfl (Int.le_refl _) hm.cr1 (Int.le_refl _)
      · simp only [h2, if_false]
        by_cases h3 : e.k = 3
        · simp only [h3, if_true]
          split
          · exact hm.less h.pr h.it h.du h.la h.fi h.cr h.rt0 h.rt1 rfl rfl (Int.le_refl _) hm.cr1 (Int.le_refl _)
          · exact hm
        · simp only [h3, if_false]
          by_cases h4 : e.k = 4
          · simp only [h4, if_true]
            have hp := h.pr
            have hi := h.it
            refine hm.less ?_ ?_ h.du h.la h.fi h.cr h.rt0 h.rt1 rfl rfl ?_ hm.cr1 (Int.le_refl _)
            · show 0 ≤ y.g.pr + y.g.it; omega
            · show 0 ≤ y.g.it - y.g.it; omega
            · show y.g.pr + y.g.it + (y.g.it - y.g.it) + y.g.du + y.g.la ≤ _; omega
          · simp only [h4, if_false]
            have h5 : e.k = 5 := by have := he.k0; have := he.k1; omega
            simp only [h5, if_true]
            exact h.pay e.a ha
  · simp only [hd, ne_eq, not_false_eq_true, if_true, if_false, Int.add_zero]
    exact h
def lents (n : Int) : List Ev → Int
  | [] => 0
  | e :: r => lent n e + lents n r
theorem Inv.events {t : Terms} (n : Int) : ∀ (l : List Ev) {L : Int} {s : Nat} {y : Dy}, Inv t L s y.g → (∀ e ∈ l, OkE t e) → Inv t (L + lents n l) s (l.foldl (Ln.event n) y).g
  | [], L, s, y, h, _ => by simpa [lents] using h
  | e :: r, L, s, y, h, hl => by
    have h1 := Inv.event h n e (hl e (by simp))
    have h2 := Inv.events n r h1 (fun x hx => hl x (by simp [hx]))
    rw [Int.add_assoc] at h2
    exact h2
theorem Inv.early {t : Terms} {L : Int} {s : Nat} {g : St} (h : Inv t L s g) (n cd : Int) (ht : OkT t) : Inv t (L + (if n = t.st then t.pr else 0)) s (Ln.early t n cd g).g := by
  unfold Ln.early
  by_cases hn : n = t.st
  · simp only [hn, if_true, ne_eq, not_true, false_and, if_false]
    exact h.lend t.pr ht.pr0
  · simp only [hn, if_false, ne_eq, not_false_eq_true, true_and, Int.add_zero]
    split
    · have hi := h.it
      have hd := h.du
      have hl := h.la
      refine h.less h.pr ?_ ?_ ?_ h.fi h.cr h.rt0 h.rt1 rfl rfl ?_ h.cr1 (Int.le_refl _)
      · show 0 ≤ g.it - g.it; omega
      · show 0 ≤ g.du - g.du + g.it; omega
      · show 0 ≤ g.la + g.du; omega
      · show g.pr + (g.it - g.it) + (g.du - g.du + g.it) + (g.la + g.du) ≤ _; omega
    · exact h

theorem day_pw (s w : Nat) (hw : w ≤ 3) : (360 + (w : Int)) * 360 ^ (s + w) * 361 ^ s ≤ 360 * 361 ^ (s + w) * 360 ^ s := by
  have e1 : (360 : Int) ^ (s + w) = 360 ^ s * 360 ^ w := Int.pow_add ..
  have e2 : (361 : Int) ^ (s + w) = 361 ^ s * 361 ^ w := Int.pow_add ..
  rw [e1, e2]
  have hk : (360 + (w : Int)) * 360 ^ w ≤ 360 * 361 ^ w := by
    rcases (show w = 0 ∨ w = 1 ∨ w = 2 ∨ w = 3 by omega) with h | h | h | h <;> subst h <;> decide
  have hp : (0 : Int) ≤ 360 ^ s * 361 ^ s := Int.mul_nonneg (Int.le_of_lt (Int.pow_pos (by decide))) (Int.le_of_lt (Int.pow_pos (by decide)))
  have := Int.mul_le_mul_of_nonneg_right hk hp
  have a1 : (360 + (w : Int)) * (360 ^ s * 360 ^ w) * 361 ^ s = (360 + (w : Int)) * 360 ^ w * (360 ^ s * 361 ^ s) := by
    simp only [Int.mul_assoc, Int.mul_left_comm]
  have a2 : 360 * (361 ^ s * 361 ^ w) * 360 ^ s = 360 * 361 ^ w * ((360 : Int) ^ s * 361 ^ s) := by
    simp only [Int.mul_assoc, Int.mul_left_comm, Int.mul_comm ((361 : Int) ^ w)]
  rw [a1, a2]
  exact this

theorem Inv.late {t : Terms} {L : Int} {s : Nat} {y : Dy} (h : Inv t L s y.g) (ht : OkT t) (w : Nat) (hw : w ≤ 3) : Inv t L (s + w) (Ln.late t w y).g := by
  have hd := den_bd t
  have hp := h.pr
  have hi := h.it
  have hdu := h.du
  have hla := h.la
  have hea := h.ea
  have hfn := h.fn
  have hr0 := h.rt0
  have hr1 := h.rt1
  have hw0 : (0 : Int) ≤ w := by omega
  have m1 : 0 ≤ y.g.pr * (y.g.rt * w) := Int.mul_nonneg hp (Int.mul_nonneg hr0 hw0)
  have m2 : 0 ≤ y.g.la * (t.fi * w) := Int.mul_nonneg hla (Int.mul_nonneg ht.fi0 hw0)
  have q1 : y.g.ea / den t ≤ (y.g.ea + y.g.pr * (y.g.rt * w)) / den t := Int.ediv_le_ediv (by omega) (by omega)
  have q2 : y.g.fn / den t ≤ (y.g.fn + y.g.la * (t.fi * w)) / den t := Int.ediv_le_ediv (by omega) (by omega)
  have e : (Ln.late t w y).g = { y.g with ea := y.g.ea + y.g.pr * (y.g.rt * w), fn := y.g.fn + y.g.la * (t.fi * w), it := y.g.it + ((y.g.ea + y.g.pr * (y.g.rt * w)) / den t - y.g.ea / den t), fi := y.g.fi + ((y.g.fn + y.g.la * (t.fi * w)) / den t - y.g.fn / den t) } := by
    unfold Ln.late
    simp only [part_den]
    rfl
  rw [e]
  have hfi := h.fi
  have hf1 := h.fi1
  refine ⟨hp, ?_, hdu, hla, ?_, h.cr, hr0, hr1, ?_, ?_, h.L0, h.cr1, ?_, ?_⟩
  · show 0 ≤ y.g.it + _; omega
  · show 0 ≤ y.g.fi + _; omega
  · show 0 ≤ y.g.ea + _; omega
  · show 0 ≤ y.g.fn + _; omega
  · show y.g.fi + ((y.g.fn + y.g.la * (t.fi * w)) / den t - y.g.fn / den t) ≤ (y.g.fn + y.g.la * (t.fi * w)) / den t; omega
  · show (den t * (y.g.pr + (y.g.it + ((y.g.ea + y.g.pr * (y.g.rt * w)) / den t - y.g.ea / den t)) + y.g.du + y.g.la) + (y.g.ea + y.g.pr * (y.g.rt * w)) % den t) * 360 ^ (s + w) ≤ den t * L * 361 ^ (s + w)
    generalize hx : y.g.pr * (y.g.rt * w) = x at *
    have r1 := Int.mul_ediv_add_emod y.g.ea (den t)
    have r2 := Int.mul_ediv_add_emod (y.g.ea + x) (den t)
    have v1 : den t * (y.g.pr + (y.g.it + ((y.g.ea + x) / den t - y.g.ea / den t)) + y.g.du + y.g.la) + (y.g.ea + x) % den t = den t * (y.g.pr + y.g.it + y.g.du + y.g.la) + y.g.ea % den t + x := by
      have : den t * (y.g.pr + (y.g.it + ((y.g.ea + x) / den t - y.g.ea / den t)) + y.g.du + y.g.la) = den t * (y.g.pr + y.g.it + y.g.du + y.g.la) + (den t * ((y.g.ea + x) / den t) - den t * (y.g.ea / den t)) := by
        rw [← Int.mul_sub, ← Int.mul_add]
        congr 1
        omega
      omega
    rw [v1]
    have hm0 : 0 ≤ y.g.ea % den t := Int.emod_nonneg _ (by omega)
    have hX : den t * y.g.pr ≤ den t * (y.g.pr + y.g.it + y.g.du + y.g.la) := Int.mul_le_mul_of_nonneg_left (by omega) (by omega)
    have hP : 360000000 * y.g.pr ≤ den t * y.g.pr := Int.mul_le_mul_of_nonneg_right (by omega) hp
    have hxb : x ≤ y.g.pr * (1000000 * w) := by
      rw [← hx]
      exact Int.mul_le_mul_of_nonneg_left (Int.mul_le_mul_of_nonneg_right hr1 hw0) hp
    have hg := h.grow
    generalize hV : den t * (y.g.pr + y.g.it + y.g.du + y.g.la) + y.g.ea % den t = V at *
    have hV0 : 0 ≤ V := by
      have : 0 ≤ den t * y.g.pr := Int.mul_nonneg (by omega) hp
      omega
    have hVx : 360 * (V + x) ≤ V * (360 + w) := by
      have a1 : 360000000 * y.g.pr * w ≤ V * w := Int.mul_le_mul_of_nonneg_right (by omega) hw0
      have a2 : 360000000 * y.g.pr * w = 360 * (y.g.pr * (1000000 * w)) := by
        rw [show (360000000 : Int) = 360 * 1000000 by decide]
        simp only [Int.mul_assoc, Int.mul_left_comm]
      have a3 : V * (360 + (w : Int)) = 360 * V + V * w := by rw [Int.mul_add, Int.mul_comm V 360]
      omega
    have p1 : (0 : Int) < 360 * 361 ^ s := Int.mul_pos (by decide) (Int.pow_pos (by decide))
    have p2 : (0 : Int) ≤ 360 ^ (s + w) * 361 ^ s := Int.mul_nonneg (Int.le_of_lt (Int.pow_pos (by decide))) (Int.le_of_lt (Int.pow_pos (by decide)))
    have p3 : (0 : Int) ≤ 360 * 361 ^ (s + w) := Int.mul_nonneg (by decide) (Int.le_of_lt (Int.pow_pos (by decide)))
    refine Int.le_of_mul_le_mul_left ?_ p1
    have b1 := Int.mul_le_mul_of_nonneg_right hVx p2
    have b2 := Int.mul_le_mul_of_nonneg_left (day_pw s w hw) hV0
    have b3 := Int.mul_le_mul_of_nonneg_left hg p3
    have c1 : 360 * 361 ^ s * ((V + x) * 360 ^ (s + w)) = 360 * (V + x) * (360 ^ (s + w) * 361 ^ s) := by simp only [Int.mul_assoc, Int.mul_left_comm, Int.mul_comm]
    have c2 : V * (360 + (w : Int)) * (360 ^ (s + w) * 361 ^ s) = V * ((360 + (w : Int)) * 360 ^ (s + w) * 361 ^ s) := by simp only [Int.mul_assoc]
    have c3 : V * (360 * 361 ^ (s + w) * 360 ^ s) = 360 * 361 ^ (s + w) * (V * 360 ^ s) := by simp only [Int.mul_assoc, Int.mul_left_comm, Int.mul_comm]
    have c4 : 360 * 361 ^ (s + w) * (den t * L * 361 ^ s) = 360 * 361 ^ s * (den t * L * 361 ^ (s + w)) := by simp only [Int.mul_assoc, Int.mul_left_comm, Int.mul_comm]
    rw [c1, ← c4]
    rw [c2] at b1
    rw [c3] at b2
    exact Int.le_trans b1 (Int.le_trans b2 b3)
theorem Inv.day {t : Terms} {L : Int} {s : Nat} {g : St} (h : Inv t L s g) (ht : OkT t) (n cd : Int) (w : Nat) (hw : w ≤ 3) (l : List Ev) (hl : ∀ e ∈ l, OkE t e) :
    Inv t (L + (if n = t.st then t.pr else 0) + lents n l) (s + w) (Ln.day t n cd w l g).g := by
  unfold Ln.day
  exact (Inv.events n l (h.early n cd ht) hl).late ht w hw

/-! ### The whole way -/
/-- What events of days ahead of Start + k bring at most. -/
def tot (t : Terms) (k : Nat) : List Ev → Int
  | [] => 0
  | e :: r => (if e.d < t.st + k then e.a else 0) + tot t k r
theorem tot_zero (t : Terms) : ∀ l : List Ev, (∀ e ∈ l, OkE t e) → tot t 0 l = 0
  | [], _ => rfl
  | e :: r, h => by
    have h1 := (h e (by simp)).d0
    have h2 := tot_zero t r (fun x hx => h x (by simp [hx]))
    show (if e.d < t.st + (0 : Nat) then e.a else 0) + tot t 0 r = 0
    rw [if_neg (by omega), h2]; rfl
theorem tot_succ (t : Terms) (k : Nat) : ∀ l : List Ev, tot t (k + 1) l = tot t k l + lents (t.st + k) l
  | [] => rfl
  | e :: r => by
    have h2 := tot_succ t k r
    show (if e.d < t.st + (k + 1 : Nat) then e.a else 0) + tot t (k + 1) r = (if e.d < t.st + k then e.a else 0) + tot t k r + (lent (t.st + k) e + lents (t.st + k) r)
    rw [h2]
    unfold lent
    repeat' split
    all_goals omega
theorem tot_le (t : Terms) (k : Nat) : ∀ l : List Ev, (∀ e ∈ l, OkE t e) → 0 ≤ tot t k l ∧ tot t k l ≤ 100000000000 * l.length
  | [], _ => by simp [tot]
  | e :: r, h => by
    have h0 := (h e (by simp)).a0
    have h1 := (h e (by simp)).a1
    have h2 := tot_le t k r (fun x hx => h x (by simp [hx]))
    show 0 ≤ (if e.d < t.st + k then e.a else 0) + tot t k r ∧ (if e.d < t.st + k then e.a else 0) + tot t k r ≤ 100000000000 * ((r.length + 1 : Nat) : Int)
    split <;> omega
def sw (ws : Nat → Nat) : Nat → Nat
  | 0 => 0
  | k + 1 => sw ws k + ws k
theorem run_inv {t : Terms} (ht : OkT t) (cd wt : Int → Int) (ws : Nat → Nat) (hws : ∀ k, ws k ≤ 3) (hwt : ∀ k : Nat, wt (t.st + k) = ws k) (l : List Ev) (hl : ∀ e ∈ l, OkE t e) :
    ∀ k : Nat, Inv t ((if 0 < k then t.pr else 0) + tot t k l) (sw ws k) (run t cd wt l k)
  | 0 => by
    rw [tot_zero t l hl]
    exact Inv.start ht
  | k + 1 => by
    have h := Inv.day (run_inv ht cd wt ws hws hwt l hl k) ht (t.st + k) (cd (t.st + k)) (ws k) (hws k) l hl
    rw [← hwt k] at h
    have e : (if 0 < k then t.pr else 0) + tot t k l + (if t.st + (k : Int) = t.st then t.pr else 0) + lents (t.st + k) l = (if 0 < k + 1 then t.pr else 0) + tot t (k + 1) l := by
      rw [tot_succ, if_pos (Nat.succ_pos k)]
      by_cases hk : 0 < k
      · rw [if_pos hk, if_neg (by omega)]; omega
      · rw [if_neg hk, if_pos (by omega)]; omega
    rw [e] at h
    exact h

theorem pow_nat (b : Nat) (s : Nat) : ((b ^ s : Nat) : Int) = (b : Int) ^ s := Int.natCast_pow b s
theorem top : (361 : Nat) ^ 4320 ≤ 160200 * 360 ^ 4320 := by decide +kernel
theorem top_le (s : Nat) (hs : s ≤ 4320) : (361 : Nat) ^ s ≤ 160200 * 360 ^ s := by
  have h1 : (361 : Nat) ^ s * 360 ^ (4320 - s) ≤ 361 ^ s * 361 ^ (4320 - s) := Nat.mul_le_mul_left _ (Nat.pow_le_pow_left (by decide) _)
  rw [← Nat.pow_add, Nat.add_sub_cancel' hs] at h1
  have h2 := Nat.le_trans h1 top
  have e : (160200 : Nat) * 360 ^ 4320 = 160200 * 360 ^ s * 360 ^ (4320 - s) := by rw [Nat.mul_assoc, ← Nat.pow_add, Nat.add_sub_cancel' hs]
  rw [e] at h2
  exact Nat.le_of_mul_le_mul_right h2 (Nat.pow_pos (by decide))
theorem top_int (s : Nat) (hs : s ≤ 4320) : (361 : Int) ^ s ≤ 160200 * 360 ^ s := by
  have h := Int.ofNat_le.mpr (top_le s hs)
  rw [Int.natCast_mul, pow_nat, pow_nat] at h
  exact h
/-- What is owed stays below 2^63, by far. -/
theorem Inv.bound {t : Terms} {L : Int} {s : Nat} {g : St} (h : Inv t L s g) (hs : s ≤ 4320) (hL : L ≤ 4100000000000) : g.pr + g.it + g.du + g.la ≤ 656820000000000000 := by
  have hd := den_bd t
  have hm : 0 ≤ g.ea % den t := Int.emod_nonneg _ (by omega)
  have p0 : (0 : Int) < 360 ^ s := Int.pow_pos (by decide)
  have h1 := h.grow
  have h2 : den t * L * 361 ^ s ≤ den t * L * (160200 * 360 ^ s) := Int.mul_le_mul_of_nonneg_left (top_int s hs) (Int.mul_nonneg (by omega) h.L0)
  have h3 := Int.le_trans h1 h2
  rw [← Int.mul_assoc] at h3
  have h4 := Int.le_of_mul_le_mul_right h3 p0
  have h5 : den t * (g.pr + g.it + g.du + g.la) ≤ den t * (L * 160200) := by rw [← Int.mul_assoc]; omega
  have h6 := Int.le_of_mul_le_mul_left h5 (by omega)
  omega
end Go.Proofs.YtanndhoimpnhpaaGreatDoor.Ln

/- A loan's day, entry by entry: each entry can be made, and no sum is out of bounds. -/
namespace Go.Proofs.YtanndhoimpnhpaaGreatDoor.Ln

/-- What an entry may be: each thing that it takes from has it, and no sum is out of bounds. -/
def CanEnter (y : Dy) (k : Nat) (a : Int) : Prop :=
  0 ≤ a ∧ 0 ≤ y.am k ∧ y.am k + a ≤ 9000000000000000000 ∧
  match k with
  | 1 => y.g.pr + a ≤ 9000000000000000000
  | 2 => y.g.la + a ≤ 9000000000000000000 ∧ a ≤ y.g.du
  | 3 => y.g.du + a ≤ 9000000000000000000 ∧ a ≤ y.g.it
  | 4 => y.g.pr + a ≤ 9000000000000000000 ∧ a ≤ y.g.it
  | 5 => a ≤ y.g.fi
  | 6 => a ≤ y.g.la
  | 7 => a ≤ y.g.du
  | 8 => a ≤ y.g.it
  | 9 => a ≤ y.g.pr
  | 10 => y.g.cr + a ≤ 9000000000000000000
  | 11 => y.g.it + a ≤ 9000000000000000000
  | 12 => y.g.fi + a ≤ 9000000000000000000
  | _ => False
/-- No number of a day is out of bounds. -/
structure Fit (y : Dy) : Prop where
  pr0 : 0 ≤ y.g.pr
  pr1 : y.g.pr ≤ 4000000000000000000
  it0 : 0 ≤ y.g.it
  it1 : y.g.it ≤ 4000000000000000000
  du0 : 0 ≤ y.g.du
  du1 : y.g.du ≤ 4000000000000000000
  la0 : 0 ≤ y.g.la
  la1 : y.g.la ≤ 4000000000000000000
  fi0 : 0 ≤ y.g.fi
  fi1 : y.g.fi ≤ 8000000000000000000
  cr0 : 0 ≤ y.g.cr
  cr1 : y.g.cr ≤ 4000000000000000000
/-- A day under way: the amounts' bounds. -/
structure Am (y : Dy) (L : Int) : Prop where
  nn : ∀ j, 0 ≤ y.am j
  a1 : y.am 1 ≤ L
  a2 : y.am 2 ≤ 656820000000000000
  a3 : y.am 3 ≤ 656820000000000000
  a4 : y.am 4 + y.g.it ≤ 656820000000000000
  pd : ∀ j, 5 ≤ j → j ≤ 10 → y.am j ≤ L
  a11 : y.am 11 = 0
  a12 : y.am 12 = 0
/-- What is left of a payment ahead of its k-th part, and the day then. -/
def owed (g : St) : Nat → Int
  | 0 => g.fi
  | 1 => g.la
  | 2 => g.du
  | 3 => g.it
  | _ => g.pr
def payK (y : Dy) (a : Int) : Nat → Dy × Int
  | 0 => (y, a)
  | k + 1 => (enter (payK y a k).1 (5 + k) (least (owed y.g k) (payK y a k).2), (payK y a k).2 - least (owed y.g k) (payK y a k).2)
theorem pay_eq (y : Dy) (a : Int) : pay y a = enter (payK y a 5).1 10 (payK y a 5).2 := rfl
theorem upd_same (f : Nat → Int) (k : Nat) (a : Int) : upd f k a k = f k + a := by simp [upd]
theorem upd_ne (f : Nat → Int) (k j : Nat) (a : Int) (h : ¬ j = k) : upd f k a j = f j := by simp [upd, h]
theorem payK_am (y : Dy) (a : Int) : ∀ k j : Nat, (5 + k ≤ j ∨ j < 5) → (payK y a k).1.am j = y.am j
  | 0, _, _ => rfl
  | k + 1, j, h => by
    show upd (payK y a k).1.am (5 + k) _ j = y.am j
    rw [upd_ne _ _ _ _ (by omega)]
    exact payK_am y a k j (by omega)
theorem payK_left (y : Dy) (a : Int) (hf : Fit y) (ha : 0 ≤ a) : ∀ k, 0 ≤ (payK y a k).2 ∧ (payK y a k).2 ≤ a
  | 0 => ⟨ha, Int.le_refl _⟩
  | k + 1 => by
    have h := payK_left y a hf ha k
    have l := least_le (owed y.g k) (payK y a k).2
    have o : 0 ≤ owed y.g k := by
      unfold owed
      split
      · exact hf.fi0
      · exact hf.la0
      · exact hf.du0
      · exact hf.it0
      · exact hf.pr0
    have n := least_nn (owed y.g k) (payK y a k).2 o h.1
    show 0 ≤ (payK y a k).2 - least (owed y.g k) (payK y a k).2 ∧ (payK y a k).2 - least (owed y.g k) (payK y a k).2 ≤ a
    omega
/-- What the first k parts have left of each thing. -/
theorem payK_g (y : Dy) (a : Int) : (payK y a 1).1.g = { y.g with fi := y.g.fi - least (owed y.g 0) (payK y a 0).2 } ∧
    (payK y a 2).1.g = { (payK y a 1).1.g with la := y.g.la - least (owed y.g 1) (payK y a 1).2 } ∧
    (payK y a 3).1.g = { (payK y a 2).1.g with du := y.g.du - least (owed y.g 2) (payK y a 2).2 } ∧
    (payK y a 4).1.g = { (payK y a 3).1.g with it := y.g.it - least (owed y.g 3) (payK y a 3).2 } ∧
    (payK y a 5).1.g = { (payK y a 4).1.g with pr := y.g.pr - least (owed y.g 4) (payK y a 4).2 } := ⟨rfl, rfl, rfl, rfl, rfl⟩
theorem owed_nn {y : Dy} (hf : Fit y) (k : Nat) : 0 ≤ owed y.g k := by
  unfold owed
  split
  · exact hf.fi0
  · exact hf.la0
  · exact hf.du0
  · exact hf.it0
  · exact hf.pr0
theorem payK_fit (y : Dy) (a : Int) (hf : Fit y) (ha : 0 ≤ a) : ∀ k, k ≤ 5 → Fit (payK y a k).1 := by
  have x0 := least_nn (owed y.g 0) (payK y a 0).2 (owed_nn hf 0) (payK_left y a hf ha 0).1
  have x1 := least_nn (owed y.g 1) (payK y a 1).2 (owed_nn hf 1) (payK_left y a hf ha 1).1
  have x2 := least_nn (owed y.g 2) (payK y a 2).2 (owed_nn hf 2) (payK_left y a hf ha 2).1
  have x3 := least_nn (owed y.g 3) (payK y a 3).2 (owed_nn hf 3) (payK_left y a hf ha 3).1
  have x4 := least_nn (owed y.g 4) (payK y a 4).2 (owed_nn hf 4) (payK_left y a hf ha 4).1
  have l0 := (least_le (owed y.g 0) (payK y a 0).2).1
  have l1 := (least_le (owed y.g 1) (payK y a 1).2).1
  have l2 := (least_le (owed y.g 2) (payK y a 2).2).1
  have l3 := (least_le (owed y.g 3) (payK y a 3).2).1
  have l4 := (least_le (owed y.g 4) (payK y a 4).2).1
  have f0 : Fit (payK y a 0).1 := hf
  have f1 : Fit (payK y a 1).1 := by
    refine ⟨hf.pr0, hf.pr1, hf.it0, hf.it1, hf.du0, hf.du1, hf.la0, hf.la1, ?_, ?_, hf.cr0, hf.cr1⟩
    · show 0 ≤ y.g.fi - least (owed y.g 0) (payK y a 0).2
      have : owed y.g 0 = y.g.fi := rfl
      omega
    · show y.g.fi - least (owed y.g 0) (payK y a 0).2 ≤ 8000000000000000000
      have := hf.fi1
      omega
  have f2 : Fit (payK y a 2).1 := by
    refine ⟨f1.pr0, f1.pr1, f1.it0, f1.it1, f1.du0, f1.du1, ?_, ?_, f1.fi0, f1.fi1, f1.cr0, f1.cr1⟩
    · show 0 ≤ y.g.la - least (owed y.g 1) (payK y a 1).2
      have : owed y.g 1 = y.g.la := rfl
      omega
    · show y.g.la - least (owed y.g 1) (payK y a 1).2 ≤ 4000000000000000000
      have := hf.la1
      omega
  have f3 : Fit (payK y a 3).1 := by
    refine ⟨f2.pr0, f2.pr1, f2.it0, f2.it1, ?_, ?_, f2.la0, f2.la1, f2.fi0, f2.fi1, f2.cr0, f2.cr1⟩
    · show 0 ≤ y.g.du - least (owed y.g 2) (payK y a 2).2
      have : owed y.g 2 = y.g.du := rfl
      omega
    · show y.g.du - least (owed y.g 2) (payK y a 2).2 ≤ 4000000000000000000
      have := hf.du1
      omega
  have f4 : Fit (payK y a 4).1 := by
    refine ⟨f3.pr0, f3.pr1, ?_, ?_, f3.du0, f3.du1, f3.la0, f3.la1, f3.fi0, f3.fi1, f3.cr0, f3.cr1⟩
    · show 0 ≤ y.g.it - least (owed y.g 3) (payK y a 3).2
      have : owed y.g 3 = y.g.it := rfl
      omega
    · show y.g.it - least (owed y.g 3) (payK y a 3).2 ≤ 4000000000000000000
      have := hf.it1
      omega
  have f5 : Fit (payK y a 5).1 := by
    refine ⟨?_, ?_, f4.it0, f4.it1, f4.du0, f4.du1, f4.la0, f4.la1, f4.fi0, f4.fi1, f4.cr0, f4.cr1⟩
    · show 0 ≤ y.g.pr - least (owed y.g 4) (payK y a 4).2
      have : owed y.g 4 = y.g.pr := rfl
      omega
    · show y.g.pr - least (owed y.g 4) (payK y a 4).2 ≤ 4000000000000000000
      have := hf.pr1
      omega
  intro k hk
  match k, hk with
  | 0, _ => exact f0
  | 1, _ => exact f1
  | 2, _ => exact f2
  | 3, _ => exact f3
  | 4, _ => exact f4
  | 5, _ => exact f5
/-- Each part of a payment can be entered. -/
theorem payK_can (y : Dy) (a L : Int) (hL : L ≤ 4100000000000) (hf : Fit y) (hm : Am y L) (ha : 0 ≤ a) (ha1 : a ≤ 100000000000) (k : Nat) (hk : k < 5) : CanEnter (payK y a k).1 (5 + k) (least (owed y.g k) (payK y a k).2) := by
  have hl := payK_left y a hf ha k
  have x := least_nn (owed y.g k) (payK y a k).2 (owed_nn hf k) hl.1
  have l := least_le (owed y.g k) (payK y a k).2
  have e := payK_am y a k (5 + k) (by omega)
  have n := hm.nn (5 + k)
  have p := hm.pd (5 + k) (by omega) (by omega)
  unfold CanEnter
  rw [e]
  refine ⟨x, n, by omega, ?_⟩
  match k, hk with
  | 0, _ => exact l.1
  | 1, _ => exact l.1
  | 2, _ => exact l.1
  | 3, _ => exact l.1
  | 4, _ => exact l.1
theorem pay_can (y : Dy) (a L : Int) (hL : L ≤ 4100000000000) (hf : Fit y) (hm : Am y L) (hc : y.g.cr ≤ 4100000000000) (ha : 0 ≤ a) (ha1 : a ≤ 100000000000) : CanEnter (payK y a 5).1 10 (payK y a 5).2 := by
  have hl := payK_left y a hf ha 5
  have e := payK_am y a 5 10 (by omega)
  have n := hm.nn 10
  have p := hm.pd 10 (by omega) (by omega)
  unfold CanEnter
  rw [e]
  refine ⟨hl.1, n, by omega, ?_⟩
  show y.g.cr + (payK y a 5).2 ≤ 9000000000000000000
  omega

/-! ### A day's steps keep the amounts' bounds -/
theorem Inv.fit {t : Terms} {L : Int} {s : Nat} {g : St} (h : Inv t L s g) (hs : s ≤ 4320) (hL : L ≤ 4100000000000) (hfn : g.fn / den t ≤ 8000000000000000000) (am : Nat → Int) : Fit ⟨g, am⟩ := by
  have hb := h.bound hs hL
  have h1 := h.pr
  have h2 := h.it
  have h3 := h.du
  have h4 := h.la
  have h5 := h.cr1
  have h6 := h.fi1
  exact ⟨h1, by show g.pr ≤ _; omega, h2, by show g.it ≤ _; omega, h3, by show g.du ≤ _; omega, h4, by show g.la ≤ _; omega, h.fi, by show g.fi ≤ _; omega, h.cr, by show g.cr ≤ _; omega⟩
theorem Am.zero (g : St) (L : Int) (hL : 0 ≤ L) (hi : g.it ≤ 656820000000000000) : Am ⟨g, fun _ => 0⟩ L :=
  ⟨fun _ => Int.le_refl _, hL, by show (0 : Int) ≤ _; omega, by show (0 : Int) ≤ _; omega, by show 0 + g.it ≤ _; omega, fun _ _ _ => hL, rfl, rfl⟩
theorem Am.lend {y : Dy} {L : Int} (h : Am y L) (a : Int) (ha : 0 ≤ a) : Am (enter y 1 a) (L + a) := by
  have h1 := h.a1
  have n1 := h.nn 1
  refine ⟨fun j => ?_, ?_, ?_, ?_, ?_, fun j j5 j10 => ?_, ?_, ?_⟩
  · have := h.nn j
    show 0 ≤ upd y.am 1 a j
    unfold upd; split <;> omega
  · show upd y.am 1 a 1 ≤ L + a; rw [upd_same]; omega
  · show upd y.am 1 a 2 ≤ _; rw [upd_ne _ _ _ _ (by decide)]; exact h.a2
  · show upd y.am 1 a 3 ≤ _; rw [upd_ne _ _ _ _ (by decide)]; exact h.a3
  · show upd y.am 1 a 4 + y.g.it ≤ _; rw [upd_ne _ _ _ _ (by decide)]; exact h.a4
  · have := h.pd j j5 j10
    show upd y.am 1 a j ≤ L + a
    rw [upd_ne _ _ _ _ (by omega)]; omega
  · show upd y.am 1 a 11 = 0; rw [upd_ne _ _ _ _ (by decide)]; exact h.a11
  · show upd y.am 1 a 12 = 0; rw [upd_ne _ _ _ _ (by decide)]; exact h.a12
theorem Am.more {y : Dy} {L : Int} (h : Am y L) (a : Int) (ha : 0 ≤ a) : Am y (L + a) :=
  ⟨h.nn, by have := h.a1; omega, h.a2, h.a3, h.a4, fun j j5 j10 => by have := h.pd j j5 j10; omega, h.a11, h.a12⟩
theorem Am.capital {y : Dy} {L : Int} (h : Am y L) (hi : 0 ≤ y.g.it) : Am (enter y 4 y.g.it) L := by
  have h4 := h.a4
  have n4 := h.nn 4
  refine ⟨fun j => ?_, ?_, ?_, ?_, ?_, fun j j5 j10 => ?_, ?_, ?_⟩
  · have := h.nn j
    show 0 ≤ upd y.am 4 y.g.it j
    unfold upd; split <;> omega
  · show upd y.am 4 y.g.it 1 ≤ _; rw [upd_ne _ _ _ _ (by decide)]; exact h.a1
  · show upd y.am 4 y.g.it 2 ≤ _; rw [upd_ne _ _ _ _ (by decide)]; exact h.a2
  · show upd y.am 4 y.g.it 3 ≤ _; rw [upd_ne _ _ _ _ (by decide)]; exact h.a3
  · show upd y.am 4 y.g.it 4 + (y.g.it - y.g.it) ≤ _; rw [upd_same]; omega
  · show upd y.am 4 y.g.it j ≤ L
    rw [upd_ne _ _ _ _ (by omega)]; exact h.pd j j5 j10
  · show upd y.am 4 y.g.it 11 = 0; rw [upd_ne _ _ _ _ (by decide)]; exact h.a11
  · show upd y.am 4 y.g.it 12 = 0; rw [upd_ne _ _ _ _ (by decide)]; exact h.a12
theorem payK_am_ge (y : Dy) (a : Int) (hf : Fit y) (ha : 0 ≤ a) : ∀ k j, y.am j ≤ (payK y a k).1.am j ∧ (payK y a k).1.am j ≤ y.am j + (a - (payK y a k).2)
  | 0, j => by
    show y.am j ≤ y.am j ∧ y.am j ≤ y.am j + (a - a)
    omega
  | k + 1, j => by
    have ih := payK_am_ge y a hf ha k j
    have hl := payK_left y a hf ha k
    have x := least_nn (owed y.g k) (payK y a k).2 (owed_nn hf k) hl.1
    show y.am j ≤ upd (payK y a k).1.am (5 + k) (least (owed y.g k) (payK y a k).2) j ∧ upd (payK y a k).1.am (5 + k) (least (owed y.g k) (payK y a k).2) j ≤ y.am j + (a - ((payK y a k).2 - least (owed y.g k) (payK y a k).2))
    unfold upd
    split <;> omega
theorem Am.pay {y : Dy} {L : Int} (h : Am y L) (hf : Fit y) (a : Int) (ha : 0 ≤ a) : Am (Ln.pay y a) (L + a) := by
  have hl := payK_left y a hf ha 5
  have hit : (Ln.pay y a).g.it ≤ y.g.it := by
    have x := least_nn (owed y.g 3) (payK y a 3).2 (owed_nn hf 3) (payK_left y a hf ha 3).1
    show y.g.it - least (owed y.g 3) (payK y a 3).2 ≤ y.g.it
    omega
  have low : ∀ j, j < 5 ∨ 10 < j → (Ln.pay y a).am j = y.am j := fun j hj => by
    show upd (payK y a 5).1.am 10 _ j = _
    rw [upd_ne _ _ _ _ (by omega)]
    exact payK_am y a 5 j (by omega)
  have h4 := h.a4
  refine ⟨fun j => ?_, ?_, ?_, ?_, ?_, fun j j5 j10 => ?_, ?_, ?_⟩
  · have n := h.nn j
    have g := (payK_am_ge y a hf ha 5 j).1
    show 0 ≤ upd (payK y a 5).1.am 10 (payK y a 5).2 j
    unfold upd; split <;> omega
  · rw [low 1 (by decide)]; have := h.a1; omega
  · rw [low 2 (by decide)]; exact h.a2
  · rw [low 3 (by decide)]; exact h.a3
  · rw [low 4 (by decide)]; omega
  · have g := (payK_am_ge y a hf ha 5 j).2
    have p := h.pd j j5 j10
    show upd (payK y a 5).1.am 10 (payK y a 5).2 j ≤ L + a
    unfold upd; split <;> omega
  · rw [low 11 (by decide)]; exact h.a11
  · rw [low 12 (by decide)]; exact h.a12
theorem Am.event {t : Terms} {y : Dy} {L : Int} (h : Am y L) (hf : Fit y) (n : Int) (e : Ev) (he : OkE t e) : Am (Ln.event n y e) (L + lent n e) := by
  have ha := he.a0
  unfold Ln.event lent
  by_cases hd : e.d = n
  · simp only [hd, ne_eq, not_true, if_false, if_true]
    by_cases h1 : e.k = 1
    · simp only [h1, if_true]
      exact h.lend e.a ha
    · simp only [h1, if_false]
      by_cases h2 : e.k = 2
      · simp only [h2, if_true]
        exact ⟨(h.more e.a ha).nn, (h.more e.a ha).a1, h.a2, h.a3, h.a4, (h.more e.a ha).pd, h.a11, h.a12⟩
      · simp only [h2, if_false]
        by_cases h3 : e.k = 3
        · simp only [h3, if_true]
          split
          · exact ⟨(h.more e.a ha).nn, (h.more e.a ha).a1, h.a2, h.a3, h.a4, (h.more e.a ha).pd, h.a11, h.a12⟩
          · exact h.more e.a ha
        · simp only [h3, if_false]
          by_cases h4 : e.k = 4
          · simp only [h4, if_true]
            exact (h.capital hf.it0).more e.a ha
          · simp only [h4, if_false]
            have h5 : e.k = 5 := by have := he.k0; have := he.k1; omega
            simp only [h5, if_true]
            exact h.pay hf e.a ha
  · simp only [hd, ne_eq, not_false_eq_true, if_true, if_false, Int.add_zero]
    exact h
end Go.Proofs.YtanndhoimpnhpaaGreatDoor.Ln

/- Events as cells and in order; what the document's rules say of one. (Plain: of neither side.) -/
namespace Go.Proofs.YtanndhoimpnhpaaGreatDoor
open Go.RowKit

/-- The cells of events, one behind the other. -/
def evs : List Ln.Ev → List Value
  | [] => []
  | e :: r => .int .i64 e.d :: .int .i64 e.k :: .int .i64 e.s :: .int .i64 e.a :: evs r
theorem evs_at : ∀ (l : List Ln.Ev) (k : Nat) (h : k < l.length), (evs l)[k * 4]? = some (.int .i64 l[k].d) ∧ (evs l)[k * 4 + 1]? = some (.int .i64 l[k].k) ∧ (evs l)[k * 4 + 2]? = some (.int .i64 l[k].s) ∧ (evs l)[k * 4 + 3]? = some (.int .i64 l[k].a)
  | e :: r, 0, _ => ⟨rfl, rfl, rfl, rfl⟩
  | e :: r, k + 1, h => by
    have ih := evs_at r k (by simpa using h)
    have e1 : (k + 1) * 4 = k * 4 + 1 + 1 + 1 + 1 := by omega
    rw [e1]
    exact ih
def fitsB (k a : Int) : Bool :=
  if k = 1 ∨ k = 5 then decide (1 ≤ a) && decide (a ≤ 100000000000) else if k = 2 then decide (0 ≤ a) && decide (a ≤ 1000000) else if k = 3 then decide (1 ≤ a) && decide (a ≤ 400) else decide (a = 0)
def aheadB (a b : Ln.Ev) : Bool := if ¬ a.d = b.d then decide (a.d < b.d) else if ¬ a.k = b.k then decide (a.k < b.k) else decide (a.s < b.s)
/-- Has an event this number? -/
def hasS (q : Int) (l : List Ln.Ev) : Bool := l.any (fun e => e.s == q)
theorem hasS_take (q : Int) (l : List Ln.Ev) (k : Nat) (hk : k < l.length) : hasS q (l.take (k + 1)) = (hasS q (l.take k) || (l[k].s == q)) := by
  unfold hasS
  rw [List.take_succ_eq_append_getElem hk, List.any_append]
  simp
theorem hasS_at (q : Int) (l : List Ln.Ev) (k : Nat) (hk : k < l.length) (h : l[k].s = q) : hasS q l = true := by
  unfold hasS
  rw [List.any_eq_true]
  exact ⟨l[k], List.getElem_mem hk, by simp [h]⟩
/-- What Add answers. -/
def addC (t : Ln.Terms) (l : List Ln.Ev) (e : Ln.Ev) : Int :=
  if e.k < 1 ∨ 5 < e.k then 4
  else if e.d < t.st ∨ t.st + 3700 < e.d then 5
  else if fitsB e.k e.a = false then 6
  else if 40 ≤ l.length then 7
  else if hasS e.s l = true then 8
  else 0


end Go.Proofs.YtanndhoimpnhpaaGreatDoor
namespace Go.Proofs.YtanndhoimpnhpaaGreatDoor.So
open Go.Proofs.YtanndhoimpnhpaaGreatDoor

/-- e at place k. -/
def insAt (e : Ln.Ev) (out : List Ln.Ev) (k : Nat) : List Ln.Ev := out.take k ++ e :: out.drop k
theorem insAt_len (e : Ln.Ev) (out : List Ln.Ev) (k : Nat) (hk : k ≤ out.length) : (insAt e out k).length = out.length + 1 := by
  unfold insAt
  simp
  omega
theorem insAt_end (e : Ln.Ev) (out : List Ln.Ev) : insAt e out out.length = out ++ [e] := by
  unfold insAt
  simp
theorem insAt_down (out : List Ln.Ev) (j : Nat) (hj : j < out.length) : insAt out[j] out (j + 1) = insAt out[j] out j := by
  unfold insAt
  rw [List.take_succ_eq_append_getElem hj, List.append_assoc, List.drop_eq_getElem_cons hj]
  rfl
theorem insAt_set (h e : Ln.Ev) (out : List Ln.Ev) (k : Nat) (hk : k ≤ out.length) : (insAt h out k).set k e = insAt e out k := by
  unfold insAt
  rw [List.set_append_right _ _ (by simp; omega)]
  simp [Nat.min_eq_left hk]
theorem insAt_low (e : Ln.Ev) (out : List Ln.Ev) (k j : Nat) (hk : k ≤ out.length) (hj : j < k) : (insAt e out k)[j]? = some (out[j]'(by omega)) := by
  unfold insAt
  rw [List.getElem?_append_left (by simp; omega), List.getElem?_take_of_lt hj, List.getElem?_eq_getElem (by omega)]
theorem insAt_perm (e : Ln.Ev) (out : List Ln.Ev) (k : Nat) : (insAt e out k).Perm (e :: out) := by
  unfold insAt
  refine List.perm_middle.trans ?_
  rw [List.take_append_drop]

abbrev Ah (a b : Ln.Ev) : Prop := aheadB a b = true
theorem ah_iff (a b : Ln.Ev) : Ah a b ↔ a.d < b.d ∨ (a.d = b.d ∧ (a.k < b.k ∨ (a.k = b.k ∧ a.s < b.s))) := by
  unfold Ah aheadB
  by_cases h1 : a.d = b.d
  · by_cases h2 : a.k = b.k
    · simp [h1, h2]
    · simp [h1, h2]
  · simp [h1]
theorem ah_trans {a b c : Ln.Ev} (h : Ah a b) (k : Ah b c) : Ah a c := by
  rw [ah_iff] at *
  omega
theorem ah_total {a b : Ln.Ev} (h : ¬ a.s = b.s) : Ah a b ∨ Ah b a := by
  rw [ah_iff, ah_iff]
  omega
theorem ah_irrefl (a : Ln.Ev) : ¬ Ah a a := by
  rw [ah_iff]
  omega
theorem ins_sorted (e : Ln.Ev) (out : List Ln.Ev) (k : Nat) (hk : k ≤ out.length) (hs : out.Pairwise Ah) (hd : ∀ x ∈ out, ¬ x.s = e.s)
    (hi : ∀ j (hj : j < out.length), k ≤ j → Ah e out[j]) (hlo : k = 0 ∨ ∃ h : k - 1 < out.length, ¬ Ah e out[k - 1]) : (insAt e out k).Pairwise Ah := by
  unfold insAt
  have hp : (out.take k ++ out.drop k).Pairwise Ah := by rw [List.take_append_drop]; exact hs
  obtain ⟨p1, p2, p3⟩ := List.pairwise_append.1 hp
  have hlow : ∀ a ∈ out.take k, Ah a e := by
    intro a ha
    rcases hlo with rfl | ⟨h, hn⟩
    · simp at ha
    · have hk0 : k ≠ 0 := by
        intro h0
        subst h0
        simp at ha
      have hlast : Ah out[k - 1] e := by
        rcases ah_total (a := e) (b := out[k - 1]) (fun x => hd _ (List.getElem_mem h) x.symm) with x | x
        · exact absurd x hn
        · exact x
      obtain ⟨j, hj, rfl⟩ := List.getElem_of_mem ha
      have hj' : j < k := by simp at hj; omega
      rw [List.getElem_take]
      by_cases e1 : j = k - 1
      · subst e1
        exact hlast
      · exact ah_trans (List.pairwise_iff_getElem.1 hs j (k - 1) (by omega) h (by omega)) hlast
  refine List.pairwise_append.2 ⟨p1, List.pairwise_cons.2 ⟨?_, p2⟩, ?_⟩
  · intro b hb
    obtain ⟨j, hj, rfl⟩ := List.getElem_of_mem hb
    rw [List.getElem_drop]
    exact hi _ _ (by omega)
  · intro a ha b hb
    rcases List.mem_cons.1 hb with rfl | hb
    · exact hlow a ha
    · exact p3 a ha b hb
/-- Of events with different numbers there is one order. -/
theorem sorted_one : ∀ {l m : List Ln.Ev}, l.Perm m → l.Pairwise Ah → m.Pairwise Ah → l = m := by
  intro l m hp hl hm
  exact List.Perm.eq_of_pairwise (fun a b _ _ h1 h2 => absurd (ah_trans h1 h2) (ah_irrefl a)) hl hm hp

/-! ### Cells -/
theorem evs_append : ∀ (l m : List Ln.Ev), evs (l ++ m) = evs l ++ evs m
  | [], m => rfl
  | e :: r, m => by
    show _ :: _ :: _ :: _ :: evs (r ++ m) = _
    rw [evs_append r m]
    rfl
theorem evs_len : ∀ l : List Ln.Ev, (evs l).length = l.length * 4
  | [] => rfl
  | e :: r => by
    show (evs r).length + 1 + 1 + 1 + 1 = _
    rw [evs_len r]
    simp
    omega
theorem evs_set : ∀ (l : List Ln.Ev) (k : Nat) (_ : k < l.length) (e : Ln.Ev), ((((evs l).set (k * 4) (.int .i64 e.d)).set (k * 4 + 1) (.int .i64 e.k)).set (k * 4 + 2) (.int .i64 e.s)).set (k * 4 + 3) (.int .i64 e.a) = evs (l.set k e)
  | x :: r, 0, _, e => rfl
  | x :: r, k + 1, h, e => by
    have ih := evs_set r k (by simpa using h) e
    have e1 : (k + 1) * 4 = k * 4 + 1 + 1 + 1 + 1 := by omega
    rw [e1]
    show _ :: _ :: _ :: _ :: ((((evs r).set (k * 4) (.int .i64 e.d)).set (k * 4 + 1) (.int .i64 e.k)).set (k * 4 + 2) (.int .i64 e.s)).set (k * 4 + 3) (.int .i64 e.a) = _
    rw [ih]
    rfl
end Go.Proofs.YtanndhoimpnhpaaGreatDoor.So
