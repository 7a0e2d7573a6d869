/- Joined by program: Can, Ev, LnG, Lg, LnA, LnB. -/
import Derived.Test.YtanndhoimpnhpaaGreatDoorM1
import Derived.WalkKit
import Derived.Test.YtanndhoimpnhpaaGreatDoorChecked
import Derived.ProofKit
import Derived.OpenShut
import Derived.Below
import Derived.Laws.AppendOwn
/- A loan's day, entry by entry: each entry can be made, and no sum is out of bounds. -/
namespace Go.Proofs.YtanndhoimpnhpaaGreatDoor.Ln

/-- What an entry may be: each thing that it takes from has it, and no sum is out of bounds. -/
def CanEnter (y : Dy) (k : Nat) (a : Int) : Prop :=
  0 ≤ a ∧ 0 ≤ y.am k ∧ y.am k + a ≤ 9000000000000000000 ∧
  match k with
  | 1 => y.g.pr + a ≤ 9000000000000000000
  | 2 => y.g.la + a ≤ 9000000000000000000 ∧ a ≤ y.g.du
  | 3 => y.g.du + a ≤ 9000000000000000000 ∧ a ≤ y.g.it
  | 4 => y.g.pr + a ≤ 9000000000000000000 ∧ a ≤ y.g.it
  | 5 => a ≤ y.g.fi
  | 6 => a ≤ y.g.la
  | 7 => a ≤ y.g.du
  | 8 => a ≤ y.g.it
  | 9 => a ≤ y.g.pr
  | 10 => y.g.cr + a ≤ 9000000000000000000
  | 11 => y.g.it + a ≤ 9000000000000000000
  | 12 => y.g.fi + a ≤ 9000000000000000000
  | _ => False
/-- No number of a day is out of bounds. -/
structure Fit (y : Dy) : Prop where
  pr0 : 0 ≤ y.g.pr
  pr1 : y.g.pr ≤ 4000000000000000000
  it0 : 0 ≤ y.g.it
  it1 : y.g.it ≤ 4000000000000000000
  du0 : 0 ≤ y.g.du
  du1 : y.g.du ≤ 4000000000000000000
  la0 : 0 ≤ y.g.la
  la1 : y.g.la ≤ 4000000000000000000
  fi0 : 0 ≤ y.g.fi
  fi1 : y.g.fi ≤ 8000000000000000000
  cr0 : 0 ≤ y.g.cr
  cr1 : y.g.cr ≤ 4000000000000000000
/-- A day under way: the amounts' bounds. -/
structure Am (y : Dy) (L : Int) : Prop where
  nn : ∀ j, 0 ≤ y.am j
  a1 : y.am 1 ≤ L
  a2 : y.am 2 ≤ 656820000000000000
  a3 : y.am 3 ≤ 656820000000000000
  a4 : y.am 4 + y.g.it ≤ 656820000000000000
  pd : ∀ j, 5 ≤ j → j ≤ 10 → y.am j ≤ L
  a11 : y.am 11 = 0
  a12 : y.am 12 = 0
/-- What is left of a payment ahead of its k-th part, and the day then. -/
def owed (g : St) : Nat → Int
  | 0 => g.fi
  | 1 => g.la
  | 2 => g.du
  | 3 => g.it
  | _ => g.pr
def payK (y : Dy) (a : Int) : Nat → Dy × Int
  | 0 => (y, a)
  | k + 1 => (enter (payK y a k).1 (5 + k) (least (owed y.g k) (payK y a k).2), (payK y a k).2 - least (owed y.g k) (payK y a k).2)
theorem pay_eq (y : Dy) (a : Int) : pay y a = enter (payK y a 5).1 10 (payK y a 5).2 := rfl
theorem upd_same (f : Nat → Int) (k : Nat) (a : Int) : upd f k a k = f k + a := by simp [upd]
theorem upd_ne (f : Nat → Int) (k j : Nat) (a : Int) (h : ¬ j = k) : upd f k a j = f j := by simp [upd, h]
theorem payK_am (y : Dy) (a : Int) : ∀ k j : Nat, (5 + k ≤ j ∨ j < 5) → (payK y a k).1.am j = y.am j
  | 0, _, _ => rfl
  | k + 1, j, h => by
    show upd (payK y a k).1.am (5 + k) _ j = y.am j
    rw [upd_ne _ _ _ _ (by omega)]
    exact payK_am y a k j (by omega)
theorem payK_left (y : Dy) (a : Int) (hf : Fit y) (ha : 0 ≤ a) : ∀ k, 0 ≤ (payK y a k).2 ∧ (payK y a k).2 ≤ a
  | 0 => ⟨ha, Int.le_refl _⟩
  | k + 1 => by
    have h := payK_left y a hf ha k
    have l := least_le (owed y.g k) (payK y a k).2
    have o : 0 ≤ owed y.g k := by
      unfold owed
      split
      · exact hf.fi0
      · exact hf.la0
      · exact hf.du0
      · exact hf.it0
      · exact hf.pr0
    have n := least_nn (owed y.g k) (payK y a k).2 o h.1
    show 0 ≤ (payK y a k).2 - least (owed y.g k) (payK y a k).2 ∧ (payK y a k).2 - least (owed y.g k) (payK y a k).2 ≤ a
    omega
/-- What the first k parts have left of each thing. -/
theorem payK_g (y : Dy) (a : Int) : (payK y a 1).1.g = { y.g with fi := y.g.fi - least (owed y.g 0) (payK y a 0).2 } ∧
    (payK y a 2).1.g = { (payK y a 1).1.g with la := y.g.la - least (owed y.g 1) (payK y a 1).2 } ∧
    (payK y a 3).1.g = { (payK y a 2).1.g with du := y.g.du - least (owed y.g 2) (payK y a 2).2 } ∧
    (payK y a 4).1.g = { (payK y a 3).1.g with it := y.g.it - least (owed y.g 3) (payK y a 3).2 } ∧
    (payK y a 5).1.g = { (payK y a 4).1.g with pr := y.g.pr - least (owed y.g 4) (payK y a 4).2 } := ⟨rfl, rfl, rfl, rfl, rfl⟩
theorem owed_nn {y : Dy} (hf : Fit y) (k : Nat) : 0 ≤ owed y.g k := by
  unfold owed
  split
  · exact hf.fi0
  · exact hf.la0
  · exact hf.du0
  · exact hf.it0
  · exact hf.pr0
theorem payK_fit (y : Dy) (a : Int) (hf : Fit y) (ha : 0 ≤ a) : ∀ k, k ≤ 5 → Fit (payK y a k).1 := by
  have x0 := least_nn (owed y.g 0) (payK y a 0).2 (owed_nn hf 0) (payK_left y a hf ha 0).1
  have x1 := least_nn (owed y.g 1) (payK y a 1).2 (owed_nn hf 1) (payK_left y a hf ha 1).1
  have x2 := least_nn (owed y.g 2) (payK y a 2).2 (owed_nn hf 2) (payK_left y a hf ha 2).1
  have x3 := least_nn (owed y.g 3) (payK y a 3).2 (owed_nn hf 3) (payK_left y a hf ha 3).1
  have x4 := least_nn (owed y.g 4) (payK y a 4).2 (owed_nn hf 4) (payK_left y a hf ha 4).1
  have l0 := (least_le (owed y.g 0) (payK y a 0).2).1
  have l1 := (least_le (owed y.g 1) (payK y a 1).2).1
  have l2 := (least_le (owed y.g 2) (payK y a 2).2).1
  have l3 := (least_le (owed y.g 3) (payK y a 3).2).1
  have l4 := (least_le (owed y.g 4) (payK y a 4).2).1
  have f0 : Fit (payK y a 0).1 := hf
  have f1 : Fit (payK y a 1).1 := by
    refine ⟨hf.pr0, hf.pr1, hf.it0, hf.it1, hf.du0, hf.du1, hf.la0, hf.la1, ?_, ?_, hf.cr0, hf.cr1⟩
    · show 0 ≤ y.g.fi - least (owed y.g 0) (payK y a 0).2
      have : owed y.g 0 = y.g.fi := rfl
      omega
    · show y.g.fi - least (owed y.g 0) (payK y a 0).2 ≤ 8000000000000000000
      have := hf.fi1
      omega
  have f2 : Fit (payK y a 2).1 := by
    refine ⟨f1.pr0, f1.pr1, f1.it0, f1.it1, f1.du0, f1.du1, ?_, ?_, f1.fi0, f1.fi1, f1.cr0, f1.cr1⟩
    · show 0 ≤ y.g.la - least (owed y.g 1) (payK y a 1).2
      have : owed y.g 1 = y.g.la := rfl
      omega
    · show y.g.la - least (owed y.g 1) (payK y a 1).2 ≤ 4000000000000000000
      have := hf.la1
      omega
  have f3 : Fit (payK y a 3).1 := by
    refine ⟨f2.pr0, f2.pr1, f2.it0, f2.it1, ?_, ?_, f2.la0, f2.la1, f2.fi0, f2.fi1, f2.cr0, f2.cr1⟩
    · show 0 ≤ y.g.du - least (owed y.g 2) (payK y a 2).2
      have : owed y.g 2 = y.g.du := rfl
      omega
    · show y.g.du - least (owed y.g 2) (payK y a 2).2 ≤ 4000000000000000000
      have := hf.du1
      omega
  have f4 : Fit (payK y a 4).1 := by
    refine ⟨f3.pr0, f3.pr1, ?_, ?_, f3.du0, f3.du1, f3.la0, f3.la1, f3.fi0, f3.fi1, f3.cr0, f3.cr1⟩
    · show 0 ≤ y.g.it - least (owed y.g 3) (payK y a 3).2
      have : owed y.g 3 = y.g.it := rfl
      omega
    · show y.g.it - least (owed y.g 3) (payK y a 3).2 ≤ 4000000000000000000
      have := hf.it1
      omega
  have f5 : Fit (payK y a 5).1 := by
    refine ⟨?_, ?_, f4.it0, f4.it1, f4.du0, f4.du1, f4.la0, f4.la1, f4.fi0, f4.fi1, f4.cr0, f4.cr1⟩
    · show 0 ≤ y.g.pr - least (owed y.g 4) (payK y a 4).2
      have : owed y.g 4 = y.g.pr := rfl
      omega
    · show y.g.pr - least (owed y.g 4) (payK y a 4).2 ≤ 4000000000000000000
      have := hf.pr1
      omega
  intro k hk
  match k, hk with
  | 0, _ => exact f0
  | 1, _ => exact f1
  | 2, _ => exact f2
  | 3, _ => exact f3
  | 4, _ => exact f4
  | 5, _ => exact f5
/-- Each part of a payment can be entered. -/
theorem payK_can (y : Dy) (a L : Int) (hL : L ≤ 4100000000000) (hf : Fit y) (hm : Am y L) (ha : 0 ≤ a) (ha1 : a ≤ 100000000000) (k : Nat) (hk : k < 5) : CanEnter (payK y a k).1 (5 + k) (least (owed y.g k) (payK y a k).2) := by
  have hl := payK_left y a hf ha k
  have x := least_nn (owed y.g k) (payK y a k).2 (owed_nn hf k) hl.1
  have l := least_le (owed y.g k) (payK y a k).2
  have e := payK_am y a k (5 + k) (by omega)
  have n := hm.nn (5 + k)
  have p := hm.pd (5 + k) (by omega) (by omega)
  unfold CanEnter
  rw [e]
  refine ⟨x, n, by omega, ?_⟩
  match k, hk with
  | 0, _ => exact l.1
  | 1, _ => exact l.1
  | 2, _ => exact l.1
  | 3, _ => exact l.1
  | 4, _ => exact l.1
theorem pay_can (y : Dy) (a L : Int) (hL : L ≤ 4100000000000) (hf : Fit y) (hm : Am y L) (hc : y.g.cr ≤ 4100000000000) (ha : 0 ≤ a) (ha1 : a ≤ 100000000000) : CanEnter (payK y a 5).1 10 (payK y a 5).2 := by
  have hl := payK_left y a hf ha 5
  have e := payK_am y a 5 10 (by omega)
  have n := hm.nn 10
  have p := hm.pd 10 (by omega) (by omega)
  unfold CanEnter
  rw [e]
  refine ⟨hl.1, n, by omega, ?_⟩
  show y.g.cr + (payK y a 5).2 ≤ 9000000000000000000
  omega

/-! ### A day's steps keep the amounts' bounds -/
theorem Inv.fit {t : Terms} {L : Int} {s : Nat} {g : St} (h : Inv t L s g) (hs : s ≤ 4320) (hL : L ≤ 4100000000000) (hfn : g.fn / den t ≤ 8000000000000000000) (am : Nat → Int) : Fit ⟨g, am⟩ := by
  have hb := h.bound hs hL
  have h1 := h.pr
  have h2 := h.it
  have h3 := h.du
  have h4 := h.la
  have h5 := h.cr1
  have h6 := h.fi1
  exact ⟨h1, by show g.pr ≤ _; omega, h2, by show g.it ≤ _; omega, h3, by show g.du ≤ _; omega, h4, by show g.la ≤ _; omega, h.fi, by show g.fi ≤ _; omega, h.cr, by show g.cr ≤ _; omega⟩
theorem Am.zero (g : St) (L : Int) (hL : 0 ≤ L) (hi : g.it ≤ 656820000000000000) : Am ⟨g, fun _ => 0⟩ L :=
  ⟨fun _ => Int.le_refl _, hL, by show (0 : Int) ≤ _; omega, by show (0 : Int) ≤ _; omega, by show 0 + g.it ≤ _; omega, fun _ _ _ => hL, rfl, rfl⟩
theorem Am.lend {y : Dy} {L : Int} (h : Am y L) (a : Int) (ha : 0 ≤ a) : Am (enter y 1 a) (L + a) := by
  have h1 := h.a1
  have n1 := h.nn 1
  refine ⟨fun j => ?_, ?_, ?_, ?_, ?_, fun j j5 j10 => ?_, ?_, ?_⟩
  · have := h.nn j
    show 0 ≤ upd y.am 1 a j
    unfold upd; split <;> omega
  · show upd y.am 1 a 1 ≤ L + a; rw [upd_same]; omega
  · show upd y.am 1 a 2 ≤ _; rw [upd_ne _ _ _ _ (by decide)]; exact h.a2
  · show upd y.am 1 a 3 ≤ _; rw [upd_ne _ _ _ _ (by decide)]; exact h.a3
  · show upd y.am 1 a 4 + y.g.it ≤ _; rw [upd_ne _ _ _ _ (by decide)]; exact h.a4
  · have := h.pd j j5 j10
    show upd y.am 1 a j ≤ L + a
    rw [upd_ne _ _ _ _ (by omega)]; omega
  · show upd y.am 1 a 11 = 0; rw [upd_ne _ _ _ _ (by decide)]; exact h.a11
  · show upd y.am 1 a 12 = 0; rw [upd_ne _ _ _ _ (by decide)]; exact h.a12
theorem Am.more {y : Dy} {L : Int} (h : Am y L) (a : Int) (ha : 0 ≤ a) : Am y (L + a) :=
  ⟨h.nn, by have := h.a1; omega, h.a2, h.a3, h.a4, fun j j5 j10 => by have := h.pd j j5 j10; omega, h.a11, h.a12⟩
theorem Am.capital {y : Dy} {L : Int} (h : Am y L) (hi : 0 ≤ y.g.it) : Am (enter y 4 y.g.it) L := by
  have h4 := h.a4
  have n4 := h.nn 4
  refine ⟨fun j => ?_, ?_, ?_, ?_, ?_, fun j j5 j10 => ?_, ?_, ?_⟩
  · have := h.nn j
    show 0 ≤ upd y.am 4 y.g.it j
    unfold upd; split <;> omega
  · show upd y.am 4 y.g.it 1 ≤ _; rw [upd_ne _ _ _ _ (by decide)]; exact h.a1
  · show upd y.am 4 y.g.it 2 ≤ _; rw [upd_ne _ _ _ _ (by decide)]; exact h.a2
  · show upd y.am 4 y.g.it 3 ≤ _; rw [upd_ne _ _ _ _ (by decide)]; exact h.a3
  · show upd y.am 4 y.g.it 4 + (y.g.it - y.g.it) ≤ _; rw [upd_same]; omega
  · show upd y.am 4 y.g.it j ≤ L
    rw [upd_ne _ _ _ _ (by omega)]; exact h.pd j j5 j10
  · show upd y.am 4 y.g.it 11 = 0; rw [upd_ne _ _ _ _ (by decide)]; exact h.a11
  · show upd y.am 4 y.g.it 12 = 0; rw [upd_ne _ _ _ _ (by decide)]; exact h.a12
theorem payK_am_ge (y : Dy) (a : Int) (hf : Fit y) (ha : 0 ≤ a) : ∀ k j, y.am j ≤ (payK y a k).1.am j ∧ (payK y a k).1.am j ≤ y.am j + (a - (payK y a k).2)
  | 0, j => by
    show y.am j ≤ y.am j ∧ y.am j ≤ y.am j + (a - a)
    omega
  | k + 1, j => by
    have ih := payK_am_ge y a hf ha k j
    have hl := payK_left y a hf ha k
    have x := least_nn (owed y.g k) (payK y a k).2 (owed_nn hf k) hl.1
    show y.am j ≤ upd (payK y a k).1.am (5 + k) (least (owed y.g k) (payK y a k).2) j ∧ upd (payK y a k).1.am (5 + k) (least (owed y.g k) (payK y a k).2) j ≤ y.am j + (a - ((payK y a k).2 - least (owed y.g k) (payK y a k).2))
    unfold upd
    split <;> omega
theorem Am.pay {y : Dy} {L : Int} (h : Am y L) (hf : Fit y) (a : Int) (ha : 0 ≤ a) : Am (Ln.pay y a) (L + a) := by
  have hl := payK_left y a hf ha 5
  have hit : (Ln.pay y a).g.it ≤ y.g.it := by
    have x := least_nn (owed y.g 3) (payK y a 3).2 (owed_nn hf 3) (payK_left y a hf ha 3).1
    show y.g.it - least (owed y.g 3) (payK y a 3).2 ≤ y.g.it
    omega
  have low : ∀ j, j < 5 ∨ 10 < j → (Ln.pay y a).am j = y.am j := fun j hj => by
    show upd (payK y a 5).1.am 10 _ j = _
    rw [upd_ne _ _ _ _ (by omega)]
    exact payK_am y a 5 j (by omega)
  have h4 := h.a4
  refine ⟨fun j => ?_, ?_, ?_, ?_, ?_, fun j j5 j10 => ?_, ?_, ?_⟩
  · have n := h.nn j
    have g := (payK_am_ge y a hf ha 5 j).1
    show 0 ≤ upd (payK y a 5).1.am 10 (payK y a 5).2 j
    unfold upd; split <;> omega
  · rw [low 1 (by decide)]; have := h.a1; omega
  · rw [low 2 (by decide)]; exact h.a2
  · rw [low 3 (by decide)]; exact h.a3
  · rw [low 4 (by decide)]; omega
  · have g := (payK_am_ge y a hf ha 5 j).2
    have p := h.pd j j5 j10
    show upd (payK y a 5).1.am 10 (payK y a 5).2 j ≤ L + a
    unfold upd; split <;> omega
  · rw [low 11 (by decide)]; exact h.a11
  · rw [low 12 (by decide)]; exact h.a12
theorem Am.event {t : Terms} {y : Dy} {L : Int} (h : Am y L) (hf : Fit y) (n : Int) (e : Ev) (he : OkE t e) : Am (Ln.event n y e) (L + lent n e) := by
  have ha := he.a0
  unfold Ln.event lent
  by_cases hd : e.d = n
  · simp only [hd, ne_eq, not_true, if_false, if_true]
    by_cases h1 : e.k = 1
    · simp only [h1, if_true]
      exact h.lend e.a ha
    · simp only [h1, if_false]
      by_cases h2 : e.k = 2
      · simp only [h2, if_true]
        exact ⟨(h.more e.a ha).nn, (h.more e.a ha).a1, h.a2, h.a3, h.a4, (h.more e.a ha).pd, h.a11, h.a12⟩
      · simp only [h2, if_false]
        by_cases h3 : e.k = 3
        · simp only [h3, if_true]
          split
          · exact ⟨(h.more e.a ha).nn, (h.more e.a ha).a1, h.a2, h.a3, h.a4, (h.more e.a ha).pd, h.a11, h.a12⟩
          · exact h.more e.a ha
        · simp only [h3, if_false]
          by_cases h4 : e.k = 4
          · simp only [h4, if_true]
            exact (h.capital hf.it0).more e.a ha
          · simp only [h4, if_false]
            have h5 : e.k = 5 := by have := he.k0; have := he.k1; omega
            simp only [h5, if_true]
            exact h.pay hf e.a ha
  · simp only [hd, ne_eq, not_false_eq_true, if_true, if_false, Int.add_zero]
    exact h
end Go.Proofs.YtanndhoimpnhpaaGreatDoor.Ln

/- Events as cells and in order; what the document's rules say of one. (Plain: of neither side.) -/
namespace Go.Proofs.YtanndhoimpnhpaaGreatDoor
open Go.RowKit

/-- The cells of events, one behind the other. -/
def evs : List Ln.Ev → List Value
  | [] => []
  | e :: r => .int .i64 e.d :: .int .i64 e.k :: .int .i64 e.s :: .int .i64 e.a :: evs r
theorem evs_at : ∀ (l : List Ln.Ev) (k : Nat) (h : k < l.length), (evs l)[k * 4]? = some (.int .i64 l[k].d) ∧ (evs l)[k * 4 + 1]? = some (.int .i64 l[k].k) ∧ (evs l)[k * 4 + 2]? = some (.int .i64 l[k].s) ∧ (evs l)[k * 4 + 3]? = some (.int .i64 l[k].a)
  | e :: r, 0, _ => ⟨rfl, rfl, rfl, rfl⟩
  | e :: r, k + 1, h => by
    have ih := evs_at r k (by simpa using h)
    have e1 : (k + 1) * 4 = k * 4 + 1 + 1 + 1 + 1 := by omega
    rw [e1]
    exact ih
def fitsB (k a : Int) : Bool :=
  if k = 1 ∨ k = 5 then decide (1 ≤ a) && decide (a ≤ 100000000000) else if k = 2 then decide (0 ≤ a) && decide (a ≤ 1000000) else if k = 3 then decide (1 ≤ a) && decide (a ≤ 400) else decide (a = 0)
def aheadB (a b : Ln.Ev) : Bool := if ¬ a.d = b.d then decide (a.d < b.d) else if ¬ a.k = b.k then decide (a.k < b.k) else decide (a.s < b.s)
/-- Has an event this number? -/
def hasS (q : Int) (l : List Ln.Ev) : Bool := l.any (fun e => e.s == q)
theorem hasS_take (q : Int) (l : List Ln.Ev) (k : Nat) (hk : k < l.length) : hasS q (l.take (k + 1)) = (hasS q (l.take k) || (l[k].s == q)) := by
  unfold hasS
  rw [List.take_succ_eq_append_getElem hk, List.any_append]
  simp
theorem hasS_at (q : Int) (l : List Ln.Ev) (k : Nat) (hk : k < l.length) (h : l[k].s = q) : hasS q l = true := by
  unfold hasS
  rw [List.any_eq_true]
  exact ⟨l[k], List.getElem_mem hk, by simp [h]⟩
/-- What Add answers. -/
def addC (t : Ln.Terms) (l : List Ln.Ev) (e : Ln.Ev) : Int :=
  if e.k < 1 ∨ 5 < e.k then 4
  else if e.d < t.st ∨ t.st + 3700 < e.d then 5
  else if fitsB e.k e.a = false then 6
  else if 40 ≤ l.length then 7
  else if hasS e.s l = true then 8
  else 0


end Go.Proofs.YtanndhoimpnhpaaGreatDoor
namespace Go.Proofs.YtanndhoimpnhpaaGreatDoor.So
open Go.Proofs.YtanndhoimpnhpaaGreatDoor

/-- e at place k. -/
def insAt (e : Ln.Ev) (out : List Ln.Ev) (k : Nat) : List Ln.Ev := out.take k ++ e :: out.drop k
theorem insAt_len (e : Ln.Ev) (out : List Ln.Ev) (k : Nat) (hk : k ≤ out.length) : (insAt e out k).length = out.length + 1 := by
  unfold insAt
  simp
  omega
theorem insAt_end (e : Ln.Ev) (out : List Ln.Ev) : insAt e out out.length = out ++ [e] := by
  unfold insAt
  simp
theorem insAt_down (out : List Ln.Ev) (j : Nat) (hj : j < out.length) : insAt out[j] out (j + 1) = insAt out[j] out j := by
  unfold insAt
  rw [List.take_succ_eq_append_getElem hj, List.append_assoc, List.drop_eq_getElem_cons hj]
  rfl
theorem insAt_set (h e : Ln.Ev) (out : List Ln.Ev) (k : Nat) (hk : k ≤ out.length) : (insAt h out k).set k e = insAt e out k := by
  unfold insAt
  rw [List.set_append_right _ _ (by simp; omega)]
  simp [Nat.min_eq_left hk]
theorem insAt_low (e : Ln.Ev) (out : List Ln.Ev) (k j : Nat) (hk : k ≤ out.length) (hj : j < k) : (insAt e out k)[j]? = some (out[j]'(by omega)) := by
  unfold insAt
  rw [List.getElem?_append_left (by simp; omega), List.getElem?_take_of_lt hj, List.getElem?_eq_getElem (by omega)]
theorem insAt_perm (e : Ln.Ev) (out : List Ln.Ev) (k : Nat) : (insAt e out k).Perm (e :: out) := by
  unfold insAt
  refine List.perm_middle.trans ?_
  rw [List.take_append_drop]

abbrev Ah (a b : Ln.Ev) : Prop := aheadB a b = true
theorem ah_iff (a b : Ln.Ev) : Ah a b ↔ a.d < b.d ∨ (a.d = b.d ∧ (a.k < b.k ∨ (a.k = b.k ∧ a.s < b.s))) := by
  unfold Ah aheadB
  by_cases h1 : a.d = b.d
  · by_cases h2 : a.k = b.k
    · simp [h1, h2]
    · simp [h1, h2]
  · simp [h1]
theorem ah_trans {a b c : Ln.Ev} (h : Ah a b) (k : Ah b c) : Ah a c := by
  rw [ah_iff] at *
  omega
theorem ah_total {a b : Ln.Ev} (h : ¬ a.s = b.s) : Ah a b ∨ Ah b a := by
  rw [ah_iff, ah_iff]
  omega
theorem ah_irrefl (a : Ln.Ev) : ¬ Ah a a := by
  rw [ah_iff]
  omega
theorem ins_sorted (e : Ln.Ev) (out : List Ln.Ev) (k : Nat) (hk : k ≤ out.length) (hs : out.Pairwise Ah) (hd : ∀ x ∈ out, ¬ x.s = e.s)
    (hi : ∀ j (hj : j < out.length), k ≤ j → Ah e out[j]) (hlo : k = 0 ∨ ∃ h : k - 1 < out.length, ¬ Ah e out[k - 1]) : (insAt e out k).Pairwise Ah := by
  unfold insAt
  have hp : (out.take k ++ out.drop k).Pairwise Ah := by rw [List.take_append_drop]; exact hs
  obtain ⟨p1, p2, p3⟩ := List.pairwise_append.1 hp
  have hlow : ∀ a ∈ out.take k, Ah a e := by
    intro a ha
    rcases hlo with rfl | ⟨h, hn⟩
    · simp at ha
    · have hk0 : k ≠ 0 := by
        intro h0
        subst h0
        simp at ha
      have hlast : Ah out[k - 1] e := by
        rcases ah_total (a := e) (b := out[k - 1]) (fun x => hd _ (List.getElem_mem h) x.symm) with x | x
        · exact absurd x hn
        · exact x
      obtain ⟨j, hj, rfl⟩ := List.getElem_of_mem ha
      have hj' : j < k := by simp at hj; omega
      rw [List.getElem_take]
      by_cases e1 : j = k - 1
      · subst e1
        exact hlast
      · exact ah_trans (List.pairwise_iff_getElem.1 hs j (k - 1) (by omega) h (by omega)) hlast
  refine List.pairwise_append.2 ⟨p1, List.pairwise_cons.2 ⟨?_, p2⟩, ?_⟩
  · intro b hb
    obtain ⟨j, hj, rfl⟩ := List.getElem_of_mem hb
    rw [List.getElem_drop]
    exact hi _ _ (by omega)
  · intro a ha b hb
    rcases List.mem_cons.1 hb with rfl | hb
    · exact hlow a ha
    · exact p3 a ha b hb
/-- Of events with different numbers there is one order. -/
theorem sorted_one : ∀ {l m : List Ln.Ev}, l.Perm m → l.Pairwise Ah → m.Pairwise Ah → l = m := by
  intro l m hp hl hm
  exact List.Perm.eq_of_pairwise (fun a b _ _ h1 h2 => absurd (ah_trans h1 h2) (ah_irrefl a)) hl hm hp

/-! ### Cells -/
theorem evs_append : ∀ (l m : List Ln.Ev), evs (l ++ m) = evs l ++ evs m
  | [], m => rfl
  | e :: r, m => by
    show _ :: _ :: _ :: _ :: evs (r ++ m) = _
    rw [evs_append r m]
    rfl
theorem evs_len : ∀ l : List Ln.Ev, (evs l).length = l.length * 4
  | [] => rfl
  | e :: r => by
    show (evs r).length + 1 + 1 + 1 + 1 = _
    rw [evs_len r]
    simp
    omega
theorem evs_set : ∀ (l : List Ln.Ev) (k : Nat) (_ : k < l.length) (e : Ln.Ev), ((((evs l).set (k * 4) (.int .i64 e.d)).set (k * 4 + 1) (.int .i64 e.k)).set (k * 4 + 2) (.int .i64 e.s)).set (k * 4 + 3) (.int .i64 e.a) = evs (l.set k e)
  | x :: r, 0, _, e => rfl
  | x :: r, k + 1, h, e => by
    have ih := evs_set r k (by simpa using h) e
    have e1 : (k + 1) * 4 = k * 4 + 1 + 1 + 1 + 1 := by omega
    rw [e1]
    show _ :: _ :: _ :: _ :: ((((evs r).set (k * 4) (.int .i64 e.d)).set (k * 4 + 1) (.int .i64 e.k)).set (k * 4 + 2) (.int .i64 e.s)).set (k * 4 + 3) (.int .i64 e.a) = _
    rw [ih]
    rfl
end Go.Proofs.YtanndhoimpnhpaaGreatDoor.So

/- What the document's fits, ahead and right answer. -/
namespace Go.Proofs.YtanndhoimpnhpaaGreatDoor
open Go.ChangeShapes Go.WideShapes Go.ChangeAt Go.RowKit

theorem ret_bool {a b : Bool} (h : a = b) : Ending.returned (.bool a) = .returned (.bool b) := by rw [h]

set_option maxHeartbeats 1000000 in
theorem fits_any (k a : Int) (w : World) :
    Calls Tryz.prog 91 #[.int .i64 k, .int .i64 a] w fun e w' => e = .returned (.bool (fitsB k a)) ∧ w' = w := by
  by_cases h15 : k = 1 ∨ k = 5
  · have E : Hid (fitsB k a = (decide (1 ≤ a) && decide (a ≤ 100000000000))) := by simp [fitsB, h15, Hid]
    by_cases h : 1 ≤ a
    · have hd : decide (1 ≤ a) = true := by simp [h]
      rcases h15 with h1 | h1
      all_goals
        subst h1
        go_enter Tryz.func91, Tryz.ntmps91
        go_wp2
        go_ret
        exact ⟨ret_bool (by rw [E.out, hd]; rfl), rfl⟩
    · have hd : decide (1 ≤ a) = false := by simp [h]
      rcases h15 with h1 | h1
      all_goals
        subst h1
        go_enter Tryz.func91, Tryz.ntmps91
        go_wp2
        go_ret
        exact ⟨ret_bool (by rw [E.out, hd]; rfl), rfl⟩
  · obtain ⟨n1, n5⟩ : ¬ k = 1 ∧ ¬ k = 5 := by omega
    by_cases h2 : k = 2
    · have E : Hid (fitsB k a = (decide (0 ≤ a) && decide (a ≤ 1000000))) := by simp [fitsB, h2, Hid]
      subst h2
      clear h15
      by_cases h : 0 ≤ a
      · have hd : decide (0 ≤ a) = true := by simp [h]
        go_enter Tryz.func91, Tryz.ntmps91
        go_wp2
        go_ret
        exact ⟨ret_bool (by rw [E.out, hd]; rfl), rfl⟩
      · have hd : decide (0 ≤ a) = false := by simp [h]
        go_enter Tryz.func91, Tryz.ntmps91
        go_wp2
        go_ret
        exact ⟨ret_bool (by rw [E.out, hd]; rfl), rfl⟩
    · by_cases h3 : k = 3
      · have E : Hid (fitsB k a = (decide (1 ≤ a) && decide (a ≤ 400))) := by simp [fitsB, h3, Hid]
        subst h3
        clear h15
        by_cases h : 1 ≤ a
        · have hd : decide (1 ≤ a) = true := by simp [h]
          go_enter Tryz.func91, Tryz.ntmps91
          go_wp2
          go_ret
          exact ⟨ret_bool (by rw [E.out, hd]; rfl), rfl⟩
        · have hd : decide (1 ≤ a) = false := by simp [h]
          go_enter Tryz.func91, Tryz.ntmps91
          go_wp2
          go_ret
          exact ⟨ret_bool (by rw [E.out, hd]; rfl), rfl⟩
      · have E : Hid (fitsB k a = (a == 0)) := by simp [fitsB, h15, h2, h3, Hid]; rfl
        clear h15
        go_enter Tryz.func91, Tryz.ntmps91
        go_wp2
        go_ret
        exact ⟨ret_bool (by rw [E.out]), rfl⟩

/-- Is event a ahead of b? -/
def evc (e : Ln.Ev) : Value := .agg #[.int .i64 e.d, .int .i64 e.k, .int .i64 e.s, .int .i64 e.a]
set_option maxHeartbeats 1000000 in
theorem ahead_any (a b : Ln.Ev) (w : World) :
    Calls Tryz.prog 100 #[evc a, evc b] w fun e w' => e = .returned (.bool (aheadB a b)) ∧ Below w.heap.size w w' := by
  obtain ⟨d, k, s, x⟩ := a
  obtain ⟨d', k', s', x'⟩ := b
  unfold evc
  by_cases h1 : d = d'
  · by_cases h2 : k = k'
    · have E : Hid (aheadB ⟨d, k, s, x⟩ ⟨d', k', s', x'⟩ = decide (s < s')) := by simp [aheadB, h1, h2, Hid]
      have e1 : (d != d') = false := by simp [h1]
      have e2 : (k != k') = false := by simp [h2]
      clear h1 h2
      go_enter Tryz.func100, Tryz.ntmps100
      go_wp2
      go_ret
      exact ⟨ret_bool (by rw [E.out]), ((Below.refl _ _).alloc (Nat.le_refl _) _).alloc (by simp) _⟩
    · have E : Hid (aheadB ⟨d, k, s, x⟩ ⟨d', k', s', x'⟩ = decide (k < k')) := by simp [aheadB, h1, h2, Hid]
      have e1 : (d != d') = false := by simp [h1]
      have e2 : (k != k') = true := by simp [h2]
      clear h1 h2
      go_enter Tryz.func100, Tryz.ntmps100
      go_wp2
      go_ret
      exact ⟨ret_bool (by rw [E.out]), ((Below.refl _ _).alloc (Nat.le_refl _) _).alloc (by simp) _⟩
  · have E : Hid (aheadB ⟨d, k, s, x⟩ ⟨d', k', s', x'⟩ = decide (d < d')) := by simp [aheadB, h1, Hid]
    have e1 : (d != d') = true := by simp [h1]
    clear h1
    go_enter Tryz.func100, Tryz.ntmps100
    go_wp2
    go_ret
    exact ⟨ret_bool (by rw [E.out]), ((Below.refl _ _).alloc (Nat.le_refl _) _).alloc (by simp) _⟩
end Go.Proofs.YtanndhoimpnhpaaGreatDoor

/- Long numbers: digits below a million, the least first. -/
namespace Go.Proofs.YtanndhoimpnhpaaGreatDoor.Lg

def lv : List Int → Int
  | [] => 0
  | d :: r => d + 1000000 * lv r
def Dig (l : List Int) : Prop := ∀ d ∈ l, 0 ≤ d ∧ d < 1000000
theorem lv_nn : ∀ l : List Int, Dig l → 0 ≤ lv l
  | [], _ => Int.le_refl _
  | d :: r, h => by
    have h1 := h d (by simp)
    have h2 := lv_nn r (fun x hx => h x (by simp [hx]))
    show 0 ≤ d + 1000000 * lv r
    omega
theorem lv_drop (l : List Int) (k : Nat) (h : k < l.length) : lv (l.drop k) = l.getD k 0 + 1000000 * lv (l.drop (k + 1)) := by
  rw [List.drop_eq_getElem_cons h]
  show l[k] + 1000000 * lv (l.drop (k + 1)) = _
  rw [List.getD_eq_getElem?_getD, List.getElem?_eq_getElem h]
  rfl
theorem dig_drop {l : List Int} (h : Dig l) (k : Nat) : Dig (l.drop k) := fun d hd => h d (List.mem_of_mem_drop hd)
theorem dig_at {l : List Int} (h : Dig l) (k : Nat) (hk : k < l.length) : 0 ≤ l.getD k 0 ∧ l.getD k 0 < 1000000 := by
  rw [List.getD_eq_getElem?_getD, List.getElem?_eq_getElem hk]
  exact h _ (List.getElem_mem hk)
/-- Division, digit by digit. -/
theorem div_step (H n y : Int) (hy : 0 < y) : (n + 1000000 * H) / y = 1000000 * (H / y) + (1000000 * (H % y) + n) / y ∧ (n + 1000000 * H) % y = (1000000 * (H % y) + n) % y := by
  have e : n + 1000000 * H = (1000000 * (H % y) + n) + (1000000 * (H / y)) * y := by
    have := Int.mul_ediv_add_emod H y
    have h2 : 1000000 * (y * (H / y)) = 1000000 * (H / y) * y := by rw [Int.mul_comm y, Int.mul_assoc]
    omega
  rw [e]
  refine ⟨?_, ?_⟩
  · rw [Int.add_mul_ediv_right _ _ (by omega)]; omega
  · rw [Int.add_mul_emod_self_right]
theorem lv_low (d : Int) (r : List Int) (h0 : 0 ≤ d) (h1 : d < 1000000) : lv (d :: r) / 1000000 = lv r := by
  show (d + 1000000 * lv r) / 1000000 = lv r
  omega
/-- The digits of n more by a times b: the carry c goes along. -/
def addTo (c a b : Int) : List Int → List Int
  | [] => []
  | d :: r => (c + d + a % 1000000 * b) % 1000000 :: addTo ((c + d + a % 1000000 * b) / 1000000) (a / 1000000) b r
theorem addTo_dig (b : Int) : ∀ (l : List Int) (c a : Int), Dig (addTo c a b l)
  | [], _, _ => by intro d hd; simp [addTo] at hd
  | d :: r, c, a => by
    intro x hx
    simp only [addTo, List.mem_cons] at hx
    rcases hx with rfl | hx
    · omega
    · exact addTo_dig b r _ _ x hx
theorem addTo_len (b : Int) : ∀ (l : List Int) (c a : Int), (addTo c a b l).length = l.length
  | [], _, _ => rfl
  | _ :: r, c, a => by simp [addTo, addTo_len b r]
/-- The sum, if it has no more digits. -/
theorem addTo_lv (b : Int) (hb : 0 ≤ b) : ∀ (l : List Int) (c a : Int), Dig l → 0 ≤ c → 0 ≤ a → c + lv l + a * b < 1000000 ^ l.length → lv (addTo c a b l) = c + lv l + a * b
  | [], c, a, _, hc, ha, hs => by
    have hm := Int.mul_nonneg ha hb
    have h1 : c + 0 + a * b < 1 := hs
    show (0 : Int) = c + 0 + a * b
    omega
  | d :: r, c, a, hd, hc, ha, hs => by
    have h1 := hd d (by simp)
    have hr : Dig r := fun x hx => hd x (by simp [hx])
    have hn := lv_nn r hr
    have q0 : 0 ≤ a / 1000000 := Int.ediv_nonneg ha (by decide)
    have m0 : 0 ≤ a % 1000000 * b := Int.mul_nonneg (Int.emod_nonneg _ (by decide)) hb
    have e1 : a * b = a % 1000000 * b + 1000000 * (a / 1000000 * b) := by
      have := Int.mul_ediv_add_emod a 1000000
      rw [← Int.mul_assoc, ← Int.add_mul]
      congr 1
      omega
    have hs2 : c + (d + 1000000 * lv r) + a * b < 1000000 ^ r.length * 1000000 := by
      have : (1000000 : Int) ^ (d :: r).length = 1000000 ^ r.length * 1000000 := by rw [List.length_cons, Int.pow_succ]
      rw [← this]
      exact hs
    generalize hx : c + d + a % 1000000 * b = x at *
    have hx0 : 0 ≤ x := by omega
    have ih := addTo_lv b hb r (x / 1000000) (a / 1000000) hr (Int.ediv_nonneg hx0 (by decide)) q0 (by
      generalize a / 1000000 * b = z at *
      generalize (1000000 : Int) ^ r.length = p at *
      omega)
    show lv ((c + d + a % 1000000 * b) % 1000000 :: addTo ((c + d + a % 1000000 * b) / 1000000) (a / 1000000) b r) = _
    rw [hx]
    show x % 1000000 + 1000000 * lv (addTo (x / 1000000) (a / 1000000) b r) = c + (d + 1000000 * lv r) + a * b
    rw [ih]
    generalize a / 1000000 * b = z at *
    omega
end Go.Proofs.YtanndhoimpnhpaaGreatDoor.Lg

/- What the document's long numbers answer: the whole part, and a sum. -/
namespace Go.Proofs.YtanndhoimpnhpaaGreatDoor
open Go.ChangeShapes Go.WideShapes Go.ChangeAt Go.RowKit Lg

/-- A row of integers at the head of a block. -/
def Ints (w : World) (b : Nat) (l : List Int) : Prop := ∀ j, j < l.length → w.cell? ⟨b, j, none⟩ = some (.int .i64 (l.getD j 0))

theorem part_nil (year : Int) (cap : Nat) (w : World) :
    Calls Tryz.prog 122 #[.slice none 0 cap, .int .i64 year] w fun e w' => e = .returned (.int .i64 0) ∧ w' = w := by
  go_enter Tryz.func122, Tryz.ntmps122
  go_wp2
  go_loop [5, 7] (fun o i => o = .int .i64 0 ∧ i = .int .i64 (-1)) (fun _ _ => 0)
  case atStart => exact ⟨rfl, rfl⟩
  case round =>
    obtain ⟨rfl, rfl⟩ := hrel
    go_wp2
    go_ret
    exact ⟨rfl, rfl⟩

set_option maxHeartbeats 400000 in
theorem part_any (l : List Int) (b cap : Nat) (year : Int) (w : World) (hl : l.length = 6) (hD : Dig l) (hc : Ints w b l) (y0 : 1 ≤ year) (y1 : year ≤ 400) (hb : lv (l.drop 1) / year ≤ 9000000000000000000) :
    Calls Tryz.prog 122 #[.slice (some ⟨b, 0, none⟩) 6 cap, .int .i64 year] w fun e w' => e = .returned (.int .i64 (lv l / 1000000 / year)) ∧ w' = w := by
  have hlow : lv l / 1000000 = lv (l.drop 1) := by
    match l, hl with
    | d :: r, _ => exact lv_low d r (hD d (by simp)).1 (hD d (by simp)).2
  rw [hlow]
  clear hlow
  go_enter Tryz.func122, Tryz.ntmps122
  go_wp2
  go_loop [5, 6, 7] (fun o r i => ∃ k : Nat, k ≤ 5 ∧ i = .int .i64 k ∧ o = .int .i64 (lv (l.drop (k + 1)) / year) ∧ r = .int .i64 (lv (l.drop (k + 1)) % year)) (fun _ _ i => (intOf i).toNat)
  case atStart => exact ⟨5, by omega, rfl, by rw [List.drop_of_length_le (by omega)]; simp [lv], by rw [List.drop_of_length_le (by omega)]; simp [lv]⟩
  case round =>
    obtain ⟨k, hk, rfl, rfl, rfl⟩ := hrel
    by_cases h1 : 1 ≤ k
    · have hcell := hc k (by omega)
      obtain ⟨g0, g1⟩ := dig_at hD k (by omega)
      have hd := lv_drop l k (by omega)
      have hs := div_step (lv (l.drop (k + 1))) (l.getD k 0) year (by omega)
      rw [← hd] at hs
      have hn := lv_nn _ (dig_drop hD (k + 1))
      have hm0 := Int.emod_nonneg (lv (l.drop (k + 1))) (show year ≠ 0 by omega)
      have hm1 := Int.emod_lt_of_pos (lv (l.drop (k + 1))) (show 0 < year by omega)
      have hq0 : 0 ≤ lv (l.drop (k + 1)) / year := Int.ediv_nonneg hn (by omega)
      have hmono : ∀ j : Nat, 1 ≤ j → j ≤ 5 → lv (l.drop j) / year ≤ 9000000000000000000 := by
        intro j j1 j5
        have step : ∀ i : Nat, i < 6 → lv (l.drop (i + 1)) / year ≤ lv (l.drop i) / year := fun i hi => by
          have e1 := lv_drop l i (by omega)
          have e2 := dig_at hD i (by omega)
          have e3 := lv_nn _ (dig_drop hD (i + 1))
          exact Int.ediv_le_ediv (by omega) (by omega)
        have a1 : lv (l.drop 2) / year ≤ lv (l.drop 1) / year := step 1 (by omega)
        have a2 : lv (l.drop 3) / year ≤ lv (l.drop 2) / year := step 2 (by omega)
        have a3 : lv (l.drop 4) / year ≤ lv (l.drop 3) / year := step 3 (by omega)
        have a4 : lv (l.drop 5) / year ≤ lv (l.drop 4) / year := step 4 (by omega)
        rcases (show j = 1 ∨ j = 2 ∨ j = 3 ∨ j = 4 ∨ j = 5 by omega) with rfl | rfl | rfl | rfl | rfl <;> omega
      have hbk := hmono k h1 hk
      have HS := (show Hid _ from hs)
      have hq1 : 1000000 * (lv (l.drop (k + 1)) / year) ≤ 9000000000000000000 := by
        have := hs.1
        have : 0 ≤ (1000000 * (lv (l.drop (k + 1)) % year) + l.getD k 0) / year := Int.ediv_nonneg (by omega) (by omega)
        omega
      have hq2 : 1000000 * (lv (l.drop (k + 1)) / year) + (1000000 * (lv (l.drop (k + 1)) % year) + l.getD k 0) / year ≤ 9000000000000000000 := by rw [← hs.1]; exact hbk
      have hq3 : 0 ≤ (1000000 * (lv (l.drop (k + 1)) % year) + l.getD k 0) / year := Int.ediv_nonneg (by omega) (by omega)
      clear hs hd hmono hbk hb
      generalize lv (l.drop (k + 1)) % year = m at *
      generalize lv (l.drop (k + 1)) / year = q at *
      generalize l.getD k 0 = v at *
      have hk' : (0 : Int) ≤ (k : Int) ∧ (k : Int) < 6 := by omega
      go_wp2
      go_round
      case rel => exact ⟨k - 1, by omega, by go_num, by rw [show k - 1 + 1 = k by omega, HS.out.1], by rw [show k - 1 + 1 = k by omega, HS.out.2]⟩
      case measure => simp [intOf]; omega
    · obtain rfl : k = 0 := by omega
      go_wp2
      go_ret
      exact ⟨rfl, rfl⟩
end Go.Proofs.YtanndhoimpnhpaaGreatDoor

/- What the document's long sum answers. -/
namespace Go.Proofs.YtanndhoimpnhpaaGreatDoor
open Go.ChangeShapes Go.WideShapes Go.ChangeAt Go.RowKit Lg

theorem infoInt : (Tryz.prog.info? 3).map (fun i => (i.zero, i.size, i.bytes)) = some (some (.int .i64 0), 1, 8) := by kernel_rfl

/-- The carry and what is left of a ahead of digit k. -/
def cy (L : Nat → Int) (a b : Int) : Nat → Int × Int
  | 0 => (0, a)
  | k + 1 => (((cy L a b k).1 + L k + (cy L a b k).2 % 1000000 * b) / 1000000, (cy L a b k).2 / 1000000)
def od (L : Nat → Int) (a b : Int) (k : Nat) : Int := ((cy L a b k).1 + L k + (cy L a b k).2 % 1000000 * b) % 1000000
def ods (L : Nat → Int) (a b : Int) (k : Nat) : List Int := (List.range k).map (od L a b)
theorem ods_six (l : List Int) (a b : Int) (h : l.length = 6) : ods (fun j => l.getD j 0) a b 6 = addTo 0 a b l := by
  match l, h with
  | [d0, d1, d2, d3, d4, d5], _ => rfl
theorem ods_succ (L : Nat → Int) (a b : Int) (k : Nat) : ods L a b (k + 1) = ods L a b k ++ [od L a b k] := by
  simp [ods, List.range_succ]
theorem ods_len (L : Nat → Int) (a b : Int) (k : Nat) : (ods L a b k).length = k := by simp [ods]
theorem cy_bd (L : Nat → Int) (a b : Int) (hL : ∀ j, 0 ≤ L j ∧ L j < 1000000) (ha : 0 ≤ a) (hb0 : 0 ≤ b) (hb1 : b ≤ 4000000) : ∀ k, 0 ≤ (cy L a b k).1 ∧ (cy L a b k).1 ≤ 5000000 ∧ 0 ≤ (cy L a b k).2 ∧ (cy L a b k).2 ≤ a
  | 0 => ⟨Int.le_refl _, by show (0 : Int) ≤ 5000000; decide, ha, Int.le_refl _⟩
  | k + 1 => by
    obtain ⟨h1, h2, h3, h4⟩ := cy_bd L a b hL ha hb0 hb1 k
    have h5 := hL k
    have m0 : 0 ≤ (cy L a b k).2 % 1000000 := Int.emod_nonneg _ (by decide)
    have m1 : (cy L a b k).2 % 1000000 ≤ 999999 := by omega
    have p0 := Int.mul_nonneg m0 hb0
    have p1 : (cy L a b k).2 % 1000000 * b ≤ 999999 * 4000000 := Int.mul_le_mul m1 hb1 hb0 (by decide)
    show 0 ≤ ((cy L a b k).1 + L k + (cy L a b k).2 % 1000000 * b) / 1000000 ∧ ((cy L a b k).1 + L k + (cy L a b k).2 % 1000000 * b) / 1000000 ≤ 5000000 ∧ 0 ≤ (cy L a b k).2 / 1000000 ∧ (cy L a b k).2 / 1000000 ≤ a
    omega

/-- Integers as cells. -/
def icells (l : List Int) : List Value := l.map (Value.int .i64)

theorem own_from {w : World} {base : Nat} {e : TypeId} {size : Nat} {v : Value} {n : Nat} {xs : List Value} (h : w.ownsRow base e size v n xs) {k : Nat} (hk : v.ownBlock = some k) : base ≤ k := by
  obtain ⟨_, ⟨rfl, _⟩ | ⟨g, cap, cur, rfl, hg, _⟩⟩ := h
  · simp [Value.ownBlock] at hk
  · simp [Value.ownBlock] at hk
    omega

set_option maxRecDepth 10000 in
set_option maxHeartbeats 1000000 in
theorem plus_core (v : Value) (n : Nat) (L : Nat → Int) (a b : Int) (w : World) (hn : n ≤ 6) (hL : ∀ j, 0 ≤ L j ∧ L j < 1000000) (ha : 0 ≤ a) (ha1 : a ≤ 4000000000000000000) (hb0 : 0 ≤ b) (hb1 : b ≤ 4000000)
    (hv : (n = 0 ∧ v = .slice none 0 0 ∧ ∀ j, L j = 0) ∨ ∃ g cap, n = 6 ∧ v = .slice (some ⟨g, 0, none⟩) 6 cap ∧ g < w.heap.size ∧ ∀ j, j < 6 → w.cell? ⟨g, j, none⟩ = some (.int .i64 (L j))) :
    Calls Tryz.prog 123 #[v, .int .i64 a, .int .i64 b] w fun e w' => ∃ r, e = .returned r ∧ w'.ownsRow w.heap.size 3 1 r 6 (icells (ods L a b 6)) ∧ Below w.heap.size w w' := by
  obtain ⟨i0, hi, hz0, hz1, hz2⟩ := info_parts infoInt
  rcases hv with ⟨rfl, rfl, hz⟩ | ⟨g, cap, rfl, rfl, hg, hc⟩
  · go_enter Tryz.func123, Tryz.ntmps123
    go_wp2
    go_loopw [1, 7, 8, 9] (fun q o c i wr => ∃ k : Nat, k ≤ 6 ∧ i = .int .i64 k ∧ q = .int .i64 (cy L a b k).2 ∧ c = .int .i64 (cy L a b k).1 ∧ wr.ownsRow w.heap.size 3 1 o k (icells (ods L a b k)) ∧ Below w.heap.size w wr) (fun _ _ _ i _ => 6 - (intOf i).toNat)
    case atStart => exact ⟨0, by omega, rfl, rfl, rfl, World.ownsRow_nil _ _ _ _, Below.refl _ _⟩
    case round =>
      obtain ⟨k, hk, rfl, rfl, rfl, hown, hbel⟩ := hrel
      obtain ⟨b1, b2, b3, b4⟩ := cy_bd L a b hL ha hb0 hb1 k
      have hLk := hL k
      have hcy : Hid (cy L a b (k + 1) = (((cy L a b k).1 + L k + (cy L a b k).2 % 1000000 * b) / 1000000, (cy L a b k).2 / 1000000)) := rfl
      have hod : Hid (od L a b k = ((cy L a b k).1 + L k + (cy L a b k).2 % 1000000 * b) % 1000000) := rfl
      have m0 : 0 ≤ (cy L a b k).2 % 1000000 := Int.emod_nonneg _ (by decide)
      have m1 : (cy L a b k).2 % 1000000 ≤ 999999 := by omega
      have p0 := Int.mul_nonneg m0 hb0
      have p1 : (cy L a b k).2 % 1000000 * b ≤ 3999996000000 := Int.mul_le_mul m1 hb1 hb0 (by decide)
      by_cases hlt : k < 6
      · have hLz := hz k
        rw [hLz, Int.add_zero] at hcy hod
        generalize (cy L a b k).1 = c at *
        generalize (cy L a b k).2 = q at *
        clear hL hLk hLz hz
        have hk6 : (k : Int) < 6 := by omega
        go_wp2_with (at_builtin; refine wpList_append_own _ rfl _ _ 164 rfl w.heap.size 3 i0 (.int .i64 0) 1 8 Tryz.underlying164 hi hz0 hz1 hz2 rfl (by decide) _ _ _ rfl (hown.alloc _) ⟨wr.heap.size, 0, none⟩ 1 1 [.int .i64 ((c + q % 1000000 * b) % 1000000)] rfl rfl ?c1 ?c2 ?c3 ?c4 ?c5 ?_)
        case c1 =>
          intro j u hj
          match j, hj with
          | 0, hj => simp at hj; subst hj; simp [Addr.add]
        case c2 => intro u hu; simp at hu; subst hu; rfl
        case c3 => unfold maxLen; omega
        case c4 => omega
        case c5 => have := hbel.size; simp; omega
        · intro v' w1 hown' hgrow _
          have hb1 : Below w.heap.size w w1 := (hbel.alloc hbel.size _).grown hgrow (by simp; exact Nat.le_succ_of_le hbel.size) (fun j hj => own_from hown hj)
          have hown2 : w1.ownsRow w.heap.size 3 1 v' (k + 1) (icells (ods L a b (k + 1))) := by
            rw [ods_succ, hod.out]
            simpa [icells] using hown'
          clear hown' hgrow hown hbel
          go_wp2
          go_roundw
          case rel => exact ⟨k + 1, by omega, by go_num, by rw [hcy.out], by rw [hcy.out], hown2, hb1⟩
          case measure => simp [intOf]; omega
      · obtain rfl : k = 6 := by omega
        clear hL hcy hod hz
        go_wp2
        go_ret
        exact ⟨_, rfl, hown, hbel⟩
  · go_enter Tryz.func123, Tryz.ntmps123
    go_wp2
    go_loopw [1, 7, 8, 9] (fun q o c i wr => ∃ k : Nat, k ≤ 6 ∧ i = .int .i64 k ∧ q = .int .i64 (cy L a b k).2 ∧ c = .int .i64 (cy L a b k).1 ∧ wr.ownsRow w.heap.size 3 1 o k (icells (ods L a b k)) ∧ Below w.heap.size w wr) (fun _ _ _ i _ => 6 - (intOf i).toNat)
    case atStart => exact ⟨0, by omega, rfl, rfl, rfl, World.ownsRow_nil _ _ _ _, Below.refl _ _⟩
    case round =>
      obtain ⟨k, hk, rfl, rfl, rfl, hown, hbel⟩ := hrel
      obtain ⟨b1, b2, b3, b4⟩ := cy_bd L a b hL ha hb0 hb1 k
      have hLk := hL k
      have hcy : Hid (cy L a b (k + 1) = (((cy L a b k).1 + L k + (cy L a b k).2 % 1000000 * b) / 1000000, (cy L a b k).2 / 1000000)) := rfl
      have hod : Hid (od L a b k = ((cy L a b k).1 + L k + (cy L a b k).2 % 1000000 * b) % 1000000) := rfl
      have m0 : 0 ≤ (cy L a b k).2 % 1000000 := Int.emod_nonneg _ (by decide)
      have m1 : (cy L a b k).2 % 1000000 ≤ 999999 := by omega
      have p0 := Int.mul_nonneg m0 hb0
      have p1 : (cy L a b k).2 % 1000000 * b ≤ 3999996000000 := Int.mul_le_mul m1 hb1 hb0 (by decide)
      by_cases hlt : k < 6
      · have hcell : wr.cell? ⟨g, k, none⟩ = some (.int .i64 (L k)) := (hbel.cell (p := ⟨g, k, none⟩) hg).trans (hc k hlt)
        generalize (cy L a b k).1 = c at *
        generalize (cy L a b k).2 = q at *
        clear hc hL hg
        have hk6 : (k : Int) < 6 := by omega
        generalize L k = d at *
        go_wp2_with (at_builtin; refine wpList_append_own _ rfl _ _ 164 rfl w.heap.size 3 i0 (.int .i64 0) 1 8 Tryz.underlying164 hi hz0 hz1 hz2 rfl (by decide) _ _ _ rfl (hown.alloc _) ⟨wr.heap.size, 0, none⟩ 1 1 [.int .i64 ((c + d + q % 1000000 * b) % 1000000)] rfl rfl ?c1 ?c2 ?c3 ?c4 ?c5 ?_)
        case c1 =>
          intro j u hj
          match j, hj with
          | 0, hj => simp at hj; subst hj; simp [Addr.add]
        case c2 => intro u hu; simp at hu; subst hu; rfl
        case c3 => unfold maxLen; omega
        case c4 => omega
        case c5 => have := hbel.size; simp; omega
        · intro v' w1 hown' hgrow _
          have hb1 : Below w.heap.size w w1 := (hbel.alloc hbel.size _).grown hgrow (by simp; exact Nat.le_succ_of_le hbel.size) (fun j hj => own_from hown hj)
          have hown2 : w1.ownsRow w.heap.size 3 1 v' (k + 1) (icells (ods L a b (k + 1))) := by
            rw [ods_succ, hod.out]
            simpa [icells] using hown'
          clear hown' hgrow hown hbel
          go_wp2
          go_roundw
          case rel => exact ⟨k + 1, by omega, by go_num, by rw [hcy.out], by rw [hcy.out], hown2, hb1⟩
          case measure => simp [intOf]; omega
      · obtain rfl : k = 6 := by omega
        clear hc hL hg hcy hod
        go_wp2
        go_ret
        exact ⟨_, rfl, hown, hbel⟩
end Go.Proofs.YtanndhoimpnhpaaGreatDoor
