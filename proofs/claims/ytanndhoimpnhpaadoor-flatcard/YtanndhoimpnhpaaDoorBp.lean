/- The book's entries as cells; what is in it of a day and a kind; what a day's amounts write into it. (Plain: of neither side.) -/
import Derived.Test.YtanndhoimpnhpaaDoorMid
import Derived.Maps.AppendAt
namespace Go.Proofs.YtanndhoimpnhpaaDoor
open Go.RowKit

structure En where
  d : Int
  k : Int
  a : Int
/-- The cells of entries, one behind the other. -/
def ens : List En → List Value
  | [] => []
  | e :: r => .int .i64 e.d :: .int .i64 e.k :: .int .i64 e.a :: ens r
theorem ens_len : ∀ l : List En, (ens l).length = l.length * 3
  | [] => rfl
  | e :: r => by
    have := ens_len r
    simp only [ens, List.length_cons]
    omega
theorem ens_append : ∀ l r : List En, ens (l ++ r) = ens l ++ ens r
  | [], _ => rfl
  | e :: l, r => by simp only [List.cons_append, ens, ens_append l r]
theorem ens_at : ∀ (l : List En) (k : Nat) (h : k < l.length), (ens l)[k * 3]? = some (.int .i64 l[k].d) ∧ (ens l)[k * 3 + 1]? = some (.int .i64 l[k].k) ∧ (ens l)[k * 3 + 2]? = some (.int .i64 l[k].a)
  | e :: r, 0, _ => ⟨rfl, rfl, rfl⟩
  | e :: r, k + 1, h => by
    have ih := ens_at r k (by simpa using h)
    have e1 : (k + 1) * 3 = k * 3 + 1 + 1 + 1 := by omega
    rw [e1]
    exact ih
theorem en_range {w : World} {base : Nat} {T : TypeId} {n cap g : Nat} {L : List En} (h : w.ownsRow base T 3 (.slice (some ⟨g, 0, none⟩) n cap) n (ens L)) (hn : n = L.length) (k : Nat) (hk : k < L.length) :
    w.cell? ⟨g, k * 3, none⟩ = some (.int .i64 L[k].d) ∧ w.cell? ⟨g, k * 3 + 1, none⟩ = some (.int .i64 L[k].k) ∧ w.cell? ⟨g, k * 3 + 2, none⟩ = some (.int .i64 L[k].a) := by
  obtain ⟨q0, q1, q2⟩ := ens_at L k hk
  exact ⟨(h.cellAt _ (by omega)).trans q0, (h.cellAt _ (by omega)).trans q1, (h.cellAt _ (by omega)).trans q2⟩
/-- What entries make of the place of a day and a kind, as sums of 64 bits. -/
def hv (st : Int) (l : List En) (i : Nat) : Int := l.foldl (fun s e => if 13 * (e.d - st) + e.k = i then IntKind.i64.wrap (s + e.a) else s) 0
theorem hv_take (st : Int) (l : List En) (k : Nat) (hk : k < l.length) (i : Nat) : hv st (l.take (k + 1)) i = if 13 * (l[k].d - st) + l[k].k = i then IntKind.i64.wrap (hv st (l.take k) i + l[k].a) else hv st (l.take k) i := by
  unfold hv
  rw [List.take_succ_eq_append_getElem hk, List.foldl_append]
  rfl
/-- Cells of whole numbers by their places. -/
def hc (n : Nat) (f : Nat → Int) : List Value := (List.range n).map (fun i => .int .i64 (f i))
theorem hc_at (n : Nat) (f : Nat → Int) (i : Nat) (h : i < n) : (hc n f)[i]? = some (.int .i64 (f i)) := by
  unfold hc
  rw [List.getElem?_map, List.getElem?_range h]
  rfl
theorem hc_len (n : Nat) (f : Nat → Int) : (hc n f).length = n := by simp [hc]
theorem hc_set (n : Nat) (f g : Nat → Int) (i : Nat) (v : Int) (hg : ∀ j, j < n → g j = if j = i then v else f j) : (hc n f).set i (.int .i64 v) = hc n g := by
  apply List.ext_getElem?
  intro j
  by_cases hj : j < n
  · rw [hc_at n g j hj, hg j hj]
    by_cases e : j = i
    · subst e
      rw [if_pos rfl, List.getElem?_set_self (by rw [hc_len]; exact hj)]
    · rw [if_neg e, List.getElem?_set_ne (Ne.symm e), hc_at n f j hj]
  · rw [List.getElem?_eq_none (by rw [List.length_set, hc_len]; omega), List.getElem?_eq_none (by rw [hc_len]; omega)]
/-- What one kind writes. -/
def kindW (n : Int) (k : Nat) (is am : Int) : List En :=
  if is = am then [] else (if is = 0 then [] else [⟨n, k, wrap64 (-is)⟩]) ++ (if am = 0 then [] else [⟨n, k, am⟩])
/-- What the kinds 1 to j write. -/
def kindsW (n : Int) (h am : Nat → Int) : Nat → List En
  | 0 => []
  | j + 1 => kindsW n h am j ++ kindW n (j + 1) (h (j + 1)) (am (j + 1))
theorem kindW_len (n : Int) (k : Nat) (is am : Int) : (kindW n k is am).length ≤ 2 := by
  unfold kindW
  (repeat' split) <;> simp
theorem kindsW_len (n : Int) (h am : Nat → Int) : ∀ j, (kindsW n h am j).length ≤ 2 * j
  | 0 => Nat.le_refl _
  | j + 1 => by
    have h1 := kindsW_len n h am j
    have h2 := kindW_len n (j + 1) (h (j + 1)) (am (j + 1))
    simp only [kindsW, List.length_append]
    omega
/-- What the first k days write behind a book. -/
def bookW (st : Int) (hf : Nat → Int) (am : Nat → Nat → Int) (M0 : List En) : Nat → List En
  | 0 => M0
  | k + 1 => bookW st hf am M0 k ++ kindsW (st + k) (fun j => hf (13 * k + j)) (am k) 12
theorem bookW_len (st : Int) (hf : Nat → Int) (am : Nat → Nat → Int) (M0 : List En) : ∀ k, (bookW st hf am M0 k).length ≤ M0.length + 24 * k
  | 0 => Nat.le_refl _
  | k + 1 => by
    have h1 := bookW_len st hf am M0 k
    have h2 := kindsW_len (st + k) (fun j => hf (13 * k + j)) (am k) 12
    simp only [bookW, List.length_append]
    omega
/-- The loops of a function's code, in their order, each with those in it behind it. -/
def loopsOf : Code → List Code
  | .loop c => c :: loopsOf c
  | .seq a b => loopsOf a ++ loopsOf b
  | .block _ c => loopsOf c
  | .scope c => loopsOf c
  | .cond _ a b => loopsOf a ++ loopsOf b
  | _ => []
end Go.Proofs.YtanndhoimpnhpaaDoor
