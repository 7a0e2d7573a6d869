/- Events as cells and in order; what the document's rules say of one. (Plain: of neither side.) -/
import Derived.WalkKit
import Derived.Test.YtanndhoimpnhpaaDoorLoan
namespace Go.Proofs.YtanndhoimpnhpaaDoor
open Go.RowKit

/-- The cells of events, one behind the other. -/
def evs : List Ln.Ev → List Value
  | [] => []
  | e :: r => .int .i64 e.d :: .int .i64 e.k :: .int .i64 e.s :: .int .i64 e.a :: evs r
theorem evs_at : ∀ (l : List Ln.Ev) (k : Nat) (h : k < l.length), (evs l)[k * 4]? = some (.int .i64 l[k].d) ∧ (evs l)[k * 4 + 1]? = some (.int .i64 l[k].k) ∧ (evs l)[k * 4 + 2]? = some (.int .i64 l[k].s) ∧ (evs l)[k * 4 + 3]? = some (.int .i64 l[k].a)
  | e :: r, 0, _ => ⟨rfl, rfl, rfl, rfl⟩
  | e :: r, k + 1, h => by
    have ih := evs_at r k (by simpa using h)
    have e1 : (k + 1) * 4 = k * 4 + 1 + 1 + 1 + 1 := by omega
    rw [e1]
    exact ih
def fitsB (k a : Int) : Bool :=
  if k = 1 ∨ k = 5 then decide (1 ≤ a) && decide (a ≤ 100000000000) else if k = 2 then decide (0 ≤ a) && decide (a ≤ 1000000) else if k = 3 then decide (1 ≤ a) && decide (a ≤ 400) else decide (a = 0)
def aheadB (a b : Ln.Ev) : Bool := if ¬ a.d = b.d then decide (a.d < b.d) else if ¬ a.k = b.k then decide (a.k < b.k) else decide (a.s < b.s)
/-- Has an event this number? -/
def hasS (q : Int) (l : List Ln.Ev) : Bool := l.any (fun e => e.s == q)
theorem hasS_take (q : Int) (l : List Ln.Ev) (k : Nat) (hk : k < l.length) : hasS q (l.take (k + 1)) = (hasS q (l.take k) || (l[k].s == q)) := by
  unfold hasS
  rw [List.take_succ_eq_append_getElem hk, List.any_append]
  simp
theorem hasS_at (q : Int) (l : List Ln.Ev) (k : Nat) (hk : k < l.length) (h : l[k].s = q) : hasS q l = true := by
  unfold hasS
  rw [List.any_eq_true]
  exact ⟨l[k], List.getElem_mem hk, by simp [h]⟩
/-- What Add answers. -/
def addC (t : Ln.Terms) (l : List Ln.Ev) (e : Ln.Ev) : Int :=
  if e.k < 1 ∨ 5 < e.k then 4
  else if e.d < t.st ∨ t.st + 3700 < e.d then 5
  else if fitsB e.k e.a = false then 6
  else if 40 ≤ l.length then 7
  else if hasS e.s l = true then 8
  else 0


end Go.Proofs.YtanndhoimpnhpaaDoor
namespace Go.Proofs.YtanndhoimpnhpaaDoor.So
open Go.Proofs.YtanndhoimpnhpaaDoor

/-- e at place k. -/
def insAt (e : Ln.Ev) (out : List Ln.Ev) (k : Nat) : List Ln.Ev := out.take k ++ e :: out.drop k
theorem insAt_len (e : Ln.Ev) (out : List Ln.Ev) (k : Nat) (hk : k ≤ out.length) : (insAt e out k).length = out.length + 1 := by
  unfold insAt
  simp
  omega
theorem insAt_end (e : Ln.Ev) (out : List Ln.Ev) : insAt e out out.length = out ++ [e] := by
  unfold insAt
  simp
theorem insAt_down (out : List Ln.Ev) (j : Nat) (hj : j < out.length) : insAt out[j] out (j + 1) = insAt out[j] out j := by
  unfold insAt
  rw [List.take_succ_eq_append_getElem hj, List.append_assoc, List.drop_eq_getElem_cons hj]
  rfl
theorem insAt_set (h e : Ln.Ev) (out : List Ln.Ev) (k : Nat) (hk : k ≤ out.length) : (insAt h out k).set k e = insAt e out k := by
  unfold insAt
  rw [List.set_append_right _ _ (by simp; omega)]
  simp [Nat.min_eq_left hk]
theorem insAt_low (e : Ln.Ev) (out : List Ln.Ev) (k j : Nat) (hk : k ≤ out.length) (hj : j < k) : (insAt e out k)[j]? = some (out[j]'(by omega)) := by
  unfold insAt
  rw [List.getElem?_append_left (by simp; omega), List.getElem?_take_of_lt hj, List.getElem?_eq_getElem (by omega)]
theorem insAt_perm (e : Ln.Ev) (out : List Ln.Ev) (k : Nat) : (insAt e out k).Perm (e :: out) := by
  unfold insAt
  refine List.perm_middle.trans ?_
  rw [List.take_append_drop]

abbrev Ah (a b : Ln.Ev) : Prop := aheadB a b = true
theorem ah_iff (a b : Ln.Ev) : Ah a b ↔ a.d < b.d ∨ (a.d = b.d ∧ (a.k < b.k ∨ (a.k = b.k ∧ a.s < b.s))) := by
  unfold Ah aheadB
  by_cases h1 : a.d = b.d
  · by_cases h2 : a.k = b.k
    · simp [h1, h2]
    · simp [h1, h2]
  · simp [h1]
theorem ah_trans {a b c : Ln.Ev} (h : Ah a b) (k : Ah b c) : Ah a c := by
  rw [ah_iff] at *
  omega
theorem ah_total {a b : Ln.Ev} (h : ¬ a.s = b.s) : Ah a b ∨ Ah b a := by
  rw [ah_iff, ah_iff]
  omega
theorem ah_irrefl (a : Ln.Ev) : ¬ Ah a a := by
  rw [ah_iff]
  omega
theorem ins_sorted (e : Ln.Ev) (out : List Ln.Ev) (k : Nat) (hk : k ≤ out.length) (hs : out.Pairwise Ah) (hd : ∀ x ∈ out, ¬ x.s = e.s)
    (hi : ∀ j (hj : j < out.length), k ≤ j → Ah e out[j]) (hlo : k = 0 ∨ ∃ h : k - 1 < out.length, ¬ Ah e out[k - 1]) : (insAt e out k).Pairwise Ah := by
  unfold insAt
  have hp : (out.take k ++ out.drop k).Pairwise Ah := by rw [List.take_append_drop]; exact hs
  obtain ⟨p1, p2, p3⟩ := List.pairwise_append.1 hp
  have hlow : ∀ a ∈ out.take k, Ah a e := by
    intro a ha
    rcases hlo with rfl | ⟨h, hn⟩
    · simp at ha
    · have hk0 : k ≠ 0 := by
        intro h0
        subst h0
        simp at ha
      have hlast : Ah out[k - 1] e := by
        rcases ah_total (a := e) (b := out[k - 1]) (fun x => hd _ (List.getElem_mem h) x.symm) with x | x
        · exact absurd x hn
        · exact x
      obtain ⟨j, hj, rfl⟩ := List.getElem_of_mem ha
      have hj' : j < k := by simp at hj; omega
      rw [List.getElem_take]
      by_cases e1 : j = k - 1
      · subst e1
        exact hlast
      · exact ah_trans (List.pairwise_iff_getElem.1 hs j (k - 1) (by omega) h (by omega)) hlast
  refine List.pairwise_append.2 ⟨p1, List.pairwise_cons.2 ⟨?_, p2⟩, ?_⟩
  · intro b hb
    obtain ⟨j, hj, rfl⟩ := List.getElem_of_mem hb
    rw [List.getElem_drop]
    exact hi _ _ (by omega)
  · intro a ha b hb
    rcases List.mem_cons.1 hb with rfl | hb
    · exact hlow a ha
    · exact p3 a ha b hb
/-- Of events with different numbers there is one order. -/
theorem sorted_one : ∀ {l m : List Ln.Ev}, l.Perm m → l.Pairwise Ah → m.Pairwise Ah → l = m := by
  intro l m hp hl hm
  exact List.Perm.eq_of_pairwise (fun a b _ _ h1 h2 => absurd (ah_trans h1 h2) (ah_irrefl a)) hl hm hp

/-! ### Cells -/
theorem evs_append : ∀ (l m : List Ln.Ev), evs (l ++ m) = evs l ++ evs m
  | [], m => rfl
  | e :: r, m => by
    show _ :: _ :: _ :: _ :: evs (r ++ m) = _
    rw [evs_append r m]
    rfl
theorem evs_len : ∀ l : List Ln.Ev, (evs l).length = l.length * 4
  | [] => rfl
  | e :: r => by
    show (evs r).length + 1 + 1 + 1 + 1 = _
    rw [evs_len r]
    simp
    omega
theorem evs_set : ∀ (l : List Ln.Ev) (k : Nat) (_ : k < l.length) (e : Ln.Ev), ((((evs l).set (k * 4) (.int .i64 e.d)).set (k * 4 + 1) (.int .i64 e.k)).set (k * 4 + 2) (.int .i64 e.s)).set (k * 4 + 3) (.int .i64 e.a) = evs (l.set k e)
  | x :: r, 0, _, e => rfl
  | x :: r, k + 1, h, e => by
    have ih := evs_set r k (by simpa using h) e
    have e1 : (k + 1) * 4 = k * 4 + 1 + 1 + 1 + 1 := by omega
    rw [e1]
    show _ :: _ :: _ :: _ :: ((((evs r).set (k * 4) (.int .i64 e.d)).set (k * 4 + 1) (.int .i64 e.k)).set (k * 4 + 2) (.int .i64 e.s)).set (k * 4 + 3) (.int .i64 e.a) = _
    rw [ih]
    rfl
end Go.Proofs.YtanndhoimpnhpaaDoor.So
