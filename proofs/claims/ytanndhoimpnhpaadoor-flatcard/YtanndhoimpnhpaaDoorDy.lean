/- A loan's day, step by step: its bounds under way. -/
import Derived.Test.YtanndhoimpnhpaaDoorCan
namespace Go.Proofs.YtanndhoimpnhpaaDoor.Ln

theorem event_fn (n : Int) (y : Dy) (e : Ev) : (event n y e).g.fn = y.g.fn := by
  unfold event
  (repeat' split) <;> rfl
theorem events_fn (n : Int) : ∀ (l : List Ev) (y : Dy), (l.foldl (event n) y).g.fn = y.g.fn
  | [], _ => rfl
  | e :: r, y => (events_fn n r (event n y e)).trans (event_fn n y e)
theorem early_fn (t : Terms) (n cd : Int) (g : St) : (early t n cd g).g.fn = g.fn := by
  unfold early
  by_cases h : n = t.st
  · simp only [h, ne_eq, not_true, false_and, if_false, if_true]
    rfl
  · simp only [h, ne_eq, not_false_eq_true, true_and, if_false]
    split <;> rfl
theorem lent_nn {t : Terms} (n : Int) (e : Ev) (he : OkE t e) : 0 ≤ lent n e := by
  unfold lent
  have := he.a0
  split <;> omega
theorem lents_nn {t : Terms} (n : Int) : ∀ l : List Ev, (∀ e ∈ l, OkE t e) → 0 ≤ lents n l
  | [], _ => Int.le_refl _
  | e :: r, h => by
    have h1 := lent_nn n e (h e (by simp))
    have h2 := lents_nn n r (fun x hx => h x (by simp [hx]))
    show 0 ≤ lent n e + lents n r
    omega
theorem lents_append (n : Int) : ∀ l m : List Ev, lents n (l ++ m) = lents n l + lents n m
  | [], m => by simp [lents]
  | e :: r, m => by
    have := lents_append n r m
    show lent n e + lents n (r ++ m) = lent n e + lents n r + lents n m
    omega
theorem Am.events {t : Terms} (n : Int) : ∀ (l : List Ev) {y : Dy} {L : Int} {s : Nat}, Am y L → Inv t L s y.g → s ≤ 4320 → y.g.fn / den t ≤ 8000000000000000000 → L + lents n l ≤ 4100000000000 → (∀ e ∈ l, OkE t e) → Am (l.foldl (Ln.event n) y) (L + lents n l)
  | [], y, L, s, h, _, _, _, _, _ => by
    show Am y (L + 0)
    rw [Int.add_zero]
    exact h
  | e :: r, y, L, s, h, hI, hs, hf, hL, hl => by
    have he := hl e (by simp)
    have h1 := lent_nn n e he
    have h2 := lents_nn n r (fun x hx => hl x (by simp [hx]))
    have hL' : L + (lent n e + lents n r) ≤ 4100000000000 := hL
    have hfit := hI.fit hs (by omega) hf y.am
    have a1 := h.event hfit n e he
    have a2 := Am.events n r a1 (Inv.event hI n e he) hs (by rw [event_fn]; exact hf) (by omega) (fun x hx => hl x (by simp [hx]))
    have e3 : L + lent n e + lents n r = L + lents n (e :: r) := by show _ = L + (lent n e + lents n r); omega
    rw [e3] at a2
    exact a2
theorem Am.early {t : Terms} {n L : Int} {s : Nat} {g : St} (hI : Inv t L s g) (hs : s ≤ 4320) (hL : L + (if n = t.st then t.pr else 0) ≤ 4100000000000) (ht : OkT t) (cd : Int) : Am (Ln.early t n cd g) (L + (if n = t.st then t.pr else 0)) := by
  have hp := ht.pr0
  have hL0 := hI.L0
  have hb := hI.bound hs (by split at hL <;> omega)
  have g1 := hI.pr
  have g2 := hI.it
  have g3 := hI.du
  have g4 := hI.la
  have z : Am ⟨g, fun _ => 0⟩ L := Am.zero g L hL0 (by omega)
  unfold Ln.early
  by_cases h : n = t.st
  · simp only [h, ne_eq, not_true, false_and, if_false, if_true]
    exact z.lend t.pr hp
  · simp only [h, ne_eq, not_false_eq_true, true_and, if_false, Int.add_zero]
    split
    · refine ⟨fun j => ?_, ?_, ?_, ?_, ?_, fun j j5 j10 => ?_, ?_, ?_⟩
      · show 0 ≤ upd (upd (fun _ => 0) 2 g.du) 3 g.it j
        unfold upd
        dsimp only
        (repeat' split) <;> omega
      · show (0 : Int) ≤ L
        exact hL0
      · show 0 + g.du ≤ _
        omega
      · show 0 + g.it ≤ _
        omega
      · show 0 + (g.it - g.it) ≤ _
        omega
      · show upd (upd (fun _ => 0) 2 g.du) 3 g.it j ≤ L
        rw [upd_ne _ _ _ _ (by omega), upd_ne _ _ _ _ (by omega)]
        exact hL0
      · rfl
      · rfl
    · exact z
end Go.Proofs.YtanndhoimpnhpaaDoor.Ln
