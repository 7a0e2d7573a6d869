/- Are terms right? The program's answer. -/
import Derived.Test.YtanndhoimpnhpaaDoorPrL
namespace Go.Proofs.YtanndhoimpnhpaaDoor
open Go.RowKit Cal

theorem allow_yes (lo hi x : Int) (w : World) (h0 : lo ≤ x) (h1 : x ≤ hi) :
    Calls Tryd.prog 42 #[.agg #[.int .i64 lo, .int .i64 hi], .int .i64 x] w fun e w' => e = .returned (.bool true) ∧ Below w.heap.size w w' := by
  go_enter Tryd.func42, Tryd.ntmps42
  go_wp2
  go_ret
  exact ⟨rfl, (Below.refl _ _).alloc (Nat.le_refl _) _⟩
theorem allow_no (lo hi x : Int) (w : World) (h : x < lo ∨ hi < x) :
    Calls Tryd.prog 42 #[.agg #[.int .i64 lo, .int .i64 hi], .int .i64 x] w fun e w' => e = .returned (.bool false) ∧ Below w.heap.size w w' := by
  by_cases h0 : x < lo
  · have h0' : ¬ lo ≤ x := by omega
    go_enter Tryd.func42, Tryd.ntmps42
    go_wp2
    go_ret
    exact ⟨rfl, (Below.refl _ _).alloc (Nat.le_refl _) _⟩
  · have h0' : lo ≤ x := by omega
    have h1' : ¬ x ≤ hi := by omega
    go_enter Tryd.func42, Tryd.ntmps42
    go_wp2
    go_ret
    exact ⟨rfl, (Below.refl _ _).alloc (Nat.le_refl _) _⟩
theorem isBasis_all (b : Int) (w : World) (x : Bool) (hx : Hid (x = decide (1 ≤ b ∧ b ≤ 3))) :
    Calls Tryd.prog 35 #[.int .i64 b] w fun e w' => e = .returned (.bool x) ∧ w' = w := by
  by_cases h : 1 ≤ b ∧ b ≤ 3
  · obtain rfl : x = true := by rw [hx.out]; simp [h]
    clear hx
    rcases (show b = 1 ∨ b = 2 ∨ b = 3 by omega) with h3 | h3 | h3
    all_goals
      subst h3
      go_enter Tryd.func35, Tryd.ntmps35
      go_wp2
      go_ret
      exact ⟨rfl, rfl⟩
  · obtain rfl : x = false := by rw [hx.out]; simp; omega
    clear hx
    have e1 : (b == 1) = false := by simp; omega
    have e2 : (b == 2) = false := by simp; omega
    have e3 : (b == 3) = false := by simp; omega
    go_enter Tryd.func35, Tryd.ntmps35
    go_wp2
    go_ret
    exact ⟨rfl, rfl⟩

set_option maxRecDepth 10000 in
set_option maxHeartbeats 1000000 in
theorem right_core (t : Ln.Terms) (w : World) (x1 x2 x3 x4 x5 x6 : Bool)
    (h1 : ∀ W : World, Calls Tryd.prog 42 #[.agg #[.int .i64 0, .int .i64 105872], .int .i64 t.st] W fun e w' => e = .returned (.bool x1) ∧ Below W.heap.size W w')
    (h2 : ∀ W : World, Calls Tryd.prog 42 #[.agg #[.int .i64 0, .int .i64 100000000000], .int .i64 t.pr] W fun e w' => e = .returned (.bool x2) ∧ Below W.heap.size W w')
    (h3 : ∀ W : World, Calls Tryd.prog 42 #[.agg #[.int .i64 0, .int .i64 1000000], .int .i64 t.rt] W fun e w' => e = .returned (.bool x3) ∧ Below W.heap.size W w')
    (h4 : ∀ W : World, Calls Tryd.prog 42 #[.agg #[.int .i64 0, .int .i64 1000000], .int .i64 t.fi] W fun e w' => e = .returned (.bool x4) ∧ Below W.heap.size W w')
    (h5 : ∀ W : World, Calls Tryd.prog 35 #[.int .i64 t.ba] W fun e w' => e = .returned (.bool x5) ∧ w' = W)
    (h6 : ∀ W : World, Calls Tryd.prog 42 #[.agg #[.int .i64 1, .int .i64 28], .int .i64 t.du] W fun e w' => e = .returned (.bool x6) ∧ Below W.heap.size W w') :
    Calls Tryd.prog 37 #[tmV t] w fun e w' => e = .returned (.bool (x1 && x2 && x3 && x4 && x5 && x6)) ∧ Below w.heap.size w w' := by
  unfold tmV
  have a0 : At (w.alloc (.cells (tml t).toArray 41)) w.heap.size (tml t) := At.alloc w (tml t) _
  have b0 : Below w.heap.size w (w.alloc (.cells (tml t).toArray 41)) := (Below.refl _ _).alloc (Nat.le_refl _) _
  go_enter Tryd.func37, Tryd.ntmps37
  go_wp2_with fail
  refine (h1 _).mono ?_
  rintro e w1 ⟨rfl, hb1⟩
  clear h1
  have a1 : At w1 w.heap.size (tml t) := At.keep (S := fun _ => False) (v := .int .i64 t.st) a0 (Keep.below hb1) (fun x => x)
  have b1 : Below w.heap.size w w1 := b0.trans (hb1.mono b0.size)
  clear hb1 a0 b0
  have c1 : w1.cell? ⟨w.heap.size, 1, none⟩ = some (.int .i64 t.pr) := a1.cell 1 rfl
  cases x1
  · go_wp2
    go_ret
    exact ⟨rfl, b1⟩
  · go_wp2_with fail
    refine (h2 _).mono ?_
    rintro e w2 ⟨rfl, hb2⟩
    clear h2
    have a2 : At w2 w.heap.size (tml t) := At.keep (S := fun _ => False) (v := .int .i64 t.st) a1 (Keep.below hb2) (fun x => x)
    have b2 : Below w.heap.size w w2 := b1.trans (hb2.mono b1.size)
    clear hb2 a1 b1
    have c2 : w2.cell? ⟨w.heap.size, 2, none⟩ = some (.int .i64 t.rt) := a2.cell 2 rfl
    cases x2
    · go_wp2
      go_ret
      exact ⟨rfl, b2⟩
    · go_wp2_with fail
      refine (h3 _).mono ?_
      rintro e w3 ⟨rfl, hb3⟩
      clear h3
      have a3 : At w3 w.heap.size (tml t) := At.keep (S := fun _ => False) (v := .int .i64 t.st) a2 (Keep.below hb3) (fun x => x)
      have b3 : Below w.heap.size w w3 := b2.trans (hb3.mono b2.size)
      clear hb3 a2 b2
      have c3 : w3.cell? ⟨w.heap.size, 3, none⟩ = some (.int .i64 t.fi) := a3.cell 3 rfl
      cases x3
      · go_wp2
        go_ret
        exact ⟨rfl, b3⟩
      · go_wp2_with fail
        refine (h4 _).mono ?_
        rintro e w4 ⟨rfl, hb4⟩
        clear h4
        have a4 : At w4 w.heap.size (tml t) := At.keep (S := fun _ => False) (v := .int .i64 t.st) a3 (Keep.below hb4) (fun x => x)
        have b4 : Below w.heap.size w w4 := b3.trans (hb4.mono b3.size)
        clear hb4 a3 b3
        have c4 : w4.cell? ⟨w.heap.size, 4, none⟩ = some (.int .i64 t.ba) := a4.cell 4 rfl
        cases x4
        · go_wp2
          go_ret
          exact ⟨rfl, b4⟩
        · go_wp2_with fail
          refine (h5 _).mono ?_
          rintro e w5 ⟨rfl, rfl⟩
          clear h5
          have a5 := a4
          have b5 := b4
          have c5 : w5.cell? ⟨w.heap.size, 5, none⟩ = some (.int .i64 t.du) := a5.cell 5 rfl
          cases x5
          · go_wp2
            go_ret
            exact ⟨rfl, b5⟩
          · go_wp2_with fail
            refine (h6 _).mono ?_
            rintro e w6 ⟨rfl, hb6⟩
            clear h6
            have a6 : At w6 w.heap.size (tml t) := At.keep (S := fun _ => False) (v := .int .i64 t.st) a5 (Keep.below hb6) (fun x => x)
            have b6 : Below w.heap.size w w6 := b5.trans (hb6.mono b5.size)
            clear hb6 a5 b5
            go_wp2
            go_ret
            exact ⟨rfl, b6⟩

/-- Are the terms right? -/
def rtB (t : Ln.Terms) : Bool := decide (0 ≤ t.st ∧ t.st ≤ 105872) && decide (0 ≤ t.pr ∧ t.pr ≤ 100000000000) && decide (0 ≤ t.rt ∧ t.rt ≤ 1000000) && decide (0 ≤ t.fi ∧ t.fi ≤ 1000000) && decide (1 ≤ t.ba ∧ t.ba ≤ 3) && decide (1 ≤ t.du ∧ t.du ≤ 28)
theorem allow_any (lo hi x : Int) (w : World) :
    Calls Tryd.prog 42 #[.agg #[.int .i64 lo, .int .i64 hi], .int .i64 x] w fun e w' => e = .returned (.bool (decide (lo ≤ x ∧ x ≤ hi))) ∧ Below w.heap.size w w' := by
  by_cases h : lo ≤ x ∧ x ≤ hi
  · rw [decide_eq_true h]
    exact allow_yes lo hi x w h.1 h.2
  · rw [decide_eq_false h]
    exact allow_no lo hi x w (by omega)
theorem right_any (t : Ln.Terms) (w : World) :
    Calls Tryd.prog 37 #[tmV t] w fun e w' => e = .returned (.bool (rtB t)) ∧ Below w.heap.size w w' :=
  right_core t w _ _ _ _ _ _ (fun W => allow_any _ _ _ W) (fun W => allow_any _ _ _ W) (fun W => allow_any _ _ _ W) (fun W => allow_any _ _ _ W) (fun W => isBasis_all _ W _ rfl) (fun W => allow_any _ _ _ W)
end Go.Proofs.YtanndhoimpnhpaaDoor
