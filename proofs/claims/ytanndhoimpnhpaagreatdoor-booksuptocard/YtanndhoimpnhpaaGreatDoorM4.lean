/- Joined by program: LnC, LnD, LnF, Cal, CalA0. -/
import Derived.Test.YtanndhoimpnhpaaGreatDoorM3
import Derived.Test.YtanndhoimpnhpaaGreatDoorM1
import Derived.Deep.QuietTactic
import Derived.BigQuiet
import Derived.WalkSmall
import Derived.Test.YtanndhoimpnhpaaGreatDoorChecked
import Derived.WalkKit
import Derived.ProofKit
import Derived.OpenShut
import Derived.Below
/- What the document's enter does: an entry's amount, more, and the two things that it changes. -/
namespace Go.Proofs.YtanndhoimpnhpaaGreatDoor
open Go.ChangeShapes Go.WideShapes Go.ChangeAt Go.RowKit Lg

/-- The cells of a Going: terms, balance, two long numbers, free, amounts. -/
def gl (t : Ln.Terms) (g : Ln.St) (dy : Int) (ev fv av : Value) : List Value :=
  [.int .i64 t.st, .int .i64 t.pr, .int .i64 t.rt, .int .i64 t.fi, .int .i64 t.ba, .int .i64 t.du, .int .i64 g.pr, .int .i64 g.it, .int .i64 g.du, .int .i64 g.la, .int .i64 g.fi, .int .i64 g.cr, .int .i64 g.rt, .int .i64 dy, ev, fv, .int .i64 g.fr, av]
/-- The cells of a day's amounts. -/
def al (am : Nat → Int) : List Value :=
  [.int .i64 (am 0), .int .i64 (am 1), .int .i64 (am 2), .int .i64 (am 3), .int .i64 (am 4), .int .i64 (am 5), .int .i64 (am 6), .int .i64 (am 7), .int .i64 (am 8), .int .i64 (am 9), .int .i64 (am 10), .int .i64 (am 11), .int .i64 (am 12)]
/-- A Going in memory, with a day's amounts. -/
structure Gon (w : World) (G A : Nat) (t : Ln.Terms) (y : Ln.Dy) (dy : Int) (ev fv : Value) : Prop where
  ne : ¬ A = G
  cap : ∃ cap, At w G (gl t y.g dy ev fv (.slice (some ⟨A, 0, none⟩) 13 cap))
  amt : At w A (al y.am)

set_option maxRecDepth 10000 in
set_option maxHeartbeats 1000000 in
theorem enter_1 (G A cap : Nat) (x a : Int) (pr : Int) (pr0 : 0 ≤ pr) (pr1 : pr ≤ 8000000000000000000) (w : World) (_hGA : ¬ A = G) (_hAG : ¬ G = A) (a0 : 0 ≤ a) (x0 : 0 ≤ x) (x1 : x + a ≤ 9000000000000000000) (pr2 : pr + a ≤ 9000000000000000000)
    (hS : w.cell? ⟨G, 17, none⟩ = some (.slice (some ⟨A, 0, none⟩) 13 cap)) (hA : w.cell? ⟨A, 1, none⟩ = some (.int .i64 x)) (hAf : w.frozen? ⟨A, 1, none⟩ = false) (c_pr : w.cell? ⟨G, 6, none⟩ = some (.int .i64 pr)) (z_pr : w.frozen? ⟨G, 6, none⟩ = false) :
    Calls Tryz.prog 119 #[.pointer (some ⟨G, 0, none⟩), .int .i64 1, .int .i64 a] w fun e w' => e = .returned (.tuple #[]) ∧ w' = ((w.setCell ⟨A, 1, none⟩ (.int .i64 (x + a))).setCell ⟨G, 6, none⟩ (.int .i64 (pr + a))).drew := by
  go_enter Tryz.func119, Tryz.ntmps119
  go_wp2
  go_region
  go_wp2
  go_end0
  exact ⟨rfl, rfl⟩
set_option maxRecDepth 10000 in
set_option maxHeartbeats 1000000 in
theorem enter_2 (G A cap : Nat) (x a : Int) (la : Int) (la0 : 0 ≤ la) (la1 : la ≤ 8000000000000000000) (du : Int) (du0 : 0 ≤ du) (du1 : du ≤ 8000000000000000000) (w : World) (_hGA : ¬ A = G) (_hAG : ¬ G = A) (a0 : 0 ≤ a) (x0 : 0 ≤ x) (x1 : x + a ≤ 9000000000000000000) (la2 : la + a ≤ 9000000000000000000) (du2 : a ≤ du)
    (hS : w.cell? ⟨G, 17, none⟩ = some (.slice (some ⟨A, 0, none⟩) 13 cap)) (hA : w.cell? ⟨A, 2, none⟩ = some (.int .i64 x)) (hAf : w.frozen? ⟨A, 2, none⟩ = false) (c_la : w.cell? ⟨G, 9, none⟩ = some (.int .i64 la)) (z_la : w.frozen? ⟨G, 9, none⟩ = false) (c_du : w.cell? ⟨G, 8, none⟩ = some (.int .i64 du)) (z_du : w.frozen? ⟨G, 8, none⟩ = false) :
    Calls Tryz.prog 119 #[.pointer (some ⟨G, 0, none⟩), .int .i64 2, .int .i64 a] w fun e w' => e = .returned (.tuple #[]) ∧ w' = (((w.setCell ⟨A, 2, none⟩ (.int .i64 (x + a))).setCell ⟨G, 9, none⟩ (.int .i64 (la + a))).setCell ⟨G, 8, none⟩ (.int .i64 (du - a))).drew := by
  go_enter Tryz.func119, Tryz.ntmps119
  go_wp2
  go_region
  go_wp2
  go_end0
  exact ⟨rfl, rfl⟩
set_option maxRecDepth 10000 in
set_option maxHeartbeats 1000000 in
theorem enter_3 (G A cap : Nat) (x a : Int) (du : Int) (du0 : 0 ≤ du) (du1 : du ≤ 8000000000000000000) (it : Int) (it0 : 0 ≤ it) (it1 : it ≤ 8000000000000000000) (w : World) (_hGA : ¬ A = G) (_hAG : ¬ G = A) (a0 : 0 ≤ a) (x0 : 0 ≤ x) (x1 : x + a ≤ 9000000000000000000) (du2 : du + a ≤ 9000000000000000000) (it2 : a ≤ it)
    (hS : w.cell? ⟨G, 17, none⟩ = some (.slice (some ⟨A, 0, none⟩) 13 cap)) (hA : w.cell? ⟨A, 3, none⟩ = some (.int .i64 x)) (hAf : w.frozen? ⟨A, 3, none⟩ = false) (c_du : w.cell? ⟨G, 8, none⟩ = some (.int .i64 du)) (z_du : w.frozen? ⟨G, 8, none⟩ = false) (c_it : w.cell? ⟨G, 7, none⟩ = some (.int .i64 it)) (z_it : w.frozen? ⟨G, 7, none⟩ = false) :
    Calls Tryz.prog 119 #[.pointer (some ⟨G, 0, none⟩), .int .i64 3, .int .i64 a] w fun e w' => e = .returned (.tuple #[]) ∧ w' = (((w.setCell ⟨A, 3, none⟩ (.int .i64 (x + a))).setCell ⟨G, 8, none⟩ (.int .i64 (du + a))).setCell ⟨G, 7, none⟩ (.int .i64 (it - a))).drew := by
  go_enter Tryz.func119, Tryz.ntmps119
  go_wp2
  go_region
  go_wp2
  go_end0
  exact ⟨rfl, rfl⟩
set_option maxRecDepth 10000 in
set_option maxHeartbeats 1000000 in
theorem enter_4 (G A cap : Nat) (x a : Int) (pr : Int) (pr0 : 0 ≤ pr) (pr1 : pr ≤ 8000000000000000000) (it : Int) (it0 : 0 ≤ it) (it1 : it ≤ 8000000000000000000) (w : World) (_hGA : ¬ A = G) (_hAG : ¬ G = A) (a0 : 0 ≤ a) (x0 : 0 ≤ x) (x1 : x + a ≤ 9000000000000000000) (pr2 : pr + a ≤ 9000000000000000000) (it2 : a ≤ it)
    (hS : w.cell? ⟨G, 17, none⟩ = some (.slice (some ⟨A, 0, none⟩) 13 cap)) (hA : w.cell? ⟨A, 4, none⟩ = some (.int .i64 x)) (hAf : w.frozen? ⟨A, 4, none⟩ = false) (c_pr : w.cell? ⟨G, 6, none⟩ = some (.int .i64 pr)) (z_pr : w.frozen? ⟨G, 6, none⟩ = false) (c_it : w.cell? ⟨G, 7, none⟩ = some (.int .i64 it)) (z_it : w.frozen? ⟨G, 7, none⟩ = false) :
    Calls Tryz.prog 119 #[.pointer (some ⟨G, 0, none⟩), .int .i64 4, .int .i64 a] w fun e w' => e = .returned (.tuple #[]) ∧ w' = (((w.setCell ⟨A, 4, none⟩ (.int .i64 (x + a))).setCell ⟨G, 6, none⟩ (.int .i64 (pr + a))).setCell ⟨G, 7, none⟩ (.int .i64 (it - a))).drew := by
  go_enter Tryz.func119, Tryz.ntmps119
  go_wp2
  go_region
  go_wp2
  go_end0
  exact ⟨rfl, rfl⟩
set_option maxRecDepth 10000 in
set_option maxHeartbeats 1000000 in
theorem enter_5 (G A cap : Nat) (x a : Int) (fi : Int) (fi0 : 0 ≤ fi) (fi1 : fi ≤ 8000000000000000000) (w : World) (_hGA : ¬ A = G) (_hAG : ¬ G = A) (a0 : 0 ≤ a) (x0 : 0 ≤ x) (x1 : x + a ≤ 9000000000000000000) (fi2 : a ≤ fi)
    (hS : w.cell? ⟨G, 17, none⟩ = some (.slice (some ⟨A, 0, none⟩) 13 cap)) (hA : w.cell? ⟨A, 5, none⟩ = some (.int .i64 x)) (hAf : w.frozen? ⟨A, 5, none⟩ = false) (c_fi : w.cell? ⟨G, 10, none⟩ = some (.int .i64 fi)) (z_fi : w.frozen? ⟨G, 10, none⟩ = false) :
    Calls Tryz.prog 119 #[.pointer (some ⟨G, 0, none⟩), .int .i64 5, .int .i64 a] w fun e w' => e = .returned (.tuple #[]) ∧ w' = ((w.setCell ⟨A, 5, none⟩ (.int .i64 (x + a))).setCell ⟨G, 10, none⟩ (.int .i64 (fi - a))).drew := by
  go_enter Tryz.func119, Tryz.ntmps119
  go_wp2
  go_region
  go_wp2
  go_end0
  exact ⟨rfl, rfl⟩
set_option maxRecDepth 10000 in
set_option maxHeartbeats 1000000 in
theorem enter_6 (G A cap : Nat) (x a : Int) (la : Int) (la0 : 0 ≤ la) (la1 : la ≤ 8000000000000000000) (w : World) (_hGA : ¬ A = G) (_hAG : ¬ G = A) (a0 : 0 ≤ a) (x0 : 0 ≤ x) (x1 : x + a ≤ 9000000000000000000) (la2 : a ≤ la)
    (hS : w.cell? ⟨G, 17, none⟩ = some (.slice (some ⟨A, 0, none⟩) 13 cap)) (hA : w.cell? ⟨A, 6, none⟩ = some (.int .i64 x)) (hAf : w.frozen? ⟨A, 6, none⟩ = false) (c_la : w.cell? ⟨G, 9, none⟩ = some (.int .i64 la)) (z_la : w.frozen? ⟨G, 9, none⟩ = false) :
    Calls Tryz.prog 119 #[.pointer (some ⟨G, 0, none⟩), .int .i64 6, .int .i64 a] w fun e w' => e = .returned (.tuple #[]) ∧ w' = ((w.setCell ⟨A, 6, none⟩ (.int .i64 (x + a))).setCell ⟨G, 9, none⟩ (.int .i64 (la - a))).drew := by
  go_enter Tryz.func119, Tryz.ntmps119
  go_wp2
  go_region
  go_wp2
  go_end0
  exact ⟨rfl, rfl⟩
set_option maxRecDepth 10000 in
set_option maxHeartbeats 1000000 in
theorem enter_7 (G A cap : Nat) (x a : Int) (du : Int) (du0 : 0 ≤ du) (du1 : du ≤ 8000000000000000000) (w : World) (_hGA : ¬ A = G) (_hAG : ¬ G = A) (a0 : 0 ≤ a) (x0 : 0 ≤ x) (x1 : x + a ≤ 9000000000000000000) (du2 : a ≤ du)
    (hS : w.cell? ⟨G, 17, none⟩ = some (.slice (some ⟨A, 0, none⟩) 13 cap)) (hA : w.cell? ⟨A, 7, none⟩ = some (.int .i64 x)) (hAf : w.frozen? ⟨A, 7, none⟩ = false) (c_du : w.cell? ⟨G, 8, none⟩ = some (.int .i64 du)) (z_du : w.frozen? ⟨G, 8, none⟩ = false) :
    Calls Tryz.prog 119 #[.pointer (some ⟨G, 0, none⟩), .int .i64 7, .int .i64 a] w fun e w' => e = .returned (.tuple #[]) ∧ w' = ((w.setCell ⟨A, 7, none⟩ (.int .i64 (x + a))).setCell ⟨G, 8, none⟩ (.int .i64 (du - a))).drew := by
  go_enter Tryz.func119, Tryz.ntmps119
  go_wp2
  go_region
  go_wp2
  go_end0
  exact ⟨rfl, rfl⟩
set_option maxRecDepth 10000 in
set_option maxHeartbeats 1000000 in
theorem enter_8 (G A cap : Nat) (x a : Int) (it : Int) (it0 : 0 ≤ it) (it1 : it ≤ 8000000000000000000) (w : World) (_hGA : ¬ A = G) (_hAG : ¬ G = A) (a0 : 0 ≤ a) (x0 : 0 ≤ x) (x1 : x + a ≤ 9000000000000000000) (it2 : a ≤ it)
    (hS : w.cell? ⟨G, 17, none⟩ = some (.slice (some ⟨A, 0, none⟩) 13 cap)) (hA : w.cell? ⟨A, 8, none⟩ = some (.int .i64 x)) (hAf : w.frozen? ⟨A, 8, none⟩ = false) (c_it : w.cell? ⟨G, 7, none⟩ = some (.int .i64 it)) (z_it : w.frozen? ⟨G, 7, none⟩ = false) :
    Calls Tryz.prog 119 #[.pointer (some ⟨G, 0, none⟩), .int .i64 8, .int .i64 a] w fun e w' => e = .returned (.tuple #[]) ∧ w' = ((w.setCell ⟨A, 8, none⟩ (.int .i64 (x + a))).setCell ⟨G, 7, none⟩ (.int .i64 (it - a))).drew := by
  go_enter Tryz.func119, Tryz.ntmps119
  go_wp2
  go_region
  go_wp2
  go_end0
  exact ⟨rfl, rfl⟩
set_option maxRecDepth 10000 in
set_option maxHeartbeats 1000000 in
theorem enter_9 (G A cap : Nat) (x a : Int) (pr : Int) (pr0 : 0 ≤ pr) (pr1 : pr ≤ 8000000000000000000) (w : World) (_hGA : ¬ A = G) (_hAG : ¬ G = A) (a0 : 0 ≤ a) (x0 : 0 ≤ x) (x1 : x + a ≤ 9000000000000000000) (pr2 : a ≤ pr)
    (hS : w.cell? ⟨G, 17, none⟩ = some (.slice (some ⟨A, 0, none⟩) 13 cap)) (hA : w.cell? ⟨A, 9, none⟩ = some (.int .i64 x)) (hAf : w.frozen? ⟨A, 9, none⟩ = false) (c_pr : w.cell? ⟨G, 6, none⟩ = some (.int .i64 pr)) (z_pr : w.frozen? ⟨G, 6, none⟩ = false) :
    Calls Tryz.prog 119 #[.pointer (some ⟨G, 0, none⟩), .int .i64 9, .int .i64 a] w fun e w' => e = .returned (.tuple #[]) ∧ w' = ((w.setCell ⟨A, 9, none⟩ (.int .i64 (x + a))).setCell ⟨G, 6, none⟩ (.int .i64 (pr - a))).drew := by
  go_enter Tryz.func119, Tryz.ntmps119
  go_wp2
  go_region
  go_wp2
  go_end0
  exact ⟨rfl, rfl⟩
set_option maxRecDepth 10000 in
set_option maxHeartbeats 1000000 in
theorem enter_10 (G A cap : Nat) (x a : Int) (cr : Int) (cr0 : 0 ≤ cr) (cr1 : cr ≤ 8000000000000000000) (w : World) (_hGA : ¬ A = G) (_hAG : ¬ G = A) (a0 : 0 ≤ a) (x0 : 0 ≤ x) (x1 : x + a ≤ 9000000000000000000) (cr2 : cr + a ≤ 9000000000000000000)
    (hS : w.cell? ⟨G, 17, none⟩ = some (.slice (some ⟨A, 0, none⟩) 13 cap)) (hA : w.cell? ⟨A, 10, none⟩ = some (.int .i64 x)) (hAf : w.frozen? ⟨A, 10, none⟩ = false) (c_cr : w.cell? ⟨G, 11, none⟩ = some (.int .i64 cr)) (z_cr : w.frozen? ⟨G, 11, none⟩ = false) :
    Calls Tryz.prog 119 #[.pointer (some ⟨G, 0, none⟩), .int .i64 10, .int .i64 a] w fun e w' => e = .returned (.tuple #[]) ∧ w' = ((w.setCell ⟨A, 10, none⟩ (.int .i64 (x + a))).setCell ⟨G, 11, none⟩ (.int .i64 (cr + a))).drew := by
  go_enter Tryz.func119, Tryz.ntmps119
  go_wp2
  go_region
  go_wp2
  go_end0
  exact ⟨rfl, rfl⟩
set_option maxRecDepth 10000 in
set_option maxHeartbeats 1000000 in
theorem enter_11 (G A cap : Nat) (x a : Int) (it : Int) (it0 : 0 ≤ it) (it1 : it ≤ 8000000000000000000) (w : World) (_hGA : ¬ A = G) (_hAG : ¬ G = A) (a0 : 0 ≤ a) (x0 : 0 ≤ x) (x1 : x + a ≤ 9000000000000000000) (it2 : it + a ≤ 9000000000000000000)
    (hS : w.cell? ⟨G, 17, none⟩ = some (.slice (some ⟨A, 0, none⟩) 13 cap)) (hA : w.cell? ⟨A, 11, none⟩ = some (.int .i64 x)) (hAf : w.frozen? ⟨A, 11, none⟩ = false) (c_it : w.cell? ⟨G, 7, none⟩ = some (.int .i64 it)) (z_it : w.frozen? ⟨G, 7, none⟩ = false) :
    Calls Tryz.prog 119 #[.pointer (some ⟨G, 0, none⟩), .int .i64 11, .int .i64 a] w fun e w' => e = .returned (.tuple #[]) ∧ w' = ((w.setCell ⟨A, 11, none⟩ (.int .i64 (x + a))).setCell ⟨G, 7, none⟩ (.int .i64 (it + a))).drew := by
  go_enter Tryz.func119, Tryz.ntmps119
  go_wp2
  go_region
  go_wp2
  go_end0
  exact ⟨rfl, rfl⟩
set_option maxRecDepth 10000 in
set_option maxHeartbeats 1000000 in
theorem enter_12 (G A cap : Nat) (x a : Int) (fi : Int) (fi0 : 0 ≤ fi) (fi1 : fi ≤ 8000000000000000000) (w : World) (_hGA : ¬ A = G) (_hAG : ¬ G = A) (a0 : 0 ≤ a) (x0 : 0 ≤ x) (x1 : x + a ≤ 9000000000000000000) (fi2 : fi + a ≤ 9000000000000000000)
    (hS : w.cell? ⟨G, 17, none⟩ = some (.slice (some ⟨A, 0, none⟩) 13 cap)) (hA : w.cell? ⟨A, 12, none⟩ = some (.int .i64 x)) (hAf : w.frozen? ⟨A, 12, none⟩ = false) (c_fi : w.cell? ⟨G, 10, none⟩ = some (.int .i64 fi)) (z_fi : w.frozen? ⟨G, 10, none⟩ = false) :
    Calls Tryz.prog 119 #[.pointer (some ⟨G, 0, none⟩), .int .i64 12, .int .i64 a] w fun e w' => e = .returned (.tuple #[]) ∧ w' = ((w.setCell ⟨A, 12, none⟩ (.int .i64 (x + a))).setCell ⟨G, 10, none⟩ (.int .i64 (fi + a))).drew := by
  go_enter Tryz.func119, Tryz.ntmps119
  go_wp2
  go_region
  go_wp2
  go_end0
  exact ⟨rfl, rfl⟩

set_option maxRecDepth 10000 in
theorem enter_any (w : World) (G A : Nat) (t : Ln.Terms) (y : Ln.Dy) (dy : Int) (ev fv : Value) (h : Gon w G A t y dy ev fv) (hf : Ln.Fit y) (k : Nat) (a : Int) (hc : Ln.CanEnter y k a) :
    Calls Tryz.prog 119 #[.pointer (some ⟨G, 0, none⟩), .int .i64 k, .int .i64 a] w fun e w' => e = .returned (.tuple #[]) ∧ Gon w' G A t (Ln.enter y k a) dy ev fv ∧ Keep (fun b => b = G ∨ b = A) w w' := by
  obtain ⟨hne, ⟨cap, hG⟩, hA⟩ := h
  have hne' : ¬ G = A := fun e => hne e.symm
  obtain ⟨a0, x0, x1, hm⟩ := hc
  match k, x0, x1, hm with
  | 1, x0, x1, m0 =>
    refine (enter_1 G A cap (y.am 1) a y.g.pr hf.pr0 (by have := hf.pr1; omega) w hne hne' a0 x0 x1 m0 (hG.cell 17 rfl) (hA.cell 1 rfl) (hA.free 1 rfl) (hG.cell 6 rfl) (hG.free 6 rfl)).mono ?_
    rintro e w' ⟨rfl, rfl⟩
    exact ⟨rfl, ⟨hne, ⟨cap, ((hG.other hne 1 _).set 6 (show 6 < 18 by decide) (.int .i64 (y.g.pr + a))).drew⟩, ((hA.set 1 (show 1 < 13 by decide) (.int .i64 (y.am 1 + a))).other hne' 6 _).drew⟩, (((Keep.refl _ w).set (S := fun b => b = G ∨ b = A) (Or.inr rfl) 1 _).set (Or.inl rfl) 6 _).drew⟩
  | 2, x0, x1, ⟨m0, m1⟩ =>
    refine (enter_2 G A cap (y.am 2) a y.g.la hf.la0 (by have := hf.la1; omega) y.g.du hf.du0 (by have := hf.du1; omega) w hne hne' a0 x0 x1 m0 m1 (hG.cell 17 rfl) (hA.cell 2 rfl) (hA.free 2 rfl) (hG.cell 9 rfl) (hG.free 9 rfl) (hG.cell 8 rfl) (hG.free 8 rfl)).mono ?_
    rintro e w' ⟨rfl, rfl⟩
    exact ⟨rfl, ⟨hne, ⟨cap, (((hG.other hne 2 _).set 9 (show 9 < 18 by decide) (.int .i64 (y.g.la + a))).set 8 (show 8 < 18 by decide) (.int .i64 (y.g.du - a))).drew⟩, (((hA.set 2 (show 2 < 13 by decide) (.int .i64 (y.am 2 + a))).other hne' 9 _).other hne' 8 _).drew⟩, ((((Keep.refl _ w).set (S := fun b => b = G ∨ b = A) (Or.inr rfl) 2 _).set (Or.inl rfl) 9 _).set (Or.inl rfl) 8 _).drew⟩
  | 3, x0, x1, ⟨m0, m1⟩ =>
    refine (enter_3 G A cap (y.am 3) a y.g.du hf.du0 (by have := hf.du1; omega) y.g.it hf.it0 (by have := hf.it1; omega) w hne hne' a0 x0 x1 m0 m1 (hG.cell 17 rfl) (hA.cell 3 rfl) (hA.free 3 rfl) (hG.cell 8 rfl) (hG.free 8 rfl) (hG.cell 7 rfl) (hG.free 7 rfl)).mono ?_
    rintro e w' ⟨rfl, rfl⟩
    exact ⟨rfl, ⟨hne, ⟨cap, (((hG.other hne 3 _).set 8 (show 8 < 18 by decide) (.int .i64 (y.g.du + a))).set 7 (show 7 < 18 by decide) (.int .i64 (y.g.it - a))).drew⟩, (((hA.set 3 (show 3 < 13 by decide) (.int .i64 (y.am 3 + a))).other hne' 8 _).other hne' 7 _).drew⟩, ((((Keep.refl _ w).set (S := fun b => b = G ∨ b = A) (Or.inr rfl) 3 _).set (Or.inl rfl) 8 _).set (Or.inl rfl) 7 _).drew⟩
  | 4, x0, x1, ⟨m0, m1⟩ =>
    refine (enter_4 G A cap (y.am 4) a y.g.pr hf.pr0 (by have := hf.pr1; omega) y.g.it hf.it0 (by have := hf.it1; omega) w hne hne' a0 x0 x1 m0 m1 (hG.cell 17 rfl) (hA.cell 4 rfl) (hA.free 4 rfl) (hG.cell 6 rfl) (hG.free 6 rfl) (hG.cell 7 rfl) (hG.free 7 rfl)).mono ?_
    rintro e w' ⟨rfl, rfl⟩
    exact ⟨rfl, ⟨hne, ⟨cap, (((hG.other hne 4 _).set 6 (show 6 < 18 by decide) (.int .i64 (y.g.pr + a))).set 7 (show 7 < 18 by decide) (.int .i64 (y.g.it - a))).drew⟩, (((hA.set 4 (show 4 < 13 by decide) (.int .i64 (y.am 4 + a))).other hne' 6 _).other hne' 7 _).drew⟩, ((((Keep.refl _ w).set (S := fun b => b = G ∨ b = A) (Or.inr rfl) 4 _).set (Or.inl rfl) 6 _).set (Or.inl rfl) 7 _).drew⟩
  | 5, x0, x1, m0 =>
    refine (enter_5 G A cap (y.am 5) a y.g.fi hf.fi0 (by have := hf.fi1; omega) w hne hne' a0 x0 x1 m0 (hG.cell 17 rfl) (hA.cell 5 rfl) (hA.free 5 rfl) (hG.cell 10 rfl) (hG.free 10 rfl)).mono ?_
    rintro e w' ⟨rfl, rfl⟩
    exact ⟨rfl, ⟨hne, ⟨cap, ((hG.other hne 5 _).set 10 (show 10 < 18 by decide) (.int .i64 (y.g.fi - a))).drew⟩, ((hA.set 5 (show 5 < 13 by decide) (.int .i64 (y.am 5 + a))).other hne' 10 _).drew⟩, (((Keep.refl _ w).set (S := fun b => b = G ∨ b = A) (Or.inr rfl) 5 _).set (Or.inl rfl) 10 _).drew⟩
  | 6, x0, x1, m0 =>
    refine (enter_6 G A cap (y.am 6) a y.g.la hf.la0 (by have := hf.la1; omega) w hne hne' a0 x0 x1 m0 (hG.cell 17 rfl) (hA.cell 6 rfl) (hA.free 6 rfl) (hG.cell 9 rfl) (hG.free 9 rfl)).mono ?_
    rintro e w' ⟨rfl, rfl⟩
    exact ⟨rfl, ⟨hne, ⟨cap, ((hG.other hne 6 _).set 9 (show 9 < 18 by decide) (.int .i64 (y.g.la - a))).drew⟩, ((hA.set 6 (show 6 < 13 by decide) (.int .i64 (y.am 6 + a))).other hne' 9 _).drew⟩, (((Keep.refl _ w).set (S := fun b => b = G ∨ b = A) (Or.inr rfl) 6 _).set (Or.inl rfl) 9 _).drew⟩
  | 7, x0, x1, m0 =>
    refine (enter_7 G A cap (y.am 7) a y.g.du hf.du0 (by have := hf.du1; omega) w hne hne' a0 x0 x1 m0 (hG.cell 17 rfl) (hA.cell 7 rfl) (hA.free 7 rfl) (hG.cell 8 rfl) (hG.free 8 rfl)).mono ?_
    rintro e w' ⟨rfl, rfl⟩
    exact ⟨rfl, ⟨hne, ⟨cap, ((hG.other hne 7 _).set 8 (show 8 < 18 by decide) (.int .i64 (y.g.du - a))).drew⟩, ((hA.set 7 (show 7 < 13 by decide) (.int .i64 (y.am 7 + a))).other hne' 8 _).drew⟩, (((Keep.refl _ w).set (S := fun b => b = G ∨ b = A) (Or.inr rfl) 7 _).set (Or.inl rfl) 8 _).drew⟩
  | 8, x0, x1, m0 =>
    refine (enter_8 G A cap (y.am 8) a y.g.it hf.it0 (by have := hf.it1; omega) w hne hne' a0 x0 x1 m0 (hG.cell 17 rfl) (hA.cell 8 rfl) (hA.free 8 rfl) (hG.cell 7 rfl) (hG.free 7 rfl)).mono ?_
    rintro e w' ⟨rfl, rfl⟩
    exact ⟨rfl, ⟨hne, ⟨cap, ((hG.other hne 8 _).set 7 (show 7 < 18 by decide) (.int .i64 (y.g.it - a))).drew⟩, ((hA.set 8 (show 8 < 13 by decide) (.int .i64 (y.am 8 + a))).other hne' 7 _).drew⟩, (((Keep.refl _ w).set (S := fun b => b = G ∨ b = A) (Or.inr rfl) 8 _).set (Or.inl rfl) 7 _).drew⟩
  | 9, x0, x1, m0 =>
    refine (enter_9 G A cap (y.am 9) a y.g.pr hf.pr0 (by have := hf.pr1; omega) w hne hne' a0 x0 x1 m0 (hG.cell 17 rfl) (hA.cell 9 rfl) (hA.free 9 rfl) (hG.cell 6 rfl) (hG.free 6 rfl)).mono ?_
    rintro e w' ⟨rfl, rfl⟩
    exact ⟨rfl, ⟨hne, ⟨cap, ((hG.other hne 9 _).set 6 (show 6 < 18 by decide) (.int .i64 (y.g.pr - a))).drew⟩, ((hA.set 9 (show 9 < 13 by decide) (.int .i64 (y.am 9 + a))).other hne' 6 _).drew⟩, (((Keep.refl _ w).set (S := fun b => b = G ∨ b = A) (Or.inr rfl) 9 _).set (Or.inl rfl) 6 _).drew⟩
  | 10, x0, x1, m0 =>
    refine (enter_10 G A cap (y.am 10) a y.g.cr hf.cr0 (by have := hf.cr1; omega) w hne hne' a0 x0 x1 m0 (hG.cell 17 rfl) (hA.cell 10 rfl) (hA.free 10 rfl) (hG.cell 11 rfl) (hG.free 11 rfl)).mono ?_
    rintro e w' ⟨rfl, rfl⟩
    exact ⟨rfl, ⟨hne, ⟨cap, ((hG.other hne 10 _).set 11 (show 11 < 18 by decide) (.int .i64 (y.g.cr + a))).drew⟩, ((hA.set 10 (show 10 < 13 by decide) (.int .i64 (y.am 10 + a))).other hne' 11 _).drew⟩, (((Keep.refl _ w).set (S := fun b => b = G ∨ b = A) (Or.inr rfl) 10 _).set (Or.inl rfl) 11 _).drew⟩
  | 11, x0, x1, m0 =>
    refine (enter_11 G A cap (y.am 11) a y.g.it hf.it0 (by have := hf.it1; omega) w hne hne' a0 x0 x1 m0 (hG.cell 17 rfl) (hA.cell 11 rfl) (hA.free 11 rfl) (hG.cell 7 rfl) (hG.free 7 rfl)).mono ?_
    rintro e w' ⟨rfl, rfl⟩
    exact ⟨rfl, ⟨hne, ⟨cap, ((hG.other hne 11 _).set 7 (show 7 < 18 by decide) (.int .i64 (y.g.it + a))).drew⟩, ((hA.set 11 (show 11 < 13 by decide) (.int .i64 (y.am 11 + a))).other hne' 7 _).drew⟩, (((Keep.refl _ w).set (S := fun b => b = G ∨ b = A) (Or.inr rfl) 11 _).set (Or.inl rfl) 7 _).drew⟩
  | 12, x0, x1, m0 =>
    refine (enter_12 G A cap (y.am 12) a y.g.fi hf.fi0 (by have := hf.fi1; omega) w hne hne' a0 x0 x1 m0 (hG.cell 17 rfl) (hA.cell 12 rfl) (hA.free 12 rfl) (hG.cell 10 rfl) (hG.free 10 rfl)).mono ?_
    rintro e w' ⟨rfl, rfl⟩
    exact ⟨rfl, ⟨hne, ⟨cap, ((hG.other hne 12 _).set 10 (show 10 < 18 by decide) (.int .i64 (y.g.fi + a))).drew⟩, ((hA.set 12 (show 12 < 13 by decide) (.int .i64 (y.am 12 + a))).other hne' 10 _).drew⟩, (((Keep.refl _ w).set (S := fun b => b = G ∨ b = A) (Or.inr rfl) 12 _).set (Or.inl rfl) 10 _).drew⟩
end Go.Proofs.YtanndhoimpnhpaaGreatDoor

/- What the document's paid does: from an amount, as far as it goes. -/
namespace Go.Proofs.YtanndhoimpnhpaaGreatDoor
open Go.ChangeShapes Go.WideShapes Go.ChangeAt Go.RowKit Lg

theorem Gon.keep {S : Nat → Prop} {w w' : World} {G A : Nat} {t : Ln.Terms} {y : Ln.Dy} {dy : Int} {ev fv : Value} (h : Gon w G A t y dy ev fv) (k : Keep S w w') (hG : ¬ S G) (hA : ¬ S A) : Gon w' G A t y dy ev fv := by
  obtain ⟨ne, ⟨cap, g⟩, a⟩ := h
  exact ⟨ne, ⟨cap, g.keep k hG⟩, a.keep k hA⟩
theorem Gon.below {w w' : World} {G A : Nat} {t : Ln.Terms} {y : Ln.Dy} {dy : Int} {ev fv : Value} (h : Gon w G A t y dy ev fv) (k : Below w.heap.size w w') : Gon w' G A t y dy ev fv :=
  h.keep (Keep.below (S := fun _ => False) k) (fun x => x) (fun x => x)

set_option maxRecDepth 10000 in
set_option maxHeartbeats 1000000 in
theorem paid_any (w : World) (G A : Nat) (t : Ln.Terms) (y : Ln.Dy) (dy : Int) (ev fv : Value) (h : Gon w G A t y dy ev fv) (hf : Ln.Fit y) (L : Int) (hLm : L ≤ 4100000000000) (hm : Ln.Am y L) (hc : y.g.cr ≤ 4100000000000) (a : Int) (a0 : 0 ≤ a) (a1 : a ≤ 100000000000) :
    Calls Tryz.prog 120 #[.pointer (some ⟨G, 0, none⟩), .int .i64 a] w fun e w' => e = .returned (.tuple #[]) ∧ Gon w' G A t (Ln.pay y a) dy ev fv ∧ Keep (fun b => b = G ∨ b = A) w w' := by
  have HG := h
  obtain ⟨ne, ⟨cap, hG⟩, hA⟩ := h
  have c6 : w.cell? ⟨G, 6, none⟩ = some (.int .i64 y.g.pr) := hG.cell 6 rfl
  have c7 : w.cell? ⟨G, 7, none⟩ = some (.int .i64 y.g.it) := hG.cell 7 rfl
  have c8 : w.cell? ⟨G, 8, none⟩ = some (.int .i64 y.g.du) := hG.cell 8 rfl
  have c9 : w.cell? ⟨G, 9, none⟩ = some (.int .i64 y.g.la) := hG.cell 9 rfl
  have c10 : w.cell? ⟨G, 10, none⟩ = some (.int .i64 y.g.fi) := hG.cell 10 rfl
  have hGl := hG.lt
  have hAl : A < w.heap.size := At.lt (v := .int .i64 (y.am 0)) hA
  clear hG hA
  go_enter Tryz.func120, Tryz.ntmps120
  go_wp2
  go_region
  go_wp2
  go_loopw [1, 5] (fun l i wr => ∃ k : Nat, k ≤ 5 ∧ i = .int .i64 k ∧ l = .int .i64 (Ln.payK y a k).2 ∧ Gon wr G A t (Ln.payK y a k).1 dy ev fv ∧ At wr w.heap.size [.int .i64 y.g.fi, .int .i64 y.g.la, .int .i64 y.g.du, .int .i64 y.g.it, .int .i64 y.g.pr] ∧ Keep (fun b => b = G ∨ b = A) w wr) (fun _ i _ => 5 - (intOf i).toNat)
  case atStart => exact ⟨0, by omega, rfl, rfl, HG.below (((Below.refl _ _).alloc (Nat.le_refl _) _).drew), (At.alloc w _ _).drew, Keep.below (((Below.refl _ _).alloc (Nat.le_refl _) _).drew)⟩
  case round =>
    obtain ⟨k, hk, rfl, rfl, hg, ho, hkeep⟩ := hrel
    have hl := Ln.payK_left y a hf a0 k
    have hfk := Ln.payK_fit y a hf a0 k hk
    clear c6 c7 c8 c9 c10
    by_cases hlt : k < 5
    · have hcan := Ln.payK_can y a L hLm hf hm a0 a1 k hlt
      have hw0 := Ln.owed_nn hf k
      have hcell : wr.cell? ⟨w.heap.size, k, none⟩ = some (.int .i64 (Ln.owed y.g k)) := by
        match k, hlt with
        | 0, _ => exact ho.cell 0 rfl
        | 1, _ => exact ho.cell 1 rfl
        | 2, _ => exact ho.cell 2 rfl
        | 3, _ => exact ho.cell 3 rfl
        | 4, _ => exact ho.cell 4 rfl
      have hE := enter_any wr G A t (Ln.payK y a k).1 dy ev fv hg hfk (5 + k) _ hcan
      have ek : ((5 + k : Nat) : Int) = 5 + (k : Int) := by omega
      rw [ek] at hE
      have hL : Hid (Ln.least (Ln.owed y.g k) (Ln.payK y a k).2 = if (Ln.payK y a k).2 < Ln.owed y.g k then (Ln.payK y a k).2 else Ln.owed y.g k) := rfl
      have hP1 : Hid ((Ln.payK y a (k + 1)).1 = Ln.enter (Ln.payK y a k).1 (5 + k) (Ln.least (Ln.owed y.g k) (Ln.payK y a k).2)) := rfl
      have hP2 : Hid ((Ln.payK y a (k + 1)).2 = (Ln.payK y a k).2 - Ln.least (Ln.owed y.g k) (Ln.payK y a k).2) := rfl
      have hnG : ¬ (w.heap.size = G ∨ w.heap.size = A) := by omega
      clear hm hf hfk hcan HG hg
      generalize (Ln.payK y a k).2 = left at *
      generalize Ln.owed y.g k = x at *
      by_cases hx : left < x
      · rw [hL.out, if_pos hx] at hE hP1 hP2
        go_wp2_with fail
        refine hE.mono ?_
        rintro e w1 ⟨rfl, hg1, hk1⟩
        clear hE
        go_wp2
        go_roundw
        case rel => exact ⟨k + 1, by omega, by go_num, by rw [hP2.out]; simp, by rw [hP1.out]; exact hg1, ho.keep hk1 hnG, hkeep.trans hk1⟩
        case measure => simp [intOf]; omega
      · rw [hL.out, if_neg hx] at hE hP1 hP2
        go_wp2_with fail
        refine hE.mono ?_
        rintro e w1 ⟨rfl, hg1, hk1⟩
        clear hE
        go_wp2
        go_roundw
        case rel => exact ⟨k + 1, by omega, by go_num, by rw [hP2.out], by rw [hP1.out]; exact hg1, ho.keep hk1 hnG, hkeep.trans hk1⟩
        case measure => simp [intOf]; omega
    · obtain rfl : k = 5 := by omega
      have hE := enter_any wr G A t (Ln.payK y a 5).1 dy ev fv hg hfk 10 _ (Ln.pay_can y a L hLm hf hm hc a0 a1)
      rw [← Ln.pay_eq] at hE
      clear hm hf hfk HG hg hc
      generalize (Ln.payK y a 5).2 = left at *
      go_wp2_with fail
      refine hE.mono ?_
      rintro e w1 ⟨rfl, hg1, hk1⟩
      clear hE
      go_wp2
      go_end0
      exact ⟨rfl, hg1, hkeep.trans hk1⟩
end Go.Proofs.YtanndhoimpnhpaaGreatDoor

/- Long numbers in memory: what part and plus answer of them. -/
namespace Go.Proofs.YtanndhoimpnhpaaGreatDoor
open Go.ChangeShapes Go.WideShapes Go.ChangeAt Go.RowKit Lg

/-- The value v is the long number x: nil and 0, or a row of six digits that lies in none of the blocks of S. -/
def LongIs (S : Nat → Prop) (w : World) (v : Value) (x : Int) : Prop :=
  (v = .slice none 0 0 ∧ x = 0) ∨ ∃ b cap l, v = .slice (some ⟨b, 0, none⟩) 6 cap ∧ b < w.heap.size ∧ ¬ S b ∧ l.length = 6 ∧ Dig l ∧ Ints w b l ∧ lv l = x
theorem LongIs.keep {S : Nat → Prop} {w w' : World} {v : Value} {x : Int} (h : LongIs S w v x) (k : Keep S w w') : LongIs S w' v x := by
  rcases h with h | ⟨b, cap, l, hv, hb, hs, hl, hd, hi, hx⟩
  · exact .inl h
  · refine .inr ⟨b, cap, l, hv, Nat.lt_of_lt_of_le hb k.size, hs, hl, hd, fun j hj => ?_, hx⟩
    rw [World.cell?_of_block (w := w) (a := ⟨b, j, none⟩) (k.block b hb hs)]
    exact hi j hj
theorem LongIs.nn {S : Nat → Prop} {w : World} {v : Value} {x : Int} (h : LongIs S w v x) : 0 ≤ x := by
  rcases h with ⟨_, rfl⟩ | ⟨b, cap, l, hv, hb, hs, hl, hd, hi, hx⟩
  · exact Int.le_refl _
  · rw [← hx]; exact lv_nn l hd
theorem lv_div (l : List Int) (hd : Dig l) : lv l / 1000000 = lv (l.drop 1) := by
  match l with
  | [] => rfl
  | d :: r => exact lv_low d r (hd d (by simp)).1 (hd d (by simp)).2
theorem part_long {S : Nat → Prop} {w : World} {v : Value} {x : Int} (h : LongIs S w v x) (year : Int) (y0 : 1 ≤ year) (y1 : year ≤ 400) (hb : x / 1000000 / year ≤ 9000000000000000000) :
    Calls Tryz.prog 122 #[v, .int .i64 year] w fun e w' => e = .returned (.int .i64 (x / 1000000 / year)) ∧ w' = w := by
  rcases h with ⟨rfl, rfl⟩ | ⟨b, cap, l, rfl, hbs, hs, hl, hd, hi, rfl⟩
  · have e : (0 : Int) / 1000000 / year = 0 := by simp
    rw [e]
    exact part_nil year 0 w
  · exact part_any l b cap year w hl hd hi y0 y1 (by rw [← lv_div l hd]; exact hb)
theorem owns_long {S : Nat → Prop} {w w' : World} {r : Value} {l : List Int} (h : w'.ownsRow w.heap.size 3 1 r 6 (icells l)) (hl : l.length = 6) (hd : Dig l) (hS : ∀ b, S b → b < w.heap.size) : LongIs S w' r (lv l) := by
  obtain ⟨_, ⟨_, h0⟩ | ⟨g, cap, cur, rfl, hg, hc, h1, h2, h3, h4⟩⟩ := h
  · exact absurd h0 (by decide)
  · have hlt : g < w'.heap.size := by
      apply Nat.lt_of_not_le
      intro hle
      rw [Array.getElem?_eq_none hle] at hc
      cases hc
    refine .inr ⟨g, cap, l, rfl, hlt, fun s => absurd (hS g s) (by omega), hl, hd, fun j hj => ?_, rfl⟩
    have e1 : cur[j]? = some (.int .i64 (l.getD j 0)) := by
      have h5 : (cur.toList.take 6)[j]? = (icells l)[j]? := by rw [← h4]
      rw [List.getElem?_take_of_lt (by omega)] at h5
      have h6 : (icells l)[j]? = some (.int .i64 (l.getD j 0)) := by
        unfold icells
        rw [List.getElem?_map, List.getElem?_eq_getElem hj, List.getD_eq_getElem?_getD, List.getElem?_eq_getElem hj]
        rfl
      rw [h6] at h5
      simpa using h5
    simp only [World.cell?, hc]
    exact e1
theorem getD_dig {l : List Int} (h : Dig l) (j : Nat) : 0 ≤ l.getD j 0 ∧ l.getD j 0 < 1000000 := by
  by_cases hj : j < l.length
  · exact dig_at h j hj
  · rw [List.getD_eq_getElem?_getD, List.getElem?_eq_none (by omega)]
    exact ⟨Int.le_refl _, by decide⟩
theorem plus_long {S : Nat → Prop} {w : World} {v : Value} {x : Int} (h : LongIs S w v x) (hS : ∀ b, S b → b < w.heap.size) (a b : Int) (a0 : 0 ≤ a) (a1 : a ≤ 4000000000000000000) (b0 : 0 ≤ b) (b1 : b ≤ 4000000) (hx : x + a * b < 1000000 ^ 6) :
    Calls Tryz.prog 123 #[v, .int .i64 a, .int .i64 b] w fun e w' => ∃ r, e = .returned r ∧ LongIs S w' r (x + a * b) ∧ Below w.heap.size w w' := by
  rcases h with ⟨rfl, rfl⟩ | ⟨g, cap, l, rfl, hg, hs, hl, hd, hi, rfl⟩
  · refine (plus_core _ 0 (fun _ => 0) a b w (by decide) (fun _ => ⟨Int.le_refl _, by decide⟩) a0 a1 b0 b1 (.inl ⟨rfl, rfl, fun _ => rfl⟩)).mono ?_
    rintro e w' ⟨r, rfl, ho, hb⟩
    have e1 : ods (fun _ => 0) a b 6 = addTo 0 a b [0, 0, 0, 0, 0, 0] := rfl
    have hz : Dig [0, 0, 0, 0, 0, 0] := by intro d hd; simp at hd; omega
    have e2 := addTo_lv b b0 [0, 0, 0, 0, 0, 0] 0 a hz (Int.le_refl _) a0 (by simpa [lv] using hx)
    rw [e1] at ho
    refine ⟨r, rfl, ?_, hb⟩
    have := owns_long (S := S) ho (addTo_len b _ 0 a) (addTo_dig b _ 0 a) hS
    rw [e2] at this
    simpa [lv] using this
  · refine (plus_core _ 6 (fun j => l.getD j 0) a b w (by decide) (fun j => getD_dig hd j) a0 a1 b0 b1 (.inr ⟨g, cap, rfl, rfl, hg, fun j hj => hi j (by omega)⟩)).mono ?_
    rintro e w' ⟨r, rfl, ho, hb⟩
    rw [ods_six l a b hl] at ho
    have e2 := addTo_lv b b0 l 0 a hd (Int.le_refl _) a0 (by rw [hl]; omega)
    refine ⟨r, rfl, ?_, hb⟩
    have := owns_long (S := S) ho (by rw [addTo_len]; exact hl) (addTo_dig b _ 0 a) hS
    rw [e2, Int.zero_add] at this
    exact this
end Go.Proofs.YtanndhoimpnhpaaGreatDoor

/- The calendar as plain arithmetic: lengths of years and months, a date's number, that a number has one date, and what the next date is. -/
namespace Go.Proofs.YtanndhoimpnhpaaGreatDoor.Cal

def lp (y : Int) : Int := if y % 4 = 0 ∧ (¬ y % 100 = 0 ∨ y % 400 = 0) then 1 else 0
def dim (y m : Int) : Int := if m = 2 then 28 + lp y else if m = 4 ∨ m = 6 ∨ m = 9 ∨ m = 11 then 30 else 31
def ys (y : Int) : Int := 365 * (y - 1900) + ((y - 1) / 4 - (y - 1) / 100 + (y - 1) / 400) - 460
def cum (y m : Int) : Int := if m ≤ 2 then 31 * (m - 1) else (153 * (m - 3) + 2) / 5 + 59 + lp y
def num (y m d : Int) : Int := ys y + cum y m + d - 1
def Ok (y m d : Int) : Prop := 1900 ≤ y ∧ y ≤ 2200 ∧ 1 ≤ m ∧ m ≤ 12 ∧ 1 ≤ d ∧ d ≤ dim y m
def cap (d : Int) : Int := if d ≤ 30 then d else 30
def t3 (y m d : Int) : Int := 360 * y + 30 * m + cap d

theorem lp_01 (y : Int) : 0 ≤ lp y ∧ lp y ≤ 1 := by unfold lp; split <;> omega
theorem ys_succ (y : Int) : ys (y + 1) = ys y + 365 + lp y := by
  unfold ys lp
  split <;> omega
theorem ys_mono (a b : Int) (h : a ≤ b) : ys a ≤ ys b := by unfold ys; omega
theorem ys_first : ys 1900 = 0 := by decide
theorem ys_last : ys 2200 = 109573 := by decide
theorem ys_bd (y : Int) (a : 1900 ≤ y) (b : y ≤ 2201) : 0 ≤ ys y ∧ ys y ≤ 109938 := by unfold ys; omega
theorem ys_guess (n : Int) (h : 0 ≤ n) : ys (1900 + n / 366) ≤ n := by unfold ys; omega
theorem dim_bd (y m : Int) : 28 ≤ dim y m ∧ dim y m ≤ 31 := by
  have := lp_01 y
  unfold dim; repeat' split
  all_goals omega
theorem months (m : Int) (a : 1 ≤ m) (b : m ≤ 12) : m = 1 ∨ m = 2 ∨ m = 3 ∨ m = 4 ∨ m = 5 ∨ m = 6 ∨ m = 7 ∨ m = 8 ∨ m = 9 ∨ m = 10 ∨ m = 11 ∨ m = 12 := by omega
theorem cum_succ (y m : Int) (a : 1 ≤ m) (b : m ≤ 12) : cum y (m + 1) = cum y m + dim y m := by
  rcases months m a b with h | h | h | h | h | h | h | h | h | h | h | h <;> subst h <;> simp [cum, dim] <;> omega
theorem cum_one (y : Int) : cum y 1 = 0 := by simp [cum]
theorem cum_end (y : Int) : cum y 13 = 365 + lp y := by simp [cum]
theorem cum_mono (y a b : Int) (h1 : 1 ≤ a) (h : a ≤ b) : cum y a ≤ cum y b := by
  have := lp_01 y
  unfold cum; repeat' split
  all_goals omega
theorem cum_bd (y m : Int) (a : 1 ≤ m) (b : m ≤ 13) : 0 ≤ cum y m ∧ cum y m ≤ 366 := by
  have := lp_01 y
  unfold cum; split <;> omega
/-- A date's day within its year. -/
theorem in_year (y m d : Int) (a : 1 ≤ m) (b : m ≤ 12) (c : 1 ≤ d) (e : d ≤ dim y m) : 0 ≤ cum y m + d - 1 ∧ cum y m + d - 1 < 365 + lp y := by
  have h1 := cum_bd y m a (by omega)
  have h2 := cum_succ y m a b
  have h3 := cum_mono y (m + 1) 13 (by omega) (by omega)
  have h4 := cum_end y
  omega
/-- A number has one date. -/
theorem one_date (y m d y' m' d' : Int) (h : Ok y m d) (h' : Ok y' m' d') (e : num y m d = num y' m' d') : y = y' ∧ m = m' ∧ d = d' := by
  obtain ⟨a1, a2, a3, a4, a5, a6⟩ := h
  obtain ⟨b1, b2, b3, b4, b5, b6⟩ := h'
  unfold num at e
  have i1 := in_year y m d a3 a4 a5 a6
  have i2 := in_year y' m' d' b3 b4 b5 b6
  have hy : y = y' := by
    rcases Int.lt_trichotomy y y' with h | h | h
    · have g1 := ys_mono (y + 1) y' (by omega)
      have g2 := ys_succ y
      omega
    · exact h
    · have g1 := ys_mono (y' + 1) y (by omega)
      have g2 := ys_succ y'
      omega
  subst hy
  have hm : m = m' := by
    rcases Int.lt_trichotomy m m' with h | h | h
    · have g1 := cum_mono y (m + 1) m' (by omega) (by omega)
      have g2 := cum_succ y m a3 a4
      omega
    · exact h
    · have g1 := cum_mono y (m' + 1) m (by omega) (by omega)
      have g2 := cum_succ y m' b3 b4
      omega
  subst hm
  exact ⟨rfl, rfl, by omega⟩
theorem num_bd (y m d : Int) (h : Ok y m d) : 0 ≤ num y m d ∧ num y m d ≤ 109938 := by
  obtain ⟨a1, a2, a3, a4, a5, a6⟩ := h
  have i1 := in_year y m d a3 a4 a5 a6
  have g := ys_bd y a1 (by omega)
  have g2 := ys_bd (y + 1) (by omega) (by omega)
  have g3 := ys_succ y
  unfold num
  omega
/-- The date of a day up to the one behind the last: its year is at most 2200; within the days at most 2199. -/
theorem year_le (y m d : Int) (h : Ok y m d) (hn : num y m d ≤ 109572) : y ≤ 2199 := by
  obtain ⟨a1, a2, a3, a4, a5, a6⟩ := h
  have i1 := in_year y m d a3 a4 a5 a6
  unfold num at hn
  apply Int.not_lt.mp
  intro h
  have g := ys_mono 2200 y (by omega)
  have g2 := ys_last
  omega
theorem t3_bd (y m d : Int) (h : Ok y m d) : 684031 ≤ t3 y m d ∧ t3 y m d ≤ 792390 := by
  obtain ⟨a1, a2, a3, a4, a5, a6⟩ := h
  unfold t3 cap; split <;> omega

/-- The next date. -/
def nd (y m d : Int) : Int := if d < dim y m then d + 1 else 1
def nm (y m d : Int) : Int := if d < dim y m then m else if m < 12 then m + 1 else 1
def ny (y m d : Int) : Int := if d < dim y m then y else if m < 12 then y else y + 1
theorem next_num (y m d : Int) (h : Ok y m d) : num (ny y m d) (nm y m d) (nd y m d) = num y m d + 1 := by
  obtain ⟨a1, a2, a3, a4, a5, a6⟩ := h
  unfold nd nm ny
  split
  · unfold num; omega
  · split
    · have := cum_succ y m a3 a4
      unfold num; omega
    · have e : m = 12 := by omega
      subst e
      have g1 := cum_succ y 12 (by omega) (by omega)
      have g2 := cum_end y
      have g3 := ys_succ y
      have g4 := cum_one (y + 1)
      unfold num
      rw [show (12 : Int) + 1 = 13 from rfl] at g1
      omega
theorem next_ok (y m d : Int) (h : Ok y m d) (hn : num y m d ≤ 109572) : Ok (ny y m d) (nm y m d) (nd y m d) := by
  have hy := year_le y m d h hn
  obtain ⟨a1, a2, a3, a4, a5, a6⟩ := h
  unfold nd nm ny
  split
  · exact ⟨a1, a2, a3, a4, by omega, by omega⟩
  · split
    · have := dim_bd y (m + 1)
      exact ⟨a1, a2, by omega, by omega, by omega, by omega⟩
    · have := dim_bd (y + 1) 1
      exact ⟨by omega, by omega, by omega, by omega, by omega, by omega⟩

/-- The document's t of a day, as a relation. -/
def IsT (n t : Int) : Prop := ∃ y m d, Ok y m d ∧ num y m d = n ∧ t = t3 y m d
theorem IsT.one {n t t' : Int} (h : IsT n t) (h' : IsT n t') : t = t' := by
  obtain ⟨y, m, d, k, e, rfl⟩ := h
  obtain ⟨y', m', d', k', e', rfl⟩ := h'
  obtain ⟨rfl, rfl, rfl⟩ := one_date _ _ _ _ _ _ k k' (e.trans e'.symm)
  rfl
theorem IsT.bd {n t : Int} (h : IsT n t) : 684031 ≤ t ∧ t ≤ 792390 := by
  obtain ⟨y, m, d, k, e, rfl⟩ := h
  exact t3_bd y m d k
theorem ok_mk {y m d : Int} (a : 1900 ≤ y) (b : y ≤ 2200) (c : 1 ≤ m) (e : m ≤ 12) (f : 1 ≤ d) (g : d ≤ dim y m) : Ok y m d := ⟨a, b, c, e, f, g⟩
theorem month_end (n y m : Int) (h1 : 1 ≤ m) (h2 : m ≤ 12) (hz : n < ys (y + 1)) (hr : dim y m ≤ n - ys y - cum y m) : m < 12 := by
  apply Int.not_le.mp
  intro h
  obtain rfl : m = 12 := by omega
  have g1 := cum_succ y 12 (by omega) (by omega)
  have g2 := cum_end y
  have g3 := ys_succ y
  rw [show (12 : Int) + 1 = 13 from rfl] at g1
  omega
end Go.Proofs.YtanndhoimpnhpaaGreatDoor.Cal

/- What the document's month lengths answer, for every year and month. -/
namespace Go.Proofs.YtanndhoimpnhpaaGreatDoor
open Go.ChangeShapes Go.WideShapes Go.ChangeAt Go.RowKit Cal

theorem ret_int {k : IntKind} {a b : Int} (h : a = b) : Ending.returned (.int k a) = .returned (.int k b) := by rw [h]

theorem long_any (y m : Int) (w : World) (h0 : 0 ≤ y) (h1 : y ≤ 100000) :
    Calls Tryz.prog 118 #[.int .i64 y, .int .i64 m] w fun e w' => e = .returned (.int .i64 (dim y m)) ∧ w' = w := by
  by_cases h2 : m = 2
  · subst h2
    by_cases h4 : y % 4 = 0
    · by_cases h100 : y % 100 = 0
      · by_cases h400 : y % 400 = 0
        all_goals
          have E : Hid (dim y 2 = 28 + (if y % 400 = 0 then 1 else 0)) := by simp [dim, lp, h4, h100, h400, Hid]
          go_enter Tryz.func118, Tryz.ntmps118
          go_wp2
          go_ret
          exact ⟨ret_int (by rw [E.out]; simp [h400]), rfl⟩
      · have n4 : ¬ y % 400 = 0 := by omega
        have E : Hid (dim y 2 = 29) := by simp [dim, lp, h4, h100, Hid]
        go_enter Tryz.func118, Tryz.ntmps118
        go_wp2
        go_ret
        exact ⟨ret_int E.out.symm, rfl⟩
    · have n4 : ¬ y % 400 = 0 := by omega
      have E : Hid (dim y 2 = 28) := by simp [dim, lp, h4, Hid]
      go_enter Tryz.func118, Tryz.ntmps118
      go_wp2
      go_ret
      exact ⟨ret_int E.out.symm, rfl⟩
  · by_cases h30 : m = 4 ∨ m = 6 ∨ m = 9 ∨ m = 11
    · have E : Hid (dim y m = 30) := by simp [dim, h2, h30, Hid]
      rcases h30 with h | h | h | h
      all_goals
        subst h
        go_enter Tryz.func118, Tryz.ntmps118
        go_wp2
        go_ret
        exact ⟨ret_int E.out.symm, rfl⟩
    · have E : Hid (dim y m = 31) := by simp [dim, h2, h30, Hid]
      obtain ⟨a, b, c, d⟩ : ¬ m = 4 ∧ ¬ m = 6 ∧ ¬ m = 9 ∧ ¬ m = 11 := by omega
      clear h30
      go_enter Tryz.func118, Tryz.ntmps118
      go_wp2
      go_ret
      exact ⟨ret_int E.out.symm, rfl⟩
end Go.Proofs.YtanndhoimpnhpaaGreatDoor
