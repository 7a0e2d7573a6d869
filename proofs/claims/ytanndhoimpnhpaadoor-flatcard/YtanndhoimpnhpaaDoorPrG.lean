/- What the program's events do. -/
import Derived.Test.YtanndhoimpnhpaaDoorPrF
import Derived.Test.YtanndhoimpnhpaaDoorPrD
import Derived.Laws.EntriesVeiled
namespace Go.Proofs.YtanndhoimpnhpaaDoor
open Go.RowKit Cal

set_option maxRecDepth 10000 in
set_option maxHeartbeats 1000000 in
theorem draw_any (w : World) (P : Nat) (t : Ln.Terms) (n : Int) (y : Ln.Dy) (h : Pas w P t n y) (hm : Mv w) (hP : ¬ P = 1) (hf : Ln.Fit y) (a : Int) (hc : Ln.CanEnter y 1 a) :
    Calls Tryd.prog 80 #[.pointer (some ⟨P, 0, none⟩), .int .i64 a] w fun e w' => e = .returned (.tuple #[]) ∧ Pas w' P t n (Ln.enter y 1 a) ∧ Keep (fun b => b = P) w w' := by
  have hE := penter_any w P t n y h hm hP hf 1 a hc
  clear h hm hf hc
  go_enter Tryd.func80, Tryd.ntmps80
  go_wp2_with fail
  refine hE.mono ?_
  rintro e w1 ⟨rfl, hg1, hk1⟩
  clear hE
  go_wp2
  go_end0
  exact ⟨rfl, hg1, hk1⟩
set_option maxRecDepth 10000 in
set_option maxHeartbeats 1000000 in
theorem capitalise_any (w : World) (P : Nat) (t : Ln.Terms) (n : Int) (y : Ln.Dy) (h : Pas w P t n y) (hm : Mv w) (hP : ¬ P = 1) (hf : Ln.Fit y) (a : Int) (hc : Ln.CanEnter y 4 y.g.it) :
    Calls Tryd.prog 83 #[.pointer (some ⟨P, 0, none⟩), .int .i64 a] w fun e w' => e = .returned (.tuple #[]) ∧ Pas w' P t n (Ln.enter y 4 y.g.it) ∧ Keep (fun b => b = P) w w' := by
  have hE := penter_any w P t n y h hm hP hf 4 y.g.it hc
  have c9 : w.cell? ⟨P, 9, none⟩ = some (.int .i64 y.g.it) := by
    obtain ⟨c, i, f, h⟩ := h
    exact h.cell 9 rfl
  clear h hm hf hc
  go_enter Tryd.func83, Tryd.ntmps83
  go_wp2_with fail
  refine hE.mono ?_
  rintro e w1 ⟨rfl, hg1, hk1⟩
  clear hE
  go_wp2
  go_end0
  exact ⟨rfl, hg1, hk1⟩
set_option maxRecDepth 10000 in
theorem setRate_any (w : World) (P : Nat) (t : Ln.Terms) (n : Int) (y : Ln.Dy) (h : Pas w P t n y) (a : Int) :
    Calls Tryd.prog 81 #[.pointer (some ⟨P, 0, none⟩), .int .i64 a] w fun e w' => e = .returned (.tuple #[]) ∧ Pas w' P t n { y with g := { y.g with rt := a } } ∧ Keep (fun b => b = P) w w' := by
  obtain ⟨c, i, f, h⟩ := h
  have c16 : w.cell? ⟨P, 16, none⟩ = some (.int .i64 y.g.rt) := h.cell 16 rfl
  have z16 : w.frozen? ⟨P, 16, none⟩ = false := h.free 16 rfl
  have hR : Pas (w.setCell ⟨P, 16, none⟩ (.int .i64 a)) P t n { y with g := { y.g with rt := a } } := ⟨c, i, f, h.set 16 (show 16 < 33 by decide) (.int .i64 a)⟩
  have hK : Keep (fun b => b = P) w (w.setCell ⟨P, 16, none⟩ (.int .i64 a)) := (Keep.refl _ w).set (S := fun b => b = P) rfl 16 _
  clear h
  go_enter Tryd.func81, Tryd.ntmps81
  go_wp2
  go_end0
  exact ⟨rfl, hR, hK⟩
/-- A holiday that is begun. -/
def hol (n : Int) (y : Ln.Dy) (a : Int) : Ln.Dy := if y.g.fr < n + a then { y with g := { y.g with fr := n + a } } else y
set_option maxRecDepth 10000 in
theorem beginHoliday_any (w : World) (P : Nat) (t : Ln.Terms) (n : Int) (y : Ln.Dy) (h : Pas w P t n y) (a : Int) (n0 : 0 ≤ n) (n1 : n ≤ 109573) (a0 : 0 ≤ a) (a1 : a ≤ 400) :
    Calls Tryd.prog 82 #[.pointer (some ⟨P, 0, none⟩), .int .i64 a] w fun e w' => e = .returned (.tuple #[]) ∧ Pas w' P t n (hol n y a) ∧ Keep (fun b => b = P) w w' := by
  obtain ⟨c, i, f, h⟩ := h
  have c6 : w.cell? ⟨P, 6, none⟩ = some (.int .i64 n) := h.cell 6 rfl
  have c17 : w.cell? ⟨P, 17, none⟩ = some (.int .i64 y.g.fr) := h.cell 17 rfl
  have z17 : w.frozen? ⟨P, 17, none⟩ = false := h.free 17 rfl
  have hR : ∀ v : Int, Pas (w.setCell ⟨P, 17, none⟩ (.int .i64 v)).drew P t n { y with g := { y.g with fr := v } } := fun v => ⟨c, i, f, (h.set 17 (show 17 < 33 by decide) (.int .i64 v)).drew⟩
  have hK : ∀ v : Int, Keep (fun b => b = P) w (w.setCell ⟨P, 17, none⟩ (.int .i64 v)).drew := fun v => ((Keep.refl _ w).set (S := fun b => b = P) rfl 17 _).drew
  clear h
  by_cases hx : y.g.fr < n + a
  · have e : hol n y a = { y with g := { y.g with fr := n + a } } := by
      unfold hol
      rw [if_pos hx]
    have hx' : ¬ n + a ≤ y.g.fr := by omega
    rw [e]
    go_enter Tryd.func82, Tryd.ntmps82
    go_wp2
    go_region
    go_wp2
    go_end0
    exact ⟨rfl, hR _, hK _⟩
  · have e : hol n y a = { y with g := { y.g with fr := y.g.fr } } := by
      unfold hol
      rw [if_neg (by omega)]
    have hx' : n + a ≤ y.g.fr := by omega
    rw [e]
    go_enter Tryd.func82, Tryd.ntmps82
    go_wp2
    go_region
    go_wp2
    go_end0
    exact ⟨rfl, hR _, hK _⟩

set_option maxRecDepth 10000 in
set_option maxHeartbeats 1000000 in
theorem happen_1 (w : World) (P : Nat) (t : Ln.Terms) (n : Int) (y : Ln.Dy) (d s a : Int)
    (hE : ∀ W : World, Keep (fun _ => False) w W → Calls Tryd.prog 80 #[.pointer (some ⟨P, 0, none⟩), .int .i64 a] W fun e w' => e = .returned (.tuple #[]) ∧ Pas w' P t n y ∧ Keep (fun b => b = P) W w') :
    Calls Tryd.prog 65 #[.pointer (some ⟨P, 0, none⟩), .agg #[.int .i64 d, .int .i64 1, .int .i64 s, .int .i64 a]] w fun e w' => e = .returned (.tuple #[]) ∧ Pas w' P t n y ∧ Keep (fun b => b = P) w w' := by
  have hK : ∀ (S : Nat → Prop) (o p : Obj), Keep S w ((w.alloc o).alloc p).drew := fun S o p => Keep.below ((((Below.refl _ _).alloc (Nat.le_refl _) o).alloc (by simp) p).drew)
  go_enter Tryd.func65, Tryd.ntmps65
  go_wp2_with fail
  go_region_with ((go_at_call 80; refine (hE _ (hK _ _ _)).mono ?_; rintro e w' ⟨rfl, hg1, hk1⟩))
  all_goals
    go_wp2
    go_end0
    exact ⟨rfl, hg1, (hK _ _ _).trans hk1⟩
set_option maxRecDepth 10000 in
set_option maxHeartbeats 1000000 in
theorem happen_2 (w : World) (P : Nat) (t : Ln.Terms) (n : Int) (y : Ln.Dy) (d s a : Int)
    (hE : ∀ W : World, Keep (fun _ => False) w W → Calls Tryd.prog 81 #[.pointer (some ⟨P, 0, none⟩), .int .i64 a] W fun e w' => e = .returned (.tuple #[]) ∧ Pas w' P t n y ∧ Keep (fun b => b = P) W w') :
    Calls Tryd.prog 65 #[.pointer (some ⟨P, 0, none⟩), .agg #[.int .i64 d, .int .i64 2, .int .i64 s, .int .i64 a]] w fun e w' => e = .returned (.tuple #[]) ∧ Pas w' P t n y ∧ Keep (fun b => b = P) w w' := by
  have hK : ∀ (S : Nat → Prop) (o p : Obj), Keep S w ((w.alloc o).alloc p).drew := fun S o p => Keep.below ((((Below.refl _ _).alloc (Nat.le_refl _) o).alloc (by simp) p).drew)
  go_enter Tryd.func65, Tryd.ntmps65
  go_wp2_with fail
  go_region_with ((go_at_call 81; refine (hE _ (hK _ _ _)).mono ?_; rintro e w' ⟨rfl, hg1, hk1⟩))
  all_goals
    go_wp2
    go_end0
    exact ⟨rfl, hg1, (hK _ _ _).trans hk1⟩
set_option maxRecDepth 10000 in
set_option maxHeartbeats 1000000 in
theorem happen_3 (w : World) (P : Nat) (t : Ln.Terms) (n : Int) (y : Ln.Dy) (d s a : Int)
    (hE : ∀ W : World, Keep (fun _ => False) w W → Calls Tryd.prog 82 #[.pointer (some ⟨P, 0, none⟩), .int .i64 a] W fun e w' => e = .returned (.tuple #[]) ∧ Pas w' P t n y ∧ Keep (fun b => b = P) W w') :
    Calls Tryd.prog 65 #[.pointer (some ⟨P, 0, none⟩), .agg #[.int .i64 d, .int .i64 3, .int .i64 s, .int .i64 a]] w fun e w' => e = .returned (.tuple #[]) ∧ Pas w' P t n y ∧ Keep (fun b => b = P) w w' := by
  have hK : ∀ (S : Nat → Prop) (o p : Obj), Keep S w ((w.alloc o).alloc p).drew := fun S o p => Keep.below ((((Below.refl _ _).alloc (Nat.le_refl _) o).alloc (by simp) p).drew)
  go_enter Tryd.func65, Tryd.ntmps65
  go_wp2_with fail
  go_region_with ((go_at_call 82; refine (hE _ (hK _ _ _)).mono ?_; rintro e w' ⟨rfl, hg1, hk1⟩))
  all_goals
    go_wp2
    go_end0
    exact ⟨rfl, hg1, (hK _ _ _).trans hk1⟩
set_option maxRecDepth 10000 in
set_option maxHeartbeats 1000000 in
theorem happen_4 (w : World) (P : Nat) (t : Ln.Terms) (n : Int) (y : Ln.Dy) (d s a : Int)
    (hE : ∀ W : World, Keep (fun _ => False) w W → Calls Tryd.prog 83 #[.pointer (some ⟨P, 0, none⟩), .int .i64 a] W fun e w' => e = .returned (.tuple #[]) ∧ Pas w' P t n y ∧ Keep (fun b => b = P) W w') :
    Calls Tryd.prog 65 #[.pointer (some ⟨P, 0, none⟩), .agg #[.int .i64 d, .int .i64 4, .int .i64 s, .int .i64 a]] w fun e w' => e = .returned (.tuple #[]) ∧ Pas w' P t n y ∧ Keep (fun b => b = P) w w' := by
  have hK : ∀ (S : Nat → Prop) (o p : Obj), Keep S w ((w.alloc o).alloc p).drew := fun S o p => Keep.below ((((Below.refl _ _).alloc (Nat.le_refl _) o).alloc (by simp) p).drew)
  go_enter Tryd.func65, Tryd.ntmps65
  go_wp2_with fail
  go_region_with ((go_at_call 83; refine (hE _ (hK _ _ _)).mono ?_; rintro e w' ⟨rfl, hg1, hk1⟩))
  all_goals
    go_wp2
    go_end0
    exact ⟨rfl, hg1, (hK _ _ _).trans hk1⟩
set_option maxRecDepth 10000 in
set_option maxHeartbeats 1000000 in
theorem happen_5 (w : World) (P : Nat) (t : Ln.Terms) (n : Int) (y : Ln.Dy) (d s a : Int)
    (hE : ∀ W : World, Keep (fun _ => False) w W → Calls Tryd.prog 84 #[.pointer (some ⟨P, 0, none⟩), .int .i64 a] W fun e w' => e = .returned (.tuple #[]) ∧ Pas w' P t n y ∧ Keep (fun b => b = P) W w') :
    Calls Tryd.prog 65 #[.pointer (some ⟨P, 0, none⟩), .agg #[.int .i64 d, .int .i64 5, .int .i64 s, .int .i64 a]] w fun e w' => e = .returned (.tuple #[]) ∧ Pas w' P t n y ∧ Keep (fun b => b = P) w w' := by
  have hK : ∀ (S : Nat → Prop) (o p : Obj), Keep S w ((w.alloc o).alloc p).drew := fun S o p => Keep.below ((((Below.refl _ _).alloc (Nat.le_refl _) o).alloc (by simp) p).drew)
  go_enter Tryd.func65, Tryd.ntmps65
  go_wp2_with fail
  go_region_with ((go_at_call 84; refine (hE _ (hK _ _ _)).mono ?_; rintro e w' ⟨rfl, hg1, hk1⟩))
  all_goals
    go_wp2
    go_end0
    exact ⟨rfl, hg1, (hK _ _ _).trans hk1⟩
theorem Ln.event_eq {n : Int} (y : Ln.Dy) (e : Ln.Ev) (h : e.d = n) : Ln.event n y e = if e.k = 1 then Ln.enter y 1 e.a else if e.k = 2 then { y with g := { y.g with rt := e.a } } else if e.k = 3 then hol n y e.a else if e.k = 4 then Ln.enter y 4 y.g.it else if e.k = 5 then Ln.pay y e.a else y := by
  unfold Ln.event hol
  simp only [h, ne_eq, not_true, if_false]
/-- One event of the day that is gone through. -/
theorem happen_any (w : World) (P : Nat) (t : Ln.Terms) (n : Int) (y : Ln.Dy) (h : Pas w P t n y) (hm : Mv w) (hP : ¬ P = 1) (n0 : 0 ≤ n) (n1 : n ≤ 109573) (L : Int) (s : Nat) (e : Ln.Ev) (hI : Ln.Inv t L s y.g) (hs : s ≤ 4320) (hL : L + e.a ≤ 4100000000000) (hfn : y.g.fn / Ln.den t ≤ 8000000000000000000) (hA : Ln.Am y L) (he : Ln.OkE t e) (hen : e.d = n) :
    Calls Tryd.prog 65 #[.pointer (some ⟨P, 0, none⟩), .agg #[.int .i64 e.d, .int .i64 e.k, .int .i64 e.s, .int .i64 e.a]] w fun x w' => x = .returned (.tuple #[]) ∧ Pas w' P t n (Ln.event n y e) ∧ Keep (fun b => b = P) w w' := by
  have a0 := he.a0
  have a1 := he.a1
  have k0 := he.k0
  have k1 := he.k1
  have hf : Ln.Fit y := hI.fit hs (by omega) hfn y.am
  have hb := hI.bound hs (by omega)
  have g1 := hI.pr
  have g2 := hI.it
  have g3 := hI.du
  have g4 := hI.la
  have hp : ∀ W : World, Keep (fun _ => False) w W → Pas W P t n y := fun W k => h.keep k (fun x => x)
  have hq : ∀ W : World, Keep (fun _ => False) w W → Mv W := fun W k => hm.keep k (fun x => x)
  rw [Ln.event_eq y e hen]
  rcases (show e.k = 1 ∨ e.k = 2 ∨ e.k = 3 ∨ e.k = 4 ∨ e.k = 5 by omega) with hk | hk | hk | hk | hk
  · rw [hk]
    have hc : Ln.CanEnter y 1 e.a := ⟨a0, hA.nn 1, by have := hA.a1; omega, by show y.g.pr + e.a ≤ _; omega⟩
    exact happen_1 w P t n _ e.d e.s e.a (fun W k => draw_any W P t n y (hp W k) (hq W k) hP hf e.a hc)
  · rw [hk]
    exact happen_2 w P t n _ e.d e.s e.a (fun W k => setRate_any W P t n y (hp W k) e.a)
  · rw [hk]
    exact happen_3 w P t n _ e.d e.s e.a (fun W k => beginHoliday_any W P t n y (hp W k) e.a n0 n1 a0 (he.ho hk))
  · rw [hk]
    have hc : Ln.CanEnter y 4 y.g.it := ⟨g2, hA.nn 4, by have := hA.a4; omega, by show y.g.pr + y.g.it ≤ _; omega, Int.le_refl _⟩
    exact happen_4 w P t n _ e.d e.s e.a (fun W k => capitalise_any W P t n y (hp W k) (hq W k) hP hf e.a hc)
  · rw [hk]
    exact happen_5 w P t n _ e.d e.s e.a (fun W k => ppay_any W P t n y (hp W k) (hq W k) hP hf L (by omega) hA (by have := hI.cr1; omega) e.a a0 a1)
end Go.Proofs.YtanndhoimpnhpaaDoor
