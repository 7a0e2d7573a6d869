/- Joined by program: PrF, PrD, PrG, PrA, PrB, CalC0. -/
import Derived.Test.YtanndhoimpnhpaaGreatDoorM3
import Derived.WalkSmall
import Derived.Laws.EntriesVeiled
import Derived.Test.YtanndhoimpnhpaaGreatDoorProg
import Derived.WalkKit
import Derived.Lib.Mul64
import Derived.Laws.Bits64b
import Derived.Laws.Externs
import Derived.Deep.QuietTactic
import Derived.BigQuiet
namespace Go.Proofs.YtanndhoimpnhpaaGreatDoor
open Go.RowKit Cal
namespace Ln
theorem Inv.fit_over {t : Terms} {L : Int} {s : Nat} {g : St} (h : Inv t L s g) (hs : s ≤ 4320) (hL : L ≤ 4100000000000) (hfn : g.fn / den t ≤ 8000000000000000000) (am : Nat → Int) : Fit (enter ⟨g, am⟩ 2 g.du) := by
  have hf := h.fit hs hL hfn am
  have hb := h.bound hs hL
  have h1 := h.pr
  have h2 := h.it
  have h3 := h.du
  have h4 := h.la
  exact ⟨hf.pr0, hf.pr1, hf.it0, hf.it1, by show 0 ≤ g.du - g.du; omega, by show g.du - g.du ≤ _; omega, by show 0 ≤ g.la + g.du; omega, by show g.la + g.du ≤ _; omega, hf.fi0, hf.fi1, hf.cr0, hf.cr1⟩
theorem Inv.can_lent {t : Terms} {L : Int} {s : Nat} {g : St} (h : Inv t L s g) (hs : s ≤ 4320) (hL : L ≤ 4100000000000) (ht : OkT t) : CanEnter ⟨g, fun _ => 0⟩ 1 t.pr := by
  have hb := h.bound hs hL
  have h1 := h.pr
  have h2 := h.it
  have h3 := h.du
  have h4 := h.la
  have := ht.pr0
  have := ht.pr1
  exact ⟨by assumption, Int.le_refl _, by show 0 + t.pr ≤ _; omega, by show g.pr + t.pr ≤ _; omega⟩
theorem Inv.can_over {t : Terms} {L : Int} {s : Nat} {g : St} (h : Inv t L s g) (hs : s ≤ 4320) (hL : L ≤ 4100000000000) : CanEnter ⟨g, fun _ => 0⟩ 2 g.du := by
  have hb := h.bound hs hL
  have h1 := h.pr
  have h2 := h.it
  have h3 := h.du
  have h4 := h.la
  exact ⟨h3, Int.le_refl _, by show 0 + g.du ≤ _; omega, by show g.la + g.du ≤ _; omega, Int.le_refl _⟩
theorem Inv.can_fall {t : Terms} {L : Int} {s : Nat} {g : St} (h : Inv t L s g) (hs : s ≤ 4320) (hL : L ≤ 4100000000000) : CanEnter (enter ⟨g, fun _ => 0⟩ 2 g.du) 3 g.it := by
  have hb := h.bound hs hL
  have h1 := h.pr
  have h2 := h.it
  have h3 := h.du
  have h4 := h.la
  exact ⟨h2, Int.le_refl _, by show 0 + g.it ≤ _; omega, by show g.du - g.du + g.it ≤ _; omega, Int.le_refl _⟩
theorem early_start {t : Terms} (cd : Int) (g : St) : early t t.st cd g = enter ⟨g, fun _ => 0⟩ 1 t.pr := by
  unfold early
  simp
theorem early_due {t : Terms} {n : Int} (cd : Int) (g : St) (hn : ¬ n = t.st) (hd : cd = t.du ∧ g.fr ≤ n) : early t n cd g = enter (enter ⟨g, fun _ => 0⟩ 2 g.du) 3 g.it := by
  unfold early
  simp only [hn, if_false, not_false_eq_true, ne_eq, true_and]
  rw [if_pos hd]
  rfl
theorem early_not {t : Terms} {n : Int} (cd : Int) (g : St) (hn : ¬ n = t.st) (hd : ¬ (cd = t.du ∧ g.fr ≤ n)) : early t n cd g = ⟨g, fun _ => 0⟩ := by
  unfold early
  simp only [hn, if_false, not_false_eq_true, ne_eq, true_and]
  rw [if_neg hd]
end Ln
set_option maxRecDepth 10000 in
set_option maxHeartbeats 1000000 in
theorem pbegin_any (w : World) (P : Nat) (t : Ln.Terms) (n : Int) (g : Ln.St) (n0 : 0 ≤ n) (n1 : n ≤ 109573) (h : Pas w P t n ⟨g, fun _ => 0⟩) (hm : Mv w) (hP : ¬ P = 1) (L : Int) (s : Nat) (hI : Ln.Inv t L s g) (hs : s ≤ 4320) (hL : L ≤ 4100000000000) (hfn : g.fn / Ln.den t ≤ 8000000000000000000) (ht : Ln.OkT t) :
    Calls Tryz.prog 78 #[.pointer (some ⟨P, 0, none⟩)] w fun e w' => e = .returned (.tuple #[]) ∧ Pas w' P t n (Ln.early t n (cdOf n) g) ∧ Keep (fun b => b = P) w w' := by
  have hf := hI.fit hs hL hfn (fun _ => 0)
  obtain ⟨c, i, f, hA⟩ := id h
  have c0 : w.cell? ⟨P, 0, none⟩ = some (.int .i64 t.st) := hA.cell 0 rfl
  have c1 : w.cell? ⟨P, 1, none⟩ = some (.int .i64 t.pr) := hA.cell 1 rfl
  have c5 : w.cell? ⟨P, 5, none⟩ = some (.int .i64 t.du) := hA.cell 5 rfl
  have c6 : w.cell? ⟨P, 6, none⟩ = some (.int .i64 n) := hA.cell 6 rfl
  have c17 : w.cell? ⟨P, 17, none⟩ = some (.int .i64 g.fr) := hA.cell 17 rfl
  by_cases hn : n = t.st
  · subst hn
    have hE := penter_any w.drew P t t.st _ h.drew hm.drew hP hf 1 t.pr (hI.can_lent hs hL ht)
    rw [← Ln.early_start (cdOf t.st)] at hE
    clear hI hf h hA c5 c17 ht hm
    generalize Ln.early t t.st (cdOf t.st) g = y at *
    go_enter Tryz.func78, Tryz.ntmps78
    go_wp2
    go_region
    go_wp2_with fail
    refine hE.mono ?_
    rintro e w1 ⟨rfl, hg1, hk1⟩
    clear hE
    go_wp2
    go_end0
    exact ⟨rfl, hg1, (Keep.refl _ w).drew.trans hk1⟩
  · have e1 : (n == t.st) = false := by simpa using hn
    have hF : ∀ b : Bool, Hid (b = decide (cdOf n = t.du ∧ g.fr ≤ n)) → Calls Tryz.prog 106 #[.pointer (some ⟨P, 0, none⟩)] w.drew fun e w' => e = .returned (.bool b) ∧ Below w.drew.heap.size w.drew w' :=
      fun b hb => fallsDue_core P t.du n g.fr (cdOf n) w.drew c5 c6 c17 (fun W => dayOfMonth_any n W n0 n1) b hb
    by_cases hd : cdOf n = t.du ∧ g.fr ≤ n
    · have hE2 : ∀ W : World, Keep (fun _ => False) w.drew W → Calls Tryz.prog 105 #[.pointer (some ⟨P, 0, none⟩), .int .i64 2, .int .i64 g.du] W fun e w' => e = .returned (.tuple #[]) ∧ Pas w' P t n (Ln.enter ⟨g, fun _ => 0⟩ 2 g.du) ∧ Keep (fun b => b = P) W w' :=
        fun W k => penter_any W P t n _ (h.drew.keep k (fun x => x)) (hm.drew.keep k (fun x => x)) hP hf 2 g.du (hI.can_over hs hL)
      have hE3 : ∀ W : World, Keep (fun b => b = P) w.drew W → Pas W P t n (Ln.enter ⟨g, fun _ => 0⟩ 2 g.du) → Calls Tryz.prog 105 #[.pointer (some ⟨P, 0, none⟩), .int .i64 3, .int .i64 g.it] W fun e w' => e = .returned (.tuple #[]) ∧ Pas w' P t n (Ln.enter (Ln.enter ⟨g, fun _ => 0⟩ 2 g.du) 3 g.it) ∧ Keep (fun b => b = P) W w' :=
        fun W k hp => penter_any W P t n _ hp (hm.drew.keep k (fun e => hP e.symm)) hP (hI.fit_over hs hL hfn _) 3 g.it (hI.can_fall hs hL)
      rw [Ln.early_due (cdOf n) g hn hd]
      have hF' := hF true (by show true = decide _; simp [hd])
      have c10 : w.cell? ⟨P, 10, none⟩ = some (.int .i64 g.du) := hA.cell 10 rfl
      have hl : P < w.heap.size := h.lt
      clear hF hI hf hA ht hm hd
      go_enter Tryz.func78, Tryz.ntmps78
      go_wp2
      go_region
      go_wp2_with fail
      refine hF'.mono ?_
      rintro e w1 ⟨rfl, hb1⟩
      clear hF'
      have k1 : Keep (fun _ => False) w.drew w1 := Keep.below hb1
      have d10 : w1.cell? ⟨P, 10, none⟩ = some (.int .i64 g.du) := (hb1.cell (p := ⟨P, 10, none⟩) hl).trans c10
      go_wp2_with fail
      refine (hE2 _ k1).mono ?_
      rintro e w2 ⟨rfl, hg2, k2⟩
      have k2' : Keep (fun b => b = P) w.drew w2 := (k1.mono (fun _ _ h => h.elim)).trans k2
      have d9 : w2.cell? ⟨P, 9, none⟩ = some (.int .i64 g.it) := by
        obtain ⟨c', i', f', hA'⟩ := hg2
        exact hA'.cell 9 rfl
      clear hE2
      go_wp2_with fail
      refine (hE3 _ k2' hg2).mono ?_
      rintro e w3 ⟨rfl, hg3, k3⟩
      clear hE3
      go_wp2
      go_end0
      exact ⟨rfl, hg3, ((Keep.refl _ w).drew.trans k2').trans k3⟩
    · rw [Ln.early_not (cdOf n) g hn hd]
      have hF' := hF false (by show false = decide _; simp [hd])
      clear hF hI hf hA ht hm
      go_enter Tryz.func78, Tryz.ntmps78
      go_wp2
      go_region
      go_wp2_with fail
      refine hF'.mono ?_
      rintro e w1 ⟨rfl, hb1⟩
      clear hF'
      go_wp2
      go_end0
      have k1 : Keep (fun b => b = P) w w1 := (Keep.refl _ w).drew.trans (Keep.below hb1)
      exact ⟨rfl, h.keep (S := fun _ => False) ((Keep.refl _ w).drew.trans (Keep.below hb1)) (fun x => x), k1⟩
end Go.Proofs.YtanndhoimpnhpaaGreatDoor
namespace Go.Proofs.YtanndhoimpnhpaaGreatDoor
open Go.RowKit
set_option maxRecDepth 10000 in
set_option maxHeartbeats 2000000 in
theorem ppay_any (w : World) (P : Nat) (t : Ln.Terms) (n : Int) (y : Ln.Dy) (h : Pas w P t n y) (hm : Mv w) (hP : ¬ P = 1) (hf : Ln.Fit y) (L : Int) (hLm : L ≤ 4100000000000) (hA : Ln.Am y L) (hc : y.g.cr ≤ 4100000000000) (a : Int) (a0 : 0 ≤ a) (a1 : a ≤ 100000000000) :
    Calls Tryz.prog 111 #[.pointer (some ⟨P, 0, none⟩), .int .i64 a] w fun e w' => e = .returned (.tuple #[]) ∧ Pas w' P t n (Ln.pay y a) ∧ Keep (fun b => b = P) w w' := by
  go_enter Tryz.func111, Tryz.ntmps111
  go_wp2
  go_loopw [1, 8] (fun l i wr => ∃ k : Nat, k ≤ 5 ∧ i = .int .i64 k ∧ l = .int .i64 (Ln.payK y a k).2 ∧ Pas wr P t n (Ln.payK y a k).1 ∧ Keep (fun b => b = P) w wr) (fun _ i _ => 5 - (intOf i).toNat)
  case atStart => exact ⟨0, by omega, rfl, rfl, h, Keep.refl _ _⟩
  case round =>
    obtain ⟨k, hk, rfl, rfl, hg, hkeep⟩ := hrel
    have hl := Ln.payK_left y a hf a0 k
    have hfk := Ln.payK_fit y a hf a0 k hk
    have hmr : Mv wr := hm.keep hkeep (fun e => hP e.symm)
    by_cases hlt : k < 5
    · have hcan := Ln.payK_can y a L hLm hf hA a0 a1 k hlt
      have hw0 := Ln.owed_nn hf k
      have hE := penter_any wr.drew P t n (Ln.payK y a k).1 hg.drew hmr.drew hP hfk (5 + k) _ hcan
      have hL : Hid (Ln.least (Ln.owed y.g k) (Ln.payK y a k).2 = if (Ln.payK y a k).2 < Ln.owed y.g k then (Ln.payK y a k).2 else Ln.owed y.g k) := rfl
      have hP1 : Hid ((Ln.payK y a (k + 1)).1 = Ln.enter (Ln.payK y a k).1 (5 + k) (Ln.least (Ln.owed y.g k) (Ln.payK y a k).2)) := rfl
      have hP2 : Hid ((Ln.payK y a (k + 1)).2 = (Ln.payK y a k).2 - Ln.least (Ln.owed y.g k) (Ln.payK y a k).2) := rfl
      match k, hlt with
      | 0, _ =>
        have hcell : wr.cell? ⟨P, 12, none⟩ = some (.int .i64 (Ln.owed y.g 0)) := by
          obtain ⟨c, i, f, hg⟩ := hg
          exact hg.cell 12 rfl
        have hmv : wr.cell? ⟨1, 11, none⟩ = some (.int .i64 5) := hmr 11 _ rfl
        have hix : ∀ wi : World, Sem.run Tryz.prog (Instr.index 200 (.agg #[.int .i64 5, .int .i64 6, .int .i64 7, .int .i64 8, .int .i64 9]) (.int .i64 0)) wi = .ok (.int .i64 5) wi := fun _ => by kernel_rfl
        clear hA hf hfk hcan h hg hm hmr
        generalize (Ln.payK y a 0).2 = left at *
        generalize Ln.owed y.g 0 = x at *
        by_cases hx : left ≤ x
        · have hq : Hid ((if left < x then left else x) = left) := by show (if left < x then left else x) = left; split <;> omega
          rw [hL.out, hq.out] at hE hP1 hP2
          go_wp2
          go_region
          go_wp2_with fail
          refine hE.mono ?_
          rintro e w1 ⟨rfl, hg1, hk1⟩
          clear hE
          go_wp2
          go_roundw
          case rel => exact ⟨1, by omega, by go_num, by rw [hP2.out]; simp, by rw [hP1.out]; exact hg1, hkeep.drew.trans hk1⟩
          case measure => simp [intOf]
        · have hx' : x < left := by omega
          rw [hL.out, if_neg (by omega)] at hE hP1 hP2
          go_wp2
          go_region
          go_wp2_with fail
          refine hE.mono ?_
          rintro e w1 ⟨rfl, hg1, hk1⟩
          clear hE
          go_wp2
          go_roundw
          case rel => exact ⟨1, by omega, by go_num, by rw [hP2.out], by rw [hP1.out]; exact hg1, hkeep.drew.trans hk1⟩
          case measure => simp [intOf]
      | 1, _ =>
        have hcell : wr.cell? ⟨P, 11, none⟩ = some (.int .i64 (Ln.owed y.g 1)) := by
          obtain ⟨c, i, f, hg⟩ := hg
          exact hg.cell 11 rfl
        have hmv : wr.cell? ⟨1, 13, none⟩ = some (.int .i64 4) := hmr 13 _ rfl
        have hix : ∀ wi : World, Sem.run Tryz.prog (Instr.index 200 (.agg #[.int .i64 5, .int .i64 6, .int .i64 7, .int .i64 8, .int .i64 9]) (.int .i64 1)) wi = .ok (.int .i64 6) wi := fun _ => by kernel_rfl
        clear hA hf hfk hcan h hg hm hmr
        generalize (Ln.payK y a 1).2 = left at *
        generalize Ln.owed y.g 1 = x at *
        by_cases hx : left ≤ x
        · have hq : Hid ((if left < x then left else x) = left) := by show (if left < x then left else x) = left; split <;> omega
          rw [hL.out, hq.out] at hE hP1 hP2
          go_wp2
          go_region
          go_wp2_with fail
          refine hE.mono ?_
          rintro e w1 ⟨rfl, hg1, hk1⟩
          clear hE
          go_wp2
          go_roundw
          case rel => exact ⟨2, by omega, by go_num, by rw [hP2.out]; simp, by rw [hP1.out]; exact hg1, hkeep.drew.trans hk1⟩
          case measure => simp [intOf]
        · have hx' : x < left := by omega
          rw [hL.out, if_neg (by omega)] at hE hP1 hP2
          go_wp2
          go_region
          go_wp2_with fail
          refine hE.mono ?_
          rintro e w1 ⟨rfl, hg1, hk1⟩
          clear hE
          go_wp2
          go_roundw
          case rel => exact ⟨2, by omega, by go_num, by rw [hP2.out], by rw [hP1.out]; exact hg1, hkeep.drew.trans hk1⟩
          case measure => simp [intOf]
      | 2, _ =>
        have hcell : wr.cell? ⟨P, 10, none⟩ = some (.int .i64 (Ln.owed y.g 2)) := by
          obtain ⟨c, i, f, hg⟩ := hg
          exact hg.cell 10 rfl
        have hmv : wr.cell? ⟨1, 15, none⟩ = some (.int .i64 3) := hmr 15 _ rfl
        have hix : ∀ wi : World, Sem.run Tryz.prog (Instr.index 200 (.agg #[.int .i64 5, .int .i64 6, .int .i64 7, .int .i64 8, .int .i64 9]) (.int .i64 2)) wi = .ok (.int .i64 7) wi := fun _ => by kernel_rfl
        clear hA hf hfk hcan h hg hm hmr
        generalize (Ln.payK y a 2).2 = left at *
        generalize Ln.owed y.g 2 = x at *
        by_cases hx : left ≤ x
        · have hq : Hid ((if left < x then left else x) = left) := by show (if left < x then left else x) = left; split <;> omega
          rw [hL.out, hq.out] at hE hP1 hP2
          go_wp2
          go_region
          go_wp2_with fail
          refine hE.mono ?_
          rintro e w1 ⟨rfl, hg1, hk1⟩
          clear hE
          go_wp2
          go_roundw
          case rel => exact ⟨3, by omega, by go_num, by rw [hP2.out]; simp, by rw [hP1.out]; exact hg1, hkeep.drew.trans hk1⟩
          case measure => simp [intOf]
        · have hx' : x < left := by omega
          rw [hL.out, if_neg (by omega)] at hE hP1 hP2
          go_wp2
          go_region
          go_wp2_with fail
          refine hE.mono ?_
          rintro e w1 ⟨rfl, hg1, hk1⟩
          clear hE
          go_wp2
          go_roundw
          case rel => exact ⟨3, by omega, by go_num, by rw [hP2.out], by rw [hP1.out]; exact hg1, hkeep.drew.trans hk1⟩
          case measure => simp [intOf]
      | 3, _ =>
        have hcell : wr.cell? ⟨P, 9, none⟩ = some (.int .i64 (Ln.owed y.g 3)) := by
          obtain ⟨c, i, f, hg⟩ := hg
          exact hg.cell 9 rfl
        have hmv : wr.cell? ⟨1, 17, none⟩ = some (.int .i64 2) := hmr 17 _ rfl
        have hix : ∀ wi : World, Sem.run Tryz.prog (Instr.index 200 (.agg #[.int .i64 5, .int .i64 6, .int .i64 7, .int .i64 8, .int .i64 9]) (.int .i64 3)) wi = .ok (.int .i64 8) wi := fun _ => by kernel_rfl
        clear hA hf hfk hcan h hg hm hmr
        generalize (Ln.payK y a 3).2 = left at *
        generalize Ln.owed y.g 3 = x at *
        by_cases hx : left ≤ x
        · have hq : Hid ((if left < x then left else x) = left) := by show (if left < x then left else x) = left; split <;> omega
          rw [hL.out, hq.out] at hE hP1 hP2
          go_wp2
          go_region
          go_wp2_with fail
          refine hE.mono ?_
          rintro e w1 ⟨rfl, hg1, hk1⟩
          clear hE
          go_wp2
          go_roundw
          case rel => exact ⟨4, by omega, by go_num, by rw [hP2.out]; simp, by rw [hP1.out]; exact hg1, hkeep.drew.trans hk1⟩
          case measure => simp [intOf]
        · have hx' : x < left := by omega
          rw [hL.out, if_neg (by omega)] at hE hP1 hP2
          go_wp2
          go_region
          go_wp2_with fail
          refine hE.mono ?_
          rintro e w1 ⟨rfl, hg1, hk1⟩
          clear hE
          go_wp2
          go_roundw
          case rel => exact ⟨4, by omega, by go_num, by rw [hP2.out], by rw [hP1.out]; exact hg1, hkeep.drew.trans hk1⟩
          case measure => simp [intOf]
      | 4, _ =>
        have hcell : wr.cell? ⟨P, 8, none⟩ = some (.int .i64 (Ln.owed y.g 4)) := by
          obtain ⟨c, i, f, hg⟩ := hg
          exact hg.cell 8 rfl
        have hmv : wr.cell? ⟨1, 19, none⟩ = some (.int .i64 1) := hmr 19 _ rfl
        have hix : ∀ wi : World, Sem.run Tryz.prog (Instr.index 200 (.agg #[.int .i64 5, .int .i64 6, .int .i64 7, .int .i64 8, .int .i64 9]) (.int .i64 4)) wi = .ok (.int .i64 9) wi := fun _ => by kernel_rfl
        clear hA hf hfk hcan h hg hm hmr
        generalize (Ln.payK y a 4).2 = left at *
        generalize Ln.owed y.g 4 = x at *
        by_cases hx : left ≤ x
        · have hq : Hid ((if left < x then left else x) = left) := by show (if left < x then left else x) = left; split <;> omega
          rw [hL.out, hq.out] at hE hP1 hP2
          go_wp2
          go_region
          go_wp2_with fail
          refine hE.mono ?_
          rintro e w1 ⟨rfl, hg1, hk1⟩
          clear hE
          go_wp2
          go_roundw
          case rel => exact ⟨5, by omega, by go_num, by rw [hP2.out]; simp, by rw [hP1.out]; exact hg1, hkeep.drew.trans hk1⟩
          case measure => simp [intOf]
        · have hx' : x < left := by omega
          rw [hL.out, if_neg (by omega)] at hE hP1 hP2
          go_wp2
          go_region
          go_wp2_with fail
          refine hE.mono ?_
          rintro e w1 ⟨rfl, hg1, hk1⟩
          clear hE
          go_wp2
          go_roundw
          case rel => exact ⟨5, by omega, by go_num, by rw [hP2.out], by rw [hP1.out]; exact hg1, hkeep.drew.trans hk1⟩
          case measure => simp [intOf]
    · obtain rfl : k = 5 := by omega
      have hE := penter_any wr P t n (Ln.payK y a 5).1 hg hmr hP hfk 10 _ (Ln.pay_can y a L hLm hf hA hc a0 a1)
      rw [← Ln.pay_eq] at hE
      clear hA hf hfk h hg hc hm hmr
      generalize (Ln.payK y a 5).2 = left at *
      go_wp2_with fail
      refine hE.mono ?_
      rintro e w1 ⟨rfl, hg1, hk1⟩
      clear hE
      go_wp2
      go_end0
      exact ⟨rfl, hg1, hkeep.trans hk1⟩
end Go.Proofs.YtanndhoimpnhpaaGreatDoor
namespace Go.Proofs.YtanndhoimpnhpaaGreatDoor
open Go.RowKit Cal
set_option maxRecDepth 10000 in
set_option maxHeartbeats 1000000 in
theorem draw_any (w : World) (P : Nat) (t : Ln.Terms) (n : Int) (y : Ln.Dy) (h : Pas w P t n y) (hm : Mv w) (hP : ¬ P = 1) (hf : Ln.Fit y) (a : Int) (hc : Ln.CanEnter y 1 a) :
    Calls Tryz.prog 107 #[.pointer (some ⟨P, 0, none⟩), .int .i64 a] w fun e w' => e = .returned (.tuple #[]) ∧ Pas w' P t n (Ln.enter y 1 a) ∧ Keep (fun b => b = P) w w' := by
  have hE := penter_any w P t n y h hm hP hf 1 a hc
  clear h hm hf hc
  go_enter Tryz.func107, Tryz.ntmps107
  go_wp2_with fail
  refine hE.mono ?_
  rintro e w1 ⟨rfl, hg1, hk1⟩
  clear hE
  go_wp2
  go_end0
  exact ⟨rfl, hg1, hk1⟩
set_option maxRecDepth 10000 in
set_option maxHeartbeats 1000000 in
theorem capitalise_any (w : World) (P : Nat) (t : Ln.Terms) (n : Int) (y : Ln.Dy) (h : Pas w P t n y) (hm : Mv w) (hP : ¬ P = 1) (hf : Ln.Fit y) (a : Int) (hc : Ln.CanEnter y 4 y.g.it) :
    Calls Tryz.prog 110 #[.pointer (some ⟨P, 0, none⟩), .int .i64 a] w fun e w' => e = .returned (.tuple #[]) ∧ Pas w' P t n (Ln.enter y 4 y.g.it) ∧ Keep (fun b => b = P) w w' := by
  have hE := penter_any w P t n y h hm hP hf 4 y.g.it hc
  have c9 : w.cell? ⟨P, 9, none⟩ = some (.int .i64 y.g.it) := by
    obtain ⟨c, i, f, h⟩ := h
    exact h.cell 9 rfl
  clear h hm hf hc
  go_enter Tryz.func110, Tryz.ntmps110
  go_wp2_with fail
  refine hE.mono ?_
  rintro e w1 ⟨rfl, hg1, hk1⟩
  clear hE
  go_wp2
  go_end0
  exact ⟨rfl, hg1, hk1⟩
set_option maxRecDepth 10000 in
theorem setRate_any (w : World) (P : Nat) (t : Ln.Terms) (n : Int) (y : Ln.Dy) (h : Pas w P t n y) (a : Int) :
    Calls Tryz.prog 108 #[.pointer (some ⟨P, 0, none⟩), .int .i64 a] w fun e w' => e = .returned (.tuple #[]) ∧ Pas w' P t n { y with g := { y.g with rt := a } } ∧ Keep (fun b => b = P) w w' := by
  obtain ⟨c, i, f, h⟩ := h
  have c16 : w.cell? ⟨P, 16, none⟩ = some (.int .i64 y.g.rt) := h.cell 16 rfl
  have z16 : w.frozen? ⟨P, 16, none⟩ = false := h.free 16 rfl
  have hR : Pas (w.setCell ⟨P, 16, none⟩ (.int .i64 a)) P t n { y with g := { y.g with rt := a } } := ⟨c, i, f, h.set 16 (show 16 < 33 by decide) (.int .i64 a)⟩
  have hK : Keep (fun b => b = P) w (w.setCell ⟨P, 16, none⟩ (.int .i64 a)) := (Keep.refl _ w).set (S := fun b => b = P) rfl 16 _
  clear h
  go_enter Tryz.func108, Tryz.ntmps108
  go_wp2
  go_end0
  exact ⟨rfl, hR, hK⟩
def hol (n : Int) (y : Ln.Dy) (a : Int) : Ln.Dy := if y.g.fr < n + a then { y with g := { y.g with fr := n + a } } else y
set_option maxRecDepth 10000 in
theorem beginHoliday_any (w : World) (P : Nat) (t : Ln.Terms) (n : Int) (y : Ln.Dy) (h : Pas w P t n y) (a : Int) (n0 : 0 ≤ n) (n1 : n ≤ 109573) (a0 : 0 ≤ a) (a1 : a ≤ 400) :
    Calls Tryz.prog 109 #[.pointer (some ⟨P, 0, none⟩), .int .i64 a] w fun e w' => e = .returned (.tuple #[]) ∧ Pas w' P t n (hol n y a) ∧ Keep (fun b => b = P) w w' := by
  obtain ⟨c, i, f, h⟩ := h
  have c6 : w.cell? ⟨P, 6, none⟩ = some (.int .i64 n) := h.cell 6 rfl
  have c17 : w.cell? ⟨P, 17, none⟩ = some (.int .i64 y.g.fr) := h.cell 17 rfl
  have z17 : w.frozen? ⟨P, 17, none⟩ = false := h.free 17 rfl
  have hR : ∀ v : Int, Pas (w.setCell ⟨P, 17, none⟩ (.int .i64 v)).drew P t n { y with g := { y.g with fr := v } } := fun v => ⟨c, i, f, (h.set 17 (show 17 < 33 by decide) (.int .i64 v)).drew⟩
  have hK : ∀ v : Int, Keep (fun b => b = P) w (w.setCell ⟨P, 17, none⟩ (.int .i64 v)).drew := fun v => ((Keep.refl _ w).set (S := fun b => b = P) rfl 17 _).drew
  clear h
  by_cases hx : y.g.fr < n + a
  · have e : hol n y a = { y with g := { y.g with fr := n + a } } := by
      unfold hol
      rw [if_pos hx]
    have hx' : ¬ n + a ≤ y.g.fr := by omega
    rw [e]
    go_enter Tryz.func109, Tryz.ntmps109
    go_wp2
    go_region
    go_wp2
    go_end0
    exact ⟨rfl, hR _, hK _⟩
  · have e : hol n y a = { y with g := { y.g with fr := y.g.fr } } := by
      unfold hol
      rw [if_neg (by omega)]
    have hx' : n + a ≤ y.g.fr := by omega
    rw [e]
    go_enter Tryz.func109, Tryz.ntmps109
    go_wp2
    go_region
    go_wp2
    go_end0
    exact ⟨rfl, hR _, hK _⟩
set_option maxRecDepth 10000 in
set_option maxHeartbeats 1000000 in
theorem happen_1 (w : World) (P : Nat) (t : Ln.Terms) (n : Int) (y : Ln.Dy) (d s a : Int)
    (hE : ∀ W : World, Keep (fun _ => False) w W → Calls Tryz.prog 107 #[.pointer (some ⟨P, 0, none⟩), .int .i64 a] W fun e w' => e = .returned (.tuple #[]) ∧ Pas w' P t n y ∧ Keep (fun b => b = P) W w') :
    Calls Tryz.prog 79 #[.pointer (some ⟨P, 0, none⟩), .agg #[.int .i64 d, .int .i64 1, .int .i64 s, .int .i64 a]] w fun e w' => e = .returned (.tuple #[]) ∧ Pas w' P t n y ∧ Keep (fun b => b = P) w w' := by
  have hK : ∀ (S : Nat → Prop) (o p : Obj), Keep S w ((w.alloc o).alloc p).drew := fun S o p => Keep.below ((((Below.refl _ _).alloc (Nat.le_refl _) o).alloc (by simp) p).drew)
  go_enter Tryz.func79, Tryz.ntmps79
  go_wp2_with fail
  go_region_with ((go_at_call 107; refine (hE _ (hK _ _ _)).mono ?_; rintro e w' ⟨rfl, hg1, hk1⟩))
  all_goals
    go_wp2
    go_end0
    exact ⟨rfl, hg1, (hK _ _ _).trans hk1⟩
set_option maxRecDepth 10000 in
set_option maxHeartbeats 1000000 in
theorem happen_2 (w : World) (P : Nat) (t : Ln.Terms) (n : Int) (y : Ln.Dy) (d s a : Int)
    (hE : ∀ W : World, Keep (fun _ => False) w W → Calls Tryz.prog 108 #[.pointer (some ⟨P, 0, none⟩), .int .i64 a] W fun e w' => e = .returned (.tuple #[]) ∧ Pas w' P t n y ∧ Keep (fun b => b = P) W w') :
    Calls Tryz.prog 79 #[.pointer (some ⟨P, 0, none⟩), .agg #[.int .i64 d, .int .i64 2, .int .i64 s, .int .i64 a]] w fun e w' => e = .returned (.tuple #[]) ∧ Pas w' P t n y ∧ Keep (fun b => b = P) w w' := by
  have hK : ∀ (S : Nat → Prop) (o p : Obj), Keep S w ((w.alloc o).alloc p).drew := fun S o p => Keep.below ((((Below.refl _ _).alloc (Nat.le_refl _) o).alloc (by simp) p).drew)
  go_enter Tryz.func79, Tryz.ntmps79
  go_wp2_with fail
  go_region_with ((go_at_call 108; refine (hE _ (hK _ _ _)).mono ?_; rintro e w' ⟨rfl, hg1, hk1⟩))
  all_goals
    go_wp2
    go_end0
    exact ⟨rfl, hg1, (hK _ _ _).trans hk1⟩
set_option maxRecDepth 10000 in
set_option maxHeartbeats 1000000 in
theorem happen_3 (w : World) (P : Nat) (t : Ln.Terms) (n : Int) (y : Ln.Dy) (d s a : Int)
    (hE : ∀ W : World, Keep (fun _ => False) w W → Calls Tryz.prog 109 #[.pointer (some ⟨P, 0, none⟩), .int .i64 a] W fun e w' => e = .returned (.tuple #[]) ∧ Pas w' P t n y ∧ Keep (fun b => b = P) W w') :
    Calls Tryz.prog 79 #[.pointer (some ⟨P, 0, none⟩), .agg #[.int .i64 d, .int .i64 3, .int .i64 s, .int .i64 a]] w fun e w' => e = .returned (.tuple #[]) ∧ Pas w' P t n y ∧ Keep (fun b => b = P) w w' := by
  have hK : ∀ (S : Nat → Prop) (o p : Obj), Keep S w ((w.alloc o).alloc p).drew := fun S o p => Keep.below ((((Below.refl _ _).alloc (Nat.le_refl _) o).alloc (by simp) p).drew)
  go_enter Tryz.func79, Tryz.ntmps79
  go_wp2_with fail
  go_region_with ((go_at_call 109; refine (hE _ (hK _ _ _)).mono ?_; rintro e w' ⟨rfl, hg1, hk1⟩))
  all_goals
    go_wp2
    go_end0
    exact ⟨rfl, hg1, (hK _ _ _).trans hk1⟩
set_option maxRecDepth 10000 in
set_option maxHeartbeats 1000000 in
theorem happen_4 (w : World) (P : Nat) (t : Ln.Terms) (n : Int) (y : Ln.Dy) (d s a : Int)
    (hE : ∀ W : World, Keep (fun _ => False) w W → Calls Tryz.prog 110 #[.pointer (some ⟨P, 0, none⟩), .int .i64 a] W fun e w' => e = .returned (.tuple #[]) ∧ Pas w' P t n y ∧ Keep (fun b => b = P) W w') :
    Calls Tryz.prog 79 #[.pointer (some ⟨P, 0, none⟩), .agg #[.int .i64 d, .int .i64 4, .int .i64 s, .int .i64 a]] w fun e w' => e = .returned (.tuple #[]) ∧ Pas w' P t n y ∧ Keep (fun b => b = P) w w' := by
  have hK : ∀ (S : Nat → Prop) (o p : Obj), Keep S w ((w.alloc o).alloc p).drew := fun S o p => Keep.below ((((Below.refl _ _).alloc (Nat.le_refl _) o).alloc (by simp) p).drew)
  go_enter Tryz.func79, Tryz.ntmps79
  go_wp2_with fail
  go_region_with ((go_at_call 110; refine (hE _ (hK _ _ _)).mono ?_; rintro e w' ⟨rfl, hg1, hk1⟩))
  all_goals
    go_wp2
    go_end0
    exact ⟨rfl, hg1, (hK _ _ _).trans hk1⟩
set_option maxRecDepth 10000 in
set_option maxHeartbeats 1000000 in
theorem happen_5 (w : World) (P : Nat) (t : Ln.Terms) (n : Int) (y : Ln.Dy) (d s a : Int)
    (hE : ∀ W : World, Keep (fun _ => False) w W → Calls Tryz.prog 111 #[.pointer (some ⟨P, 0, none⟩), .int .i64 a] W fun e w' => e = .returned (.tuple #[]) ∧ Pas w' P t n y ∧ Keep (fun b => b = P) W w') :
    Calls Tryz.prog 79 #[.pointer (some ⟨P, 0, none⟩), .agg #[.int .i64 d, .int .i64 5, .int .i64 s, .int .i64 a]] w fun e w' => e = .returned (.tuple #[]) ∧ Pas w' P t n y ∧ Keep (fun b => b = P) w w' := by
  have hK : ∀ (S : Nat → Prop) (o p : Obj), Keep S w ((w.alloc o).alloc p).drew := fun S o p => Keep.below ((((Below.refl _ _).alloc (Nat.le_refl _) o).alloc (by simp) p).drew)
  go_enter Tryz.func79, Tryz.ntmps79
  go_wp2_with fail
  go_region_with ((go_at_call 111; refine (hE _ (hK _ _ _)).mono ?_; rintro e w' ⟨rfl, hg1, hk1⟩))
  all_goals
    go_wp2
    go_end0
    exact ⟨rfl, hg1, (hK _ _ _).trans hk1⟩
theorem Ln.event_eq {n : Int} (y : Ln.Dy) (e : Ln.Ev) (h : e.d = n) : Ln.event n y e = if e.k = 1 then Ln.enter y 1 e.a else if e.k = 2 then { y with g := { y.g with rt := e.a } } else if e.k = 3 then hol n y e.a else if e.k = 4 then Ln.enter y 4 y.g.it else if e.k = 5 then Ln.pay y e.a else y := by
  unfold Ln.event hol
  simp only [h, ne_eq, not_true, if_false]
theorem happen_any (w : World) (P : Nat) (t : Ln.Terms) (n : Int) (y : Ln.Dy) (h : Pas w P t n y) (hm : Mv w) (hP : ¬ P = 1) (n0 : 0 ≤ n) (n1 : n ≤ 109573) (L : Int) (s : Nat) (e : Ln.Ev) (hI : Ln.Inv t L s y.g) (hs : s ≤ 4320) (hL : L + e.a ≤ 4100000000000) (hfn : y.g.fn / Ln.den t ≤ 8000000000000000000) (hA : Ln.Am y L) (he : Ln.OkE t e) (hen : e.d = n) :
    Calls Tryz.prog 79 #[.pointer (some ⟨P, 0, none⟩), .agg #[.int .i64 e.d, .int .i64 e.k, .int .i64 e.s, .int .i64 e.a]] w fun x w' => x = .returned (.tuple #[]) ∧ Pas w' P t n (Ln.event n y e) ∧ Keep (fun b => b = P) w w' := by
  have a0 := he.a0
  have a1 := he.a1
  have k0 := he.k0
  have k1 := he.k1
  have hf : Ln.Fit y := hI.fit hs (by omega) hfn y.am
  have hb := hI.bound hs (by omega)
  have g1 := hI.pr
  have g2 := hI.it
  have g3 := hI.du
  have g4 := hI.la
  have hp : ∀ W : World, Keep (fun _ => False) w W → Pas W P t n y := fun W k => h.keep k (fun x => x)
  have hq : ∀ W : World, Keep (fun _ => False) w W → Mv W := fun W k => hm.keep k (fun x => x)
  rw [Ln.event_eq y e hen]
  rcases (show e.k = 1 ∨ e.k = 2 ∨ e.k = 3 ∨ e.k = 4 ∨ e.k = 5 by omega) with hk | hk | hk | hk | hk
  · rw [hk]
    have hc : Ln.CanEnter y 1 e.a := ⟨a0, hA.nn 1, by have := hA.a1; omega, by show y.g.pr + e.a ≤ _; omega⟩
    exact happen_1 w P t n _ e.d e.s e.a (fun W k => draw_any W P t n y (hp W k) (hq W k) hP hf e.a hc)
  · rw [hk]
    exact happen_2 w P t n _ e.d e.s e.a (fun W k => setRate_any W P t n y (hp W k) e.a)
  · rw [hk]
    exact happen_3 w P t n _ e.d e.s e.a (fun W k => beginHoliday_any W P t n y (hp W k) e.a n0 n1 a0 (he.ho hk))
  · rw [hk]
    have hc : Ln.CanEnter y 4 y.g.it := ⟨g2, hA.nn 4, by have := hA.a4; omega, by show y.g.pr + y.g.it ≤ _; omega, Int.le_refl _⟩
    exact happen_4 w P t n _ e.d e.s e.a (fun W k => capitalise_any W P t n y (hp W k) (hq W k) hP hf e.a hc)
  · rw [hk]
    exact happen_5 w P t n _ e.d e.s e.a (fun W k => ppay_any W P t n y (hp W k) (hq W k) hP hf L (by omega) hA (by have := hI.cr1; omega) e.a a0 a1)
end Go.Proofs.YtanndhoimpnhpaaGreatDoor
namespace Go.Proofs.YtanndhoimpnhpaaGreatDoor
open Go.RowKit Go.Lib
namespace Q64
theorem maskN (a : Nat) (ha : a < 18446744073709551616) : bits .and .u64 (a : Int) 4294967295 = ((a % 4294967296 : Nat) : Int) := by
  have h := bits_and_u64_nat a 4294967295 ha (by omega)
  have e : a &&& 4294967295 = a % 4294967296 := Nat.and_two_pow_sub_one_eq_mod a 32
  rw [e] at h
  exact h
theorem divN (a : Nat) : (a : Int) / 4294967296 = ((a / 4294967296 : Nat) : Int) := by omega
theorem mulN (a b : Nat) : (a : Int) * (b : Int) = ((a * b : Nat) : Int) := (Int.natCast_mul a b).symm
theorem addN (a b : Nat) : (a : Int) + (b : Int) = ((a + b : Nat) : Int) := (Int.natCast_add a b).symm
theorem wrapN (a : Nat) (ha : a < 18446744073709551616) : IntKind.u64.wrap (a : Int) = (a : Int) := by rw [IntKind.wrap_u64]; omega
theorem wrapM (a : Nat) : IntKind.u64.wrap (a : Int) = ((a % 18446744073709551616 : Nat) : Int) := by rw [IntKind.wrap_u64]; omega
end Q64
set_option maxHeartbeats 1000000 in
theorem mul64_any (x y : Nat) (hx : x < 18446744073709551616) (hy : y < 18446744073709551616) (w : World) :
    Calls Tryz.prog 133 #[.int .u64 x, .int .u64 y] w fun e w' => e = .returned (.tuple #[.int .u64 ((x * y / 18446744073709551616 : Nat) : Int), .int .u64 ((x * y % 18446744073709551616 : Nat) : Int)]) ∧ w' = w := by
  obtain ⟨bd, bt, bw, hhi⟩ := Lib.mul64_hi x y hx hy
  have ba := Lib.half_mul_le (a := x / 4294967296) (b := y / 4294967296) (by omega) (by omega)
  have bb := Lib.half_mul_le (a := x / 4294967296) (b := y % 4294967296) (by omega) (by omega)
  have bc := Lib.half_mul_le (a := x % 4294967296) (b := y / 4294967296) (by omega) (by omega)
  have ba' : x / 4294967296 * (y / 4294967296) < 18446744073709551616 := by omega
  have bb' : x / 4294967296 * (y % 4294967296) < 18446744073709551616 := by omega
  have bc' : x % 4294967296 * (y / 4294967296) < 18446744073709551616 := by omega
  have bh1 : x / 4294967296 * (y / 4294967296) + (x / 4294967296 * (y % 4294967296) + x % 4294967296 * (y % 4294967296) / 4294967296) / 4294967296 < 18446744073709551616 := by omega
  have bh : x / 4294967296 * (y / 4294967296) + (x / 4294967296 * (y % 4294967296) + x % 4294967296 * (y % 4294967296) / 4294967296) / 4294967296 + ((x / 4294967296 * (y % 4294967296) + x % 4294967296 * (y % 4294967296) / 4294967296) % 4294967296 + x % 4294967296 * (y / 4294967296)) / 4294967296 < 18446744073709551616 := by omega
  go_enter Tryz.func133, Tryz.ntmps133
  go_wp2
  simp only [Q64.maskN x hx, Q64.maskN y hy, Q64.divN, Q64.mulN, Q64.addN, Q64.wrapN _ bd, Q64.wrapN _ bb', Q64.wrapN _ bt, Q64.maskN _ bt, Q64.wrapN _ bc', Q64.wrapN _ bw, Q64.wrapN _ ba', Q64.wrapN _ bh1, Q64.wrapN _ bh, Q64.wrapM (x * y)]
  rw [hhi]
  go_ret2
  exact ⟨rfl, rfl⟩
set_option maxRecDepth 20000 in
theorem len64_365 (w : World) : Calls Tryz.prog 166 #[.int .u64 365000000] w fun e w' => e = .returned (.int .i64 29) ∧ w' = w := by
  go_enter Tryz.func166, Tryz.ntmps166
  go_wp2
  go_ret
  exact ⟨by kernel_rfl, rfl⟩
set_option maxRecDepth 20000 in
theorem len64_360 (w : World) : Calls Tryz.prog 166 #[.int .u64 360000000] w fun e w' => e = .returned (.int .i64 29) ∧ w' = w := by
  go_enter Tryz.func166, Tryz.ntmps166
  go_wp2
  go_ret
  exact ⟨by kernel_rfl, rfl⟩
theorem lz64_365 (w : World) : Calls Tryz.prog 146 #[.int .u64 365000000] w fun e w' => e = .returned (.int .i64 35) ∧ w' = w := by
  go_enter Tryz.func146, Tryz.ntmps146
  go_wp2_with (go_at_call 166; refine (len64_365 _).mono ?_; rintro e w' ⟨rfl, rfl⟩)
  go_ret
  exact ⟨rfl, rfl⟩
theorem lz64_360 (w : World) : Calls Tryz.prog 146 #[.int .u64 360000000] w fun e w' => e = .returned (.int .i64 35) ∧ w' = w := by
  go_enter Tryz.func146, Tryz.ntmps146
  go_wp2_with (go_at_call 166; refine (len64_360 _).mono ?_; rintro e w' ⟨rfl, rfl⟩)
  go_ret
  exact ⟨rfl, rfl⟩
theorem or35 (hi lo : Int) (h0 : 0 ≤ hi) (h1 : hi < 536870912) (l0 : 0 ≤ lo) (l1 : lo < 18446744073709551616) : bits .or .u64 (hi * 34359738368) (lo / 536870912) = hi * 34359738368 + lo / 536870912 := by
  obtain ⟨a, rfl⟩ := Int.eq_ofNat_of_zero_le h0
  obtain ⟨b, rfl⟩ := Int.eq_ofNat_of_zero_le l0
  have e := bits_or_u64_nat (a * 34359738368) (b / 536870912) (by omega) (by omega)
  have e2 : a * 34359738368 ||| b / 536870912 = a * 34359738368 + b / 536870912 := by
    have h35 : (2 : Nat) ^ 35 = 34359738368 := by decide +kernel
    have := Nat.two_pow_add_eq_or_of_lt (i := 35) (b := b / 536870912) (by rw [h35]; omega) a
    rw [h35, Nat.mul_comm] at this
    exact this.symm
  rw [e2] at e
  have c1 : ((a * 34359738368 : Nat) : Int) = (a : Int) * 34359738368 := by omega
  have c2 : ((b / 536870912 : Nat) : Int) = (b : Int) / 536870912 := by omega
  rw [Int.natCast_add, c1, c2] at e
  exact e
theorem and35 (L : Int) (h0 : 0 ≤ L) (h1 : L < 536870912) : bits .and .u64 (L * 34359738368) 4294967295 = 0 := by
  obtain ⟨a, rfl⟩ := Int.eq_ofNat_of_zero_le h0
  have e := Q64.maskN (a * 34359738368) (by omega)
  have c1 : ((a * 34359738368 : Nat) : Int) = (a : Int) * 34359738368 := by omega
  rw [c1] at e
  rw [e]
  omega
theorem div64_365_0 (lo : Int) (l0 : 0 ≤ lo) (l1 : lo < 18446744073709551616) (w : World) :
    Calls Tryz.prog 135 #[.int .u64 0, .int .u64 lo, .int .u64 365000000] w fun e w' => e = .returned (.tuple #[.int .u64 (lo / 365000000), .int .u64 (lo % 365000000)]) ∧ ∃ n, w' = w.drewN n := by
  go_enter Tryz.func135, Tryz.ntmps135
  go_wp2
  go_region
  go_wp2
  go_ret2
  exact ⟨rfl, 1, rfl⟩
theorem wr_365 (U L : Int) (L0 : 0 ≤ L) (L1 : L < 536870912) :
    IntKind.u64.wrap (IntKind.u64.wrap (IntKind.u64.wrap (U * 4294967296) + L * 8) - IntKind.u64.wrap (U / 2920000000 * 12541304504320000000)) = U % 2920000000 * 4294967296 + L * 8 := by
  simp only [IntKind.wrap_u64]
  omega
theorem wq_365 (V : Int) :
    IntKind.u64.wrap (IntKind.u64.wrap (IntKind.u64.wrap (V * 4294967296)) - IntKind.u64.wrap (V / 2920000000 * 12541304504320000000)) = V % 2920000000 * 4294967296 := by
  simp only [IntKind.wrap_u64]
  omega
theorem fin_365 (hi lo U L V : Int) (eU : U = hi * 34359738368 + lo / 536870912) (eL : L = lo % 536870912) (eV : V = U % 2920000000 * 4294967296 + L * 8) :
    U / 2920000000 * 4294967296 + V / 2920000000 = (hi * 18446744073709551616 + lo) / 365000000 ∧ V % 2920000000 * 4294967296 / 34359738368 = (hi * 18446744073709551616 + lo) % 365000000 := by
  have e8 : U * 4294967296 + L * 8 = 8 * (hi * 18446744073709551616 + lo) := by omega
  generalize hi * 18446744073709551616 + lo = N at *
  have eV' : V = 8 * N - U / 2920000000 * 12541304504320000000 := by omega
  omega
set_option maxRecDepth 4000 in
set_option maxHeartbeats 1000000 in
theorem div64_365 (hi lo : Int) (h0 : 0 < hi) (h1 : hi < 365000000) (l0 : 0 ≤ lo) (l1 : lo < 18446744073709551616) (w : World) :
    Calls Tryz.prog 135 #[.int .u64 hi, .int .u64 lo, .int .u64 365000000] w fun e w' => e = .returned (.tuple #[.int .u64 ((hi * 18446744073709551616 + lo) / 365000000), .int .u64 ((hi * 18446744073709551616 + lo) % 365000000)]) ∧ w' = w := by
  have hA : bits .and .u64 12541304504320000000 4294967295 = 0 := by decide +kernel
  have hO := or35 hi lo (by omega) (by omega) l0 l1
  have hW : IntKind.u64.wrap (lo * 34359738368) = lo % 536870912 * 34359738368 := by rw [IntKind.wrap_u64]; omega
  have hL := and35 (lo % 536870912) (by omega) (by omega)
  have hL8 : lo % 536870912 * 34359738368 / 4294967296 = lo % 536870912 * 8 := by omega
  have HU : Hid (∃ U, U = hi * 34359738368 + lo / 536870912 ∧ 0 ≤ U ∧ U < 12541304504320000000) := ⟨_, rfl, by omega, by omega⟩
  have HL : Hid (∃ L, L = lo % 536870912 ∧ 0 ≤ L ∧ L < 536870912) := ⟨_, rfl, by omega, by omega⟩
  obtain ⟨U, eU, U0, U1⟩ := HU.out
  obtain ⟨L, eL, L0, L1⟩ := HL.out
  rw [← eU] at hO
  rw [← eL] at hW hL hL8
  have HV : Hid (∃ V, V = U % 2920000000 * 4294967296 + L * 8 ∧ 0 ≤ V ∧ V < 12541304504320000000) := ⟨_, rfl, by omega, by omega⟩
  obtain ⟨V, eV, V0, V1⟩ := HV.out
  have hV := wr_365 U L L0 L1
  rw [← eV] at hV
  have hR := wq_365 V
  have HF : Hid (U / 2920000000 * 4294967296 + V / 2920000000 = (hi * 18446744073709551616 + lo) / 365000000 ∧ V % 2920000000 * 4294967296 / 34359738368 = (hi * 18446744073709551616 + lo) % 365000000) := fin_365 hi lo U L V eU eL eV
  clear eU eL eV HU HL HV
  have bq : U / 2920000000 * 4294967296 + V / 2920000000 < 18446744073709551616 := by have := HF.out.1; omega
  go_enter Tryz.func135, Tryz.ntmps135
  go_wp2_with (go_at_call 146; refine (lz64_365 _).mono ?_; rintro e w' ⟨rfl, rfl⟩)
  go_loop [15, 16] (fun q r => q = .int .u64 (U / 2920000000) ∧ r = .int .u64 (U - U / 2920000000 * 2920000000)) (fun _ _ => 0)
  case atStart => exact ⟨rfl, rfl⟩
  case round =>
    obtain ⟨rfl, rfl⟩ := hrel
    go_wp2
    go_loop [18, 16] (fun q r => q = .int .u64 (V / 2920000000) ∧ r = .int .u64 (V - V / 2920000000 * 2920000000)) (fun _ _ => 0)
    case atStart => exact ⟨rfl, rfl⟩
    case round =>
      obtain ⟨rfl, rfl⟩ := hrel
      go_wp2
      go_ret2
      rw [← HF.out.1, ← HF.out.2]
      exact ⟨rfl, rfl⟩
theorem div64_360_0 (lo : Int) (l0 : 0 ≤ lo) (l1 : lo < 18446744073709551616) (w : World) :
    Calls Tryz.prog 135 #[.int .u64 0, .int .u64 lo, .int .u64 360000000] w fun e w' => e = .returned (.tuple #[.int .u64 (lo / 360000000), .int .u64 (lo % 360000000)]) ∧ ∃ n, w' = w.drewN n := by
  go_enter Tryz.func135, Tryz.ntmps135
  go_wp2
  go_region
  go_wp2
  go_ret2
  exact ⟨rfl, 1, rfl⟩
theorem wr_360 (U L : Int) (L0 : 0 ≤ L) (L1 : L < 536870912) :
    IntKind.u64.wrap (IntKind.u64.wrap (IntKind.u64.wrap (U * 4294967296) + L * 8) - IntKind.u64.wrap (U / 2880000000 * 12369505812480000000)) = U % 2880000000 * 4294967296 + L * 8 := by
  simp only [IntKind.wrap_u64]
  omega
theorem wq_360 (V : Int) :
    IntKind.u64.wrap (IntKind.u64.wrap (IntKind.u64.wrap (V * 4294967296)) - IntKind.u64.wrap (V / 2880000000 * 12369505812480000000)) = V % 2880000000 * 4294967296 := by
  simp only [IntKind.wrap_u64]
  omega
theorem fin_360 (hi lo U L V : Int) (eU : U = hi * 34359738368 + lo / 536870912) (eL : L = lo % 536870912) (eV : V = U % 2880000000 * 4294967296 + L * 8) :
    U / 2880000000 * 4294967296 + V / 2880000000 = (hi * 18446744073709551616 + lo) / 360000000 ∧ V % 2880000000 * 4294967296 / 34359738368 = (hi * 18446744073709551616 + lo) % 360000000 := by
  have e8 : U * 4294967296 + L * 8 = 8 * (hi * 18446744073709551616 + lo) := by omega
  generalize hi * 18446744073709551616 + lo = N at *
  have eV' : V = 8 * N - U / 2880000000 * 12369505812480000000 := by omega
  omega
set_option maxRecDepth 4000 in
set_option maxHeartbeats 1000000 in
theorem div64_360 (hi lo : Int) (h0 : 0 < hi) (h1 : hi < 360000000) (l0 : 0 ≤ lo) (l1 : lo < 18446744073709551616) (w : World) :
    Calls Tryz.prog 135 #[.int .u64 hi, .int .u64 lo, .int .u64 360000000] w fun e w' => e = .returned (.tuple #[.int .u64 ((hi * 18446744073709551616 + lo) / 360000000), .int .u64 ((hi * 18446744073709551616 + lo) % 360000000)]) ∧ w' = w := by
  have hA : bits .and .u64 12369505812480000000 4294967295 = 0 := by decide +kernel
  have hO := or35 hi lo (by omega) (by omega) l0 l1
  have hW : IntKind.u64.wrap (lo * 34359738368) = lo % 536870912 * 34359738368 := by rw [IntKind.wrap_u64]; omega
  have hL := and35 (lo % 536870912) (by omega) (by omega)
  have hL8 : lo % 536870912 * 34359738368 / 4294967296 = lo % 536870912 * 8 := by omega
  have HU : Hid (∃ U, U = hi * 34359738368 + lo / 536870912 ∧ 0 ≤ U ∧ U < 12369505812480000000) := ⟨_, rfl, by omega, by omega⟩
  have HL : Hid (∃ L, L = lo % 536870912 ∧ 0 ≤ L ∧ L < 536870912) := ⟨_, rfl, by omega, by omega⟩
  obtain ⟨U, eU, U0, U1⟩ := HU.out
  obtain ⟨L, eL, L0, L1⟩ := HL.out
  rw [← eU] at hO
  rw [← eL] at hW hL hL8
  have HV : Hid (∃ V, V = U % 2880000000 * 4294967296 + L * 8 ∧ 0 ≤ V ∧ V < 12369505812480000000) := ⟨_, rfl, by omega, by omega⟩
  obtain ⟨V, eV, V0, V1⟩ := HV.out
  have hV := wr_360 U L L0 L1
  rw [← eV] at hV
  have hR := wq_360 V
  have HF : Hid (U / 2880000000 * 4294967296 + V / 2880000000 = (hi * 18446744073709551616 + lo) / 360000000 ∧ V % 2880000000 * 4294967296 / 34359738368 = (hi * 18446744073709551616 + lo) % 360000000) := fin_360 hi lo U L V eU eL eV
  clear eU eL eV HU HL HV
  have bq : U / 2880000000 * 4294967296 + V / 2880000000 < 18446744073709551616 := by have := HF.out.1; omega
  go_enter Tryz.func135, Tryz.ntmps135
  go_wp2_with (go_at_call 146; refine (lz64_360 _).mono ?_; rintro e w' ⟨rfl, rfl⟩)
  go_loop [15, 16] (fun q r => q = .int .u64 (U / 2880000000) ∧ r = .int .u64 (U - U / 2880000000 * 2880000000)) (fun _ _ => 0)
  case atStart => exact ⟨rfl, rfl⟩
  case round =>
    obtain ⟨rfl, rfl⟩ := hrel
    go_wp2
    go_loop [18, 16] (fun q r => q = .int .u64 (V / 2880000000) ∧ r = .int .u64 (V - V / 2880000000 * 2880000000)) (fun _ _ => 0)
    case atStart => exact ⟨rfl, rfl⟩
    case round =>
      obtain ⟨rfl, rfl⟩ := hrel
      go_wp2
      go_ret2
      rw [← HF.out.1, ← HF.out.2]
      exact ⟨rfl, rfl⟩
end Go.Proofs.YtanndhoimpnhpaaGreatDoor
namespace Go.Proofs.YtanndhoimpnhpaaGreatDoor
open Go.RowKit Go.Lib
theorem add64_0 (x y : Int) (hx : 0 ≤ x) (hy : 0 ≤ y) (w : World) : (callFunc 134 #[.int .u64 x, .int .u64 y, .int .u64 0]).run Tryz.prog w =
    .ok (.value (.tuple #[.int .u64 ((x + y) % 18446744073709551616), .int .u64 ((x + y) / 18446744073709551616)])) w := by
  rw [run_callFunc_extern Tryz.func134 (by kernel_rfl) (by kernel_rfl) (by kernel_rfl) (e := add64Entry) (by kernel_rfl), run_add64 x y 0 hx hy (by decide) (by decide)]
  simp only [Result.andThen, Int.add_zero]
theorem mul64_int (x y p : Int) (hx : 0 ≤ x) (hx1 : x < 18446744073709551616) (hy : 0 ≤ y) (hy1 : y < 18446744073709551616) (hp : x * y = p) (w : World) :
    Calls Tryz.prog 133 #[.int .u64 x, .int .u64 y] w fun e w' => e = .returned (.tuple #[.int .u64 (p / 18446744073709551616), .int .u64 (p % 18446744073709551616)]) ∧ w' = w := by
  obtain ⟨a, rfl⟩ := Int.eq_ofNat_of_zero_le hx
  obtain ⟨b, rfl⟩ := Int.eq_ofNat_of_zero_le hy
  subst hp
  refine (mul64_any a b (by omega) (by omega) w).mono ?_
  rintro e w' ⟨rfl, rfl⟩
  refine ⟨?_, rfl⟩
  rw [← Int.natCast_mul]
  generalize a * b = n
  have e1 : ((n / 18446744073709551616 : Nat) : Int) = (n : Int) / 18446744073709551616 := by omega
  have e2 : ((n % 18446744073709551616 : Nat) : Int) = (n : Int) % 18446744073709551616 := by omega
  rw [e1, e2]
theorem div64_any (d hi lo N : Int) (hd : d = 365000000 ∨ d = 360000000) (h0 : 0 ≤ hi) (h1 : hi < 360000000) (l0 : 0 ≤ lo) (l1 : lo < 18446744073709551616) (hN : hi * 18446744073709551616 + lo = N) (w : World) :
    Calls Tryz.prog 135 #[.int .u64 hi, .int .u64 lo, .int .u64 d] w fun e w' => e = .returned (.tuple #[.int .u64 (N / d), .int .u64 (N % d)]) ∧ ∃ n, w' = w.drewN n := by
  subst hN
  rcases hd with rfl | rfl
  · by_cases hz : hi = 0
    · subst hz
      have := div64_365_0 lo l0 l1 w
      simpa using this
    · refine (div64_365 hi lo (by omega) (by omega) l0 l1 w).mono ?_
      rintro e w' ⟨rfl, rfl⟩
      exact ⟨rfl, 0, rfl⟩
  · by_cases hz : hi = 0
    · subst hz
      have := div64_360_0 lo l0 l1 w
      simpa using this
    · refine (div64_360 hi lo (by omega) (by omega) l0 l1 w).mono ?_
      rintro e w' ⟨rfl, rfl⟩
      exact ⟨rfl, 0, rfl⟩
theorem prod_bd (a r : Int) (a0 : 0 ≤ a) (a1 : a ≤ 4000000000000000000) (r0 : 0 ≤ r) (r1 : r ≤ 3000000) : 0 ≤ a * r ∧ a * r ≤ 12000000000000000000000000 :=
  ⟨Int.mul_nonneg a0 r0, Int.le_trans (Int.mul_le_mul a1 r1 r0 (by decide)) (by decide)⟩
set_option maxHeartbeats 1000000 in
theorem perYear_any (a r yr q : Int) (hy : yr = 365 ∨ yr = 360) (a0 : 0 ≤ a) (a1 : a ≤ 4000000000000000000) (r0 : 0 ≤ r) (r1 : r ≤ 3000000) (q0 : 0 ≤ q) (q1 : q < 1000000 * yr) (w : World) :
    Calls Tryz.prog 114 #[.int .i64 a, .int .i64 r, .int .i64 yr, .int .u64 q] w fun e w' => e = .returned (.tuple #[.int .i64 ((q + a * r) / (1000000 * yr)), .int .u64 ((q + a * r) % (1000000 * yr))]) ∧ ∃ n, w' = w.drewN n := by
  obtain ⟨p0, p1⟩ := prod_bd a r a0 a1 r0 r1
  have hM := fun w => mul64_int a r (a * r) a0 (by omega) r0 (by omega) rfl w
  generalize a * r = p at *
  have _hp := add64_0 (p % 18446744073709551616) q (by omega) q0
  have hd : 1000000 * yr = 365000000 ∨ 1000000 * yr = 360000000 := by omega
  have hD := fun w => div64_any (1000000 * yr) (p / 18446744073709551616 + (p % 18446744073709551616 + q) / 18446744073709551616) ((p + q) % 18446744073709551616) (q + p) hd (by omega) (by omega) (by omega) (by omega) (by omega) w
  have hq : Hid (0 ≤ (q + p) / (1000000 * yr) ∧ (q + p) / (1000000 * yr) ≤ 9000000000000000000) := by
    rcases hy with rfl | rfl <;> exact ⟨by omega, by omega⟩
  obtain ⟨z0, z1⟩ := hq.out
  generalize (q + p) / (1000000 * yr) = Z at *
  generalize (q + p) % (1000000 * yr) = R at *
  go_enter Tryz.func114, Tryz.ntmps114
  go_wp2_with fail
  refine (hM _).mono ?_
  rintro e w' ⟨rfl, rfl⟩
  go_wp2_with fail
  refine (hD _).mono ?_
  rintro e w1 ⟨rfl, n, rfl⟩
  clear hM hD
  go_wp2
  go_ret2
  exact ⟨rfl, n, rfl⟩
end Go.Proofs.YtanndhoimpnhpaaGreatDoor
namespace Go.Proofs.YtanndhoimpnhpaaGreatDoor
open Go.ChangeShapes Go.WideShapes Go.ChangeAt Go.RowKit Cal
set_option maxHeartbeats 400000 in
theorem thirty_any (n : Int) (w : World) (h0 : 0 ≤ n) (h1 : n ≤ 109573) :
    Calls Tryz.prog 132 #[.int .i64 n] w fun e w' => ∃ t : Int, e = .returned (.int .i64 t) ∧ IsT n t ∧ Below w.heap.size w w' := by
  go_enter Tryz.func132, Tryz.ntmps132
  go_wp2_with (go_at_call 145; refine (civilOf_any _ _ h0 h1).mono ?_; rintro e w1 ⟨y, m, d, rfl, hok, hn, hb⟩; obtain ⟨a1, a2, a3, a4, a5, a6⟩ := hok; have db := dim_bd y m)
  all_goals
    go_ret
    exact ⟨_, rfl, ⟨y, m, d, ok_mk a1 a2 a3 a4 a5 a6, hn, by unfold t3 cap; split <;> omega⟩, hb.alloc hb.size _⟩
theorem weight_any (b f t : Int) (w : World) (f0 : 0 ≤ f) (f1 : f ≤ 109573) (t0 : 0 ≤ t) (t1 : t ≤ 109573) :
    Calls Tryz.prog 112 #[.int .i64 b, .int .i64 f, .int .i64 t] w fun e w' => ∃ v : Int, e = .returned (.int .i64 v) ∧ (b = 3 → ∃ p q, IsT t p ∧ IsT f q ∧ v = p - q) ∧ (¬ b = 3 → v = t - f) ∧ Below w.heap.size w w' := by
  by_cases hb : b = 3
  · subst hb
    go_enter Tryz.func112, Tryz.ntmps112
    go_wp2_with (go_at_call 132; refine (thirty_any _ _ (by omega) (by omega)).mono ?_; rintro e w1 ⟨p, rfl, hp, hb⟩; have bp := hp.bd)
    go_ret
    rename_i w0 p0 hp0 hb0 bp0
    exact ⟨_, rfl, fun _ => ⟨p0, p, hp0, hp, rfl⟩, fun h => by simp at h, hb0.trans (hb.mono hb0.size)⟩
  · go_enter Tryz.func112, Tryz.ntmps112
    go_wp2
    go_ret
    exact ⟨_, rfl, fun h => absurd h hb, fun _ => rfl, Below.refl _ _⟩
end Go.Proofs.YtanndhoimpnhpaaGreatDoor
