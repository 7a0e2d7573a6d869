/- What the program's pay does: from an amount, as far as it goes. -/
import Derived.Test.YtanndhoimpnhpaaDoorPrC
import Derived.WalkSmall
namespace Go.Proofs.YtanndhoimpnhpaaDoor
open Go.RowKit

set_option maxRecDepth 10000 in
set_option maxHeartbeats 2000000 in
theorem ppay_any (w : World) (P : Nat) (t : Ln.Terms) (n : Int) (y : Ln.Dy) (h : Pas w P t n y) (hm : Mv w) (hP : ¬ P = 1) (hf : Ln.Fit y) (L : Int) (hLm : L ≤ 4100000000000) (hA : Ln.Am y L) (hc : y.g.cr ≤ 4100000000000) (a : Int) (a0 : 0 ≤ a) (a1 : a ≤ 100000000000) :
    Calls Tryd.prog 84 #[.pointer (some ⟨P, 0, none⟩), .int .i64 a] w fun e w' => e = .returned (.tuple #[]) ∧ Pas w' P t n (Ln.pay y a) ∧ Keep (fun b => b = P) w w' := by
  go_enter Tryd.func84, Tryd.ntmps84
  go_wp2
  go_loopw [1, 8] (fun l i wr => ∃ k : Nat, k ≤ 5 ∧ i = .int .i64 k ∧ l = .int .i64 (Ln.payK y a k).2 ∧ Pas wr P t n (Ln.payK y a k).1 ∧ Keep (fun b => b = P) w wr) (fun _ i _ => 5 - (intOf i).toNat)
  case atStart => exact ⟨0, by omega, rfl, rfl, h, Keep.refl _ _⟩
  case round =>
    obtain ⟨k, hk, rfl, rfl, hg, hkeep⟩ := hrel
    have hl := Ln.payK_left y a hf a0 k
    have hfk := Ln.payK_fit y a hf a0 k hk
    have hmr : Mv wr := hm.keep hkeep (fun e => hP e.symm)
    by_cases hlt : k < 5
    · have hcan := Ln.payK_can y a L hLm hf hA a0 a1 k hlt
      have hw0 := Ln.owed_nn hf k
      have hE := penter_any wr.drew P t n (Ln.payK y a k).1 hg.drew hmr.drew hP hfk (5 + k) _ hcan
      have hL : Hid (Ln.least (Ln.owed y.g k) (Ln.payK y a k).2 = if (Ln.payK y a k).2 < Ln.owed y.g k then (Ln.payK y a k).2 else Ln.owed y.g k) := rfl
      have hP1 : Hid ((Ln.payK y a (k + 1)).1 = Ln.enter (Ln.payK y a k).1 (5 + k) (Ln.least (Ln.owed y.g k) (Ln.payK y a k).2)) := rfl
      have hP2 : Hid ((Ln.payK y a (k + 1)).2 = (Ln.payK y a k).2 - Ln.least (Ln.owed y.g k) (Ln.payK y a k).2) := rfl
      match k, hlt with
      | 0, _ =>
        have hcell : wr.cell? ⟨P, 12, none⟩ = some (.int .i64 (Ln.owed y.g 0)) := by
          obtain ⟨c, i, f, hg⟩ := hg
          exact hg.cell 12 rfl
        have hmv : wr.cell? ⟨1, 11, none⟩ = some (.int .i64 5) := hmr 11 _ rfl
        have hix : ∀ wi : World, Sem.run Tryd.prog (Instr.index 141 (.agg #[.int .i64 5, .int .i64 6, .int .i64 7, .int .i64 8, .int .i64 9]) (.int .i64 0)) wi = .ok (.int .i64 5) wi := fun _ => by kernel_rfl
        clear hA hf hfk hcan h hg hm hmr
        generalize (Ln.payK y a 0).2 = left at *
        generalize Ln.owed y.g 0 = x at *
        by_cases hx : left ≤ x
        · have hq : Hid ((if left < x then left else x) = left) := by show (if left < x then left else x) = left; split <;> omega
          rw [hL.out, hq.out] at hE hP1 hP2
          go_wp2
          go_region
          go_wp2_with fail
          refine hE.mono ?_
          rintro e w1 ⟨rfl, hg1, hk1⟩
          clear hE
          go_wp2
          go_roundw
          case rel => exact ⟨1, by omega, by go_num, by rw [hP2.out]; simp, by rw [hP1.out]; exact hg1, hkeep.drew.trans hk1⟩
          case measure => simp [intOf]
        · have hx' : x < left := by omega
          rw [hL.out, if_neg (by omega)] at hE hP1 hP2
          go_wp2
          go_region
          go_wp2_with fail
          refine hE.mono ?_
          rintro e w1 ⟨rfl, hg1, hk1⟩
          clear hE
          go_wp2
          go_roundw
          case rel => exact ⟨1, by omega, by go_num, by rw [hP2.out], by rw [hP1.out]; exact hg1, hkeep.drew.trans hk1⟩
          case measure => simp [intOf]
      | 1, _ =>
        have hcell : wr.cell? ⟨P, 11, none⟩ = some (.int .i64 (Ln.owed y.g 1)) := by
          obtain ⟨c, i, f, hg⟩ := hg
          exact hg.cell 11 rfl
        have hmv : wr.cell? ⟨1, 13, none⟩ = some (.int .i64 4) := hmr 13 _ rfl
        have hix : ∀ wi : World, Sem.run Tryd.prog (Instr.index 141 (.agg #[.int .i64 5, .int .i64 6, .int .i64 7, .int .i64 8, .int .i64 9]) (.int .i64 1)) wi = .ok (.int .i64 6) wi := fun _ => by kernel_rfl
        clear hA hf hfk hcan h hg hm hmr
        generalize (Ln.payK y a 1).2 = left at *
        generalize Ln.owed y.g 1 = x at *
        by_cases hx : left ≤ x
        · have hq : Hid ((if left < x then left else x) = left) := by show (if left < x then left else x) = left; split <;> omega
          rw [hL.out, hq.out] at hE hP1 hP2
          go_wp2
          go_region
          go_wp2_with fail
          refine hE.mono ?_
          rintro e w1 ⟨rfl, hg1, hk1⟩
          clear hE
          go_wp2
          go_roundw
          case rel => exact ⟨2, by omega, by go_num, by rw [hP2.out]; simp, by rw [hP1.out]; exact hg1, hkeep.drew.trans hk1⟩
          case measure => simp [intOf]
        · have hx' : x < left := by omega
          rw [hL.out, if_neg (by omega)] at hE hP1 hP2
          go_wp2
          go_region
          go_wp2_with fail
          refine hE.mono ?_
          rintro e w1 ⟨rfl, hg1, hk1⟩
          clear hE
          go_wp2
          go_roundw
          case rel => exact ⟨2, by omega, by go_num, by rw [hP2.out], by rw [hP1.out]; exact hg1, hkeep.drew.trans hk1⟩
          case measure => simp [intOf]
      | 2, _ =>
        have hcell : wr.cell? ⟨P, 10, none⟩ = some (.int .i64 (Ln.owed y.g 2)) := by
          obtain ⟨c, i, f, hg⟩ := hg
          exact hg.cell 10 rfl
        have hmv : wr.cell? ⟨1, 15, none⟩ = some (.int .i64 3) := hmr 15 _ rfl
        have hix : ∀ wi : World, Sem.run Tryd.prog (Instr.index 141 (.agg #[.int .i64 5, .int .i64 6, .int .i64 7, .int .i64 8, .int .i64 9]) (.int .i64 2)) wi = .ok (.int .i64 7) wi := fun _ => by kernel_rfl
        clear hA hf hfk hcan h hg hm hmr
        generalize (Ln.payK y a 2).2 = left at *
        generalize Ln.owed y.g 2 = x at *
        by_cases hx : left ≤ x
        · have hq : Hid ((if left < x then left else x) = left) := by show (if left < x then left else x) = left; split <;> omega
          rw [hL.out, hq.out] at hE hP1 hP2
          go_wp2
          go_region
          go_wp2_with fail
          refine hE.mono ?_
          rintro e w1 ⟨rfl, hg1, hk1⟩
          clear hE
          go_wp2
          go_roundw
          case rel => exact ⟨3, by omega, by go_num, by rw [hP2.out]; simp, by rw [hP1.out]; exact hg1, hkeep.drew.trans hk1⟩
          case measure => simp [intOf]
        · have hx' : x < left := by omega
          rw [hL.out, if_neg (by omega)] at hE hP1 hP2
          go_wp2
          go_region
          go_wp2_with fail
          refine hE.mono ?_
          rintro e w1 ⟨rfl, hg1, hk1⟩
          clear hE
          go_wp2
          go_roundw
          case rel => exact ⟨3, by omega, by go_num, by rw [hP2.out], by rw [hP1.out]; exact hg1, hkeep.drew.trans hk1⟩
          case measure => simp [intOf]
      | 3, _ =>
        have hcell : wr.cell? ⟨P, 9, none⟩ = some (.int .i64 (Ln.owed y.g 3)) := by
          obtain ⟨c, i, f, hg⟩ := hg
          exact hg.cell 9 rfl
        have hmv : wr.cell? ⟨1, 17, none⟩ = some (.int .i64 2) := hmr 17 _ rfl
        have hix : ∀ wi : World, Sem.run Tryd.prog (Instr.index 141 (.agg #[.int .i64 5, .int .i64 6, .int .i64 7, .int .i64 8, .int .i64 9]) (.int .i64 3)) wi = .ok (.int .i64 8) wi := fun _ => by kernel_rfl
        clear hA hf hfk hcan h hg hm hmr
        generalize (Ln.payK y a 3).2 = left at *
        generalize Ln.owed y.g 3 = x at *
        by_cases hx : left ≤ x
        · have hq : Hid ((if left < x then left else x) = left) := by show (if left < x then left else x) = left; split <;> omega
          rw [hL.out, hq.out] at hE hP1 hP2
          go_wp2
          go_region
          go_wp2_with fail
          refine hE.mono ?_
          rintro e w1 ⟨rfl, hg1, hk1⟩
          clear hE
          go_wp2
          go_roundw
          case rel => exact ⟨4, by omega, by go_num, by rw [hP2.out]; simp, by rw [hP1.out]; exact hg1, hkeep.drew.trans hk1⟩
          case measure => simp [intOf]
        · have hx' : x < left := by omega
          rw [hL.out, if_neg (by omega)] at hE hP1 hP2
          go_wp2
          go_region
          go_wp2_with fail
          refine hE.mono ?_
          rintro e w1 ⟨rfl, hg1, hk1⟩
          clear hE
          go_wp2
          go_roundw
          case rel => exact ⟨4, by omega, by go_num, by rw [hP2.out], by rw [hP1.out]; exact hg1, hkeep.drew.trans hk1⟩
          case measure => simp [intOf]
      | 4, _ =>
        have hcell : wr.cell? ⟨P, 8, none⟩ = some (.int .i64 (Ln.owed y.g 4)) := by
          obtain ⟨c, i, f, hg⟩ := hg
          exact hg.cell 8 rfl
        have hmv : wr.cell? ⟨1, 19, none⟩ = some (.int .i64 1) := hmr 19 _ rfl
        have hix : ∀ wi : World, Sem.run Tryd.prog (Instr.index 141 (.agg #[.int .i64 5, .int .i64 6, .int .i64 7, .int .i64 8, .int .i64 9]) (.int .i64 4)) wi = .ok (.int .i64 9) wi := fun _ => by kernel_rfl
        clear hA hf hfk hcan h hg hm hmr
        generalize (Ln.payK y a 4).2 = left at *
        generalize Ln.owed y.g 4 = x at *
        by_cases hx : left ≤ x
        · have hq : Hid ((if left < x then left else x) = left) := by show (if left < x then left else x) = left; split <;> omega
          rw [hL.out, hq.out] at hE hP1 hP2
          go_wp2
          go_region
          go_wp2_with fail
          refine hE.mono ?_
          rintro e w1 ⟨rfl, hg1, hk1⟩
          clear hE
          go_wp2
          go_roundw
          case rel => exact ⟨5, by omega, by go_num, by rw [hP2.out]; simp, by rw [hP1.out]; exact hg1, hkeep.drew.trans hk1⟩
          case measure => simp [intOf]
        · have hx' : x < left := by omega
          rw [hL.out, if_neg (by omega)] at hE hP1 hP2
          go_wp2
          go_region
          go_wp2_with fail
          refine hE.mono ?_
          rintro e w1 ⟨rfl, hg1, hk1⟩
          clear hE
          go_wp2
          go_roundw
          case rel => exact ⟨5, by omega, by go_num, by rw [hP2.out], by rw [hP1.out]; exact hg1, hkeep.drew.trans hk1⟩
          case measure => simp [intOf]
    · obtain rfl : k = 5 := by omega
      have hE := penter_any wr P t n (Ln.payK y a 5).1 hg hmr hP hfk 10 _ (Ln.pay_can y a L hLm hf hA hc a0 a1)
      rw [← Ln.pay_eq] at hE
      clear hA hf hfk h hg hc hm hmr
      generalize (Ln.payK y a 5).2 = left at *
      go_wp2_with fail
      refine hE.mono ?_
      rintro e w1 ⟨rfl, hg1, hk1⟩
      clear hE
      go_wp2
      go_end0
      exact ⟨rfl, hg1, hkeep.trans hk1⟩
end Go.Proofs.YtanndhoimpnhpaaDoor
