/- What the program does in a day's beginning: the day of the month, what falls due. -/
import Derived.Test.YtanndhoimpnhpaaDoorPrC
import Derived.Test.YtanndhoimpnhpaaDoorCalB
import Derived.Test.YtanndhoimpnhpaaDoorCd
import Derived.WalkSmall
import Derived.Deep.RegionHeld3
namespace Go.Proofs.YtanndhoimpnhpaaDoor
open Go.RowKit Cal

theorem dayOfMonth_any (n : Int) (w : World) (h0 : 0 ≤ n) (h1 : n ≤ 109573) :
    Calls Tryd.prog 92 #[.int .i64 n] w fun e w' => e = .returned (.int .i64 (cdOf n)) ∧ Below w.heap.size w w' := by
  have hc : ∀ d, IsD n d → Hid (cdOf n = d) := fun d h => cdOf_is h
  generalize cdOf n = c at *
  go_enter Tryd.func92, Tryd.ntmps92
  go_wp2_with fail
  refine (civilOf_any _ _ h0 h1).mono ?_
  rintro e w1 ⟨y, m, d, rfl, hok, hn, hb⟩
  have hcd := hc d ⟨y, m, hok, hn⟩
  clear hc hok hn
  have hfd : ∀ wi : World, Sem.run Tryd.prog (Instr.field 107 (.agg #[.int .i64 y, .int .i64 m, .int .i64 d]) 2) wi = .ok (.int .i64 d) wi := fun _ => by kernel_rfl
  go_wp2
  go_ret
  rw [hcd.out]
  exact ⟨rfl, hb⟩

/-- What a region that asks a passage and makes memory keeps. -/
theorem keepP {w W W' : World} {P : Nat} {a b c : Value} (hb : Below W.heap.size W W')
    (h : W.cell? ⟨P, 5, none⟩ = some a ∧ W.cell? ⟨P, 6, none⟩ = some b ∧ W.cell? ⟨P, 17, none⟩ = some c ∧ Below w.heap.size w W) :
    W'.cell? ⟨P, 5, none⟩ = some a ∧ W'.cell? ⟨P, 6, none⟩ = some b ∧ W'.cell? ⟨P, 17, none⟩ = some c ∧ Below w.heap.size w W' := by
  obtain ⟨h1, h2, h3, h4⟩ := h
  have hl := World.block_lt_of_cell? _ _ h1
  exact ⟨(hb.cell (p := ⟨P, 5, none⟩) hl).trans h1, (hb.cell (p := ⟨P, 6, none⟩) hl).trans h2, (hb.cell (p := ⟨P, 17, none⟩) hl).trans h3, h4.trans (hb.mono h4.size)⟩

set_option maxRecDepth 10000 in
set_option maxHeartbeats 1000000 in
theorem fallsDue_core (P : Nat) (du n fr c : Int) (w : World) (c5 : w.cell? ⟨P, 5, none⟩ = some (.int .i64 du)) (c6 : w.cell? ⟨P, 6, none⟩ = some (.int .i64 n)) (c17 : w.cell? ⟨P, 17, none⟩ = some (.int .i64 fr))
    (hD : ∀ W : World, Calls Tryd.prog 92 #[.int .i64 n] W fun e w' => e = .returned (.int .i64 c) ∧ Below W.heap.size W w') (b : Bool) (hb : Hid (b = decide (c = du ∧ fr ≤ n))) :
    Calls Tryd.prog 79 #[.pointer (some ⟨P, 0, none⟩)] w fun e w' => e = .returned (.bool b) ∧ Below w.heap.size w w' := by
  by_cases h1 : c = du
  · by_cases h2 : fr ≤ n
    · obtain rfl : b = true := by rw [hb.out]; simp [h1, h2]
      clear hb
      have e1 : (c == du) = true := by simp [h1]
      have e2 : decide (fr ≤ n) = true := by simp [h2]
      have hB0 : Below w.heap.size w w.drew := (Below.refl _ _).drew
      go_enter Tryd.func79, Tryd.ntmps79
      go_wp2_with fail
      go_region_held3 (fun w' => w'.cell? ⟨P, 5, none⟩ = some (.int .i64 du) ∧ w'.cell? ⟨P, 6, none⟩ = some (.int .i64 n) ∧ w'.cell? ⟨P, 17, none⟩ = some (.int .i64 fr) ∧ Below w.heap.size w w') (first | go_keep | exact keepP (by assumption) (by assumption))
        ((go_at_call 92; refine (hD _).mono ?_; rintro e w' ⟨rfl, hb'⟩))
      have hw := (‹_ ∧ _ ∧ _ ∧ Below _ _ _›).2.2.2
      go_wp2
      go_ret
      exact ⟨rfl, hw⟩
    · obtain rfl : b = false := by rw [hb.out]; simp [h2]
      clear hb
      have e1 : (c == du) = true := by simp [h1]
      have e2 : decide (fr ≤ n) = false := by simp; omega
      have hB0 : Below w.heap.size w w.drew := (Below.refl _ _).drew
      go_enter Tryd.func79, Tryd.ntmps79
      go_wp2_with fail
      go_region_held3 (fun w' => w'.cell? ⟨P, 5, none⟩ = some (.int .i64 du) ∧ w'.cell? ⟨P, 6, none⟩ = some (.int .i64 n) ∧ w'.cell? ⟨P, 17, none⟩ = some (.int .i64 fr) ∧ Below w.heap.size w w') (first | go_keep | exact keepP (by assumption) (by assumption))
        ((go_at_call 92; refine (hD _).mono ?_; rintro e w' ⟨rfl, hb'⟩))
      have hw := (‹_ ∧ _ ∧ _ ∧ Below _ _ _›).2.2.2
      go_wp2
      go_ret
      exact ⟨rfl, hw⟩
  · obtain rfl : b = false := by rw [hb.out]; simp [h1]
    clear hb
    have e1 : (c == du) = false := by simpa using h1
    go_enter Tryd.func79, Tryd.ntmps79
    go_wp2_with fail
    refine wp_region_held_drew (S := fun w' => w'.cell? ⟨P, 5, none⟩ = some (.int .i64 du) ∧ w'.cell? ⟨P, 6, none⟩ = some (.int .i64 n) ∧ w'.cell? ⟨P, 17, none⟩ = some (.int .i64 fr) ∧ Below w.heap.size w w') (by kernel_rfl) ⟨c5, c6, c17, (Below.refl _ _).drew⟩ (fun hHeld => ?_)
    refine wpAnyH_take (i := 0) (v := .pointer (some ⟨P, 0, none⟩)) rfl (by kernel_rfl) (by kernel_rfl) (by kernel_rfl) (fun _ _ _ h => h) (Or.inl ⟨by rfl, fun wx hSw => by (dsimp only at hSw; go_simp)⟩) (by assumption) ?_
    simp only [Act.put, List.getElem_toArray, List.getElem_cons_zero, List.setIfInBounds_toArray, List.set_cons_zero, List.set_cons_succ]
    refine wpAnyH_take (i := 1) (v := .pointer (some ⟨P, 0, none⟩)) rfl (by kernel_rfl) (by kernel_rfl) (by kernel_rfl) (fun _ _ _ h => h) (Or.inl ⟨by rfl, fun wx hSw => by (dsimp only at hSw; go_simp)⟩) (by assumption) ?_
    simp only [Act.put, List.getElem_toArray, List.getElem_cons_succ, List.getElem_cons_zero, List.setIfInBounds_toArray, List.set_cons_zero, List.set_cons_succ]
    refine wpAnyH_take (i := 2) (v := .pointer (some ⟨P, 6, none⟩)) rfl (by kernel_rfl) (by kernel_rfl) (by kernel_rfl) (fun _ _ _ h => h) (Or.inl ⟨by rfl, fun wx hSw => by (dsimp only at hSw; go_simp)⟩) (by assumption) ?_
    simp only [Act.put, List.getElem_toArray, List.getElem_cons_succ, List.getElem_cons_zero, List.setIfInBounds_toArray, List.set_cons_zero, List.set_cons_succ]
    refine wpAnyH_take (i := 3) (v := .int .i64 n) rfl (by kernel_rfl) (by kernel_rfl) (by kernel_rfl) (fun _ _ _ h => h) (Or.inl ⟨by rfl, fun wx hSw => by (dsimp only at hSw; go_simp)⟩) (by assumption) ?_
    simp only [Act.put, List.getElem_toArray, List.getElem_cons_succ, List.getElem_cons_zero, List.setIfInBounds_toArray, List.set_cons_zero, List.set_cons_succ]
    refine wpAnyH_take (i := 5) (v := .pointer (some ⟨P, 0, none⟩)) rfl (by kernel_rfl) (by kernel_rfl) (by kernel_rfl) (fun _ _ _ h => h) (Or.inl ⟨by rfl, fun wx hSw => by (dsimp only at hSw; go_simp)⟩) (by assumption) ?_
    simp only [Act.put, List.getElem_toArray, List.getElem_cons_succ, List.getElem_cons_zero, List.setIfInBounds_toArray, List.set_cons_zero, List.set_cons_succ]
    refine wpAnyH_take (i := 6) (v := .pointer (some ⟨P, 0, none⟩)) rfl (by kernel_rfl) (by kernel_rfl) (by kernel_rfl) (fun _ _ _ h => h) (Or.inl ⟨by rfl, fun wx hSw => by (dsimp only at hSw; go_simp)⟩) (by assumption) ?_
    simp only [Act.put, List.getElem_toArray, List.getElem_cons_succ, List.getElem_cons_zero, List.setIfInBounds_toArray, List.set_cons_zero, List.set_cons_succ]
    refine wpAnyH_take (i := 7) (v := .pointer (some ⟨P, 0, none⟩)) rfl (by kernel_rfl) (by kernel_rfl) (by kernel_rfl) (fun _ _ _ h => h) (Or.inl ⟨by rfl, fun wx hSw => by (dsimp only at hSw; go_simp)⟩) (by assumption) ?_
    simp only [Act.put, List.getElem_toArray, List.getElem_cons_succ, List.getElem_cons_zero, List.setIfInBounds_toArray, List.set_cons_zero, List.set_cons_succ]
    refine wpAnyH_take (i := 8) (v := .pointer (some ⟨P, 5, none⟩)) rfl (by kernel_rfl) (by kernel_rfl) (by kernel_rfl) (fun _ _ _ h => h) (Or.inl ⟨by rfl, fun wx hSw => by (dsimp only at hSw; go_simp)⟩) (by assumption) ?_
    simp only [Act.put, List.getElem_toArray, List.getElem_cons_succ, List.getElem_cons_zero, List.setIfInBounds_toArray, List.set_cons_zero, List.set_cons_succ]
    refine wpAnyH_take (i := 9) (v := .int .i64 du) rfl (by kernel_rfl) (by kernel_rfl) (by kernel_rfl) (fun _ _ _ h => h) (Or.inl ⟨by rfl, fun wx hSw => by (dsimp only at hSw; go_simp)⟩) (by assumption) ?_
    simp only [Act.put, List.getElem_toArray, List.getElem_cons_succ, List.getElem_cons_zero, List.setIfInBounds_toArray, List.set_cons_zero, List.set_cons_succ]
    refine wpAnyH_ready (rs := [4]) (by kernel_rfl) (by simp) ?_
    refine AllReadyH.cons rfl (fun K hK => ?_) AllReadyH.nil
    go_simp
    refine (hD _).mono ?_
    rintro e w' ⟨rfl, hb'⟩
    go_wp2_with fail
    refine hK.out _ _ (keepP hb' hHeld) (fun hHeld2 => ?_)
    clear hK K hHeld hb'
    refine wpAnyH_take (i := 10) (v := .bool false) rfl (by kernel_rfl) (by kernel_rfl) (by kernel_rfl) (fun _ _ _ h => h) (Or.inl ⟨by rfl, fun wx hSw => by (dsimp only at hSw; go_simp)⟩) (by assumption) ?_
    simp only [Act.put, List.getElem_toArray, List.getElem_cons_succ, List.getElem_cons_zero, List.setIfInBounds_toArray, List.set_cons_zero, List.set_cons_succ]
    refine wpAnyH_take (i := 11) (v := .bool false) rfl (by kernel_rfl) (by kernel_rfl) (by kernel_rfl) (fun _ _ _ h => h) (Or.inl ⟨by rfl, fun wx hSw => by (dsimp only at hSw; go_simp)⟩) (by assumption) ?_
    simp only [Act.put, List.getElem_toArray, List.getElem_cons_succ, List.getElem_cons_zero, List.setIfInBounds_toArray, List.set_cons_zero, List.set_cons_succ]
    refine wpAnyH_take (i := 12) (v := undef) rfl (by kernel_rfl) (by kernel_rfl) (by kernel_rfl) (fun _ _ _ h => h) (Or.inr ⟨by rfl, rfl⟩) (by assumption) ?_
    simp only [Act.put, List.getElem_toArray, List.getElem_cons_succ, List.getElem_cons_zero, List.setIfInBounds_toArray, List.set_cons_zero, List.set_cons_succ]
    refine wpAnyH_take (i := 13) (v := undef) rfl (by kernel_rfl) (by kernel_rfl) (by kernel_rfl) (fun _ _ _ h => h) (Or.inr ⟨by rfl, rfl⟩) (by assumption) ?_
    simp only [Act.put, List.getElem_toArray, List.getElem_cons_succ, List.getElem_cons_zero, List.setIfInBounds_toArray, List.set_cons_zero, List.set_cons_succ]
    refine wpAnyH_take (i := 14) (v := undef) rfl (by kernel_rfl) (by kernel_rfl) (by kernel_rfl) (fun _ _ _ h => h) (Or.inr ⟨by rfl, rfl⟩) (by assumption) ?_
    simp only [Act.put, List.getElem_toArray, List.getElem_cons_succ, List.getElem_cons_zero, List.setIfInBounds_toArray, List.set_cons_zero, List.set_cons_succ]
    refine wpAnyH_take (i := 15) (v := undef) rfl (by kernel_rfl) (by kernel_rfl) (by kernel_rfl) (fun _ _ _ h => h) (Or.inr ⟨by rfl, rfl⟩) (by assumption) ?_
    simp only [Act.put, List.getElem_toArray, List.getElem_cons_succ, List.getElem_cons_zero, List.setIfInBounds_toArray, List.set_cons_zero, List.set_cons_succ]
    refine wpAnyH_take (i := 16) (v := undef) rfl (by kernel_rfl) (by kernel_rfl) (by kernel_rfl) (fun _ _ _ h => h) (Or.inr ⟨by rfl, rfl⟩) (by assumption) ?_
    simp only [Act.put, List.getElem_toArray, List.getElem_cons_succ, List.getElem_cons_zero, List.setIfInBounds_toArray, List.set_cons_zero, List.set_cons_succ]
    refine wpAnyH_take (i := 17) (v := undef) rfl (by kernel_rfl) (by kernel_rfl) (by kernel_rfl) (fun _ _ _ h => h) (Or.inr ⟨by rfl, rfl⟩) (by assumption) ?_
    simp only [Act.put, List.getElem_toArray, List.getElem_cons_succ, List.getElem_cons_zero, List.setIfInBounds_toArray, List.set_cons_zero, List.set_cons_succ]
    refine wpAnyH_take (i := 18) (v := undef) rfl (by kernel_rfl) (by kernel_rfl) (by kernel_rfl) (fun _ _ _ h => h) (Or.inr ⟨by rfl, rfl⟩) (by assumption) ?_
    simp only [Act.put, List.getElem_toArray, List.getElem_cons_succ, List.getElem_cons_zero, List.setIfInBounds_toArray, List.set_cons_zero, List.set_cons_succ]
    refine wpAnyH_take (i := 19) (v := undef) rfl (by kernel_rfl) (by kernel_rfl) (by kernel_rfl) (fun _ _ _ h => h) (Or.inr ⟨by rfl, rfl⟩) (by assumption) ?_
    simp only [Act.put, List.getElem_toArray, List.getElem_cons_succ, List.getElem_cons_zero, List.setIfInBounds_toArray, List.set_cons_zero, List.set_cons_succ]
    refine wpAnyH_take (i := 20) (v := undef) rfl (by kernel_rfl) (by kernel_rfl) (by kernel_rfl) (fun _ _ _ h => h) (Or.inr ⟨by rfl, rfl⟩) (by assumption) ?_
    simp only [Act.put, List.getElem_toArray, List.getElem_cons_succ, List.getElem_cons_zero, List.setIfInBounds_toArray, List.set_cons_zero, List.set_cons_succ]
    refine wpAnyH_take (i := 21) (v := undef) rfl (by kernel_rfl) (by kernel_rfl) (by kernel_rfl) (fun _ _ _ h => h) (Or.inr ⟨by rfl, rfl⟩) (by assumption) ?_
    simp only [Act.put, List.getElem_toArray, List.getElem_cons_succ, List.getElem_cons_zero, List.setIfInBounds_toArray, List.set_cons_zero, List.set_cons_succ]
    refine wpAnyH_take (i := 22) (v := .bool false) rfl (by kernel_rfl) (by kernel_rfl) (by kernel_rfl) (fun _ _ _ h => h) (Or.inl ⟨by rfl, fun wx hSw => by (dsimp only at hSw; go_simp)⟩) (by assumption) ?_
    simp only [Act.put, List.getElem_toArray, List.getElem_cons_succ, List.getElem_cons_zero, List.setIfInBounds_toArray, List.set_cons_zero, List.set_cons_succ]
    refine wpAnyH_take (i := 23) (v := .bool false) rfl (by kernel_rfl) (by kernel_rfl) (by kernel_rfl) (fun _ _ _ h => h) (Or.inl ⟨by rfl, fun wx hSw => by (dsimp only at hSw; go_simp)⟩) (by assumption) ?_
    simp only [Act.put, List.getElem_toArray, List.getElem_cons_succ, List.getElem_cons_zero, List.setIfInBounds_toArray, List.set_cons_zero, List.set_cons_succ]
    refine wpAnyH_done (by kernel_rfl) ?_ _
    have hw := hHeld2.2.2.2
    go_wp2
    go_ret
    exact ⟨rfl, hw⟩
end Go.Proofs.YtanndhoimpnhpaaDoor
