/- Joined by program: PrE, PrF, PrD, PrG. -/
import Derived.Test.YtanndhoimpnhpaaGreatDoorM3
import Derived.WalkSmall
import Derived.Deep.RegionHeld3
import Derived.Laws.EntriesVeiled
namespace Go.Proofs.YtanndhoimpnhpaaGreatDoor
open Go.RowKit Cal
theorem dayOfMonth_any (n : Int) (w : World) (h0 : 0 ≤ n) (h1 : n ≤ 109573) :
    Calls Tryz.prog 131 #[.int .i64 n] w fun e w' => e = .returned (.int .i64 (cdOf n)) ∧ Below w.heap.size w w' := by
  have hc : ∀ d, IsD n d → Hid (cdOf n = d) := fun d h => cdOf_is h
  generalize cdOf n = c at *
  go_enter Tryz.func131, Tryz.ntmps131
  go_wp2_with fail
  refine (civilOf_any _ _ h0 h1).mono ?_
  rintro e w1 ⟨y, m, d, rfl, hok, hn, hb⟩
  have hcd := hc d ⟨y, m, hok, hn⟩
  clear hc hok hn
  have hfd : ∀ wi : World, Sem.run Tryz.prog (Instr.field 214 (.agg #[.int .i64 y, .int .i64 m, .int .i64 d]) 2) wi = .ok (.int .i64 d) wi := fun _ => by kernel_rfl
  go_wp2
  go_ret
  rw [hcd.out]
  exact ⟨rfl, hb⟩
theorem keepP {w W W' : World} {P : Nat} {a b c : Value} (hb : Below W.heap.size W W')
    (h : W.cell? ⟨P, 5, none⟩ = some a ∧ W.cell? ⟨P, 6, none⟩ = some b ∧ W.cell? ⟨P, 17, none⟩ = some c ∧ Below w.heap.size w W) :
    W'.cell? ⟨P, 5, none⟩ = some a ∧ W'.cell? ⟨P, 6, none⟩ = some b ∧ W'.cell? ⟨P, 17, none⟩ = some c ∧ Below w.heap.size w W' := by
  obtain ⟨h1, h2, h3, h4⟩ := h
  have hl := World.block_lt_of_cell? _ _ h1
  exact ⟨(hb.cell (p := ⟨P, 5, none⟩) hl).trans h1, (hb.cell (p := ⟨P, 6, none⟩) hl).trans h2, (hb.cell (p := ⟨P, 17, none⟩) hl).trans h3, h4.trans (hb.mono h4.size)⟩
set_option maxRecDepth 10000 in
set_option maxHeartbeats 1000000 in
theorem fallsDue_core (P : Nat) (du n fr c : Int) (w : World) (c5 : w.cell? ⟨P, 5, none⟩ = some (.int .i64 du)) (c6 : w.cell? ⟨P, 6, none⟩ = some (.int .i64 n)) (c17 : w.cell? ⟨P, 17, none⟩ = some (.int .i64 fr))
    (hD : ∀ W : World, Calls Tryz.prog 131 #[.int .i64 n] W fun e w' => e = .returned (.int .i64 c) ∧ Below W.heap.size W w') (b : Bool) (hb : Hid (b = decide (c = du ∧ fr ≤ n))) :
    Calls Tryz.prog 106 #[.pointer (some ⟨P, 0, none⟩)] w fun e w' => e = .returned (.bool b) ∧ Below w.heap.size w w' := by
  by_cases h1 : c = du
  · by_cases h2 : fr ≤ n
    · obtain rfl : b = true := by rw [hb.out]; simp [h1, h2]
      clear hb
      have e1 : (c == du) = true := by simp [h1]
      have e2 : decide (fr ≤ n) = true := by simp [h2]
      have hB0 : Below w.heap.size w w.drew := (Below.refl _ _).drew
      go_enter Tryz.func106, Tryz.ntmps106
      go_wp2_with fail
      go_region_held3 (fun w' => w'.cell? ⟨P, 5, none⟩ = some (.int .i64 du) ∧ w'.cell? ⟨P, 6, none⟩ = some (.int .i64 n) ∧ w'.cell? ⟨P, 17, none⟩ = some (.int .i64 fr) ∧ Below w.heap.size w w') (first | go_keep | exact keepP (by assumption) (by assumption))
        ((go_at_call 131; refine (hD _).mono ?_; rintro e w' ⟨rfl, hb'⟩))
      have hw := (‹_ ∧ _ ∧ _ ∧ Below _ _ _›).2.2.2
      go_wp2
      go_ret
      exact ⟨rfl, hw⟩
    · obtain rfl : b = false := by rw [hb.out]; simp [h2]
      clear hb
      have e1 : (c == du) = true := by simp [h1]
      have e2 : decide (fr ≤ n) = false := by simp; omega
      have hB0 : Below w.heap.size w w.drew := (Below.refl _ _).drew
      go_enter Tryz.func106, Tryz.ntmps106
      go_wp2_with fail
      go_region_held3 (fun w' => w'.cell? ⟨P, 5, none⟩ = some (.int .i64 du) ∧ w'.cell? ⟨P, 6, none⟩ = some (.int .i64 n) ∧ w'.cell? ⟨P, 17, none⟩ = some (.int .i64 fr) ∧ Below w.heap.size w w') (first | go_keep | exact keepP (by assumption) (by assumption))
        ((go_at_call 131; refine (hD _).mono ?_; rintro e w' ⟨rfl, hb'⟩))
      have hw := (‹_ ∧ _ ∧ _ ∧ Below _ _ _›).2.2.2
      go_wp2
      go_ret
      exact ⟨rfl, hw⟩
  · obtain rfl : b = false := by rw [hb.out]; simp [h1]
    clear hb
    have e1 : (c == du) = false := by simpa using h1
    go_enter Tryz.func106, Tryz.ntmps106
    go_wp2_with fail
    refine wp_region_held_drew (S := fun w' => w'.cell? ⟨P, 5, none⟩ = some (.int .i64 du) ∧ w'.cell? ⟨P, 6, none⟩ = some (.int .i64 n) ∧ w'.cell? ⟨P, 17, none⟩ = some (.int .i64 fr) ∧ Below w.heap.size w w') (by kernel_rfl) ⟨c5, c6, c17, (Below.refl _ _).drew⟩ (fun hHeld => ?_)
    refine wpAnyH_take (i := 0) (v := .pointer (some ⟨P, 0, none⟩)) rfl (by kernel_rfl) (by kernel_rfl) (by kernel_rfl) (fun _ _ _ h => h) (Or.inl ⟨by rfl, fun wx hSw => by (dsimp only at hSw; go_simp)⟩) (by assumption) ?_
    simp only [Act.put, List.getElem_toArray, List.getElem_cons_zero, List.setIfInBounds_toArray, List.set_cons_zero, List.set_cons_succ]
    refine wpAnyH_take (i := 1) (v := .pointer (some ⟨P, 0, none⟩)) rfl (by kernel_rfl) (by kernel_rfl) (by kernel_rfl) (fun _ _ _ h => h) (Or.inl ⟨by rfl, fun wx hSw => by (dsimp only at hSw; go_simp)⟩) (by assumption) ?_
    simp only [Act.put, List.getElem_toArray, List.getElem_cons_succ, List.getElem_cons_zero, List.setIfInBounds_toArray, List.set_cons_zero, List.set_cons_succ]
    refine wpAnyH_take (i := 2) (v := .pointer (some ⟨P, 6, none⟩)) rfl (by kernel_rfl) (by kernel_rfl) (by kernel_rfl) (fun _ _ _ h => h) (Or.inl ⟨by rfl, fun wx hSw => by (dsimp only at hSw; go_simp)⟩) (by assumption) ?_
    simp only [Act.put, List.getElem_toArray, List.getElem_cons_succ, List.getElem_cons_zero, List.setIfInBounds_toArray, List.set_cons_zero, List.set_cons_succ]
    refine wpAnyH_take (i := 3) (v := .int .i64 n) rfl (by kernel_rfl) (by kernel_rfl) (by kernel_rfl) (fun _ _ _ h => h) (Or.inl ⟨by rfl, fun wx hSw => by (dsimp only at hSw; go_simp)⟩) (by assumption) ?_
    simp only [Act.put, List.getElem_toArray, List.getElem_cons_succ, List.getElem_cons_zero, List.setIfInBounds_toArray, List.set_cons_zero, List.set_cons_succ]
    refine wpAnyH_take (i := 5) (v := .pointer (some ⟨P, 0, none⟩)) rfl (by kernel_rfl) (by kernel_rfl) (by kernel_rfl) (fun _ _ _ h => h) (Or.inl ⟨by rfl, fun wx hSw => by (dsimp only at hSw; go_simp)⟩) (by assumption) ?_
    simp only [Act.put, List.getElem_toArray, List.getElem_cons_succ, List.getElem_cons_zero, List.setIfInBounds_toArray, List.set_cons_zero, List.set_cons_succ]
    refine wpAnyH_take (i := 6) (v := .pointer (some ⟨P, 0, none⟩)) rfl (by kernel_rfl) (by kernel_rfl) (by kernel_rfl) (fun _ _ _ h => h) (Or.inl ⟨by rfl, fun wx hSw => by (dsimp only at hSw; go_simp)⟩) (by assumption) ?_
    simp only [Act.put, List.getElem_toArray, List.getElem_cons_succ, List.getElem_cons_zero, List.setIfInBounds_toArray, List.set_cons_zero, List.set_cons_succ]
    refine wpAnyH_take (i := 7) (v := .pointer (some ⟨P, 0, none⟩)) rfl (by kernel_rfl) (by kernel_rfl) (by kernel_rfl) (fun _ _ _ h => h) (Or.inl ⟨by rfl, fun wx hSw => by (dsimp only at hSw; go_simp)⟩) (by assumption) ?_
    simp only [Act.put, List.getElem_toArray, List.getElem_cons_succ, List.getElem_cons_zero, List.setIfInBounds_toArray, List.set_cons_zero, List.set_cons_succ]
    refine wpAnyH_take (i := 8) (v := .pointer (some ⟨P, 5, none⟩)) rfl (by kernel_rfl) (by kernel_rfl) (by kernel_rfl) (fun _ _ _ h => h) (Or.inl ⟨by rfl, fun wx hSw => by (dsimp only at hSw; go_simp)⟩) (by assumption) ?_
    simp only [Act.put, List.getElem_toArray, List.getElem_cons_succ, List.getElem_cons_zero, List.setIfInBounds_toArray, List.set_cons_zero, List.set_cons_succ]
    refine wpAnyH_take (i := 9) (v := .int .i64 du) rfl (by kernel_rfl) (by kernel_rfl) (by kernel_rfl) (fun _ _ _ h => h) (Or.inl ⟨by rfl, fun wx hSw => by (dsimp only at hSw; go_simp)⟩) (by assumption) ?_
    simp only [Act.put, List.getElem_toArray, List.getElem_cons_succ, List.getElem_cons_zero, List.setIfInBounds_toArray, List.set_cons_zero, List.set_cons_succ]
    refine wpAnyH_ready (rs := [4]) (by kernel_rfl) (by simp) ?_
    refine AllReadyH.cons rfl (fun K hK => ?_) AllReadyH.nil
    go_simp
    refine (hD _).mono ?_
    rintro e w' ⟨rfl, hb'⟩
    go_wp2_with fail
    refine hK.out _ _ (keepP hb' hHeld) (fun hHeld2 => ?_)
    clear hK K hHeld hb'
    refine wpAnyH_take (i := 10) (v := .bool false) rfl (by kernel_rfl) (by kernel_rfl) (by kernel_rfl) (fun _ _ _ h => h) (Or.inl ⟨by rfl, fun wx hSw => by (dsimp only at hSw; go_simp)⟩) (by assumption) ?_
    simp only [Act.put, List.getElem_toArray, List.getElem_cons_succ, List.getElem_cons_zero, List.setIfInBounds_toArray, List.set_cons_zero, List.set_cons_succ]
    refine wpAnyH_take (i := 11) (v := .bool false) rfl (by kernel_rfl) (by kernel_rfl) (by kernel_rfl) (fun _ _ _ h => h) (Or.inl ⟨by rfl, fun wx hSw => by (dsimp only at hSw; go_simp)⟩) (by assumption) ?_
    simp only [Act.put, List.getElem_toArray, List.getElem_cons_succ, List.getElem_cons_zero, List.setIfInBounds_toArray, List.set_cons_zero, List.set_cons_succ]
    refine wpAnyH_take (i := 12) (v := undef) rfl (by kernel_rfl) (by kernel_rfl) (by kernel_rfl) (fun _ _ _ h => h) (Or.inr ⟨by rfl, rfl⟩) (by assumption) ?_
    simp only [Act.put, List.getElem_toArray, List.getElem_cons_succ, List.getElem_cons_zero, List.setIfInBounds_toArray, List.set_cons_zero, List.set_cons_succ]
    refine wpAnyH_take (i := 13) (v := undef) rfl (by kernel_rfl) (by kernel_rfl) (by kernel_rfl) (fun _ _ _ h => h) (Or.inr ⟨by rfl, rfl⟩) (by assumption) ?_
    simp only [Act.put, List.getElem_toArray, List.getElem_cons_succ, List.getElem_cons_zero, List.setIfInBounds_toArray, List.set_cons_zero, List.set_cons_succ]
    refine wpAnyH_take (i := 14) (v := undef) rfl (by kernel_rfl) (by kernel_rfl) (by kernel_rfl) (fun _ _ _ h => h) (Or.inr ⟨by rfl, rfl⟩) (by assumption) ?_
    simp only [Act.put, List.getElem_toArray, List.getElem_cons_succ, List.getElem_cons_zero, List.setIfInBounds_toArray, List.set_cons_zero, List.set_cons_succ]
    refine wpAnyH_take (i := 15) (v := undef) rfl (by kernel_rfl) (by kernel_rfl) (by kernel_rfl) (fun _ _ _ h => h) (Or.inr ⟨by rfl, rfl⟩) (by assumption) ?_
    simp only [Act.put, List.getElem_toArray, List.getElem_cons_succ, List.getElem_cons_zero, List.setIfInBounds_toArray, List.set_cons_zero, List.set_cons_succ]
    refine wpAnyH_take (i := 16) (v := undef) rfl (by kernel_rfl) (by kernel_rfl) (by kernel_rfl) (fun _ _ _ h => h) (Or.inr ⟨by rfl, rfl⟩) (by assumption) ?_
    simp only [Act.put, List.getElem_toArray, List.getElem_cons_succ, List.getElem_cons_zero, List.setIfInBounds_toArray, List.set_cons_zero, List.set_cons_succ]
    refine wpAnyH_take (i := 17) (v := undef) rfl (by kernel_rfl) (by kernel_rfl) (by kernel_rfl) (fun _ _ _ h => h) (Or.inr ⟨by rfl, rfl⟩) (by assumption) ?_
    simp only [Act.put, List.getElem_toArray, List.getElem_cons_succ, List.getElem_cons_zero, List.setIfInBounds_toArray, List.set_cons_zero, List.set_cons_succ]
    refine wpAnyH_take (i := 18) (v := undef) rfl (by kernel_rfl) (by kernel_rfl) (by kernel_rfl) (fun _ _ _ h => h) (Or.inr ⟨by rfl, rfl⟩) (by assumption) ?_
    simp only [Act.put, List.getElem_toArray, List.getElem_cons_succ, List.getElem_cons_zero, List.setIfInBounds_toArray, List.set_cons_zero, List.set_cons_succ]
    refine wpAnyH_take (i := 19) (v := undef) rfl (by kernel_rfl) (by kernel_rfl) (by kernel_rfl) (fun _ _ _ h => h) (Or.inr ⟨by rfl, rfl⟩) (by assumption) ?_
    simp only [Act.put, List.getElem_toArray, List.getElem_cons_succ, List.getElem_cons_zero, List.setIfInBounds_toArray, List.set_cons_zero, List.set_cons_succ]
    refine wpAnyH_take (i := 20) (v := undef) rfl (by kernel_rfl) (by kernel_rfl) (by kernel_rfl) (fun _ _ _ h => h) (Or.inr ⟨by rfl, rfl⟩) (by assumption) ?_
    simp only [Act.put, List.getElem_toArray, List.getElem_cons_succ, List.getElem_cons_zero, List.setIfInBounds_toArray, List.set_cons_zero, List.set_cons_succ]
    refine wpAnyH_take (i := 21) (v := undef) rfl (by kernel_rfl) (by kernel_rfl) (by kernel_rfl) (fun _ _ _ h => h) (Or.inr ⟨by rfl, rfl⟩) (by assumption) ?_
    simp only [Act.put, List.getElem_toArray, List.getElem_cons_succ, List.getElem_cons_zero, List.setIfInBounds_toArray, List.set_cons_zero, List.set_cons_succ]
    refine wpAnyH_take (i := 22) (v := .bool false) rfl (by kernel_rfl) (by kernel_rfl) (by kernel_rfl) (fun _ _ _ h => h) (Or.inl ⟨by rfl, fun wx hSw => by (dsimp only at hSw; go_simp)⟩) (by assumption) ?_
    simp only [Act.put, List.getElem_toArray, List.getElem_cons_succ, List.getElem_cons_zero, List.setIfInBounds_toArray, List.set_cons_zero, List.set_cons_succ]
    refine wpAnyH_take (i := 23) (v := .bool false) rfl (by kernel_rfl) (by kernel_rfl) (by kernel_rfl) (fun _ _ _ h => h) (Or.inl ⟨by rfl, fun wx hSw => by (dsimp only at hSw; go_simp)⟩) (by assumption) ?_
    simp only [Act.put, List.getElem_toArray, List.getElem_cons_succ, List.getElem_cons_zero, List.setIfInBounds_toArray, List.set_cons_zero, List.set_cons_succ]
    refine wpAnyH_done (by kernel_rfl) ?_ _
    have hw := hHeld2.2.2.2
    go_wp2
    go_ret
    exact ⟨rfl, hw⟩
end Go.Proofs.YtanndhoimpnhpaaGreatDoor
namespace Go.Proofs.YtanndhoimpnhpaaGreatDoor
open Go.RowKit Cal
namespace Ln
theorem Inv.fit_over {t : Terms} {L : Int} {s : Nat} {g : St} (h : Inv t L s g) (hs : s ≤ 4320) (hL : L ≤ 4100000000000) (hfn : g.fn / den t ≤ 8000000000000000000) (am : Nat → Int) : Fit (enter ⟨g, am⟩ 2 g.du) := by
  have hf := h.fit hs hL hfn am
  have hb := h.bound hs hL
  have h1 := h.pr
  have h2 := h.it
  have h3 := h.du
  have h4 := h.la
  exact ⟨hf.pr0, hf.pr1, hf.it0, hf.it1, by show 0 ≤ g.du - g.du; omega, by show g.du - g.du ≤ _; omega, by show 0 ≤ g.la + g.du; omega, by show g.la + g.du ≤ _; omega, hf.fi0, hf.fi1, hf.cr0, hf.cr1⟩
theorem Inv.can_lent {t : Terms} {L : Int} {s : Nat} {g : St} (h : Inv t L s g) (hs : s ≤ 4320) (hL : L ≤ 4100000000000) (ht : OkT t) : CanEnter ⟨g, fun _ => 0⟩ 1 t.pr := by
  have hb := h.bound hs hL
  have h1 := h.pr
  have h2 := h.it
  have h3 := h.du
  have h4 := h.la
  have := ht.pr0
  have := ht.pr1
  exact ⟨by assumption, Int.le_refl _, by show 0 + t.pr ≤ _; omega, by show g.pr + t.pr ≤ _; omega⟩
theorem Inv.can_over {t : Terms} {L : Int} {s : Nat} {g : St} (h : Inv t L s g) (hs : s ≤ 4320) (hL : L ≤ 4100000000000) : CanEnter ⟨g, fun _ => 0⟩ 2 g.du := by
  have hb := h.bound hs hL
  have h1 := h.pr
  have h2 := h.it
  have h3 := h.du
  have h4 := h.la
  exact ⟨h3, Int.le_refl _, by show 0 + g.du ≤ _; omega, by show g.la + g.du ≤ _; omega, Int.le_refl _⟩
theorem Inv.can_fall {t : Terms} {L : Int} {s : Nat} {g : St} (h : Inv t L s g) (hs : s ≤ 4320) (hL : L ≤ 4100000000000) : CanEnter (enter ⟨g, fun _ => 0⟩ 2 g.du) 3 g.it := by
  have hb := h.bound hs hL
  have h1 := h.pr
  have h2 := h.it
  have h3 := h.du
  have h4 := h.la
  exact ⟨h2, Int.le_refl _, by show 0 + g.it ≤ _; omega, by show g.du - g.du + g.it ≤ _; omega, Int.le_refl _⟩
theorem early_start {t : Terms} (cd : Int) (g : St) : early t t.st cd g = enter ⟨g, fun _ => 0⟩ 1 t.pr := by
  unfold early
  simp
theorem early_due {t : Terms} {n : Int} (cd : Int) (g : St) (hn : ¬ n = t.st) (hd : cd = t.du ∧ g.fr ≤ n) : early t n cd g = enter (enter ⟨g, fun _ => 0⟩ 2 g.du) 3 g.it := by
  unfold early
  simp only [hn, if_false, not_false_eq_true, ne_eq, true_and]
  rw [if_pos hd]
  rfl
theorem early_not {t : Terms} {n : Int} (cd : Int) (g : St) (hn : ¬ n = t.st) (hd : ¬ (cd = t.du ∧ g.fr ≤ n)) : early t n cd g = ⟨g, fun _ => 0⟩ := by
  unfold early
  simp only [hn, if_false, not_false_eq_true, ne_eq, true_and]
  rw [if_neg hd]
end Ln
set_option maxRecDepth 10000 in
set_option maxHeartbeats 1000000 in
theorem pbegin_any (w : World) (P : Nat) (t : Ln.Terms) (n : Int) (g : Ln.St) (n0 : 0 ≤ n) (n1 : n ≤ 109573) (h : Pas w P t n ⟨g, fun _ => 0⟩) (hm : Mv w) (hP : ¬ P = 1) (L : Int) (s : Nat) (hI : Ln.Inv t L s g) (hs : s ≤ 4320) (hL : L ≤ 4100000000000) (hfn : g.fn / Ln.den t ≤ 8000000000000000000) (ht : Ln.OkT t) :
    Calls Tryz.prog 78 #[.pointer (some ⟨P, 0, none⟩)] w fun e w' => e = .returned (.tuple #[]) ∧ Pas w' P t n (Ln.early t n (cdOf n) g) ∧ Keep (fun b => b = P) w w' := by
  have hf := hI.fit hs hL hfn (fun _ => 0)
  obtain ⟨c, i, f, hA⟩ := id h
  have c0 : w.cell? ⟨P, 0, none⟩ = some (.int .i64 t.st) := hA.cell 0 rfl
  have c1 : w.cell? ⟨P, 1, none⟩ = some (.int .i64 t.pr) := hA.cell 1 rfl
  have c5 : w.cell? ⟨P, 5, none⟩ = some (.int .i64 t.du) := hA.cell 5 rfl
  have c6 : w.cell? ⟨P, 6, none⟩ = some (.int .i64 n) := hA.cell 6 rfl
  have c17 : w.cell? ⟨P, 17, none⟩ = some (.int .i64 g.fr) := hA.cell 17 rfl
  by_cases hn : n = t.st
  · subst hn
    have hE := penter_any w.drew P t t.st _ h.drew hm.drew hP hf 1 t.pr (hI.can_lent hs hL ht)
    rw [← Ln.early_start (cdOf t.st)] at hE
    clear hI hf h hA c5 c17 ht hm
    generalize Ln.early t t.st (cdOf t.st) g = y at *
    go_enter Tryz.func78, Tryz.ntmps78
    go_wp2
    go_region
    go_wp2_with fail
    refine hE.mono ?_
    rintro e w1 ⟨rfl, hg1, hk1⟩
    clear hE
    go_wp2
    go_end0
    exact ⟨rfl, hg1, (Keep.refl _ w).drew.trans hk1⟩
  · have e1 : (n == t.st) = false := by simpa using hn
    have hF : ∀ b : Bool, Hid (b = decide (cdOf n = t.du ∧ g.fr ≤ n)) → Calls Tryz.prog 106 #[.pointer (some ⟨P, 0, none⟩)] w.drew fun e w' => e = .returned (.bool b) ∧ Below w.drew.heap.size w.drew w' :=
      fun b hb => fallsDue_core P t.du n g.fr (cdOf n) w.drew c5 c6 c17 (fun W => dayOfMonth_any n W n0 n1) b hb
    by_cases hd : cdOf n = t.du ∧ g.fr ≤ n
    · have hE2 : ∀ W : World, Keep (fun _ => False) w.drew W → Calls Tryz.prog 105 #[.pointer (some ⟨P, 0, none⟩), .int .i64 2, .int .i64 g.du] W fun e w' => e = .returned (.tuple #[]) ∧ Pas w' P t n (Ln.enter ⟨g, fun _ => 0⟩ 2 g.du) ∧ Keep (fun b => b = P) W w' :=
        fun W k => penter_any W P t n _ (h.drew.keep k (fun x => x)) (hm.drew.keep k (fun x => x)) hP hf 2 g.du (hI.can_over hs hL)
      have hE3 : ∀ W : World, Keep (fun b => b = P) w.drew W → Pas W P t n (Ln.enter ⟨g, fun _ => 0⟩ 2 g.du) → Calls Tryz.prog 105 #[.pointer (some ⟨P, 0, none⟩), .int .i64 3, .int .i64 g.it] W fun e w' => e = .returned (.tuple #[]) ∧ Pas w' P t n (Ln.enter (Ln.enter ⟨g, fun _ => 0⟩ 2 g.du) 3 g.it) ∧ Keep (fun b => b = P) W w' :=
        fun W k hp => penter_any W P t n _ hp (hm.drew.keep k (fun e => hP e.symm)) hP (hI.fit_over hs hL hfn _) 3 g.it (hI.can_fall hs hL)
      rw [Ln.early_due (cdOf n) g hn hd]
      have hF' := hF true (by show true = decide _; simp [hd])
      have c10 : w.cell? ⟨P, 10, none⟩ = some (.int .i64 g.du) := hA.cell 10 rfl
      have hl : P < w.heap.size := h.lt
      clear hF hI hf hA ht hm hd
      go_enter Tryz.func78, Tryz.ntmps78
      go_wp2
      go_region
      go_wp2_with fail
      refine hF'.mono ?_
      rintro e w1 ⟨rfl, hb1⟩
      clear hF'
      have k1 : Keep (fun _ => False) w.drew w1 := Keep.below hb1
      have d10 : w1.cell? ⟨P, 10, none⟩ = some (.int .i64 g.du) := (hb1.cell (p := ⟨P, 10, none⟩) hl).trans c10
      go_wp2_with fail
      refine (hE2 _ k1).mono ?_
      rintro e w2 ⟨rfl, hg2, k2⟩
      have k2' : Keep (fun b => b = P) w.drew w2 := (k1.mono (fun _ _ h => h.elim)).trans k2
      have d9 : w2.cell? ⟨P, 9, none⟩ = some (.int .i64 g.it) := by
        obtain ⟨c', i', f', hA'⟩ := hg2
        exact hA'.cell 9 rfl
      clear hE2
      go_wp2_with fail
      refine (hE3 _ k2' hg2).mono ?_
      rintro e w3 ⟨rfl, hg3, k3⟩
      clear hE3
      go_wp2
      go_end0
      exact ⟨rfl, hg3, ((Keep.refl _ w).drew.trans k2').trans k3⟩
    · rw [Ln.early_not (cdOf n) g hn hd]
      have hF' := hF false (by show false = decide _; simp [hd])
      clear hF hI hf hA ht hm
      go_enter Tryz.func78, Tryz.ntmps78
      go_wp2
      go_region
      go_wp2_with fail
      refine hF'.mono ?_
      rintro e w1 ⟨rfl, hb1⟩
      clear hF'
      go_wp2
      go_end0
      have k1 : Keep (fun b => b = P) w w1 := (Keep.refl _ w).drew.trans (Keep.below hb1)
      exact ⟨rfl, h.keep (S := fun _ => False) ((Keep.refl _ w).drew.trans (Keep.below hb1)) (fun x => x), k1⟩
end Go.Proofs.YtanndhoimpnhpaaGreatDoor
namespace Go.Proofs.YtanndhoimpnhpaaGreatDoor
open Go.RowKit
set_option maxRecDepth 10000 in
set_option maxHeartbeats 2000000 in
theorem ppay_any (w : World) (P : Nat) (t : Ln.Terms) (n : Int) (y : Ln.Dy) (h : Pas w P t n y) (hm : Mv w) (hP : ¬ P = 1) (hf : Ln.Fit y) (L : Int) (hLm : L ≤ 4100000000000) (hA : Ln.Am y L) (hc : y.g.cr ≤ 4100000000000) (a : Int) (a0 : 0 ≤ a) (a1 : a ≤ 100000000000) :
    Calls Tryz.prog 111 #[.pointer (some ⟨P, 0, none⟩), .int .i64 a] w fun e w' => e = .returned (.tuple #[]) ∧ Pas w' P t n (Ln.pay y a) ∧ Keep (fun b => b = P) w w' := by
  go_enter Tryz.func111, Tryz.ntmps111
  go_wp2
  go_loopw [1, 8] (fun l i wr => ∃ k : Nat, k ≤ 5 ∧ i = .int .i64 k ∧ l = .int .i64 (Ln.payK y a k).2 ∧ Pas wr P t n (Ln.payK y a k).1 ∧ Keep (fun b => b = P) w wr) (fun _ i _ => 5 - (intOf i).toNat)
  case atStart => exact ⟨0, by omega, rfl, rfl, h, Keep.refl _ _⟩
  case round =>
    obtain ⟨k, hk, rfl, rfl, hg, hkeep⟩ := hrel
    have hl := Ln.payK_left y a hf a0 k
    have hfk := Ln.payK_fit y a hf a0 k hk
    have hmr : Mv wr := hm.keep hkeep (fun e => hP e.symm)
    by_cases hlt : k < 5
    · have hcan := Ln.payK_can y a L hLm hf hA a0 a1 k hlt
      have hw0 := Ln.owed_nn hf k
      have hE := penter_any wr.drew P t n (Ln.payK y a k).1 hg.drew hmr.drew hP hfk (5 + k) _ hcan
      have hL : Hid (Ln.least (Ln.owed y.g k) (Ln.payK y a k).2 = if (Ln.payK y a k).2 < Ln.owed y.g k then (Ln.payK y a k).2 else Ln.owed y.g k) := rfl
      have hP1 : Hid ((Ln.payK y a (k + 1)).1 = Ln.enter (Ln.payK y a k).1 (5 + k) (Ln.least (Ln.owed y.g k) (Ln.payK y a k).2)) := rfl
      have hP2 : Hid ((Ln.payK y a (k + 1)).2 = (Ln.payK y a k).2 - Ln.least (Ln.owed y.g k) (Ln.payK y a k).2) := rfl
      match k, hlt with
      | 0, _ =>
        have hcell : wr.cell? ⟨P, 12, none⟩ = some (.int .i64 (Ln.owed y.g 0)) := by
          obtain ⟨c, i, f, hg⟩ := hg
          exact hg.cell 12 rfl
        have hmv : wr.cell? ⟨1, 11, none⟩ = some (.int .i64 5) := hmr 11 _ rfl
        have hix : ∀ wi : World, Sem.run Tryz.prog (Instr.index 200 (.agg #[.int .i64 5, .int .i64 6, .int .i64 7, .int .i64 8, .int .i64 9]) (.int .i64 0)) wi = .ok (.int .i64 5) wi := fun _ => by kernel_rfl
        clear hA hf hfk hcan h hg hm hmr
        generalize (Ln.payK y a 0).2 = left at *
        generalize Ln.owed y.g 0 = x at *
        by_cases hx : left ≤ x
        · have hq : Hid ((if left < x then left else x) = left) := by show (if left < x then left else x) = left; split <;> omega
          rw [hL.out, hq.out] at hE hP1 hP2
          go_wp2
          go_region
          go_wp2_with fail
          refine hE.mono ?_
          rintro e w1 ⟨rfl, hg1, hk1⟩
          clear hE
          go_wp2
          go_roundw
          case rel => exact ⟨1, by omega, by go_num, by rw [hP2.out]; simp, by rw [hP1.out]; exact hg1, hkeep.drew.trans hk1⟩
          case measure => simp [intOf]
        · have hx' : x < left := by omega
          rw [hL.out, if_neg (by omega)] at hE hP1 hP2
          go_wp2
          go_region
          go_wp2_with fail
          refine hE.mono ?_
          rintro e w1 ⟨rfl, hg1, hk1⟩
          clear hE
          go_wp2
          go_roundw
          case rel => exact ⟨1, by omega, by go_num, by rw [hP2.out], by rw [hP1.out]; exact hg1, hkeep.drew.trans hk1⟩
          case measure => simp [intOf]
      | 1, _ =>
        have hcell : wr.cell? ⟨P, 11, none⟩ = some (.int .i64 (Ln.owed y.g 1)) := by
          obtain ⟨c, i, f, hg⟩ := hg
          exact hg.cell 11 rfl
        have hmv : wr.cell? ⟨1, 13, none⟩ = some (.int .i64 4) := hmr 13 _ rfl
        have hix : ∀ wi : World, Sem.run Tryz.prog (Instr.index 200 (.agg #[.int .i64 5, .int .i64 6, .int .i64 7, .int .i64 8, .int .i64 9]) (.int .i64 1)) wi = .ok (.int .i64 6) wi := fun _ => by kernel_rfl
        clear hA hf hfk hcan h hg hm hmr
        generalize (Ln.payK y a 1).2 = left at *
        generalize Ln.owed y.g 1 = x at *
        by_cases hx : left ≤ x
        · have hq : Hid ((if left < x then left else x) = left) := by show (if left < x then left else x) = left; split <;> omega
          rw [hL.out, hq.out] at hE hP1 hP2
          go_wp2
          go_region
          go_wp2_with fail
          refine hE.mono ?_
          rintro e w1 ⟨rfl, hg1, hk1⟩
          clear hE
          go_wp2
          go_roundw
          case rel => exact ⟨2, by omega, by go_num, by rw [hP2.out]; simp, by rw [hP1.out]; exact hg1, hkeep.drew.trans hk1⟩
          case measure => simp [intOf]
        · have hx' : x < left := by omega
          rw [hL.out, if_neg (by omega)] at hE hP1 hP2
          go_wp2
          go_region
          go_wp2_with fail
          refine hE.mono ?_
          rintro e w1 ⟨rfl, hg1, hk1⟩
          clear hE
          go_wp2
          go_roundw
          case rel => exact ⟨2, by omega, by go_num, by rw [hP2.out], by rw [hP1.out]; exact hg1, hkeep.drew.trans hk1⟩
          case measure => simp [intOf]
      | 2, _ =>
        have hcell : wr.cell? ⟨P, 10, none⟩ = some (.int .i64 (Ln.owed y.g 2)) := by
          obtain ⟨c, i, f, hg⟩ := hg
          exact hg.cell 10 rfl
        have hmv : wr.cell? ⟨1, 15, none⟩ = some (.int .i64 3) := hmr 15 _ rfl
        have hix : ∀ wi : World, Sem.run Tryz.prog (Instr.index 200 (.agg #[.int .i64 5, .int .i64 6, .int .i64 7, .int .i64 8, .int .i64 9]) (.int .i64 2)) wi = .ok (.int .i64 7) wi := fun _ => by kernel_rfl
        clear hA hf hfk hcan h hg hm hmr
        generalize (Ln.payK y a 2).2 = left at *
        generalize Ln.owed y.g 2 = x at *
        by_cases hx : left ≤ x
        · have hq : Hid ((if left < x then left else x) = left) := by show (if left < x then left else x) = left; split <;> omega
          rw [hL.out, hq.out] at hE hP1 hP2
          go_wp2
          go_region
          go_wp2_with fail
          refine hE.mono ?_
          rintro e w1 ⟨rfl, hg1, hk1⟩
          clear hE
          go_wp2
          go_roundw
          case rel => exact ⟨3, by omega, by go_num, by rw [hP2.out]; simp, by rw [hP1.out]; exact hg1, hkeep.drew.trans hk1⟩
          case measure => simp [intOf]
        · have hx' : x < left := by omega
          rw [hL.out, if_neg (by omega)] at hE hP1 hP2
          go_wp2
          go_region
          go_wp2_with fail
          refine hE.mono ?_
          rintro e w1 ⟨rfl, hg1, hk1⟩
          clear hE
          go_wp2
          go_roundw
          case rel => exact ⟨3, by omega, by go_num, by rw [hP2.out], by rw [hP1.out]; exact hg1, hkeep.drew.trans hk1⟩
          case measure => simp [intOf]
      | 3, _ =>
        have hcell : wr.cell? ⟨P, 9, none⟩ = some (.int .i64 (Ln.owed y.g 3)) := by
          obtain ⟨c, i, f, hg⟩ := hg
          exact hg.cell 9 rfl
        have hmv : wr.cell? ⟨1, 17, none⟩ = some (.int .i64 2) := hmr 17 _ rfl
        have hix : ∀ wi : World, Sem.run Tryz.prog (Instr.index 200 (.agg #[.int .i64 5, .int .i64 6, .int .i64 7, .int .i64 8, .int .i64 9]) (.int .i64 3)) wi = .ok (.int .i64 8) wi := fun _ => by kernel_rfl
        clear hA hf hfk hcan h hg hm hmr
        generalize (Ln.payK y a 3).2 = left at *
        generalize Ln.owed y.g 3 = x at *
        by_cases hx : left ≤ x
        · have hq : Hid ((if left < x then left else x) = left) := by show (if left < x then left else x) = left; split <;> omega
          rw [hL.out, hq.out] at hE hP1 hP2
          go_wp2
          go_region
          go_wp2_with fail
          refine hE.mono ?_
          rintro e w1 ⟨rfl, hg1, hk1⟩
          clear hE
          go_wp2
          go_roundw
          case rel => exact ⟨4, by omega, by go_num, by rw [hP2.out]; simp, by rw [hP1.out]; exact hg1, hkeep.drew.trans hk1⟩
          case measure => simp [intOf]
        · have hx' : x < left := by omega
          rw [hL.out, if_neg (by omega)] at hE hP1 hP2
          go_wp2
          go_region
          go_wp2_with fail
          refine hE.mono ?_
          rintro e w1 ⟨rfl, hg1, hk1⟩
          clear hE
          go_wp2
          go_roundw
          case rel => exact ⟨4, by omega, by go_num, by rw [hP2.out], by rw [hP1.out]; exact hg1, hkeep.drew.trans hk1⟩
          case measure => simp [intOf]
      | 4, _ =>
        have hcell : wr.cell? ⟨P, 8, none⟩ = some (.int .i64 (Ln.owed y.g 4)) := by
          obtain ⟨c, i, f, hg⟩ := hg
          exact hg.cell 8 rfl
        have hmv : wr.cell? ⟨1, 19, none⟩ = some (.int .i64 1) := hmr 19 _ rfl
        have hix : ∀ wi : World, Sem.run Tryz.prog (Instr.index 200 (.agg #[.int .i64 5, .int .i64 6, .int .i64 7, .int .i64 8, .int .i64 9]) (.int .i64 4)) wi = .ok (.int .i64 9) wi := fun _ => by kernel_rfl
        clear hA hf hfk hcan h hg hm hmr
        generalize (Ln.payK y a 4).2 = left at *
        generalize Ln.owed y.g 4 = x at *
        by_cases hx : left ≤ x
        · have hq : Hid ((if left < x then left else x) = left) := by show (if left < x then left else x) = left; split <;> omega
          rw [hL.out, hq.out] at hE hP1 hP2
          go_wp2
          go_region
          go_wp2_with fail
          refine hE.mono ?_
          rintro e w1 ⟨rfl, hg1, hk1⟩
          clear hE
          go_wp2
          go_roundw
          case rel => exact ⟨5, by omega, by go_num, by rw [hP2.out]; simp, by rw [hP1.out]; exact hg1, hkeep.drew.trans hk1⟩
          case measure => simp [intOf]
        · have hx' : x < left := by omega
          rw [hL.out, if_neg (by omega)] at hE hP1 hP2
          go_wp2
          go_region
          go_wp2_with fail
          refine hE.mono ?_
          rintro e w1 ⟨rfl, hg1, hk1⟩
          clear hE
          go_wp2
          go_roundw
          case rel => exact ⟨5, by omega, by go_num, by rw [hP2.out], by rw [hP1.out]; exact hg1, hkeep.drew.trans hk1⟩
          case measure => simp [intOf]
    · obtain rfl : k = 5 := by omega
      have hE := penter_any wr P t n (Ln.payK y a 5).1 hg hmr hP hfk 10 _ (Ln.pay_can y a L hLm hf hA hc a0 a1)
      rw [← Ln.pay_eq] at hE
      clear hA hf hfk h hg hc hm hmr
      generalize (Ln.payK y a 5).2 = left at *
      go_wp2_with fail
      refine hE.mono ?_
      rintro e w1 ⟨rfl, hg1, hk1⟩
      clear hE
      go_wp2
      go_end0
      exact ⟨rfl, hg1, hkeep.trans hk1⟩
end Go.Proofs.YtanndhoimpnhpaaGreatDoor
namespace Go.Proofs.YtanndhoimpnhpaaGreatDoor
open Go.RowKit Cal
set_option maxRecDepth 10000 in
set_option maxHeartbeats 1000000 in
theorem draw_any (w : World) (P : Nat) (t : Ln.Terms) (n : Int) (y : Ln.Dy) (h : Pas w P t n y) (hm : Mv w) (hP : ¬ P = 1) (hf : Ln.Fit y) (a : Int) (hc : Ln.CanEnter y 1 a) :
    Calls Tryz.prog 107 #[.pointer (some ⟨P, 0, none⟩), .int .i64 a] w fun e w' => e = .returned (.tuple #[]) ∧ Pas w' P t n (Ln.enter y 1 a) ∧ Keep (fun b => b = P) w w' := by
  have hE := penter_any w P t n y h hm hP hf 1 a hc
  clear h hm hf hc
  go_enter Tryz.func107, Tryz.ntmps107
  go_wp2_with fail
  refine hE.mono ?_
  rintro e w1 ⟨rfl, hg1, hk1⟩
  clear hE
  go_wp2
  go_end0
  exact ⟨rfl, hg1, hk1⟩
set_option maxRecDepth 10000 in
set_option maxHeartbeats 1000000 in
theorem capitalise_any (w : World) (P : Nat) (t : Ln.Terms) (n : Int) (y : Ln.Dy) (h : Pas w P t n y) (hm : Mv w) (hP : ¬ P = 1) (hf : Ln.Fit y) (a : Int) (hc : Ln.CanEnter y 4 y.g.it) :
    Calls Tryz.prog 110 #[.pointer (some ⟨P, 0, none⟩), .int .i64 a] w fun e w' => e = .returned (.tuple #[]) ∧ Pas w' P t n (Ln.enter y 4 y.g.it) ∧ Keep (fun b => b = P) w w' := by
  have hE := penter_any w P t n y h hm hP hf 4 y.g.it hc
  have c9 : w.cell? ⟨P, 9, none⟩ = some (.int .i64 y.g.it) := by
    obtain ⟨c, i, f, h⟩ := h
    exact h.cell 9 rfl
  clear h hm hf hc
  go_enter Tryz.func110, Tryz.ntmps110
  go_wp2_with fail
  refine hE.mono ?_
  rintro e w1 ⟨rfl, hg1, hk1⟩
  clear hE
  go_wp2
  go_end0
  exact ⟨rfl, hg1, hk1⟩
set_option maxRecDepth 10000 in
theorem setRate_any (w : World) (P : Nat) (t : Ln.Terms) (n : Int) (y : Ln.Dy) (h : Pas w P t n y) (a : Int) :
    Calls Tryz.prog 108 #[.pointer (some ⟨P, 0, none⟩), .int .i64 a] w fun e w' => e = .returned (.tuple #[]) ∧ Pas w' P t n { y with g := { y.g with rt := a } } ∧ Keep (fun b => b = P) w w' := by
  obtain ⟨c, i, f, h⟩ := h
  have c16 : w.cell? ⟨P, 16, none⟩ = some (.int .i64 y.g.rt) := h.cell 16 rfl
  have z16 : w.frozen? ⟨P, 16, none⟩ = false := h.free 16 rfl
  have hR : Pas (w.setCell ⟨P, 16, none⟩ (.int .i64 a)) P t n { y with g := { y.g with rt := a } } := ⟨c, i, f, h.set 16 (show 16 < 33 by decide) (.int .i64 a)⟩
  have hK : Keep (fun b => b = P) w (w.setCell ⟨P, 16, none⟩ (.int .i64 a)) := (Keep.refl _ w).set (S := fun b => b = P) rfl 16 _
  clear h
  go_enter Tryz.func108, Tryz.ntmps108
  go_wp2
  go_end0
  exact ⟨rfl, hR, hK⟩
def hol (n : Int) (y : Ln.Dy) (a : Int) : Ln.Dy := if y.g.fr < n + a then { y with g := { y.g with fr := n + a } } else y
set_option maxRecDepth 10000 in
theorem beginHoliday_any (w : World) (P : Nat) (t : Ln.Terms) (n : Int) (y : Ln.Dy) (h : Pas w P t n y) (a : Int) (n0 : 0 ≤ n) (n1 : n ≤ 109573) (a0 : 0 ≤ a) (a1 : a ≤ 400) :
    Calls Tryz.prog 109 #[.pointer (some ⟨P, 0, none⟩), .int .i64 a] w fun e w' => e = .returned (.tuple #[]) ∧ Pas w' P t n (hol n y a) ∧ Keep (fun b => b = P) w w' := by
  obtain ⟨c, i, f, h⟩ := h
  have c6 : w.cell? ⟨P, 6, none⟩ = some (.int .i64 n) := h.cell 6 rfl
  have c17 : w.cell? ⟨P, 17, none⟩ = some (.int .i64 y.g.fr) := h.cell 17 rfl
  have z17 : w.frozen? ⟨P, 17, none⟩ = false := h.free 17 rfl
  have hR : ∀ v : Int, Pas (w.setCell ⟨P, 17, none⟩ (.int .i64 v)).drew P t n { y with g := { y.g with fr := v } } := fun v => ⟨c, i, f, (h.set 17 (show 17 < 33 by decide) (.int .i64 v)).drew⟩
  have hK : ∀ v : Int, Keep (fun b => b = P) w (w.setCell ⟨P, 17, none⟩ (.int .i64 v)).drew := fun v => ((Keep.refl _ w).set (S := fun b => b = P) rfl 17 _).drew
  clear h
  by_cases hx : y.g.fr < n + a
  · have e : hol n y a = { y with g := { y.g with fr := n + a } } := by
      unfold hol
      rw [if_pos hx]
    have hx' : ¬ n + a ≤ y.g.fr := by omega
    rw [e]
    go_enter Tryz.func109, Tryz.ntmps109
    go_wp2
    go_region
    go_wp2
    go_end0
    exact ⟨rfl, hR _, hK _⟩
  · have e : hol n y a = { y with g := { y.g with fr := y.g.fr } } := by
      unfold hol
      rw [if_neg (by omega)]
    have hx' : n + a ≤ y.g.fr := by omega
    rw [e]
    go_enter Tryz.func109, Tryz.ntmps109
    go_wp2
    go_region
    go_wp2
    go_end0
    exact ⟨rfl, hR _, hK _⟩
set_option maxRecDepth 10000 in
set_option maxHeartbeats 1000000 in
theorem happen_1 (w : World) (P : Nat) (t : Ln.Terms) (n : Int) (y : Ln.Dy) (d s a : Int)
    (hE : ∀ W : World, Keep (fun _ => False) w W → Calls Tryz.prog 107 #[.pointer (some ⟨P, 0, none⟩), .int .i64 a] W fun e w' => e = .returned (.tuple #[]) ∧ Pas w' P t n y ∧ Keep (fun b => b = P) W w') :
    Calls Tryz.prog 79 #[.pointer (some ⟨P, 0, none⟩), .agg #[.int .i64 d, .int .i64 1, .int .i64 s, .int .i64 a]] w fun e w' => e = .returned (.tuple #[]) ∧ Pas w' P t n y ∧ Keep (fun b => b = P) w w' := by
  have hK : ∀ (S : Nat → Prop) (o p : Obj), Keep S w ((w.alloc o).alloc p).drew := fun S o p => Keep.below ((((Below.refl _ _).alloc (Nat.le_refl _) o).alloc (by simp) p).drew)
  go_enter Tryz.func79, Tryz.ntmps79
  go_wp2_with fail
  go_region_with ((go_at_call 107; refine (hE _ (hK _ _ _)).mono ?_; rintro e w' ⟨rfl, hg1, hk1⟩))
  all_goals
    go_wp2
    go_end0
    exact ⟨rfl, hg1, (hK _ _ _).trans hk1⟩
set_option maxRecDepth 10000 in
set_option maxHeartbeats 1000000 in
theorem happen_2 (w : World) (P : Nat) (t : Ln.Terms) (n : Int) (y : Ln.Dy) (d s a : Int)
    (hE : ∀ W : World, Keep (fun _ => False) w W → Calls Tryz.prog 108 #[.pointer (some ⟨P, 0, none⟩), .int .i64 a] W fun e w' => e = .returned (.tuple #[]) ∧ Pas w' P t n y ∧ Keep (fun b => b = P) W w') :
    Calls Tryz.prog 79 #[.pointer (some ⟨P, 0, none⟩), .agg #[.int .i64 d, .int .i64 2, .int .i64 s, .int .i64 a]] w fun e w' => e = .returned (.tuple #[]) ∧ Pas w' P t n y ∧ Keep (fun b => b = P) w w' := by
  have hK : ∀ (S : Nat → Prop) (o p : Obj), Keep S w ((w.alloc o).alloc p).drew := fun S o p => Keep.below ((((Below.refl _ _).alloc (Nat.le_refl _) o).alloc (by simp) p).drew)
  go_enter Tryz.func79, Tryz.ntmps79
  go_wp2_with fail
  go_region_with ((go_at_call 108; refine (hE _ (hK _ _ _)).mono ?_; rintro e w' ⟨rfl, hg1, hk1⟩))
  all_goals
    go_wp2
    go_end0
    exact ⟨rfl, hg1, (hK _ _ _).trans hk1⟩
set_option maxRecDepth 10000 in
set_option maxHeartbeats 1000000 in
theorem happen_3 (w : World) (P : Nat) (t : Ln.Terms) (n : Int) (y : Ln.Dy) (d s a : Int)
    (hE : ∀ W : World, Keep (fun _ => False) w W → Calls Tryz.prog 109 #[.pointer (some ⟨P, 0, none⟩), .int .i64 a] W fun e w' => e = .returned (.tuple #[]) ∧ Pas w' P t n y ∧ Keep (fun b => b = P) W w') :
    Calls Tryz.prog 79 #[.pointer (some ⟨P, 0, none⟩), .agg #[.int .i64 d, .int .i64 3, .int .i64 s, .int .i64 a]] w fun e w' => e = .returned (.tuple #[]) ∧ Pas w' P t n y ∧ Keep (fun b => b = P) w w' := by
  have hK : ∀ (S : Nat → Prop) (o p : Obj), Keep S w ((w.alloc o).alloc p).drew := fun S o p => Keep.below ((((Below.refl _ _).alloc (Nat.le_refl _) o).alloc (by simp) p).drew)
  go_enter Tryz.func79, Tryz.ntmps79
  go_wp2_with fail
  go_region_with ((go_at_call 109; refine (hE _ (hK _ _ _)).mono ?_; rintro e w' ⟨rfl, hg1, hk1⟩))
  all_goals
    go_wp2
    go_end0
    exact ⟨rfl, hg1, (hK _ _ _).trans hk1⟩
set_option maxRecDepth 10000 in
set_option maxHeartbeats 1000000 in
theorem happen_4 (w : World) (P : Nat) (t : Ln.Terms) (n : Int) (y : Ln.Dy) (d s a : Int)
    (hE : ∀ W : World, Keep (fun _ => False) w W → Calls Tryz.prog 110 #[.pointer (some ⟨P, 0, none⟩), .int .i64 a] W fun e w' => e = .returned (.tuple #[]) ∧ Pas w' P t n y ∧ Keep (fun b => b = P) W w') :
    Calls Tryz.prog 79 #[.pointer (some ⟨P, 0, none⟩), .agg #[.int .i64 d, .int .i64 4, .int .i64 s, .int .i64 a]] w fun e w' => e = .returned (.tuple #[]) ∧ Pas w' P t n y ∧ Keep (fun b => b = P) w w' := by
  have hK : ∀ (S : Nat → Prop) (o p : Obj), Keep S w ((w.alloc o).alloc p).drew := fun S o p => Keep.below ((((Below.refl _ _).alloc (Nat.le_refl _) o).alloc (by simp) p).drew)
  go_enter Tryz.func79, Tryz.ntmps79
  go_wp2_with fail
  go_region_with ((go_at_call 110; refine (hE _ (hK _ _ _)).mono ?_; rintro e w' ⟨rfl, hg1, hk1⟩))
  all_goals
    go_wp2
    go_end0
    exact ⟨rfl, hg1, (hK _ _ _).trans hk1⟩
set_option maxRecDepth 10000 in
set_option maxHeartbeats 1000000 in
theorem happen_5 (w : World) (P : Nat) (t : Ln.Terms) (n : Int) (y : Ln.Dy) (d s a : Int)
    (hE : ∀ W : World, Keep (fun _ => False) w W → Calls Tryz.prog 111 #[.pointer (some ⟨P, 0, none⟩), .int .i64 a] W fun e w' => e = .returned (.tuple #[]) ∧ Pas w' P t n y ∧ Keep (fun b => b = P) W w') :
    Calls Tryz.prog 79 #[.pointer (some ⟨P, 0, none⟩), .agg #[.int .i64 d, .int .i64 5, .int .i64 s, .int .i64 a]] w fun e w' => e = .returned (.tuple #[]) ∧ Pas w' P t n y ∧ Keep (fun b => b = P) w w' := by
  have hK : ∀ (S : Nat → Prop) (o p : Obj), Keep S w ((w.alloc o).alloc p).drew := fun S o p => Keep.below ((((Below.refl _ _).alloc (Nat.le_refl _) o).alloc (by simp) p).drew)
  go_enter Tryz.func79, Tryz.ntmps79
  go_wp2_with fail
  go_region_with ((go_at_call 111; refine (hE _ (hK _ _ _)).mono ?_; rintro e w' ⟨rfl, hg1, hk1⟩))
  all_goals
    go_wp2
    go_end0
    exact ⟨rfl, hg1, (hK _ _ _).trans hk1⟩
theorem Ln.event_eq {n : Int} (y : Ln.Dy) (e : Ln.Ev) (h : e.d = n) : Ln.event n y e = if e.k = 1 then Ln.enter y 1 e.a else if e.k = 2 then { y with g := { y.g with rt := e.a } } else if e.k = 3 then hol n y e.a else if e.k = 4 then Ln.enter y 4 y.g.it else if e.k = 5 then Ln.pay y e.a else y := by
  unfold Ln.event hol
  simp only [h, ne_eq, not_true, if_false]
theorem happen_any (w : World) (P : Nat) (t : Ln.Terms) (n : Int) (y : Ln.Dy) (h : Pas w P t n y) (hm : Mv w) (hP : ¬ P = 1) (n0 : 0 ≤ n) (n1 : n ≤ 109573) (L : Int) (s : Nat) (e : Ln.Ev) (hI : Ln.Inv t L s y.g) (hs : s ≤ 4320) (hL : L + e.a ≤ 4100000000000) (hfn : y.g.fn / Ln.den t ≤ 8000000000000000000) (hA : Ln.Am y L) (he : Ln.OkE t e) (hen : e.d = n) :
    Calls Tryz.prog 79 #[.pointer (some ⟨P, 0, none⟩), .agg #[.int .i64 e.d, .int .i64 e.k, .int .i64 e.s, .int .i64 e.a]] w fun x w' => x = .returned (.tuple #[]) ∧ Pas w' P t n (Ln.event n y e) ∧ Keep (fun b => b = P) w w' := by
  have a0 := he.a0
  have a1 := he.a1
  have k0 := he.k0
  have k1 := he.k1
  have hf : Ln.Fit y := hI.fit hs (by omega) hfn y.am
  have hb := hI.bound hs (by omega)
  have g1 := hI.pr
  have g2 := hI.it
  have g3 := hI.du
  have g4 := hI.la
  have hp : ∀ W : World, Keep (fun _ => False) w W → Pas W P t n y := fun W k => h.keep k (fun x => x)
  have hq : ∀ W : World, Keep (fun _ => False) w W → Mv W := fun W k => hm.keep k (fun x => x)
  rw [Ln.event_eq y e hen]
  rcases (show e.k = 1 ∨ e.k = 2 ∨ e.k = 3 ∨ e.k = 4 ∨ e.k = 5 by omega) with hk | hk | hk | hk | hk
  · rw [hk]
    have hc : Ln.CanEnter y 1 e.a := ⟨a0, hA.nn 1, by have := hA.a1; omega, by show y.g.pr + e.a ≤ _; omega⟩
    exact happen_1 w P t n _ e.d e.s e.a (fun W k => draw_any W P t n y (hp W k) (hq W k) hP hf e.a hc)
  · rw [hk]
    exact happen_2 w P t n _ e.d e.s e.a (fun W k => setRate_any W P t n y (hp W k) e.a)
  · rw [hk]
    exact happen_3 w P t n _ e.d e.s e.a (fun W k => beginHoliday_any W P t n y (hp W k) e.a n0 n1 a0 (he.ho hk))
  · rw [hk]
    have hc : Ln.CanEnter y 4 y.g.it := ⟨g2, hA.nn 4, by have := hA.a4; omega, by show y.g.pr + y.g.it ≤ _; omega, Int.le_refl _⟩
    exact happen_4 w P t n _ e.d e.s e.a (fun W k => capitalise_any W P t n y (hp W k) (hq W k) hP hf e.a hc)
  · rw [hk]
    exact happen_5 w P t n _ e.d e.s e.a (fun W k => ppay_any W P t n y (hp W k) (hq W k) hP hf L (by omega) hA (by have := hI.cr1; omega) e.a a0 a1)
end Go.Proofs.YtanndhoimpnhpaaGreatDoor
