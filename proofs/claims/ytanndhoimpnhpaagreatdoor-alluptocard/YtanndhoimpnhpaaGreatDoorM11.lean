import Derived.Test.YtanndhoimpnhpaaGreatDoorM10
import Derived.Test.YtanndhoimpnhpaaGreatDoorM5
namespace Go.Proofs.YtanndhoimpnhpaaGreatDoor
open Go.ChangeShapes Go.WideShapes Go.ChangeAt Go.RowKit Lg
set_option maxRecDepth 10000 in
set_option maxHeartbeats 8000000 in
theorem day_core (S : Nat → Prop) (w : World) (G : Nat) (pa : Option Addr) (ecap : Nat) (E : Nat) (t : Ln.Terms) (g : Ln.St) (dy : Int) (ev fv av : Value) (l : List Ln.Ev) (n cy cm cd : Int) (hG : At w G (gl t g dy ev fv av)) (hl : l.length ≤ 40)
    (hf0 : Ln.Fit ⟨g, fun _ => 0⟩) (hsum : g.pr + g.it + g.du + g.la ≤ 656820000000000000) (p0 : 0 ≤ t.pr) (p1 : t.pr ≤ 100000000000) (HE : Hid (l ≠ [] → pa = some ⟨E, 0, none⟩ ∧ At w E (evs l) ∧ ¬ E = G)) (HOk : Hid (∀ e ∈ l, Ln.OkE t e)) (HSt : Hid (∀ k, k ≤ l.length → Ln.Fit (upto t n cd l g k) ∧ (∃ L, L ≤ 4100000000000 ∧ Ln.Am (upto t n cd l g k) L) ∧ (upto t n cd l g k).g.cr ≤ 4100000000000 ∧ (upto t n cd l g k).g.pr + (upto t n cd l g k).g.it ≤ 656820000000000000)) (n0 : 0 ≤ n) (n1 : n ≤ 109573)
    (wt : Int) (HWT : Hid (∀ W : World, Calls Tryz.prog 121 #[.int .i64 t.ba, .agg #[.int .i64 cy, .int .i64 cm, .int .i64 cd]] W fun e w' => e = .returned (.int .i64 wt) ∧ Below W.heap.size W w')) (HEV : Hid (LongIs S w ev g.ea)) (HFV : Hid (LongIs S w fv g.fn)) (HSS : Hid (S G ∧ ∀ b, S b → b < w.heap.size))
    (HN : Hid (0 ≤ (upto t n cd l g l.length).g.rt * wt ∧ (upto t n cd l g l.length).g.rt * wt ≤ 3000000 ∧ 0 ≤ t.fi * wt ∧ t.fi * wt ≤ 3000000 ∧ 0 ≤ (upto t n cd l g l.length).g.pr ∧ (upto t n cd l g l.length).g.pr ≤ 4000000000000000000 ∧ 0 ≤ (upto t n cd l g l.length).g.la ∧ (upto t n cd l g l.length).g.la ≤ 4000000000000000000 ∧ g.ea + (upto t n cd l g l.length).g.pr * ((upto t n cd l g l.length).g.rt * wt) < 1000000 ^ 6 ∧ g.fn + (upto t n cd l g l.length).g.la * (t.fi * wt) < 1000000 ^ 6))
    (HQ : Hid (g.ea / 1000000 / Ln.year t ≤ 9000000000000000000 ∧ (g.ea + (upto t n cd l g l.length).g.pr * ((upto t n cd l g l.length).g.rt * wt)) / 1000000 / Ln.year t ≤ 9000000000000000000 ∧ g.fn / 1000000 / Ln.year t ≤ 9000000000000000000 ∧ (g.fn + (upto t n cd l g l.length).g.la * (t.fi * wt)) / 1000000 / Ln.year t ≤ 9000000000000000000))
    (HC2 : Hid (Ln.CanEnter (upto t n cd l g l.length) 11 ((g.ea + (upto t n cd l g l.length).g.pr * ((upto t n cd l g l.length).g.rt * wt)) / 1000000 / Ln.year t - g.ea / 1000000 / Ln.year t) ∧ Ln.Fit (upto t n cd l g l.length) ∧ Ln.CanEnter (Ln.enter (upto t n cd l g l.length) 11 ((g.ea + (upto t n cd l g l.length).g.pr * ((upto t n cd l g l.length).g.rt * wt)) / 1000000 / Ln.year t - g.ea / 1000000 / Ln.year t)) 12 ((g.fn + (upto t n cd l g l.length).g.la * (t.fi * wt)) / 1000000 / Ln.year t - g.fn / 1000000 / Ln.year t) ∧ Ln.Fit (Ln.enter (upto t n cd l g l.length) 11 ((g.ea + (upto t n cd l g l.length).g.pr * ((upto t n cd l g l.length).g.rt * wt)) / 1000000 / Ln.year t - g.ea / 1000000 / Ln.year t))))
    (HD : Hid (Ln.CanEnter ⟨g, fun _ => 0⟩ 2 g.du ∧ Ln.Fit (Ln.enter ⟨g, fun _ => 0⟩ 2 g.du) ∧ Ln.CanEnter (Ln.enter ⟨g, fun _ => 0⟩ 2 g.du) 3 g.it)) :
    Calls Tryz.prog 95 #[.pointer (some ⟨G, 0, none⟩), .int .i64 n, .agg #[.int .i64 cy, .int .i64 cm, .int .i64 cd], .slice pa l.length ecap] w fun e w' => e = .returned (.tuple #[]) ∧ ∃ r1 r2, DayW S w G t (Ln.enter (Ln.enter (upto t n cd l g l.length) 11 ((g.ea + (upto t n cd l g l.length).g.pr * ((upto t n cd l g l.length).g.rt * wt)) / 1000000 / Ln.year t - g.ea / 1000000 / Ln.year t)) 12 ((g.fn + (upto t n cd l g l.length).g.la * (t.fi * wt)) / 1000000 / Ln.year t - g.fn / 1000000 / Ln.year t)) dy r1 r2 (g.ea + (upto t n cd l g l.length).g.pr * ((upto t n cd l g l.length).g.rt * wt)) (g.fn + (upto t n cd l g l.length).g.la * (t.fi * wt)) w' := by
  have hmk := mk13
  have c0 : w.cell? ⟨G, 0, none⟩ = some (.int .i64 t.st) := hG.cell 0 rfl
  have c1 : w.cell? ⟨G, 1, none⟩ = some (.int .i64 t.pr) := hG.cell 1 rfl
  have c17 : w.cell? ⟨G, 17, none⟩ = some av := hG.cell 17 rfl
  have z17 : w.frozen? ⟨G, 17, none⟩ = false := hG.free 17 rfl
  have hGl := hG.lt
  obtain ⟨hGon, hC, hK, hS⟩ := day_world w G t g dy ev fv av cy cm cd 169 3 hG
  have HG := (show Hid _ from hGon)
  have HC := (show Hid _ from hC)
  have HK := (show Hid _ from hK)
  have HS := (show Hid _ from hS)
  have HF := (show Hid _ from hf0)
  have HL := (show Hid (Ln.Fit ⟨g, fun _ => 0⟩ ∧ g.pr + g.it + g.du + g.la ≤ 656820000000000000) from ⟨hf0, hsum⟩)
  clear hG hGon hC hK hS hf0 hsum
  go_enter Tryz.func95, Tryz.ntmps95
  go_upto_if 24 with fail
  clear hmk c0 c1 c17 z17
  have hGon := HG.out
  have hC := HC.out
  have hK := HK.out
  have hS := HS.out
  clear HG HC HK HS
  generalize (((w.setCell ⟨G, 17, none⟩ (.slice (some ⟨w.heap.size + 1, 0, none⟩) 13 13)).alloc (.cells #[.int .i64 cy, .int .i64 cm, .int .i64 cd] 169)).alloc (.cells #[.int .i64 0, .int .i64 0, .int .i64 0, .int .i64 0, .int .i64 0, .int .i64 0, .int .i64 0, .int .i64 0, .int .i64 0, .int .i64 0, .int .i64 0, .int .i64 0, .int .i64 0] 3)) = W at *
  go_cut [] from 18 to 31 (fun wx => Gon wx G (w.heap.size + 1) t (first t n g) dy ev fv ∧ At wx w.heap.size [.int .i64 cy, .int .i64 cm, .int .i64 cd] ∧ Keep (fun b => b = G ∨ b = w.heap.size + 1) w wx)
  case first =>
    by_cases hst : n = t.st
    · have hn : (n == t.st) = true := by simp [hst]
      have E : Hid (first t n g = Ln.enter ⟨g, fun _ => 0⟩ 1 t.pr) := by unfold first Hid; rw [if_pos hst]
      clear hst
      obtain ⟨ne, ⟨cap, hG⟩, hA⟩ := id hGon
      have c1 : W.cell? ⟨G, 1, none⟩ = some (.int .i64 t.pr) := hG.cell 1 rfl
      clear hG hA
      have hcan : Ln.CanEnter ⟨g, fun _ => 0⟩ 1 t.pr := ⟨p0, Int.le_refl _, by show 0 + t.pr ≤ _; omega, by show g.pr + t.pr ≤ _; have := HF.out.pr1; have : g.pr ≤ 4000000000000000000 := this; omega⟩
      go_wp2_with fail
      refine (enter_any W G _ t _ dy ev fv hGon HF.out 1 t.pr hcan).mono ?_
      rintro e w1 ⟨rfl, hg1, hk1⟩
      go_wp2_with fail
      go_meet
      case rel => exact ⟨by rw [E.out]; exact hg1, At.keep hC hk1 (by omega), (hK.mono (fun _ _ h => Or.inl h)).trans hk1⟩
    · have hn : (n == t.st) = false := by simp [hst]
      have E : Hid (first t n g = ⟨g, fun _ => 0⟩) := by unfold first Hid; rw [if_neg hst]
      clear hst
      go_wp2_with fail
      go_meet
      case rel => exact ⟨by rw [E.out]; exact hGon, hC, hK.mono (fun _ _ h => Or.inl h)⟩
  case rest =>
    obtain ⟨hg1, hc1, hk1⟩ := hcut
    obtain ⟨ne4, ⟨cap4, hG4⟩, hA4⟩ := id hg1
    rename_i wc
    have c0 : wc.drew.cell? ⟨G, 0, none⟩ = some (.int .i64 t.st) := hG4.cell 0 rfl
    have c5 : wc.drew.cell? ⟨G, 5, none⟩ = some (.int .i64 t.du) := hG4.cell 5 rfl
    have c16 : wc.drew.cell? ⟨G, 16, none⟩ = some (.int .i64 g.fr) := by
      have := hG4.cell 16 rfl
      rw [first_fr] at this
      exact this
    have cc : wc.drew.cell? ⟨w.heap.size, 2, none⟩ = some (.int .i64 cd) := hc1.cell 2 rfl
    clear hG4 hA4 ne4
    go_upto_region 4 with fail
    go_cut [56] from 32 to 55 (fun d wx => d = .bool (due t n cd g) ∧ Gon wx G (w.heap.size + 1) t (first t n g) dy ev fv ∧ At wx w.heap.size [.int .i64 cy, .int .i64 cm, .int .i64 cd] ∧ Keep (fun b => b = G ∨ b = w.heap.size + 1) w wx)
    case first =>
      have hgd : Gon wc.drew G (w.heap.size + 1) t (first t n g) dy ev fv := hg1.drewN 1
      have hcd : At wc.drew w.heap.size [.int .i64 cy, .int .i64 cm, .int .i64 cd] := hc1.drew
      have hkd := hk1.drew
      clear hg1 hc1 hk1
      by_cases hst : n = t.st
      · have e1 : (n == t.st) = true := by simp [hst]
        have e2 : (n != t.st) = false := by simp [hst]
        have E : Hid (due t n cd g = false) := by show due t n cd g = false; simp [due, hst]
        clear hst
        refine wp_region_held_drew (S := fun wz => wz = wc.drew) (by kernel_rfl) rfl (fun hHeld => ?_)
        refine wpAnyH_take (i := 0) (v := .int .i64 n) rfl (by kernel_rfl) (by kernel_rfl) (by kernel_rfl) (fun _ _ _ h => h) (Or.inl ⟨by rfl, fun wx hSw => by (subst hSw; go_simp)⟩) (by assumption) ?_
        simp only [Act.put, List.getElem_toArray, List.getElem_cons_zero, List.setIfInBounds_toArray, List.set_cons_zero, List.set_cons_succ]
        refine wpAnyH_take (i := 1) (v := .pointer (some ⟨G, 0, none⟩)) rfl (by kernel_rfl) (by kernel_rfl) (by kernel_rfl) (fun _ _ _ h => h) (Or.inl ⟨by rfl, fun wx hSw => by (subst hSw; go_simp)⟩) (by assumption) ?_
        simp only [Act.put, List.getElem_toArray, List.getElem_cons_succ, List.getElem_cons_zero, List.setIfInBounds_toArray, List.set_cons_zero, List.set_cons_succ]
        refine wpAnyH_take (i := 2) (v := .pointer (some ⟨G, 0, none⟩)) rfl (by kernel_rfl) (by kernel_rfl) (by kernel_rfl) (fun _ _ _ h => h) (Or.inl ⟨by rfl, fun wx hSw => by (subst hSw; go_simp)⟩) (by assumption) ?_
        simp only [Act.put, List.getElem_toArray, List.getElem_cons_succ, List.getElem_cons_zero, List.setIfInBounds_toArray, List.set_cons_zero, List.set_cons_succ]
        refine wpAnyH_take (i := 3) (v := .pointer (some ⟨G, 0, none⟩)) rfl (by kernel_rfl) (by kernel_rfl) (by kernel_rfl) (fun _ _ _ h => h) (Or.inl ⟨by rfl, fun wx hSw => by (subst hSw; go_simp)⟩) (by assumption) ?_
        simp only [Act.put, List.getElem_toArray, List.getElem_cons_succ, List.getElem_cons_zero, List.setIfInBounds_toArray, List.set_cons_zero, List.set_cons_succ]
        refine wpAnyH_take (i := 4) (v := .pointer (some ⟨G, 0, none⟩)) rfl (by kernel_rfl) (by kernel_rfl) (by kernel_rfl) (fun _ _ _ h => h) (Or.inl ⟨by rfl, fun wx hSw => by (subst hSw; go_simp)⟩) (by assumption) ?_
        simp only [Act.put, List.getElem_toArray, List.getElem_cons_succ, List.getElem_cons_zero, List.setIfInBounds_toArray, List.set_cons_zero, List.set_cons_succ]
        refine wpAnyH_take (i := 5) (v := .int .i64 t.st) rfl (by kernel_rfl) (by kernel_rfl) (by kernel_rfl) (fun _ _ _ h => h) (Or.inl ⟨by rfl, fun wx hSw => by (subst hSw; go_simp)⟩) (by assumption) ?_
        simp only [Act.put, List.getElem_toArray, List.getElem_cons_succ, List.getElem_cons_zero, List.setIfInBounds_toArray, List.set_cons_zero, List.set_cons_succ]
        refine wpAnyH_take (i := 6) (v := .bool false) rfl (by kernel_rfl) (by kernel_rfl) (by kernel_rfl) (fun _ _ _ h => h) (Or.inl ⟨by rfl, fun wx hSw => by (subst hSw; go_simp)⟩) (by assumption) ?_
        simp only [Act.put, List.getElem_toArray, List.getElem_cons_succ, List.getElem_cons_zero, List.setIfInBounds_toArray, List.set_cons_zero, List.set_cons_succ]
        refine wpAnyH_take (i := 7) (v := .bool false) rfl (by kernel_rfl) (by kernel_rfl) (by kernel_rfl) (fun _ _ _ h => h) (Or.inl ⟨by rfl, fun wx hSw => by (subst hSw; go_simp)⟩) (by assumption) ?_
        simp only [Act.put, List.getElem_toArray, List.getElem_cons_succ, List.getElem_cons_zero, List.setIfInBounds_toArray, List.set_cons_zero, List.set_cons_succ]
        refine wpAnyH_take (i := 8) (v := undef) rfl (by kernel_rfl) (by kernel_rfl) (by kernel_rfl) (fun _ _ _ h => h) (Or.inr ⟨by rfl, rfl⟩) (by assumption) ?_
        simp only [Act.put, List.getElem_toArray, List.getElem_cons_succ, List.getElem_cons_zero, List.setIfInBounds_toArray, List.set_cons_zero, List.set_cons_succ]
        refine wpAnyH_take (i := 9) (v := undef) rfl (by kernel_rfl) (by kernel_rfl) (by kernel_rfl) (fun _ _ _ h => h) (Or.inr ⟨by rfl, rfl⟩) (by assumption) ?_
        simp only [Act.put, List.getElem_toArray, List.getElem_cons_succ, List.getElem_cons_zero, List.setIfInBounds_toArray, List.set_cons_zero, List.set_cons_succ]
        refine wpAnyH_take (i := 10) (v := undef) rfl (by kernel_rfl) (by kernel_rfl) (by kernel_rfl) (fun _ _ _ h => h) (Or.inr ⟨by rfl, rfl⟩) (by assumption) ?_
        simp only [Act.put, List.getElem_toArray, List.getElem_cons_succ, List.getElem_cons_zero, List.setIfInBounds_toArray, List.set_cons_zero, List.set_cons_succ]
        refine wpAnyH_take (i := 11) (v := undef) rfl (by kernel_rfl) (by kernel_rfl) (by kernel_rfl) (fun _ _ _ h => h) (Or.inr ⟨by rfl, rfl⟩) (by assumption) ?_
        simp only [Act.put, List.getElem_toArray, List.getElem_cons_succ, List.getElem_cons_zero, List.setIfInBounds_toArray, List.set_cons_zero, List.set_cons_succ]
        refine wpAnyH_take (i := 12) (v := undef) rfl (by kernel_rfl) (by kernel_rfl) (by kernel_rfl) (fun _ _ _ h => h) (Or.inr ⟨by rfl, rfl⟩) (by assumption) ?_
        simp only [Act.put, List.getElem_toArray, List.getElem_cons_succ, List.getElem_cons_zero, List.setIfInBounds_toArray, List.set_cons_zero, List.set_cons_succ]
        refine wpAnyH_take (i := 13) (v := undef) rfl (by kernel_rfl) (by kernel_rfl) (by kernel_rfl) (fun _ _ _ h => h) (Or.inr ⟨by rfl, rfl⟩) (by assumption) ?_
        simp only [Act.put, List.getElem_toArray, List.getElem_cons_succ, List.getElem_cons_zero, List.setIfInBounds_toArray, List.set_cons_zero, List.set_cons_succ]
        refine wpAnyH_take (i := 14) (v := undef) rfl (by kernel_rfl) (by kernel_rfl) (by kernel_rfl) (fun _ _ _ h => h) (Or.inr ⟨by rfl, rfl⟩) (by assumption) ?_
        simp only [Act.put, List.getElem_toArray, List.getElem_cons_succ, List.getElem_cons_zero, List.setIfInBounds_toArray, List.set_cons_zero, List.set_cons_succ]
        refine wpAnyH_take (i := 15) (v := undef) rfl (by kernel_rfl) (by kernel_rfl) (by kernel_rfl) (fun _ _ _ h => h) (Or.inr ⟨by rfl, rfl⟩) (by assumption) ?_
        simp only [Act.put, List.getElem_toArray, List.getElem_cons_succ, List.getElem_cons_zero, List.setIfInBounds_toArray, List.set_cons_zero, List.set_cons_succ]
        refine wpAnyH_take (i := 16) (v := .bool false) rfl (by kernel_rfl) (by kernel_rfl) (by kernel_rfl) (fun _ _ _ h => h) (Or.inl ⟨by rfl, fun wx hSw => by (subst hSw; go_simp)⟩) (by assumption) ?_
        simp only [Act.put, List.getElem_toArray, List.getElem_cons_succ, List.getElem_cons_zero, List.setIfInBounds_toArray, List.set_cons_zero, List.set_cons_succ]
        refine wpAnyH_take (i := 17) (v := .bool false) rfl (by kernel_rfl) (by kernel_rfl) (by kernel_rfl) (fun _ _ _ h => h) (Or.inl ⟨by rfl, fun wx hSw => by (subst hSw; go_simp)⟩) (by assumption) ?_
        simp only [Act.put, List.getElem_toArray, List.getElem_cons_succ, List.getElem_cons_zero, List.setIfInBounds_toArray, List.set_cons_zero, List.set_cons_succ]
        refine wpAnyH_take (i := 18) (v := undef) rfl (by kernel_rfl) (by kernel_rfl) (by kernel_rfl) (fun _ _ _ h => h) (Or.inr ⟨by rfl, rfl⟩) (by assumption) ?_
        simp only [Act.put, List.getElem_toArray, List.getElem_cons_succ, List.getElem_cons_zero, List.setIfInBounds_toArray, List.set_cons_zero, List.set_cons_succ]
        refine wpAnyH_take (i := 19) (v := undef) rfl (by kernel_rfl) (by kernel_rfl) (by kernel_rfl) (fun _ _ _ h => h) (Or.inr ⟨by rfl, rfl⟩) (by assumption) ?_
        simp only [Act.put, List.getElem_toArray, List.getElem_cons_succ, List.getElem_cons_zero, List.setIfInBounds_toArray, List.set_cons_zero, List.set_cons_succ]
        refine wpAnyH_take (i := 20) (v := undef) rfl (by kernel_rfl) (by kernel_rfl) (by kernel_rfl) (fun _ _ _ h => h) (Or.inr ⟨by rfl, rfl⟩) (by assumption) ?_
        simp only [Act.put, List.getElem_toArray, List.getElem_cons_succ, List.getElem_cons_zero, List.setIfInBounds_toArray, List.set_cons_zero, List.set_cons_succ]
        refine wpAnyH_take (i := 21) (v := undef) rfl (by kernel_rfl) (by kernel_rfl) (by kernel_rfl) (fun _ _ _ h => h) (Or.inr ⟨by rfl, rfl⟩) (by assumption) ?_
        simp only [Act.put, List.getElem_toArray, List.getElem_cons_succ, List.getElem_cons_zero, List.setIfInBounds_toArray, List.set_cons_zero, List.set_cons_succ]
        refine wpAnyH_take (i := 22) (v := undef) rfl (by kernel_rfl) (by kernel_rfl) (by kernel_rfl) (fun _ _ _ h => h) (Or.inr ⟨by rfl, rfl⟩) (by assumption) ?_
        simp only [Act.put, List.getElem_toArray, List.getElem_cons_succ, List.getElem_cons_zero, List.setIfInBounds_toArray, List.set_cons_zero, List.set_cons_succ]
        refine wpAnyH_take (i := 23) (v := undef) rfl (by kernel_rfl) (by kernel_rfl) (by kernel_rfl) (fun _ _ _ h => h) (Or.inr ⟨by rfl, rfl⟩) (by assumption) ?_
        simp only [Act.put, List.getElem_toArray, List.getElem_cons_succ, List.getElem_cons_zero, List.setIfInBounds_toArray, List.set_cons_zero, List.set_cons_succ]
        refine wpAnyH_take (i := 24) (v := .bool false) rfl (by kernel_rfl) (by kernel_rfl) (by kernel_rfl) (fun _ _ _ h => h) (Or.inl ⟨by rfl, fun wx hSw => by (subst hSw; go_simp)⟩) (by assumption) ?_
        simp only [Act.put, List.getElem_toArray, List.getElem_cons_succ, List.getElem_cons_zero, List.setIfInBounds_toArray, List.set_cons_zero, List.set_cons_succ]
        refine wpAnyH_done (by kernel_rfl) ?_ _
        go_wp2_with fail
        go_meet
        case rel => exact ⟨by rw [E.out], hgd, hcd, hkd⟩
      · have e1 : (n == t.st) = false := by simp [hst]
        have e2 : (n != t.st) = true := by simp [hst]
        by_cases hdu : cd = t.du
        · have f1 : (cd == t.du) = true := by simp [hdu]
          have E : Hid (due t n cd g = decide (g.fr ≤ n)) := by show due t n cd g = _; simp [due, hst, hdu]
          clear hdu hst
          refine wp_region_held_drew (S := fun wz => wz = wc.drew) (by kernel_rfl) rfl (fun hHeld => ?_)
          refine wpAnyH_take (i := 0) (v := .int .i64 n) rfl (by kernel_rfl) (by kernel_rfl) (by kernel_rfl) (fun _ _ _ h => h) (Or.inl ⟨by rfl, fun wx hSw => by (subst hSw; go_simp)⟩) (by assumption) ?_
          simp only [Act.put, List.getElem_toArray, List.getElem_cons_zero, List.setIfInBounds_toArray, List.set_cons_zero, List.set_cons_succ]
          refine wpAnyH_take (i := 1) (v := .pointer (some ⟨G, 0, none⟩)) rfl (by kernel_rfl) (by kernel_rfl) (by kernel_rfl) (fun _ _ _ h => h) (Or.inl ⟨by rfl, fun wx hSw => by (subst hSw; go_simp)⟩) (by assumption) ?_
          simp only [Act.put, List.getElem_toArray, List.getElem_cons_succ, List.getElem_cons_zero, List.setIfInBounds_toArray, List.set_cons_zero, List.set_cons_succ]
          refine wpAnyH_take (i := 2) (v := .pointer (some ⟨G, 0, none⟩)) rfl (by kernel_rfl) (by kernel_rfl) (by kernel_rfl) (fun _ _ _ h => h) (Or.inl ⟨by rfl, fun wx hSw => by (subst hSw; go_simp)⟩) (by assumption) ?_
          simp only [Act.put, List.getElem_toArray, List.getElem_cons_succ, List.getElem_cons_zero, List.setIfInBounds_toArray, List.set_cons_zero, List.set_cons_succ]
          refine wpAnyH_take (i := 3) (v := .pointer (some ⟨G, 0, none⟩)) rfl (by kernel_rfl) (by kernel_rfl) (by kernel_rfl) (fun _ _ _ h => h) (Or.inl ⟨by rfl, fun wx hSw => by (subst hSw; go_simp)⟩) (by assumption) ?_
          simp only [Act.put, List.getElem_toArray, List.getElem_cons_succ, List.getElem_cons_zero, List.setIfInBounds_toArray, List.set_cons_zero, List.set_cons_succ]
          refine wpAnyH_take (i := 4) (v := .pointer (some ⟨G, 0, none⟩)) rfl (by kernel_rfl) (by kernel_rfl) (by kernel_rfl) (fun _ _ _ h => h) (Or.inl ⟨by rfl, fun wx hSw => by (subst hSw; go_simp)⟩) (by assumption) ?_
          simp only [Act.put, List.getElem_toArray, List.getElem_cons_succ, List.getElem_cons_zero, List.setIfInBounds_toArray, List.set_cons_zero, List.set_cons_succ]
          refine wpAnyH_take (i := 5) (v := .int .i64 t.st) rfl (by kernel_rfl) (by kernel_rfl) (by kernel_rfl) (fun _ _ _ h => h) (Or.inl ⟨by rfl, fun wx hSw => by (subst hSw; go_simp)⟩) (by assumption) ?_
          simp only [Act.put, List.getElem_toArray, List.getElem_cons_succ, List.getElem_cons_zero, List.setIfInBounds_toArray, List.set_cons_zero, List.set_cons_succ]
          refine wpAnyH_take (i := 6) (v := .bool true) rfl (by kernel_rfl) (by kernel_rfl) (by kernel_rfl) (fun _ _ _ h => h) (Or.inl ⟨by rfl, fun wx hSw => by (subst hSw; go_simp)⟩) (by assumption) ?_
          simp only [Act.put, List.getElem_toArray, List.getElem_cons_succ, List.getElem_cons_zero, List.setIfInBounds_toArray, List.set_cons_zero, List.set_cons_succ]
          refine wpAnyH_take (i := 7) (v := .bool true) rfl (by kernel_rfl) (by kernel_rfl) (by kernel_rfl) (fun _ _ _ h => h) (Or.inl ⟨by rfl, fun wx hSw => by (subst hSw; go_simp)⟩) (by assumption) ?_
          simp only [Act.put, List.getElem_toArray, List.getElem_cons_succ, List.getElem_cons_zero, List.setIfInBounds_toArray, List.set_cons_zero, List.set_cons_succ]
          refine wpAnyH_take (i := 8) (v := .pointer (some ⟨w.heap.size, 2, none⟩)) rfl (by kernel_rfl) (by kernel_rfl) (by kernel_rfl) (fun _ _ _ h => h) (Or.inl ⟨by rfl, fun wx hSw => by (subst hSw; go_simp)⟩) (by assumption) ?_
          simp only [Act.put, List.getElem_toArray, List.getElem_cons_succ, List.getElem_cons_zero, List.setIfInBounds_toArray, List.set_cons_zero, List.set_cons_succ]
          refine wpAnyH_take (i := 9) (v := .int .i64 cd) rfl (by kernel_rfl) (by kernel_rfl) (by kernel_rfl) (fun _ _ _ h => h) (Or.inl ⟨by rfl, fun wx hSw => by (subst hSw; go_simp)⟩) (by assumption) ?_
          simp only [Act.put, List.getElem_toArray, List.getElem_cons_succ, List.getElem_cons_zero, List.setIfInBounds_toArray, List.set_cons_zero, List.set_cons_succ]
          refine wpAnyH_take (i := 10) (v := .pointer (some ⟨G, 0, none⟩)) rfl (by kernel_rfl) (by kernel_rfl) (by kernel_rfl) (fun _ _ _ h => h) (Or.inl ⟨by rfl, fun wx hSw => by (subst hSw; go_simp)⟩) (by assumption) ?_
          simp only [Act.put, List.getElem_toArray, List.getElem_cons_succ, List.getElem_cons_zero, List.setIfInBounds_toArray, List.set_cons_zero, List.set_cons_succ]
          refine wpAnyH_take (i := 11) (v := .pointer (some ⟨G, 0, none⟩)) rfl (by kernel_rfl) (by kernel_rfl) (by kernel_rfl) (fun _ _ _ h => h) (Or.inl ⟨by rfl, fun wx hSw => by (subst hSw; go_simp)⟩) (by assumption) ?_
          simp only [Act.put, List.getElem_toArray, List.getElem_cons_succ, List.getElem_cons_zero, List.setIfInBounds_toArray, List.set_cons_zero, List.set_cons_succ]
          refine wpAnyH_take (i := 12) (v := .pointer (some ⟨G, 0, none⟩)) rfl (by kernel_rfl) (by kernel_rfl) (by kernel_rfl) (fun _ _ _ h => h) (Or.inl ⟨by rfl, fun wx hSw => by (subst hSw; go_simp)⟩) (by assumption) ?_
          simp only [Act.put, List.getElem_toArray, List.getElem_cons_succ, List.getElem_cons_zero, List.setIfInBounds_toArray, List.set_cons_zero, List.set_cons_succ]
          refine wpAnyH_take (i := 13) (v := .pointer (some ⟨G, 5, none⟩)) rfl (by kernel_rfl) (by kernel_rfl) (by kernel_rfl) (fun _ _ _ h => h) (Or.inl ⟨by rfl, fun wx hSw => by (subst hSw; go_simp)⟩) (by assumption) ?_
          simp only [Act.put, List.getElem_toArray, List.getElem_cons_succ, List.getElem_cons_zero, List.setIfInBounds_toArray, List.set_cons_zero, List.set_cons_succ]
          refine wpAnyH_take (i := 14) (v := .int .i64 t.du) rfl (by kernel_rfl) (by kernel_rfl) (by kernel_rfl) (fun _ _ _ h => h) (Or.inl ⟨by rfl, fun wx hSw => by (subst hSw; go_simp)⟩) (by assumption) ?_
          simp only [Act.put, List.getElem_toArray, List.getElem_cons_succ, List.getElem_cons_zero, List.setIfInBounds_toArray, List.set_cons_zero, List.set_cons_succ]
          refine wpAnyH_take (i := 15) (v := .bool true) rfl (by kernel_rfl) (by kernel_rfl) (by kernel_rfl) (fun _ _ _ h => h) (Or.inl ⟨by rfl, fun wx hSw => by (subst hSw; go_simp)⟩) (by assumption) ?_
          simp only [Act.put, List.getElem_toArray, List.getElem_cons_succ, List.getElem_cons_zero, List.setIfInBounds_toArray, List.set_cons_zero, List.set_cons_succ]
          refine wpAnyH_take (i := 16) (v := .bool true) rfl (by kernel_rfl) (by kernel_rfl) (by kernel_rfl) (fun _ _ _ h => h) (Or.inl ⟨by rfl, fun wx hSw => by (subst hSw; go_simp)⟩) (by assumption) ?_
          simp only [Act.put, List.getElem_toArray, List.getElem_cons_succ, List.getElem_cons_zero, List.setIfInBounds_toArray, List.set_cons_zero, List.set_cons_succ]
          refine wpAnyH_take (i := 17) (v := .bool true) rfl (by kernel_rfl) (by kernel_rfl) (by kernel_rfl) (fun _ _ _ h => h) (Or.inl ⟨by rfl, fun wx hSw => by (subst hSw; go_simp)⟩) (by assumption) ?_
          simp only [Act.put, List.getElem_toArray, List.getElem_cons_succ, List.getElem_cons_zero, List.setIfInBounds_toArray, List.set_cons_zero, List.set_cons_succ]
          refine wpAnyH_take (i := 18) (v := .int .i64 n) rfl (by kernel_rfl) (by kernel_rfl) (by kernel_rfl) (fun _ _ _ h => h) (Or.inl ⟨by rfl, fun wx hSw => by (subst hSw; go_simp)⟩) (by assumption) ?_
          simp only [Act.put, List.getElem_toArray, List.getElem_cons_succ, List.getElem_cons_zero, List.setIfInBounds_toArray, List.set_cons_zero, List.set_cons_succ]
          refine wpAnyH_take (i := 19) (v := .pointer (some ⟨G, 0, none⟩)) rfl (by kernel_rfl) (by kernel_rfl) (by kernel_rfl) (fun _ _ _ h => h) (Or.inl ⟨by rfl, fun wx hSw => by (subst hSw; go_simp)⟩) (by assumption) ?_
          simp only [Act.put, List.getElem_toArray, List.getElem_cons_succ, List.getElem_cons_zero, List.setIfInBounds_toArray, List.set_cons_zero, List.set_cons_succ]
          refine wpAnyH_take (i := 20) (v := .pointer (some ⟨G, 0, none⟩)) rfl (by kernel_rfl) (by kernel_rfl) (by kernel_rfl) (fun _ _ _ h => h) (Or.inl ⟨by rfl, fun wx hSw => by (subst hSw; go_simp)⟩) (by assumption) ?_
          simp only [Act.put, List.getElem_toArray, List.getElem_cons_succ, List.getElem_cons_zero, List.setIfInBounds_toArray, List.set_cons_zero, List.set_cons_succ]
          refine wpAnyH_take (i := 21) (v := .pointer (some ⟨G, 16, none⟩)) rfl (by kernel_rfl) (by kernel_rfl) (by kernel_rfl) (fun _ _ _ h => h) (Or.inl ⟨by rfl, fun wx hSw => by (subst hSw; go_simp)⟩) (by assumption) ?_
          simp only [Act.put, List.getElem_toArray, List.getElem_cons_succ, List.getElem_cons_zero, List.setIfInBounds_toArray, List.set_cons_zero, List.set_cons_succ]
          refine wpAnyH_take (i := 22) (v := .int .i64 g.fr) rfl (by kernel_rfl) (by kernel_rfl) (by kernel_rfl) (fun _ _ _ h => h) (Or.inl ⟨by rfl, fun wx hSw => by (subst hSw; go_simp)⟩) (by assumption) ?_
          simp only [Act.put, List.getElem_toArray, List.getElem_cons_succ, List.getElem_cons_zero, List.setIfInBounds_toArray, List.set_cons_zero, List.set_cons_succ]
          refine wpAnyH_take (i := 23) (v := .bool (decide (g.fr ≤ n))) rfl (by kernel_rfl) (by kernel_rfl) (by kernel_rfl) (fun _ _ _ h => h) (Or.inl ⟨by rfl, fun wx hSw => by (subst hSw; go_simp)⟩) (by assumption) ?_
          simp only [Act.put, List.getElem_toArray, List.getElem_cons_succ, List.getElem_cons_zero, List.setIfInBounds_toArray, List.set_cons_zero, List.set_cons_succ]
          refine wpAnyH_take (i := 24) (v := .bool (decide (g.fr ≤ n))) rfl (by kernel_rfl) (by kernel_rfl) (by kernel_rfl) (fun _ _ _ h => h) (Or.inl ⟨by rfl, fun wx hSw => by (subst hSw; go_simp)⟩) (by assumption) ?_
          simp only [Act.put, List.getElem_toArray, List.getElem_cons_succ, List.getElem_cons_zero, List.setIfInBounds_toArray, List.set_cons_zero, List.set_cons_succ]
          refine wpAnyH_done (by kernel_rfl) ?_ _
          go_wp2_with fail
          go_meet
          case rel => exact ⟨by rw [E.out], hgd, hcd, hkd⟩
        · have f1 : (cd == t.du) = false := by simp [hdu]
          have E : Hid (due t n cd g = false) := by show due t n cd g = false; simp [due, hdu]
          clear hdu hst
          refine wp_region_held_drew (S := fun wz => wz = wc.drew) (by kernel_rfl) rfl (fun hHeld => ?_)
          refine wpAnyH_take (i := 0) (v := .int .i64 n) rfl (by kernel_rfl) (by kernel_rfl) (by kernel_rfl) (fun _ _ _ h => h) (Or.inl ⟨by rfl, fun wx hSw => by (subst hSw; go_simp)⟩) (by assumption) ?_
          simp only [Act.put, List.getElem_toArray, List.getElem_cons_zero, List.setIfInBounds_toArray, List.set_cons_zero, List.set_cons_succ]
          refine wpAnyH_take (i := 1) (v := .pointer (some ⟨G, 0, none⟩)) rfl (by kernel_rfl) (by kernel_rfl) (by kernel_rfl) (fun _ _ _ h => h) (Or.inl ⟨by rfl, fun wx hSw => by (subst hSw; go_simp)⟩) (by assumption) ?_
          simp only [Act.put, List.getElem_toArray, List.getElem_cons_succ, List.getElem_cons_zero, List.setIfInBounds_toArray, List.set_cons_zero, List.set_cons_succ]
          refine wpAnyH_take (i := 2) (v := .pointer (some ⟨G, 0, none⟩)) rfl (by kernel_rfl) (by kernel_rfl) (by kernel_rfl) (fun _ _ _ h => h) (Or.inl ⟨by rfl, fun wx hSw => by (subst hSw; go_simp)⟩) (by assumption) ?_
          simp only [Act.put, List.getElem_toArray, List.getElem_cons_succ, List.getElem_cons_zero, List.setIfInBounds_toArray, List.set_cons_zero, List.set_cons_succ]
          refine wpAnyH_take (i := 3) (v := .pointer (some ⟨G, 0, none⟩)) rfl (by kernel_rfl) (by kernel_rfl) (by kernel_rfl) (fun _ _ _ h => h) (Or.inl ⟨by rfl, fun wx hSw => by (subst hSw; go_simp)⟩) (by assumption) ?_
          simp only [Act.put, List.getElem_toArray, List.getElem_cons_succ, List.getElem_cons_zero, List.setIfInBounds_toArray, List.set_cons_zero, List.set_cons_succ]
          refine wpAnyH_take (i := 4) (v := .pointer (some ⟨G, 0, none⟩)) rfl (by kernel_rfl) (by kernel_rfl) (by kernel_rfl) (fun _ _ _ h => h) (Or.inl ⟨by rfl, fun wx hSw => by (subst hSw; go_simp)⟩) (by assumption) ?_
          simp only [Act.put, List.getElem_toArray, List.getElem_cons_succ, List.getElem_cons_zero, List.setIfInBounds_toArray, List.set_cons_zero, List.set_cons_succ]
          refine wpAnyH_take (i := 5) (v := .int .i64 t.st) rfl (by kernel_rfl) (by kernel_rfl) (by kernel_rfl) (fun _ _ _ h => h) (Or.inl ⟨by rfl, fun wx hSw => by (subst hSw; go_simp)⟩) (by assumption) ?_
          simp only [Act.put, List.getElem_toArray, List.getElem_cons_succ, List.getElem_cons_zero, List.setIfInBounds_toArray, List.set_cons_zero, List.set_cons_succ]
          refine wpAnyH_take (i := 6) (v := .bool true) rfl (by kernel_rfl) (by kernel_rfl) (by kernel_rfl) (fun _ _ _ h => h) (Or.inl ⟨by rfl, fun wx hSw => by (subst hSw; go_simp)⟩) (by assumption) ?_
          simp only [Act.put, List.getElem_toArray, List.getElem_cons_succ, List.getElem_cons_zero, List.setIfInBounds_toArray, List.set_cons_zero, List.set_cons_succ]
          refine wpAnyH_take (i := 7) (v := .bool true) rfl (by kernel_rfl) (by kernel_rfl) (by kernel_rfl) (fun _ _ _ h => h) (Or.inl ⟨by rfl, fun wx hSw => by (subst hSw; go_simp)⟩) (by assumption) ?_
          simp only [Act.put, List.getElem_toArray, List.getElem_cons_succ, List.getElem_cons_zero, List.setIfInBounds_toArray, List.set_cons_zero, List.set_cons_succ]
          refine wpAnyH_take (i := 8) (v := .pointer (some ⟨w.heap.size, 2, none⟩)) rfl (by kernel_rfl) (by kernel_rfl) (by kernel_rfl) (fun _ _ _ h => h) (Or.inl ⟨by rfl, fun wx hSw => by (subst hSw; go_simp)⟩) (by assumption) ?_
          simp only [Act.put, List.getElem_toArray, List.getElem_cons_succ, List.getElem_cons_zero, List.setIfInBounds_toArray, List.set_cons_zero, List.set_cons_succ]
          refine wpAnyH_take (i := 9) (v := .int .i64 cd) rfl (by kernel_rfl) (by kernel_rfl) (by kernel_rfl) (fun _ _ _ h => h) (Or.inl ⟨by rfl, fun wx hSw => by (subst hSw; go_simp)⟩) (by assumption) ?_
          simp only [Act.put, List.getElem_toArray, List.getElem_cons_succ, List.getElem_cons_zero, List.setIfInBounds_toArray, List.set_cons_zero, List.set_cons_succ]
          refine wpAnyH_take (i := 10) (v := .pointer (some ⟨G, 0, none⟩)) rfl (by kernel_rfl) (by kernel_rfl) (by kernel_rfl) (fun _ _ _ h => h) (Or.inl ⟨by rfl, fun wx hSw => by (subst hSw; go_simp)⟩) (by assumption) ?_
          simp only [Act.put, List.getElem_toArray, List.getElem_cons_succ, List.getElem_cons_zero, List.setIfInBounds_toArray, List.set_cons_zero, List.set_cons_succ]
          refine wpAnyH_take (i := 11) (v := .pointer (some ⟨G, 0, none⟩)) rfl (by kernel_rfl) (by kernel_rfl) (by kernel_rfl) (fun _ _ _ h => h) (Or.inl ⟨by rfl, fun wx hSw => by (subst hSw; go_simp)⟩) (by assumption) ?_
          simp only [Act.put, List.getElem_toArray, List.getElem_cons_succ, List.getElem_cons_zero, List.setIfInBounds_toArray, List.set_cons_zero, List.set_cons_succ]
          refine wpAnyH_take (i := 12) (v := .pointer (some ⟨G, 0, none⟩)) rfl (by kernel_rfl) (by kernel_rfl) (by kernel_rfl) (fun _ _ _ h => h) (Or.inl ⟨by rfl, fun wx hSw => by (subst hSw; go_simp)⟩) (by assumption) ?_
          simp only [Act.put, List.getElem_toArray, List.getElem_cons_succ, List.getElem_cons_zero, List.setIfInBounds_toArray, List.set_cons_zero, List.set_cons_succ]
          refine wpAnyH_take (i := 13) (v := .pointer (some ⟨G, 5, none⟩)) rfl (by kernel_rfl) (by kernel_rfl) (by kernel_rfl) (fun _ _ _ h => h) (Or.inl ⟨by rfl, fun wx hSw => by (subst hSw; go_simp)⟩) (by assumption) ?_
          simp only [Act.put, List.getElem_toArray, List.getElem_cons_succ, List.getElem_cons_zero, List.setIfInBounds_toArray, List.set_cons_zero, List.set_cons_succ]
          refine wpAnyH_take (i := 14) (v := .int .i64 t.du) rfl (by kernel_rfl) (by kernel_rfl) (by kernel_rfl) (fun _ _ _ h => h) (Or.inl ⟨by rfl, fun wx hSw => by (subst hSw; go_simp)⟩) (by assumption) ?_
          simp only [Act.put, List.getElem_toArray, List.getElem_cons_succ, List.getElem_cons_zero, List.setIfInBounds_toArray, List.set_cons_zero, List.set_cons_succ]
          refine wpAnyH_take (i := 15) (v := .bool false) rfl (by kernel_rfl) (by kernel_rfl) (by kernel_rfl) (fun _ _ _ h => h) (Or.inl ⟨by rfl, fun wx hSw => by (subst hSw; go_simp)⟩) (by assumption) ?_
          simp only [Act.put, List.getElem_toArray, List.getElem_cons_succ, List.getElem_cons_zero, List.setIfInBounds_toArray, List.set_cons_zero, List.set_cons_succ]
          refine wpAnyH_take (i := 16) (v := .bool false) rfl (by kernel_rfl) (by kernel_rfl) (by kernel_rfl) (fun _ _ _ h => h) (Or.inl ⟨by rfl, fun wx hSw => by (subst hSw; go_simp)⟩) (by assumption) ?_
          simp only [Act.put, List.getElem_toArray, List.getElem_cons_succ, List.getElem_cons_zero, List.setIfInBounds_toArray, List.set_cons_zero, List.set_cons_succ]
          refine wpAnyH_take (i := 17) (v := .bool false) rfl (by kernel_rfl) (by kernel_rfl) (by kernel_rfl) (fun _ _ _ h => h) (Or.inl ⟨by rfl, fun wx hSw => by (subst hSw; go_simp)⟩) (by assumption) ?_
          simp only [Act.put, List.getElem_toArray, List.getElem_cons_succ, List.getElem_cons_zero, List.setIfInBounds_toArray, List.set_cons_zero, List.set_cons_succ]
          refine wpAnyH_take (i := 18) (v := undef) rfl (by kernel_rfl) (by kernel_rfl) (by kernel_rfl) (fun _ _ _ h => h) (Or.inr ⟨by rfl, rfl⟩) (by assumption) ?_
          simp only [Act.put, List.getElem_toArray, List.getElem_cons_succ, List.getElem_cons_zero, List.setIfInBounds_toArray, List.set_cons_zero, List.set_cons_succ]
          refine wpAnyH_take (i := 19) (v := undef) rfl (by kernel_rfl) (by kernel_rfl) (by kernel_rfl) (fun _ _ _ h => h) (Or.inr ⟨by rfl, rfl⟩) (by assumption) ?_
          simp only [Act.put, List.getElem_toArray, List.getElem_cons_succ, List.getElem_cons_zero, List.setIfInBounds_toArray, List.set_cons_zero, List.set_cons_succ]
          refine wpAnyH_take (i := 20) (v := undef) rfl (by kernel_rfl) (by kernel_rfl) (by kernel_rfl) (fun _ _ _ h => h) (Or.inr ⟨by rfl, rfl⟩) (by assumption) ?_
          simp only [Act.put, List.getElem_toArray, List.getElem_cons_succ, List.getElem_cons_zero, List.setIfInBounds_toArray, List.set_cons_zero, List.set_cons_succ]
          refine wpAnyH_take (i := 21) (v := undef) rfl (by kernel_rfl) (by kernel_rfl) (by kernel_rfl) (fun _ _ _ h => h) (Or.inr ⟨by rfl, rfl⟩) (by assumption) ?_
          simp only [Act.put, List.getElem_toArray, List.getElem_cons_succ, List.getElem_cons_zero, List.setIfInBounds_toArray, List.set_cons_zero, List.set_cons_succ]
          refine wpAnyH_take (i := 22) (v := undef) rfl (by kernel_rfl) (by kernel_rfl) (by kernel_rfl) (fun _ _ _ h => h) (Or.inr ⟨by rfl, rfl⟩) (by assumption) ?_
          simp only [Act.put, List.getElem_toArray, List.getElem_cons_succ, List.getElem_cons_zero, List.setIfInBounds_toArray, List.set_cons_zero, List.set_cons_succ]
          refine wpAnyH_take (i := 23) (v := undef) rfl (by kernel_rfl) (by kernel_rfl) (by kernel_rfl) (fun _ _ _ h => h) (Or.inr ⟨by rfl, rfl⟩) (by assumption) ?_
          simp only [Act.put, List.getElem_toArray, List.getElem_cons_succ, List.getElem_cons_zero, List.setIfInBounds_toArray, List.set_cons_zero, List.set_cons_succ]
          refine wpAnyH_take (i := 24) (v := .bool false) rfl (by kernel_rfl) (by kernel_rfl) (by kernel_rfl) (fun _ _ _ h => h) (Or.inl ⟨by rfl, fun wx hSw => by (subst hSw; go_simp)⟩) (by assumption) ?_
          simp only [Act.put, List.getElem_toArray, List.getElem_cons_succ, List.getElem_cons_zero, List.setIfInBounds_toArray, List.set_cons_zero, List.set_cons_succ]
          refine wpAnyH_done (by kernel_rfl) ?_ _
          go_wp2_with fail
          go_meet
          case rel => exact ⟨by rw [E.out], hgd, hcd, hkd⟩
    case rest =>
      clear c0 c5 c16 cc hg1 hc1 hk1
      obtain ⟨rfl, hg2, hc2, hk2⟩ := hcut
      go_upto_if 56 with fail
      go_cut [] from 32 to 70 (fun wx => Gon wx G (w.heap.size + 1) t (Ln.early t n cd g) dy ev fv ∧ At wx w.heap.size [.int .i64 cy, .int .i64 cm, .int .i64 cd] ∧ Keep (fun b => b = G ∨ b = w.heap.size + 1) w wx)
      case first =>
        cases hdue : due t n cd g
        · have E := early_first t n cd g hdue
          rw [← E] at hg2
          clear E
          go_wp2_with fail
          go_meet
          case rel => exact ⟨hg2, hc2, hk2⟩
        · obtain ⟨E1, E2⟩ := early_then t n cd g hdue
          rw [E1] at hg2
          have hG2 := hg2
          obtain ⟨ne2, ⟨cap2, hx2⟩, hy2⟩ := hG2
          have c8 := hx2.cell 8 (v := .int .i64 g.du) rfl
          have hE2 := enter_any _ G _ t _ dy ev fv hg2 HF.out 2 g.du HD.out.1
          have hE3 : ∀ W : World, Gon W G (w.heap.size + 1) t (Ln.enter ⟨g, fun _ => 0⟩ 2 g.du) dy ev fv → Calls Tryz.prog 119 #[.pointer (some ⟨G, 0, none⟩), .int .i64 3, .int .i64 g.it] W fun e w' => e = .returned (.tuple #[]) ∧ Gon w' G (w.heap.size + 1) t (Ln.enter (Ln.enter ⟨g, fun _ => 0⟩ 2 g.du) 3 g.it) dy ev fv ∧ Keep (fun b => b = G ∨ b = w.heap.size + 1) W w' :=
            fun W hW => enter_any W G _ t _ dy ev fv hW HD.out.2.1 3 g.it HD.out.2.2
          clear hx2 hy2 hg2 ne2
          go_wp2_with fail
          refine hE2.mono ?_
          rintro e w5 ⟨rfl, hg5, hk5⟩
          have c7 : w5.cell? ⟨G, 7, none⟩ = some (.int .i64 g.it) := by
            obtain ⟨ne5, ⟨cap5, hx5⟩, hy5⟩ := hg5
            exact hx5.cell 7 rfl
          clear hE2
          go_wp2_with fail
          refine (hE3 _ hg5).mono ?_
          rintro e w6 ⟨rfl, hg6, hk6⟩
          rw [← E2] at hg6
          clear hE3
          go_wp2_with fail
          go_meet
          case rel => exact ⟨hg6, At.keep (At.keep hc2 hk5 (by omega)) hk6 (by omega), (hk2.trans hk5).trans hk6⟩
      case rest =>
        clear hg2 hc2 hk2
        obtain ⟨hY, hCw, hKp⟩ := hcut
        go_wp2_with fail
        go_loopw [8] (fun i wr => ∃ k : Nat, k ≤ l.length ∧ i = .int .i64 k ∧ Gon wr G (w.heap.size + 1) t (upto t n cd l g k) dy ev fv ∧ At wr w.heap.size [.int .i64 cy, .int .i64 cm, .int .i64 cd] ∧ Keep (fun b => b = G ∨ b = w.heap.size + 1) w wr) (fun i _ => l.length - (intOf i).toNat)
        case atStart => exact ⟨0, by omega, rfl, hY, hCw, hKp⟩
        case round =>
          obtain ⟨k, hk, rfl, hg, hC, hKr⟩ := hrel
          by_cases hlt : k < l.length
          · have hne : l ≠ [] := by intro x; subst x; simp at hlt
            obtain ⟨rfl, hEw, hEG⟩ := HE.out hne
            have hEl : E < w.heap.size := by
              have := (evs_at l k hlt).1
              exact World.block_lt_of_cell? _ _ (hEw _ _ this).1
            have hEr : At wr E (evs l) := hEw.block (hKr.block E hEl (by omega))
            obtain ⟨q0, q1, q2, q3⟩ := evs_at l k hlt
            have r0 := hEr.cell _ q0
            have r1 := hEr.cell _ q1
            have r2 := hEr.cell _ q2
            have r3 := hEr.cell _ q3
            have hu := upto_succ t n cd l g k hlt
            have HU := (show Hid _ from hu)
            have hoe := HOk.out l[k] (List.getElem_mem hlt)
            obtain ⟨hft, ⟨L, hL1, ham⟩, hcr, hpi⟩ := HSt.out k hk
            obtain ⟨ne2, ⟨cap2, hG2⟩, hA2⟩ := id hg
            have g7 : wr.cell? ⟨G, 7, none⟩ = some (.int .i64 (upto t n cd l g k).g.it) := hG2.cell 7 rfl
            have g12 : wr.cell? ⟨G, 12, none⟩ = some (.int .i64 (upto t n cd l g k).g.rt) := hG2.cell 12 rfl
            have z12 : wr.frozen? ⟨G, 12, none⟩ = false := hG2.free 12 rfl
            have g16 : wr.cell? ⟨G, 16, none⟩ = some (.int .i64 (upto t n cd l g k).g.fr) := hG2.cell 16 rfl
            have z16 : wr.frozen? ⟨G, 16, none⟩ = false := hG2.free 16 rfl
            have hGr := At.lt hG2
            clear hu q0 q1 q2 q3 hEr hEw hG2 hA2
            generalize l[k] = e at *
            generalize upto t n cd l g k = y at *
            obtain ⟨ed, ek, es, ea⟩ := e
            simp only at r0 r1 r2 r3 HU hoe
            have ha0 : 0 ≤ ea := hoe.a0
            have ha1 : ea ≤ 100000000000 := hoe.a1
            have hbox : ∀ o : Obj, Gon (wr.alloc o) G (w.heap.size + 1) t y dy ev fv ∧ At (wr.alloc o) w.heap.size [.int .i64 cy, .int .i64 cm, .int .i64 cd] ∧ Keep (fun b => b = G ∨ b = w.heap.size + 1) w (wr.alloc o) := fun o =>
              have hb : Below wr.heap.size wr (wr.alloc o) := (Below.refl _ _).alloc (Nat.le_refl _) _
              ⟨hg.below hb, At.keep (S := fun _ => False) hC (Keep.below hb) (fun x => x), hKr.trans (Keep.below hb)⟩
            have HB := (show Hid _ from hbox)
            have HW := (show Hid (Gon wr G (w.heap.size + 1) t y dy ev fv ∧ At wr w.heap.size [.int .i64 cy, .int .i64 cm, .int .i64 cd] ∧ Keep (fun b => b = G ∨ b = w.heap.size + 1) w wr) from ⟨hg, hC, hKr⟩)
            have HH := (show Hid (Ln.Fit y ∧ Ln.Am y L ∧ L ≤ 4100000000000 ∧ y.g.cr ≤ 4100000000000 ∧ y.g.pr + y.g.it ≤ 656820000000000000) from ⟨hft, ham, hL1, hcr, hpi⟩)
            clear hbox hft ham hcr hpi hg hC hKr hY hCw hKp
            have hnS : ¬ (w.heap.size = G ∨ w.heap.size = w.heap.size + 1) := by omega
            by_cases hd : ed = n
            · subst hd
              rcases (show ek = 1 ∨ ek = 2 ∨ ek = 3 ∨ ek = 4 ∨ ek = 5 by have h1 := hoe.k0; have h2 := hoe.k1; simp only at h1 h2; omega) with h | h | h | h | h
              · subst h
                obtain ⟨hft, ham, hL1, hcr, hpi⟩ := HH.out
                have hcan : Ln.CanEnter y 1 ea := ⟨ha0, ham.nn 1, by have := ham.a1; omega, by show y.g.pr + ea ≤ _; have := hft.pr1; omega⟩
                have hen := fun o => enter_any (wr.alloc o) G _ t y dy ev fv (HB.out o).1 hft 1 ea hcan
                clear hft ham hL1 hcr hpi hcan
                go_wp2_with fail
                refine (hen _).mono ?_
                rintro e' w3 ⟨rfl, hg3, hk3⟩
                have hc3 := At.keep (HB.out _).2.1 hk3 hnS
                have hK3 := (HB.out _).2.2.trans hk3
                clear hen hk3
                go_wp2
                go_roundw
                case rel => exact ⟨k + 1, by omega, by go_num, by rw [HU.out, ev_1 ed y ⟨ed, 1, es, ea⟩ rfl rfl]; exact hg3, hc3, hK3⟩
                case measure => simp [intOf]; omega
              · subst h
                go_wp2_with fail
                obtain ⟨hg3, hc3, hK3⟩ := HW.out
                have hg4 := Gon.set (y' := { y with g := { y.g with rt := ea } }) hg3 12 (by decide) (.int .i64 ea) rfl (fun _ => rfl)
                have hc4 := hc3.other (c := G) (fun x => hnS (.inl x.symm)) 12 (.int .i64 ea)
                have hK4 := hK3.set (b := G) (.inl rfl) 12 (.int .i64 ea)
                have hb4 : ∀ o, Below (wr.setCell ⟨G, 12, none⟩ (.int .i64 ea)).heap.size (wr.setCell ⟨G, 12, none⟩ (.int .i64 ea)) ((wr.setCell ⟨G, 12, none⟩ (.int .i64 ea)).alloc o) := fun o => (Below.refl _ _).alloc (Nat.le_refl _) _
                go_roundw
                case rel => exact ⟨k + 1, by omega, by go_num, by rw [HU.out, ev_2 ed y ⟨ed, 2, es, ea⟩ rfl rfl]; exact hg4.below (hb4 _), At.keep (S := fun _ => False) hc4 (Keep.below (hb4 _)) (fun x => x), hK4.trans (Keep.below (hb4 _))⟩
                case measure => simp [intOf]; omega
              · subst h
                go_wp2_with fail
                go_quiet (fail)
                by_cases hfr : y.g.fr < ed + ea
                · go_wp2_with fail
                  obtain ⟨hg3, hc3, hK3⟩ := HB.out (.cells #[.int .i64 ed, .int .i64 3, .int .i64 es, .int .i64 ea] 50)
                  have hg4 := Gon.set (y' := { y with g := { y.g with fr := ed + ea } }) (hg3.drewN nq) 16 (by decide) (.int .i64 (ed + ea)) rfl (fun _ => rfl)
                  have hc4 := (At.block (w' := (wr.alloc (.cells #[.int .i64 ed, .int .i64 3, .int .i64 es, .int .i64 ea] 50)).drewN nq) hc3 rfl).other (c := G) (fun x => hnS (.inl x.symm)) 16 (.int .i64 (ed + ea))
                  have hK4 := (hK3.drewN nq).set (b := G) (.inl rfl) 16 (.int .i64 (ed + ea))
                  go_roundw
                  case rel => exact ⟨k + 1, by omega, by go_num, by rw [HU.out, ev_3 ed y ⟨ed, 3, es, ea⟩ rfl rfl hfr]; exact hg4, hc4, hK4⟩
                  case measure => simp [intOf]; omega
                · go_wp2_with fail
                  obtain ⟨hg3, hc3, hK3⟩ := HB.out (.cells #[.int .i64 ed, .int .i64 3, .int .i64 es, .int .i64 ea] 50)
                  go_roundw
                  case rel => exact ⟨k + 1, by omega, by go_num, by rw [HU.out, ev_3n ed y ⟨ed, 3, es, ea⟩ rfl rfl (by simp only; omega)]; exact hg3.drewN nq, At.block hc3 rfl, hK3.drewN nq⟩
                  case measure => simp [intOf]; omega
              · subst h
                obtain ⟨hft, ham, hL1, hcr, hpi⟩ := HH.out
                have hcan : Ln.CanEnter y 4 y.g.it := ⟨hft.it0, ham.nn 4, by have := ham.a4; omega, by show y.g.pr + y.g.it ≤ _; omega, Int.le_refl _⟩
                have hen := fun o => enter_any (wr.alloc o) G _ t y dy ev fv (HB.out o).1 hft 4 y.g.it hcan
                clear hft ham hL1 hcr hpi hcan
                go_wp2_with fail
                refine (hen _).mono ?_
                rintro e' w3 ⟨rfl, hg3, hk3⟩
                have hc3 := At.keep (HB.out _).2.1 hk3 hnS
                have hK3 := (HB.out _).2.2.trans hk3
                clear hen hk3
                go_wp2
                go_roundw
                case rel => exact ⟨k + 1, by omega, by go_num, by rw [HU.out, ev_4 ed y ⟨ed, 4, es, ea⟩ rfl rfl]; exact hg3, hc3, hK3⟩
                case measure => simp [intOf]; omega
              · subst h
                obtain ⟨hft, ham, hL1, hcr, hpi⟩ := HH.out
                have hen := fun o => paid_any (wr.alloc o) G _ t y dy ev fv (HB.out o).1 hft L hL1 ham hcr ea ha0 ha1
                clear hft ham hL1 hcr hpi
                go_wp2_with fail
                refine (hen _).mono ?_
                rintro e' w3 ⟨rfl, hg3, hk3⟩
                have hc3 := At.keep (HB.out _).2.1 hk3 hnS
                have hK3 := (HB.out _).2.2.trans hk3
                clear hen hk3
                go_wp2
                go_roundw
                case rel => exact ⟨k + 1, by omega, by go_num, by rw [HU.out, ev_5 ed y ⟨ed, 5, es, ea⟩ rfl rfl]; exact hg3, hc3, hK3⟩
                case measure => simp [intOf]; omega
            · have hd1 : (ed != n) = true := by simp [hd]
              go_wp2_with fail
              obtain ⟨hg3, hc3, hK3⟩ := HB.out (.cells #[.int .i64 ed, .int .i64 ek, .int .i64 es, .int .i64 ea] 50)
              go_roundw
              case rel => exact ⟨k + 1, by omega, by go_num, by rw [HU.out, ev_skip n y ⟨ed, ek, es, ea⟩ hd]; exact hg3, hc3, hK3⟩
              case measure => simp [intOf]; omega
          · obtain rfl : k = l.length := by omega
            clear hlt hY hCw hKp HE HOk
            have hDW : DayW S w G t (upto t n cd l g l.length) dy ev fv g.ea g.fn wr := ⟨hg, (HEV.out.more (fun b hb h => by rcases h with h | h; exact h; omega)).keep (DB.to HSS.out.1 hKr), (HFV.out.more (fun b hb h => by rcases h with h | h; exact h; omega)).keep (DB.to HSS.out.1 hKr), hKr, HSS.out.1, HSS.out.2⟩
            clear hg hKr HSt
            generalize hyy : upto t n cd l g l.length = y at *
            have HYY : Hid (upto t n cd l g l.length = y) := hyy
            clear hyy
            have hdd := hDW.drew
            have hCd : At wr.drew w.heap.size [.int .i64 cy, .int .i64 cm, .int .i64 cd] := At.drew hC
            clear hDW hC
            go_wp2_with fail
            refine wp_region_held_drew (S := fun wz => DayW S w G t y dy ev fv g.ea g.fn wz ∧ At wz w.heap.size [.int .i64 cy, .int .i64 cm, .int .i64 cd]) (by kernel_rfl) ⟨hdd, hCd⟩ (fun hHeld => ?_)
            refine wpAnyH_take (i := 0) (v := .pointer (some ⟨G, 0, none⟩)) rfl (by kernel_rfl) (by kernel_rfl) (by kernel_rfl) (fun _ _ _ h => h) (Or.inl ⟨by rfl, fun wx hSw => by (dsimp only at hSw; go_simp)⟩) (by assumption) ?_
            simp only [Act.put, List.getElem_toArray, List.getElem_cons_zero, List.setIfInBounds_toArray, List.set_cons_zero, List.set_cons_succ]
            refine wpAnyH_take (i := 1) (v := .pointer (some ⟨G, 0, none⟩)) rfl (by kernel_rfl) (by kernel_rfl) (by kernel_rfl) (fun _ _ _ h => h) (Or.inl ⟨by rfl, fun wx hSw => by (dsimp only at hSw; go_simp)⟩) (by assumption) ?_
            simp only [Act.put, List.getElem_toArray, List.getElem_cons_succ, List.getElem_cons_zero, List.setIfInBounds_toArray, List.set_cons_zero, List.set_cons_succ]
            refine wpAnyH_take (i := 2) (v := .pointer (some ⟨G, 0, none⟩)) rfl (by kernel_rfl) (by kernel_rfl) (by kernel_rfl) (fun _ _ _ h => h) (Or.inl ⟨by rfl, fun wx hSw => by (dsimp only at hSw; go_simp)⟩) (by assumption) ?_
            simp only [Act.put, List.getElem_toArray, List.getElem_cons_succ, List.getElem_cons_zero, List.setIfInBounds_toArray, List.set_cons_zero, List.set_cons_succ]
            refine wpAnyH_take (i := 3) (v := .pointer (some ⟨G, 4, none⟩)) rfl (by kernel_rfl) (by kernel_rfl) (by kernel_rfl) (fun _ _ _ h => h) (Or.inl ⟨by rfl, fun wx hSw => by (dsimp only at hSw; go_simp)⟩) (by assumption) ?_
            simp only [Act.put, List.getElem_toArray, List.getElem_cons_succ, List.getElem_cons_zero, List.setIfInBounds_toArray, List.set_cons_zero, List.set_cons_succ]
            refine wpAnyH_take (i := 4) (v := .int .i64 t.ba) rfl (by kernel_rfl) (by kernel_rfl) (by kernel_rfl) (fun _ _ _ h => h) (Or.inl ⟨by rfl, fun wx hSw => by (have hc : wx.cell? ⟨G, 4, none⟩ = some (.int .i64 t.ba) := (hSw.1.cell 4 (by decide) (fun _ => rfl)).1; go_simp)⟩) (by assumption) ?_
            simp only [Act.put, List.getElem_toArray, List.getElem_cons_succ, List.getElem_cons_zero, List.setIfInBounds_toArray, List.set_cons_zero, List.set_cons_succ]
            refine wpAnyH_take (i := 5) (v := .agg #[.int .i64 cy, .int .i64 cm, .int .i64 cd]) rfl (by kernel_rfl) (by kernel_rfl) (by kernel_rfl) (fun _ _ _ h => h) (yieldsIf_load_mid (by rfl) 169 (.tmp 6) rfl _ _ rfl _ _ (fun _ h => h.2.range) Tryz.underlying169 rfl (by kernel_rfl)) (by assumption) ?_
            simp only [Act.put, List.getElem_toArray, List.getElem_cons_succ, List.getElem_cons_zero, List.setIfInBounds_toArray, List.set_cons_zero, List.set_cons_succ]
            refine wpAnyH_ready (rs := [6]) (by kernel_rfl) (by simp) ?_
            refine AllReadyH.cons rfl (fun K hK => ?_) AllReadyH.nil
            go_simp
            refine (HWT.out _).mono ?_
            rintro e w3 ⟨rfl, hb3⟩
            go_wp2_with fail
            refine hK.out _ _ ⟨hHeld.1.below hb3, At.keep (S := fun _ => False) hHeld.2 (Keep.below hb3) (fun x => x)⟩ (fun hHeld2 => ?_)
            clear hK K hHeld hdd hCd hb3 HWT
            refine wpAnyH_take (i := 7) (v := .int .i64 wt) rfl (by kernel_rfl) (by kernel_rfl) (by kernel_rfl) (fun _ _ _ h => h) (Or.inl ⟨by rfl, fun wx hSw => by (dsimp only at hSw; go_simp)⟩) (by assumption) ?_
            simp only [Act.put, List.getElem_toArray, List.getElem_cons_succ, List.getElem_cons_zero, List.setIfInBounds_toArray, List.set_cons_zero, List.set_cons_succ]
            refine wpAnyH_done (by kernel_rfl) ?_ _
            have hD3 := hHeld2.1
            clear hHeld2
            have g4 : w3.cell? ⟨G, 4, none⟩ = some (.int .i64 t.ba) := (hD3.cell 4 (by decide) (fun _ => rfl)).1
            go_upto_if 146 with fail
            go_cut [11] from 141 to 146 (fun yv wx => yv = .int .i64 (Ln.year t) ∧ wx = w3)
            case first =>
              by_cases hba : t.ba = 1
              · have E : Ln.year t = 365 := by unfold Ln.year; rw [if_pos hba]
                have e1 : (t.ba == 1) = true := by simp [hba]
                clear hba
                go_wp2_with fail
                go_meet
                case rel => exact ⟨by rw [E], rfl⟩
              · have E : Ln.year t = 360 := by unfold Ln.year; rw [if_neg hba]
                have e1 : (t.ba == 1) = false := by simp [hba]
                clear hba
                go_wp2_with fail
                go_meet
                case rel => exact ⟨by rw [E], rfl⟩
            case rest =>
              obtain ⟨rfl, rfl⟩ := hcut
              obtain ⟨n1', n2', n3', n4', n5', n6', n7', n8', n9', n10'⟩ := HN.out
              obtain ⟨b1', b2', b3', b4'⟩ := HQ.out
              have yb := Ln.year_bd t
              have hwr : IntKind.i64.wrap (y.g.rt * wt) = y.g.rt * wt := by rw [IntKind.wrap_i64]; omega
              have hwf : IntKind.i64.wrap (t.fi * wt) = t.fi * wt := by rw [IntKind.wrap_i64]; omega
              clear g4
              have g14 := (hD3.cell 14 (by decide) (v := ev) (fun _ => rfl)).1
              go_wp2_with fail
              refine (part_long hD3.l1 (Ln.year t) (by omega) (by omega) b1').mono ?_
              rintro e wq ⟨rfl, rfl⟩
              clear g14
              go_wp2_with fail
              have d1 : wq.drew.cell? ⟨G, 14, none⟩ = some ev := ((hD3.drew).cell 14 (by decide) (fun _ => rfl)).1
              have d2 : wq.drew.cell? ⟨G, 6, none⟩ = some (.int .i64 y.g.pr) := ((hD3.drew).cell 6 (by decide) (fun _ => rfl)).1
              have d3 : wq.drew.cell? ⟨G, 12, none⟩ = some (.int .i64 y.g.rt) := ((hD3.drew).cell 12 (by decide) (fun _ => rfl)).1
              refine wp_region_held_drew (S := fun wz => wz.cell? ⟨G, 6, none⟩ = some (.int .i64 y.g.pr) ∧ wz.cell? ⟨G, 12, none⟩ = some (.int .i64 y.g.rt)) (by kernel_rfl) ⟨d2, d3⟩ (fun hHeld => ?_)
              refine wpAnyH_take (i := 0) (v := .pointer (some ⟨G, 0, none⟩)) rfl (by kernel_rfl) (by kernel_rfl) (by kernel_rfl) (fun _ _ _ h => h) (Or.inl ⟨by rfl, fun wx hSw => by (dsimp only at hSw; go_simp)⟩) (by assumption) ?_
              simp only [Act.put, List.getElem_toArray, List.getElem_cons_zero, List.setIfInBounds_toArray, List.set_cons_zero, List.set_cons_succ]
              refine wpAnyH_take (i := 1) (v := .pointer (some ⟨G, 0, none⟩)) rfl (by kernel_rfl) (by kernel_rfl) (by kernel_rfl) (fun _ _ _ h => h) (Or.inl ⟨by rfl, fun wx hSw => by (dsimp only at hSw; go_simp)⟩) (by assumption) ?_
              simp only [Act.put, List.getElem_toArray, List.getElem_cons_succ, List.getElem_cons_zero, List.setIfInBounds_toArray, List.set_cons_zero, List.set_cons_succ]
              refine wpAnyH_take (i := 2) (v := .pointer (some ⟨G, 0, none⟩)) rfl (by kernel_rfl) (by kernel_rfl) (by kernel_rfl) (fun _ _ _ h => h) (Or.inl ⟨by rfl, fun wx hSw => by (dsimp only at hSw; go_simp)⟩) (by assumption) ?_
              simp only [Act.put, List.getElem_toArray, List.getElem_cons_succ, List.getElem_cons_zero, List.setIfInBounds_toArray, List.set_cons_zero, List.set_cons_succ]
              refine wpAnyH_take (i := 3) (v := .pointer (some ⟨G, 14, none⟩)) rfl (by kernel_rfl) (by kernel_rfl) (by kernel_rfl) (fun _ _ _ h => h) (Or.inl ⟨by rfl, fun wx hSw => by (dsimp only at hSw; go_simp)⟩) (by assumption) ?_
              simp only [Act.put, List.getElem_toArray, List.getElem_cons_succ, List.getElem_cons_zero, List.setIfInBounds_toArray, List.set_cons_zero, List.set_cons_succ]
              refine wpAnyH_take (i := 5) (v := .pointer (some ⟨G, 0, none⟩)) rfl (by kernel_rfl) (by kernel_rfl) (by kernel_rfl) (fun _ _ _ h => h) (Or.inl ⟨by rfl, fun wx hSw => by (dsimp only at hSw; go_simp)⟩) (by assumption) ?_
              simp only [Act.put, List.getElem_toArray, List.getElem_cons_succ, List.getElem_cons_zero, List.setIfInBounds_toArray, List.set_cons_zero, List.set_cons_succ]
              refine wpAnyH_take (i := 6) (v := .pointer (some ⟨G, 0, none⟩)) rfl (by kernel_rfl) (by kernel_rfl) (by kernel_rfl) (fun _ _ _ h => h) (Or.inl ⟨by rfl, fun wx hSw => by (dsimp only at hSw; go_simp)⟩) (by assumption) ?_
              simp only [Act.put, List.getElem_toArray, List.getElem_cons_succ, List.getElem_cons_zero, List.setIfInBounds_toArray, List.set_cons_zero, List.set_cons_succ]
              refine wpAnyH_take (i := 7) (v := .pointer (some ⟨G, 6, none⟩)) rfl (by kernel_rfl) (by kernel_rfl) (by kernel_rfl) (fun _ _ _ h => h) (Or.inl ⟨by rfl, fun wx hSw => by (dsimp only at hSw; go_simp)⟩) (by assumption) ?_
              simp only [Act.put, List.getElem_toArray, List.getElem_cons_succ, List.getElem_cons_zero, List.setIfInBounds_toArray, List.set_cons_zero, List.set_cons_succ]
              refine wpAnyH_take (i := 8) (v := .pointer (some ⟨G, 6, none⟩)) rfl (by kernel_rfl) (by kernel_rfl) (by kernel_rfl) (fun _ _ _ h => h) (Or.inl ⟨by rfl, fun wx hSw => by (dsimp only at hSw; go_simp)⟩) (by assumption) ?_
              simp only [Act.put, List.getElem_toArray, List.getElem_cons_succ, List.getElem_cons_zero, List.setIfInBounds_toArray, List.set_cons_zero, List.set_cons_succ]
              refine wpAnyH_take (i := 9) (v := .int .i64 y.g.pr) rfl (by kernel_rfl) (by kernel_rfl) (by kernel_rfl) (fun _ _ _ h => h) (Or.inl ⟨by rfl, fun wx hSw => by (have hc := hSw.1; go_simp)⟩) (by assumption) ?_
              simp only [Act.put, List.getElem_toArray, List.getElem_cons_succ, List.getElem_cons_zero, List.setIfInBounds_toArray, List.set_cons_zero, List.set_cons_succ]
              refine wpAnyH_take (i := 10) (v := .pointer (some ⟨G, 0, none⟩)) rfl (by kernel_rfl) (by kernel_rfl) (by kernel_rfl) (fun _ _ _ h => h) (Or.inl ⟨by rfl, fun wx hSw => by (dsimp only at hSw; go_simp)⟩) (by assumption) ?_
              simp only [Act.put, List.getElem_toArray, List.getElem_cons_succ, List.getElem_cons_zero, List.setIfInBounds_toArray, List.set_cons_zero, List.set_cons_succ]
              refine wpAnyH_take (i := 11) (v := .pointer (some ⟨G, 0, none⟩)) rfl (by kernel_rfl) (by kernel_rfl) (by kernel_rfl) (fun _ _ _ h => h) (Or.inl ⟨by rfl, fun wx hSw => by (dsimp only at hSw; go_simp)⟩) (by assumption) ?_
              simp only [Act.put, List.getElem_toArray, List.getElem_cons_succ, List.getElem_cons_zero, List.setIfInBounds_toArray, List.set_cons_zero, List.set_cons_succ]
              refine wpAnyH_take (i := 12) (v := .pointer (some ⟨G, 6, none⟩)) rfl (by kernel_rfl) (by kernel_rfl) (by kernel_rfl) (fun _ _ _ h => h) (Or.inl ⟨by rfl, fun wx hSw => by (dsimp only at hSw; go_simp)⟩) (by assumption) ?_
              simp only [Act.put, List.getElem_toArray, List.getElem_cons_succ, List.getElem_cons_zero, List.setIfInBounds_toArray, List.set_cons_zero, List.set_cons_succ]
              refine wpAnyH_take (i := 13) (v := .pointer (some ⟨G, 12, none⟩)) rfl (by kernel_rfl) (by kernel_rfl) (by kernel_rfl) (fun _ _ _ h => h) (Or.inl ⟨by rfl, fun wx hSw => by (dsimp only at hSw; go_simp)⟩) (by assumption) ?_
              simp only [Act.put, List.getElem_toArray, List.getElem_cons_succ, List.getElem_cons_zero, List.setIfInBounds_toArray, List.set_cons_zero, List.set_cons_succ]
              refine wpAnyH_take (i := 14) (v := .int .i64 y.g.rt) rfl (by kernel_rfl) (by kernel_rfl) (by kernel_rfl) (fun _ _ _ h => h) (Or.inl ⟨by rfl, fun wx hSw => by (have hc := hSw.2; go_simp)⟩) (by assumption) ?_
              simp only [Act.put, List.getElem_toArray, List.getElem_cons_succ, List.getElem_cons_zero, List.setIfInBounds_toArray, List.set_cons_zero, List.set_cons_succ]
              refine wpAnyH_take (i := 15) (v := .int .i64 wt) rfl (by kernel_rfl) (by kernel_rfl) (by kernel_rfl) (fun _ _ _ h => h) (Or.inl ⟨by rfl, fun wx hSw => by (dsimp only at hSw; go_simp)⟩) (by assumption) ?_
              simp only [Act.put, List.getElem_toArray, List.getElem_cons_succ, List.getElem_cons_zero, List.setIfInBounds_toArray, List.set_cons_zero, List.set_cons_succ]
              refine wpAnyH_take (i := 16) (v := .int .i64 (y.g.rt * wt)) rfl (by kernel_rfl) (by kernel_rfl) (by kernel_rfl) (fun _ _ _ h => h) (Or.inl ⟨by rfl, fun wx hSw => by (dsimp only at hSw; go_simp)⟩) (by assumption) ?_
              simp only [Act.put, List.getElem_toArray, List.getElem_cons_succ, List.getElem_cons_zero, List.setIfInBounds_toArray, List.set_cons_zero, List.set_cons_succ]
              refine wpAnyH_ready (rs := [4]) (by kernel_rfl) (by simp) ?_
              refine AllReadyH.cons rfl (fun K hK => ?_) AllReadyH.nil
              go_simp
              refine hK.out _ _ hHeld (fun _ => ?_)
              clear hK K
              refine wpAnyH_ready (rs := [17]) (by kernel_rfl) (by simp) ?_
              refine AllReadyH.cons rfl (fun K hK => ?_) AllReadyH.nil
              go_simp
              refine (plus_long hD3.drew.l1 hD3.drew.lt y.g.pr (y.g.rt * wt) n5' n6' n1' (by omega) n9').mono ?_
              rintro e wp ⟨r1, rfl, hl, hb⟩
              obtain ⟨r1p, r1n, r1c, rfl⟩ := hl.slice
              go_wp2_with fail
              have hDb := hD3.drew.below hb
              have f1 := hDb.cell 14 (by decide) (v := ev) (fun _ => rfl)
              have f2 := f1.1
              have f3 := f1.2
              have f4 := (hDb.cell 6 (by decide) (v := .int .i64 y.g.pr) (fun _ => rfl)).1
              have f5 := (hDb.cell 12 (by decide) (v := .int .i64 y.g.rt) (fun _ => rfl)).1
              refine hK.out _ _ ⟨f4, f5⟩ (fun hHeld2 => ?_)
              clear hK K hHeld d1 d2 d3 f1
              have hD5 := hDb.set14 _ _ hl
              refine wpAnyH_take (i := 18) (v := .pointer (some ⟨G, 0, none⟩)) rfl (by kernel_rfl) (by kernel_rfl) (by kernel_rfl) (fun _ _ _ h => h) (Or.inl ⟨by rfl, fun wx hSw => by (dsimp only at hSw; go_simp)⟩) (by assumption) ?_
              simp only [Act.put, List.getElem_toArray, List.getElem_cons_succ, List.getElem_cons_zero, List.setIfInBounds_toArray, List.set_cons_zero, List.set_cons_succ]
              refine wpAnyH_take (i := 19) (v := .pointer (some ⟨G, 14, none⟩)) rfl (by kernel_rfl) (by kernel_rfl) (by kernel_rfl) (fun _ _ _ h => h) (Or.inl ⟨by rfl, fun wx hSw => by (dsimp only at hSw; go_simp)⟩) (by assumption) ?_
              simp only [Act.put, List.getElem_toArray, List.getElem_cons_succ, List.getElem_cons_zero, List.setIfInBounds_toArray, List.set_cons_zero, List.set_cons_succ]
              refine wpAnyH_ready (rs := [20]) (by kernel_rfl) (by simp) ?_
              refine AllReadyH.cons rfl (fun K hK => ?_) AllReadyH.nil
              go_simp
              have f6 := (hD5.cell 6 (by decide) (v := .int .i64 y.g.pr) (fun _ => rfl)).1
              have f7 := (hD5.cell 12 (by decide) (v := .int .i64 y.g.rt) (fun _ => rfl)).1
              refine hK.out _ _ ⟨f6, f7⟩ (fun _ => ?_)
              clear hK K hHeld2 f2 f3 f4 f5 f6 f7 hDb hl hb
              generalize wp.setCell ⟨G, 14, none⟩ (.slice r1p r1n r1c) = ws at *
              refine wpAnyH_done (by kernel_rfl) ?_ _
              have g15 := (hD5.cell 15 (by decide) (v := fv) (fun _ => rfl)).1
              go_wp2_with fail
              refine (part_long hD5.l2 (Ln.year t) (by omega) (by omega) b3').mono ?_
              rintro e wq2 ⟨rfl, rfl⟩
              clear g15
              go_wp2_with fail
              have d1 : wq2.drew.cell? ⟨G, 15, none⟩ = some fv := ((hD5.drew).cell 15 (by decide) (fun _ => rfl)).1
              have d2 : wq2.drew.cell? ⟨G, 9, none⟩ = some (.int .i64 y.g.la) := ((hD5.drew).cell 9 (by decide) (fun _ => rfl)).1
              have d3 : wq2.drew.cell? ⟨G, 3, none⟩ = some (.int .i64 t.fi) := ((hD5.drew).cell 3 (by decide) (fun _ => rfl)).1
              refine wp_region_held_drew (S := fun wz => wz.cell? ⟨G, 9, none⟩ = some (.int .i64 y.g.la) ∧ wz.cell? ⟨G, 3, none⟩ = some (.int .i64 t.fi)) (by kernel_rfl) ⟨d2, d3⟩ (fun hHeld => ?_)
              refine wpAnyH_take (i := 0) (v := .pointer (some ⟨G, 0, none⟩)) rfl (by kernel_rfl) (by kernel_rfl) (by kernel_rfl) (fun _ _ _ h => h) (Or.inl ⟨by rfl, fun wx hSw => by (dsimp only at hSw; go_simp)⟩) (by assumption) ?_
              simp only [Act.put, List.getElem_toArray, List.getElem_cons_zero, List.setIfInBounds_toArray, List.set_cons_zero, List.set_cons_succ]
              refine wpAnyH_take (i := 1) (v := .pointer (some ⟨G, 0, none⟩)) rfl (by kernel_rfl) (by kernel_rfl) (by kernel_rfl) (fun _ _ _ h => h) (Or.inl ⟨by rfl, fun wx hSw => by (dsimp only at hSw; go_simp)⟩) (by assumption) ?_
              simp only [Act.put, List.getElem_toArray, List.getElem_cons_succ, List.getElem_cons_zero, List.setIfInBounds_toArray, List.set_cons_zero, List.set_cons_succ]
              refine wpAnyH_take (i := 2) (v := .pointer (some ⟨G, 0, none⟩)) rfl (by kernel_rfl) (by kernel_rfl) (by kernel_rfl) (fun _ _ _ h => h) (Or.inl ⟨by rfl, fun wx hSw => by (dsimp only at hSw; go_simp)⟩) (by assumption) ?_
              simp only [Act.put, List.getElem_toArray, List.getElem_cons_succ, List.getElem_cons_zero, List.setIfInBounds_toArray, List.set_cons_zero, List.set_cons_succ]
              refine wpAnyH_take (i := 3) (v := .pointer (some ⟨G, 15, none⟩)) rfl (by kernel_rfl) (by kernel_rfl) (by kernel_rfl) (fun _ _ _ h => h) (Or.inl ⟨by rfl, fun wx hSw => by (dsimp only at hSw; go_simp)⟩) (by assumption) ?_
              simp only [Act.put, List.getElem_toArray, List.getElem_cons_succ, List.getElem_cons_zero, List.setIfInBounds_toArray, List.set_cons_zero, List.set_cons_succ]
              refine wpAnyH_take (i := 5) (v := .pointer (some ⟨G, 0, none⟩)) rfl (by kernel_rfl) (by kernel_rfl) (by kernel_rfl) (fun _ _ _ h => h) (Or.inl ⟨by rfl, fun wx hSw => by (dsimp only at hSw; go_simp)⟩) (by assumption) ?_
              simp only [Act.put, List.getElem_toArray, List.getElem_cons_succ, List.getElem_cons_zero, List.setIfInBounds_toArray, List.set_cons_zero, List.set_cons_succ]
              refine wpAnyH_take (i := 6) (v := .pointer (some ⟨G, 0, none⟩)) rfl (by kernel_rfl) (by kernel_rfl) (by kernel_rfl) (fun _ _ _ h => h) (Or.inl ⟨by rfl, fun wx hSw => by (dsimp only at hSw; go_simp)⟩) (by assumption) ?_
              simp only [Act.put, List.getElem_toArray, List.getElem_cons_succ, List.getElem_cons_zero, List.setIfInBounds_toArray, List.set_cons_zero, List.set_cons_succ]
              refine wpAnyH_take (i := 7) (v := .pointer (some ⟨G, 6, none⟩)) rfl (by kernel_rfl) (by kernel_rfl) (by kernel_rfl) (fun _ _ _ h => h) (Or.inl ⟨by rfl, fun wx hSw => by (dsimp only at hSw; go_simp)⟩) (by assumption) ?_
              simp only [Act.put, List.getElem_toArray, List.getElem_cons_succ, List.getElem_cons_zero, List.setIfInBounds_toArray, List.set_cons_zero, List.set_cons_succ]
              refine wpAnyH_take (i := 8) (v := .pointer (some ⟨G, 9, none⟩)) rfl (by kernel_rfl) (by kernel_rfl) (by kernel_rfl) (fun _ _ _ h => h) (Or.inl ⟨by rfl, fun wx hSw => by (dsimp only at hSw; go_simp)⟩) (by assumption) ?_
              simp only [Act.put, List.getElem_toArray, List.getElem_cons_succ, List.getElem_cons_zero, List.setIfInBounds_toArray, List.set_cons_zero, List.set_cons_succ]
              refine wpAnyH_take (i := 9) (v := .int .i64 y.g.la) rfl (by kernel_rfl) (by kernel_rfl) (by kernel_rfl) (fun _ _ _ h => h) (Or.inl ⟨by rfl, fun wx hSw => by (have hc := hSw.1; go_simp)⟩) (by assumption) ?_
              simp only [Act.put, List.getElem_toArray, List.getElem_cons_succ, List.getElem_cons_zero, List.setIfInBounds_toArray, List.set_cons_zero, List.set_cons_succ]
              refine wpAnyH_take (i := 10) (v := .pointer (some ⟨G, 0, none⟩)) rfl (by kernel_rfl) (by kernel_rfl) (by kernel_rfl) (fun _ _ _ h => h) (Or.inl ⟨by rfl, fun wx hSw => by (dsimp only at hSw; go_simp)⟩) (by assumption) ?_
              simp only [Act.put, List.getElem_toArray, List.getElem_cons_succ, List.getElem_cons_zero, List.setIfInBounds_toArray, List.set_cons_zero, List.set_cons_succ]
              refine wpAnyH_take (i := 11) (v := .pointer (some ⟨G, 0, none⟩)) rfl (by kernel_rfl) (by kernel_rfl) (by kernel_rfl) (fun _ _ _ h => h) (Or.inl ⟨by rfl, fun wx hSw => by (dsimp only at hSw; go_simp)⟩) (by assumption) ?_
              simp only [Act.put, List.getElem_toArray, List.getElem_cons_succ, List.getElem_cons_zero, List.setIfInBounds_toArray, List.set_cons_zero, List.set_cons_succ]
              refine wpAnyH_take (i := 12) (v := .pointer (some ⟨G, 0, none⟩)) rfl (by kernel_rfl) (by kernel_rfl) (by kernel_rfl) (fun _ _ _ h => h) (Or.inl ⟨by rfl, fun wx hSw => by (dsimp only at hSw; go_simp)⟩) (by assumption) ?_
              simp only [Act.put, List.getElem_toArray, List.getElem_cons_succ, List.getElem_cons_zero, List.setIfInBounds_toArray, List.set_cons_zero, List.set_cons_succ]
              refine wpAnyH_take (i := 13) (v := .pointer (some ⟨G, 3, none⟩)) rfl (by kernel_rfl) (by kernel_rfl) (by kernel_rfl) (fun _ _ _ h => h) (Or.inl ⟨by rfl, fun wx hSw => by (dsimp only at hSw; go_simp)⟩) (by assumption) ?_
              simp only [Act.put, List.getElem_toArray, List.getElem_cons_succ, List.getElem_cons_zero, List.setIfInBounds_toArray, List.set_cons_zero, List.set_cons_succ]
              refine wpAnyH_take (i := 14) (v := .int .i64 t.fi) rfl (by kernel_rfl) (by kernel_rfl) (by kernel_rfl) (fun _ _ _ h => h) (Or.inl ⟨by rfl, fun wx hSw => by (have hc := hSw.2; go_simp)⟩) (by assumption) ?_
              simp only [Act.put, List.getElem_toArray, List.getElem_cons_succ, List.getElem_cons_zero, List.setIfInBounds_toArray, List.set_cons_zero, List.set_cons_succ]
              refine wpAnyH_take (i := 15) (v := .int .i64 wt) rfl (by kernel_rfl) (by kernel_rfl) (by kernel_rfl) (fun _ _ _ h => h) (Or.inl ⟨by rfl, fun wx hSw => by (dsimp only at hSw; go_simp)⟩) (by assumption) ?_
              simp only [Act.put, List.getElem_toArray, List.getElem_cons_succ, List.getElem_cons_zero, List.setIfInBounds_toArray, List.set_cons_zero, List.set_cons_succ]
              refine wpAnyH_take (i := 16) (v := .int .i64 (t.fi * wt)) rfl (by kernel_rfl) (by kernel_rfl) (by kernel_rfl) (fun _ _ _ h => h) (Or.inl ⟨by rfl, fun wx hSw => by (dsimp only at hSw; go_simp)⟩) (by assumption) ?_
              simp only [Act.put, List.getElem_toArray, List.getElem_cons_succ, List.getElem_cons_zero, List.setIfInBounds_toArray, List.set_cons_zero, List.set_cons_succ]
              refine wpAnyH_ready (rs := [4]) (by kernel_rfl) (by simp) ?_
              refine AllReadyH.cons rfl (fun K hK => ?_) AllReadyH.nil
              go_simp
              refine hK.out _ _ hHeld (fun _ => ?_)
              clear hK K
              refine wpAnyH_ready (rs := [17]) (by kernel_rfl) (by simp) ?_
              refine AllReadyH.cons rfl (fun K hK => ?_) AllReadyH.nil
              go_simp
              refine (plus_long hD5.drew.l2 hD5.drew.lt y.g.la (t.fi * wt) n7' n8' n3' (by omega) n10').mono ?_
              rintro e wp2 ⟨r2, rfl, hl, hb⟩
              obtain ⟨r2p, r2n, r2c, rfl⟩ := hl.slice
              go_wp2_with fail
              have hDb := hD5.drew.below hb
              have f1 := hDb.cell 15 (by decide) (v := fv) (fun _ => rfl)
              have f2 := f1.1
              have f3 := f1.2
              have f4 := (hDb.cell 9 (by decide) (v := .int .i64 y.g.la) (fun _ => rfl)).1
              have f5 := (hDb.cell 3 (by decide) (v := .int .i64 t.fi) (fun _ => rfl)).1
              refine hK.out _ _ ⟨f4, f5⟩ (fun hHeld2 => ?_)
              clear hK K hHeld d1 d2 d3 f1
              have hD7 := hDb.set15 _ _ hl
              refine wpAnyH_take (i := 18) (v := .pointer (some ⟨G, 0, none⟩)) rfl (by kernel_rfl) (by kernel_rfl) (by kernel_rfl) (fun _ _ _ h => h) (Or.inl ⟨by rfl, fun wx hSw => by (dsimp only at hSw; go_simp)⟩) (by assumption) ?_
              simp only [Act.put, List.getElem_toArray, List.getElem_cons_succ, List.getElem_cons_zero, List.setIfInBounds_toArray, List.set_cons_zero, List.set_cons_succ]
              refine wpAnyH_take (i := 19) (v := .pointer (some ⟨G, 15, none⟩)) rfl (by kernel_rfl) (by kernel_rfl) (by kernel_rfl) (fun _ _ _ h => h) (Or.inl ⟨by rfl, fun wx hSw => by (dsimp only at hSw; go_simp)⟩) (by assumption) ?_
              simp only [Act.put, List.getElem_toArray, List.getElem_cons_succ, List.getElem_cons_zero, List.setIfInBounds_toArray, List.set_cons_zero, List.set_cons_succ]
              refine wpAnyH_ready (rs := [20]) (by kernel_rfl) (by simp) ?_
              refine AllReadyH.cons rfl (fun K hK => ?_) AllReadyH.nil
              go_simp
              have f6 := (hD7.cell 9 (by decide) (v := .int .i64 y.g.la) (fun _ => rfl)).1
              have f7 := (hD7.cell 3 (by decide) (v := .int .i64 t.fi) (fun _ => rfl)).1
              refine hK.out _ _ ⟨f6, f7⟩ (fun _ => ?_)
              clear hK K hHeld2 f2 f3 f4 f5 f6 f7 hDb hl hb
              generalize wp2.setCell ⟨G, 15, none⟩ (.slice r2p r2n r2c) = ws2 at *
              refine wpAnyH_done (by kernel_rfl) ?_ _
              obtain ⟨k11, kf1, k12, kf2⟩ := HC2.out
              have z1 : 0 ≤ g.ea / 1000000 / Ln.year t := Int.ediv_nonneg (Int.ediv_nonneg HEV.out.nn (by decide)) (by omega)
              have z2 : 0 ≤ (g.ea + y.g.pr * (y.g.rt * wt)) / 1000000 / Ln.year t := Int.ediv_nonneg (Int.ediv_nonneg hD7.l1.nn (by decide)) (by omega)
              have z3 : 0 ≤ g.fn / 1000000 / Ln.year t := Int.ediv_nonneg (Int.ediv_nonneg HFV.out.nn (by decide)) (by omega)
              have z4 : 0 ≤ (g.fn + y.g.la * (t.fi * wt)) / 1000000 / Ln.year t := Int.ediv_nonneg (Int.ediv_nonneg hD7.l2.nn (by decide)) (by omega)
              have g14 := (hD7.cell 14 (by decide) (v := .slice r1p r1n r1c) (fun _ => rfl)).1
              go_wp2_with fail
              refine (part_long hD7.l1 (Ln.year t) (by omega) (by omega) b2').mono ?_
              rintro e wq3 ⟨rfl, rfl⟩
              clear g14
              have hE1 := hD7.enter 11 ((g.ea + y.g.pr * (y.g.rt * wt)) / 1000000 / Ln.year t - g.ea / 1000000 / Ln.year t) kf1 k11
              have hE2 : ∀ W : World, DayW S w G t (Ln.enter y 11 ((g.ea + y.g.pr * (y.g.rt * wt)) / 1000000 / Ln.year t - g.ea / 1000000 / Ln.year t)) dy (.slice r1p r1n r1c) (.slice r2p r2n r2c) (g.ea + y.g.pr * (y.g.rt * wt)) (g.fn + y.g.la * (t.fi * wt)) W → Calls Tryz.prog 119 #[.pointer (some ⟨G, 0, none⟩), .int .i64 12, .int .i64 ((g.fn + y.g.la * (t.fi * wt)) / 1000000 / Ln.year t - g.fn / 1000000 / Ln.year t)] W fun e w' => e = .returned (.tuple #[]) ∧ DayW S w G t (Ln.enter (Ln.enter y 11 ((g.ea + y.g.pr * (y.g.rt * wt)) / 1000000 / Ln.year t - g.ea / 1000000 / Ln.year t)) 12 ((g.fn + y.g.la * (t.fi * wt)) / 1000000 / Ln.year t - g.fn / 1000000 / Ln.year t)) dy (.slice r1p r1n r1c) (.slice r2p r2n r2c) (g.ea + y.g.pr * (y.g.rt * wt)) (g.fn + y.g.la * (t.fi * wt)) w' :=
                fun W hW => hW.enter 12 ((g.fn + y.g.la * (t.fi * wt)) / 1000000 / Ln.year t - g.fn / 1000000 / Ln.year t) kf2 k12
              clear k11 kf1 k12 kf2 hD7 HN HQ HC2 HEV HFV n1' n2' n3' n4' n5' n6' n7' n8' n9' n10' hwr hwf
              go_wp2_with fail
              refine hE1.mono ?_
              rintro e w8 ⟨rfl, hD8⟩
              clear hE1
              have g15 := (hD8.cell 15 (by decide) (v := .slice r2p r2n r2c) (fun _ => rfl)).1
              go_wp2_with fail
              refine (part_long hD8.l2 (Ln.year t) (by omega) (by omega) b4').mono ?_
              rintro e wq4 ⟨rfl, rfl⟩
              clear g15
              have hE3 := hE2 _ hD8
              clear hE2 hD8
              go_wp2_with fail
              refine hE3.mono ?_
              rintro e w9 ⟨rfl, hD9⟩
              clear hE3
              go_wp2
              go_end0
              rw [HYY.out]
              exact ⟨rfl, _, _, hD9⟩
end Go.Proofs.YtanndhoimpnhpaaGreatDoor
