/- Joined by program: PrH, PrI, PrJ0, Dy, PrJ. -/
import Derived.Test.YtanndhoimpnhpaaGreatDoorM4
import Derived.Test.YtanndhoimpnhpaaGreatDoorM3
import Derived.WalkSmall
import Derived.Deep.RegionHeld3
import Derived.Test.YtanndhoimpnhpaaGreatDoorM2
import Derived.Test.YtanndhoimpnhpaaGreatDoorM1
import Derived.Deep.CutRange
namespace Go.Proofs.YtanndhoimpnhpaaGreatDoor
open Go.RowKit Cal
theorem year_any (t : Ln.Terms) (w : World) :
    Calls Tryz.prog 113 #[.int .i64 t.ba] w fun e w' => e = .returned (.int .i64 (Ln.year t)) ∧ w' = w := by
  unfold Ln.year
  by_cases hb : t.ba = 1
  · rw [if_pos hb]
    go_enter Tryz.func113, Tryz.ntmps113
    go_wp2
    go_ret
    exact ⟨rfl, rfl⟩
  · rw [if_neg hb]
    go_enter Tryz.func113, Tryz.ntmps113
    go_wp2
    go_ret
    exact ⟨rfl, rfl⟩
theorem weight_day (b n : Int) (w : World) (n0 : 0 ≤ n) (n1 : n ≤ 109572) :
    Calls Tryz.prog 112 #[.int .i64 b, .int .i64 n, .int .i64 (n + 1)] w fun e w' => e = .returned (.int .i64 (wtOf b n)) ∧ Below w.heap.size w w' := by
  refine (weight_any b n (n + 1) w n0 (by omega) (by omega) (by omega)).mono ?_
  rintro e w' ⟨v, rfl, h3, h1, hb⟩
  refine ⟨?_, hb⟩
  by_cases e3 : b = 3
  · obtain ⟨p, q, hp, hq, rfl⟩ := h3 e3
    rw [e3, wtOf_three n0 n1 hp hq]
  · rw [h1 e3, wtOf_one n e3, show n + 1 - n = 1 by omega]
theorem keep1 {w W W' : World} {P : Nat} {a b : Value} (hb : Below W.heap.size W W')
    (h : W.cell? ⟨P, 4, none⟩ = some a ∧ W.cell? ⟨P, 6, none⟩ = some b ∧ Below w.heap.size w W) :
    W'.cell? ⟨P, 4, none⟩ = some a ∧ W'.cell? ⟨P, 6, none⟩ = some b ∧ Below w.heap.size w W' := by
  obtain ⟨h1, h2, h4⟩ := h
  have hl := World.block_lt_of_cell? _ _ h1
  exact ⟨(hb.cell (p := ⟨P, 4, none⟩) hl).trans h1, (hb.cell (p := ⟨P, 6, none⟩) hl).trans h2, h4.trans (hb.mono h4.size)⟩
set_option maxRecDepth 10000 in
set_option maxHeartbeats 2000000 in
theorem pend_core (w : World) (P : Nat) (ba n wt yr pr rt q1 la fi q2 e1 r1 e2 r2 : Int) (n0 : 0 ≤ n) (n1 : n ≤ 109572)
    (c3 : w.cell? ⟨P, 3, none⟩ = some (.int .i64 fi)) (c4 : w.cell? ⟨P, 4, none⟩ = some (.int .i64 ba)) (c6 : w.cell? ⟨P, 6, none⟩ = some (.int .i64 n)) (c8 : w.cell? ⟨P, 8, none⟩ = some (.int .i64 pr)) (c11 : w.cell? ⟨P, 11, none⟩ = some (.int .i64 la)) (c16 : w.cell? ⟨P, 16, none⟩ = some (.int .i64 rt))
    (c18 : w.cell? ⟨P, 18, none⟩ = some (.int .u64 q1)) (z18 : w.frozen? ⟨P, 18, none⟩ = false) (c19 : w.cell? ⟨P, 19, none⟩ = some (.int .u64 q2)) (z19 : w.frozen? ⟨P, 19, none⟩ = false)
    (rw0 : 0 ≤ rt * wt) (rw1 : rt * wt ≤ 3000000) (fw0 : 0 ≤ fi * wt) (fw1 : fi * wt ≤ 3000000)
    (hW : ∀ W : World, Calls Tryz.prog 112 #[.int .i64 ba, .int .i64 n, .int .i64 (n + 1)] W fun e w' => e = .returned (.int .i64 wt) ∧ Below W.heap.size W w')
    (hY : ∀ W : World, Calls Tryz.prog 113 #[.int .i64 ba] W fun e w' => e = .returned (.int .i64 yr) ∧ w' = W)
    (hP1 : ∀ W : World, Calls Tryz.prog 114 #[.int .i64 pr, .int .i64 (rt * wt), .int .i64 yr, .int .u64 q1] W fun e w' => e = .returned (.tuple #[.int .i64 e1, .int .u64 r1]) ∧ ∃ n, w' = W.drewN n)
    (hP2 : ∀ W : World, Calls Tryz.prog 114 #[.int .i64 la, .int .i64 (fi * wt), .int .i64 yr, .int .u64 q2] W fun e w' => e = .returned (.tuple #[.int .i64 e2, .int .u64 r2]) ∧ ∃ n, w' = W.drewN n)
    (Fin : World → Prop) (hF : ∀ (W : World) (k1 : Nat) (V : World) (k2 : Nat), Below w.heap.size w W → V = (W.drewN k1).setCell ⟨P, 18, none⟩ (.int .u64 r1) → Calls Tryz.prog 105 #[.pointer (some ⟨P, 0, none⟩), .int .i64 11, .int .i64 e1] ((V.drewN k2).setCell ⟨P, 19, none⟩ (.int .u64 r2)) fun e w1 => e = .returned (.tuple #[]) ∧ Calls Tryz.prog 105 #[.pointer (some ⟨P, 0, none⟩), .int .i64 12, .int .i64 e2] w1 fun e w2 => e = .returned (.tuple #[]) ∧ Fin w2) :
    Calls Tryz.prog 80 #[.pointer (some ⟨P, 0, none⟩)] w fun e w' => e = .returned (.tuple #[]) ∧ Fin w' := by
  have hB0 : Below w.heap.size w w.drew := (Below.refl _ _).drew
  have hwn : IntKind.i64.wrap (n + 1) = n + 1 := by rw [IntKind.wrap_i64]; omega
  have hwr : IntKind.i64.wrap (rt * wt) = rt * wt := by rw [IntKind.wrap_i64]; omega
  have hwf : IntKind.i64.wrap (fi * wt) = fi * wt := by rw [IntKind.wrap_i64]; omega
  go_enter Tryz.func80, Tryz.ntmps80
  go_wp2_with fail
  refine wp_region_held_drew (S := fun w' => w'.cell? ⟨P, 4, none⟩ = some (.int .i64 ba) ∧ w'.cell? ⟨P, 6, none⟩ = some (.int .i64 n) ∧ Below w.heap.size w w') (by kernel_rfl) ⟨c4, c6, hB0⟩ (fun hHeld => ?_)
  refine wpAnyH_take (i := 0) (v := .pointer (some ⟨P, 0, none⟩)) rfl (by kernel_rfl) (by kernel_rfl) (by kernel_rfl) (fun _ _ _ h => h) (Or.inl ⟨by rfl, fun wx hSw => by (dsimp only at hSw; go_simp)⟩) (by assumption) ?_
  simp only [Act.put, List.getElem_toArray, List.getElem_cons_zero, List.setIfInBounds_toArray, List.set_cons_zero, List.set_cons_succ]
  refine wpAnyH_take (i := 1) (v := .pointer (some ⟨P, 0, none⟩)) rfl (by kernel_rfl) (by kernel_rfl) (by kernel_rfl) (fun _ _ _ h => h) (Or.inl ⟨by rfl, fun wx hSw => by (dsimp only at hSw; go_simp)⟩) (by assumption) ?_
  simp only [Act.put, List.getElem_toArray, List.getElem_cons_succ, List.getElem_cons_zero, List.setIfInBounds_toArray, List.set_cons_zero, List.set_cons_succ]
  refine wpAnyH_take (i := 2) (v := .pointer (some ⟨P, 0, none⟩)) rfl (by kernel_rfl) (by kernel_rfl) (by kernel_rfl) (fun _ _ _ h => h) (Or.inl ⟨by rfl, fun wx hSw => by (dsimp only at hSw; go_simp)⟩) (by assumption) ?_
  simp only [Act.put, List.getElem_toArray, List.getElem_cons_succ, List.getElem_cons_zero, List.setIfInBounds_toArray, List.set_cons_zero, List.set_cons_succ]
  refine wpAnyH_take (i := 3) (v := .pointer (some ⟨P, 4, none⟩)) rfl (by kernel_rfl) (by kernel_rfl) (by kernel_rfl) (fun _ _ _ h => h) (Or.inl ⟨by rfl, fun wx hSw => by (dsimp only at hSw; go_simp)⟩) (by assumption) ?_
  simp only [Act.put, List.getElem_toArray, List.getElem_cons_succ, List.getElem_cons_zero, List.setIfInBounds_toArray, List.set_cons_zero, List.set_cons_succ]
  refine wpAnyH_take (i := 4) (v := .int .i64 ba) rfl (by kernel_rfl) (by kernel_rfl) (by kernel_rfl) (fun _ _ _ h => h) (Or.inl ⟨by rfl, fun wx hSw => by (dsimp only at hSw; go_simp)⟩) (by assumption) ?_
  simp only [Act.put, List.getElem_toArray, List.getElem_cons_succ, List.getElem_cons_zero, List.setIfInBounds_toArray, List.set_cons_zero, List.set_cons_succ]
  refine wpAnyH_take (i := 5) (v := .pointer (some ⟨P, 0, none⟩)) rfl (by kernel_rfl) (by kernel_rfl) (by kernel_rfl) (fun _ _ _ h => h) (Or.inl ⟨by rfl, fun wx hSw => by (dsimp only at hSw; go_simp)⟩) (by assumption) ?_
  simp only [Act.put, List.getElem_toArray, List.getElem_cons_succ, List.getElem_cons_zero, List.setIfInBounds_toArray, List.set_cons_zero, List.set_cons_succ]
  refine wpAnyH_take (i := 6) (v := .pointer (some ⟨P, 0, none⟩)) rfl (by kernel_rfl) (by kernel_rfl) (by kernel_rfl) (fun _ _ _ h => h) (Or.inl ⟨by rfl, fun wx hSw => by (dsimp only at hSw; go_simp)⟩) (by assumption) ?_
  simp only [Act.put, List.getElem_toArray, List.getElem_cons_succ, List.getElem_cons_zero, List.setIfInBounds_toArray, List.set_cons_zero, List.set_cons_succ]
  refine wpAnyH_take (i := 7) (v := .pointer (some ⟨P, 6, none⟩)) rfl (by kernel_rfl) (by kernel_rfl) (by kernel_rfl) (fun _ _ _ h => h) (Or.inl ⟨by rfl, fun wx hSw => by (dsimp only at hSw; go_simp)⟩) (by assumption) ?_
  simp only [Act.put, List.getElem_toArray, List.getElem_cons_succ, List.getElem_cons_zero, List.setIfInBounds_toArray, List.set_cons_zero, List.set_cons_succ]
  refine wpAnyH_take (i := 8) (v := .int .i64 n) rfl (by kernel_rfl) (by kernel_rfl) (by kernel_rfl) (fun _ _ _ h => h) (Or.inl ⟨by rfl, fun wx hSw => by (dsimp only at hSw; go_simp)⟩) (by assumption) ?_
  simp only [Act.put, List.getElem_toArray, List.getElem_cons_succ, List.getElem_cons_zero, List.setIfInBounds_toArray, List.set_cons_zero, List.set_cons_succ]
  refine wpAnyH_take (i := 9) (v := .pointer (some ⟨P, 0, none⟩)) rfl (by kernel_rfl) (by kernel_rfl) (by kernel_rfl) (fun _ _ _ h => h) (Or.inl ⟨by rfl, fun wx hSw => by (dsimp only at hSw; go_simp)⟩) (by assumption) ?_
  simp only [Act.put, List.getElem_toArray, List.getElem_cons_succ, List.getElem_cons_zero, List.setIfInBounds_toArray, List.set_cons_zero, List.set_cons_succ]
  refine wpAnyH_take (i := 10) (v := .pointer (some ⟨P, 0, none⟩)) rfl (by kernel_rfl) (by kernel_rfl) (by kernel_rfl) (fun _ _ _ h => h) (Or.inl ⟨by rfl, fun wx hSw => by (dsimp only at hSw; go_simp)⟩) (by assumption) ?_
  simp only [Act.put, List.getElem_toArray, List.getElem_cons_succ, List.getElem_cons_zero, List.setIfInBounds_toArray, List.set_cons_zero, List.set_cons_succ]
  refine wpAnyH_take (i := 11) (v := .pointer (some ⟨P, 6, none⟩)) rfl (by kernel_rfl) (by kernel_rfl) (by kernel_rfl) (fun _ _ _ h => h) (Or.inl ⟨by rfl, fun wx hSw => by (dsimp only at hSw; go_simp)⟩) (by assumption) ?_
  simp only [Act.put, List.getElem_toArray, List.getElem_cons_succ, List.getElem_cons_zero, List.setIfInBounds_toArray, List.set_cons_zero, List.set_cons_succ]
  refine wpAnyH_take (i := 12) (v := .int .i64 n) rfl (by kernel_rfl) (by kernel_rfl) (by kernel_rfl) (fun _ _ _ h => h) (Or.inl ⟨by rfl, fun wx hSw => by (dsimp only at hSw; go_simp)⟩) (by assumption) ?_
  simp only [Act.put, List.getElem_toArray, List.getElem_cons_succ, List.getElem_cons_zero, List.setIfInBounds_toArray, List.set_cons_zero, List.set_cons_succ]
  refine wpAnyH_take (i := 13) (v := .int .i64 (n + 1)) rfl (by kernel_rfl) (by kernel_rfl) (by kernel_rfl) (fun _ _ _ h => h) (Or.inl ⟨by rfl, fun wx hSw => by (dsimp only at hSw; go_simp)⟩) (by assumption) ?_
  simp only [Act.put, List.getElem_toArray, List.getElem_cons_succ, List.getElem_cons_zero, List.setIfInBounds_toArray, List.set_cons_zero, List.set_cons_succ]
  refine wpAnyH_ready (rs := [14]) (by kernel_rfl) (by simp) ?_
  refine AllReadyH.cons rfl (fun K hK => ?_) AllReadyH.nil
  go_simp
  refine (hW _).mono ?_
  rintro e w' ⟨rfl, hb'⟩
  go_wp2_with fail
  refine hK.out _ _ (keep1 hb' hHeld) (fun hHeld2 => ?_)
  clear hK K hHeld hb'
  refine wpAnyH_take (i := 15) (v := .int .i64 wt) rfl (by kernel_rfl) (by kernel_rfl) (by kernel_rfl) (fun _ _ _ h => h) (Or.inl ⟨by rfl, fun wx hSw => by (dsimp only at hSw; go_simp)⟩) (by assumption) ?_
  simp only [Act.put, List.getElem_toArray, List.getElem_cons_succ, List.getElem_cons_zero, List.setIfInBounds_toArray, List.set_cons_zero, List.set_cons_succ]
  refine wpAnyH_done (by kernel_rfl) ?_ _
  have hbw := hHeld2.2.2
  have hl := World.block_lt_of_cell? _ _ c4
  have d3 := (hbw.cell (p := ⟨P, 3, none⟩) hl).trans c3
  have d4 := (hbw.cell (p := ⟨P, 4, none⟩) hl).trans c4
  have d8 := (hbw.cell (p := ⟨P, 8, none⟩) hl).trans c8
  have d11 := (hbw.cell (p := ⟨P, 11, none⟩) hl).trans c11
  have d16 := (hbw.cell (p := ⟨P, 16, none⟩) hl).trans c16
  have d18 := (hbw.cell (p := ⟨P, 18, none⟩) hl).trans c18
  have d19 := (hbw.cell (p := ⟨P, 19, none⟩) hl).trans c19
  have y18 := (hbw.frozen (p := ⟨P, 18, none⟩) hl).trans z18
  have y19 := (hbw.frozen (p := ⟨P, 19, none⟩) hl).trans z19
  have hF2 := fun k1 V k2 h => hF w' k1 V k2 hbw h
  clear hF hHeld2 c3 c4 c6 c8 c11 c16 c18 c19 z18 z19 hB0 hW
  go_wp2_with fail
  refine (hY _).mono ?_
  rintro e w2 ⟨rfl, rfl⟩
  clear hY
  go_wp2_with fail
  refine wp_region_held_drew (S := fun wx => wx.cell? ⟨P, 8, none⟩ = some (.int .i64 pr) ∧ wx.cell? ⟨P, 16, none⟩ = some (.int .i64 rt) ∧ wx.cell? ⟨P, 18, none⟩ = some (.int .u64 q1) ∧ ∃ k, wx = w2.drewN k) (by kernel_rfl) ⟨d8, d16, d18, 1, rfl⟩ (fun hHeld => ?_)
  refine wpAnyH_take (i := 0) (v := .pointer (some ⟨P, 7, none⟩)) rfl (by kernel_rfl) (by kernel_rfl) (by kernel_rfl) (fun _ _ _ h => h) (Or.inl ⟨by rfl, fun wx hSw => by (dsimp only at hSw; go_simp)⟩) (by assumption) ?_
  simp only [Act.put, List.getElem_toArray, List.getElem_cons_zero, List.setIfInBounds_toArray, List.set_cons_zero, List.set_cons_succ]
  refine wpAnyH_take (i := 1) (v := .pointer (some ⟨P, 7, none⟩)) rfl (by kernel_rfl) (by kernel_rfl) (by kernel_rfl) (fun _ _ _ h => h) (Or.inl ⟨by rfl, fun wx hSw => by (dsimp only at hSw; go_simp)⟩) (by assumption) ?_
  simp only [Act.put, List.getElem_toArray, List.getElem_cons_succ, List.getElem_cons_zero, List.setIfInBounds_toArray, List.set_cons_zero, List.set_cons_succ]
  refine wpAnyH_take (i := 2) (v := .pointer (some ⟨P, 7, none⟩)) rfl (by kernel_rfl) (by kernel_rfl) (by kernel_rfl) (fun _ _ _ h => h) (Or.inl ⟨by rfl, fun wx hSw => by (dsimp only at hSw; go_simp)⟩) (by assumption) ?_
  simp only [Act.put, List.getElem_toArray, List.getElem_cons_succ, List.getElem_cons_zero, List.setIfInBounds_toArray, List.set_cons_zero, List.set_cons_succ]
  refine wpAnyH_take (i := 3) (v := .pointer (some ⟨P, 8, none⟩)) rfl (by kernel_rfl) (by kernel_rfl) (by kernel_rfl) (fun _ _ _ h => h) (Or.inl ⟨by rfl, fun wx hSw => by (dsimp only at hSw; go_simp)⟩) (by assumption) ?_
  simp only [Act.put, List.getElem_toArray, List.getElem_cons_succ, List.getElem_cons_zero, List.setIfInBounds_toArray, List.set_cons_zero, List.set_cons_succ]
  refine wpAnyH_take (i := 4) (v := .int .i64 pr) rfl (by kernel_rfl) (by kernel_rfl) (by kernel_rfl) (fun _ _ _ h => h) (Or.inl ⟨by rfl, fun wx hSw => by (dsimp only at hSw; go_simp)⟩) (by assumption) ?_
  simp only [Act.put, List.getElem_toArray, List.getElem_cons_succ, List.getElem_cons_zero, List.setIfInBounds_toArray, List.set_cons_zero, List.set_cons_succ]
  refine wpAnyH_take (i := 5) (v := .pointer (some ⟨P, 7, none⟩)) rfl (by kernel_rfl) (by kernel_rfl) (by kernel_rfl) (fun _ _ _ h => h) (Or.inl ⟨by rfl, fun wx hSw => by (dsimp only at hSw; go_simp)⟩) (by assumption) ?_
  simp only [Act.put, List.getElem_toArray, List.getElem_cons_succ, List.getElem_cons_zero, List.setIfInBounds_toArray, List.set_cons_zero, List.set_cons_succ]
  refine wpAnyH_take (i := 6) (v := .pointer (some ⟨P, 7, none⟩)) rfl (by kernel_rfl) (by kernel_rfl) (by kernel_rfl) (fun _ _ _ h => h) (Or.inl ⟨by rfl, fun wx hSw => by (dsimp only at hSw; go_simp)⟩) (by assumption) ?_
  simp only [Act.put, List.getElem_toArray, List.getElem_cons_succ, List.getElem_cons_zero, List.setIfInBounds_toArray, List.set_cons_zero, List.set_cons_succ]
  refine wpAnyH_take (i := 7) (v := .pointer (some ⟨P, 16, none⟩)) rfl (by kernel_rfl) (by kernel_rfl) (by kernel_rfl) (fun _ _ _ h => h) (Or.inl ⟨by rfl, fun wx hSw => by (dsimp only at hSw; go_simp)⟩) (by assumption) ?_
  simp only [Act.put, List.getElem_toArray, List.getElem_cons_succ, List.getElem_cons_zero, List.setIfInBounds_toArray, List.set_cons_zero, List.set_cons_succ]
  refine wpAnyH_take (i := 8) (v := .int .i64 rt) rfl (by kernel_rfl) (by kernel_rfl) (by kernel_rfl) (fun _ _ _ h => h) (Or.inl ⟨by rfl, fun wx hSw => by (dsimp only at hSw; go_simp)⟩) (by assumption) ?_
  simp only [Act.put, List.getElem_toArray, List.getElem_cons_succ, List.getElem_cons_zero, List.setIfInBounds_toArray, List.set_cons_zero, List.set_cons_succ]
  refine wpAnyH_take (i := 9) (v := .int .i64 wt) rfl (by kernel_rfl) (by kernel_rfl) (by kernel_rfl) (fun _ _ _ h => h) (Or.inl ⟨by rfl, fun wx hSw => by (dsimp only at hSw; go_simp)⟩) (by assumption) ?_
  simp only [Act.put, List.getElem_toArray, List.getElem_cons_succ, List.getElem_cons_zero, List.setIfInBounds_toArray, List.set_cons_zero, List.set_cons_succ]
  refine wpAnyH_take (i := 10) (v := .int .i64 (rt * wt)) rfl (by kernel_rfl) (by kernel_rfl) (by kernel_rfl) (fun _ _ _ h => h) (Or.inl ⟨by rfl, fun wx hSw => by (dsimp only at hSw; go_simp)⟩) (by assumption) ?_
  simp only [Act.put, List.getElem_toArray, List.getElem_cons_succ, List.getElem_cons_zero, List.setIfInBounds_toArray, List.set_cons_zero, List.set_cons_succ]
  refine wpAnyH_take (i := 11) (v := .int .i64 yr) rfl (by kernel_rfl) (by kernel_rfl) (by kernel_rfl) (fun _ _ _ h => h) (Or.inl ⟨by rfl, fun wx hSw => by (dsimp only at hSw; go_simp)⟩) (by assumption) ?_
  simp only [Act.put, List.getElem_toArray, List.getElem_cons_succ, List.getElem_cons_zero, List.setIfInBounds_toArray, List.set_cons_zero, List.set_cons_succ]
  refine wpAnyH_take (i := 12) (v := .pointer (some ⟨P, 7, none⟩)) rfl (by kernel_rfl) (by kernel_rfl) (by kernel_rfl) (fun _ _ _ h => h) (Or.inl ⟨by rfl, fun wx hSw => by (dsimp only at hSw; go_simp)⟩) (by assumption) ?_
  simp only [Act.put, List.getElem_toArray, List.getElem_cons_succ, List.getElem_cons_zero, List.setIfInBounds_toArray, List.set_cons_zero, List.set_cons_succ]
  refine wpAnyH_take (i := 13) (v := .pointer (some ⟨P, 7, none⟩)) rfl (by kernel_rfl) (by kernel_rfl) (by kernel_rfl) (fun _ _ _ h => h) (Or.inl ⟨by rfl, fun wx hSw => by (dsimp only at hSw; go_simp)⟩) (by assumption) ?_
  simp only [Act.put, List.getElem_toArray, List.getElem_cons_succ, List.getElem_cons_zero, List.setIfInBounds_toArray, List.set_cons_zero, List.set_cons_succ]
  refine wpAnyH_take (i := 14) (v := .pointer (some ⟨P, 18, none⟩)) rfl (by kernel_rfl) (by kernel_rfl) (by kernel_rfl) (fun _ _ _ h => h) (Or.inl ⟨by rfl, fun wx hSw => by (dsimp only at hSw; go_simp)⟩) (by assumption) ?_
  simp only [Act.put, List.getElem_toArray, List.getElem_cons_succ, List.getElem_cons_zero, List.setIfInBounds_toArray, List.set_cons_zero, List.set_cons_succ]
  refine wpAnyH_take (i := 15) (v := .int .u64 q1) rfl (by kernel_rfl) (by kernel_rfl) (by kernel_rfl) (fun _ _ _ h => h) (Or.inl ⟨by rfl, fun wx hSw => by (dsimp only at hSw; go_simp)⟩) (by assumption) ?_
  simp only [Act.put, List.getElem_toArray, List.getElem_cons_succ, List.getElem_cons_zero, List.setIfInBounds_toArray, List.set_cons_zero, List.set_cons_succ]
  refine wpAnyH_ready (rs := [16]) (by kernel_rfl) (by simp) ?_
  refine AllReadyH.cons rfl (fun K hK => ?_) AllReadyH.nil
  go_simp
  refine (hP1 _).mono ?_
  rintro e w3 ⟨rfl, k1, rfl⟩
  go_wp2_with fail
  refine hK.out _ _ ⟨d8, d16, d18, 1 + k1, rfl⟩ (fun hHeld2 => ?_)
  clear hK K hHeld
  refine wpAnyH_take (i := 17) (v := .tuple #[.int .i64 e1, .int .u64 r1]) rfl (by kernel_rfl) (by kernel_rfl) (by kernel_rfl) (fun _ _ _ h => h) (Or.inl ⟨by rfl, fun wx hSw => by (dsimp only at hSw; go_simp)⟩) (by assumption) ?_
  simp only [Act.put, List.getElem_toArray, List.getElem_cons_succ, List.getElem_cons_zero, List.setIfInBounds_toArray, List.set_cons_zero, List.set_cons_succ]
  refine wpAnyH_take (i := 18) (v := .int .i64 e1) rfl (by kernel_rfl) (by kernel_rfl) (by kernel_rfl) (fun _ _ _ h => h) (Or.inl ⟨by rfl, fun wx hSw => by (dsimp only at hSw; go_simp)⟩) (by assumption) ?_
  simp only [Act.put, List.getElem_toArray, List.getElem_cons_succ, List.getElem_cons_zero, List.setIfInBounds_toArray, List.set_cons_zero, List.set_cons_succ]
  refine wpAnyH_take (i := 19) (v := .int .u64 r1) rfl (by kernel_rfl) (by kernel_rfl) (by kernel_rfl) (fun _ _ _ h => h) (Or.inl ⟨by rfl, fun wx hSw => by (dsimp only at hSw; go_simp)⟩) (by assumption) ?_
  simp only [Act.put, List.getElem_toArray, List.getElem_cons_succ, List.getElem_cons_zero, List.setIfInBounds_toArray, List.set_cons_zero, List.set_cons_succ]
  refine wpAnyH_take (i := 20) (v := .int .i64 e1) rfl (by kernel_rfl) (by kernel_rfl) (by kernel_rfl) (fun _ _ _ h => h) (Or.inl ⟨by rfl, fun wx hSw => by (dsimp only at hSw; go_simp)⟩) (by assumption) ?_
  simp only [Act.put, List.getElem_toArray, List.getElem_cons_succ, List.getElem_cons_zero, List.setIfInBounds_toArray, List.set_cons_zero, List.set_cons_succ]
  refine wpAnyH_take (i := 21) (v := .int .u64 r1) rfl (by kernel_rfl) (by kernel_rfl) (by kernel_rfl) (fun _ _ _ h => h) (Or.inl ⟨by rfl, fun wx hSw => by (dsimp only at hSw; go_simp)⟩) (by assumption) ?_
  simp only [Act.put, List.getElem_toArray, List.getElem_cons_succ, List.getElem_cons_zero, List.setIfInBounds_toArray, List.set_cons_zero, List.set_cons_succ]
  refine wpAnyH_done (by kernel_rfl) ?_ _
  clear hHeld2 hP1
  go_wp2_with fail
  have v3 : ((w2.drewN (1 + k1)).setCell ⟨P, 18, none⟩ (.int .u64 r1)).cell? ⟨P, 3, none⟩ = some (.int .i64 fi) := by rw [World.cell?_setCell_other _ _ _ _ (by simp)]; exact d3
  have v11 : ((w2.drewN (1 + k1)).setCell ⟨P, 18, none⟩ (.int .u64 r1)).cell? ⟨P, 11, none⟩ = some (.int .i64 la) := by rw [World.cell?_setCell_other _ _ _ _ (by simp)]; exact d11
  have v19 : ((w2.drewN (1 + k1)).setCell ⟨P, 18, none⟩ (.int .u64 r1)).cell? ⟨P, 19, none⟩ = some (.int .u64 q2) := by rw [World.cell?_setCell_other _ _ _ _ (by simp)]; exact d19
  have u19 : ((w2.drewN (1 + k1)).setCell ⟨P, 18, none⟩ (.int .u64 r1)).frozen? ⟨P, 19, none⟩ = false := by rw [World.frozen?_setCell]; exact y19
  have hF3 := fun k2 => hF2 (1 + k1) _ k2 rfl
  clear hF2 d3 d4 d8 d11 d16 d18 d19 y18 y19 hbw
  generalize (w2.drewN (1 + k1)).setCell ⟨P, 18, none⟩ (.int .u64 r1) = V at *
  refine wp_region_held_drew (S := fun wx => wx.cell? ⟨P, 11, none⟩ = some (.int .i64 la) ∧ wx.cell? ⟨P, 3, none⟩ = some (.int .i64 fi) ∧ wx.cell? ⟨P, 19, none⟩ = some (.int .u64 q2) ∧ ∃ k, wx = V.drewN k) (by kernel_rfl) ⟨v11, v3, v19, 1, rfl⟩ (fun hHeld => ?_)
  refine wpAnyH_take (i := 0) (v := .pointer (some ⟨P, 7, none⟩)) rfl (by kernel_rfl) (by kernel_rfl) (by kernel_rfl) (fun _ _ _ h => h) (Or.inl ⟨by rfl, fun wx hSw => by (dsimp only at hSw; go_simp)⟩) (by assumption) ?_
  simp only [Act.put, List.getElem_toArray, List.getElem_cons_zero, List.setIfInBounds_toArray, List.set_cons_zero, List.set_cons_succ]
  refine wpAnyH_take (i := 1) (v := .pointer (some ⟨P, 7, none⟩)) rfl (by kernel_rfl) (by kernel_rfl) (by kernel_rfl) (fun _ _ _ h => h) (Or.inl ⟨by rfl, fun wx hSw => by (dsimp only at hSw; go_simp)⟩) (by assumption) ?_
  simp only [Act.put, List.getElem_toArray, List.getElem_cons_succ, List.getElem_cons_zero, List.setIfInBounds_toArray, List.set_cons_zero, List.set_cons_succ]
  refine wpAnyH_take (i := 2) (v := .pointer (some ⟨P, 7, none⟩)) rfl (by kernel_rfl) (by kernel_rfl) (by kernel_rfl) (fun _ _ _ h => h) (Or.inl ⟨by rfl, fun wx hSw => by (dsimp only at hSw; go_simp)⟩) (by assumption) ?_
  simp only [Act.put, List.getElem_toArray, List.getElem_cons_succ, List.getElem_cons_zero, List.setIfInBounds_toArray, List.set_cons_zero, List.set_cons_succ]
  refine wpAnyH_take (i := 3) (v := .pointer (some ⟨P, 11, none⟩)) rfl (by kernel_rfl) (by kernel_rfl) (by kernel_rfl) (fun _ _ _ h => h) (Or.inl ⟨by rfl, fun wx hSw => by (dsimp only at hSw; go_simp)⟩) (by assumption) ?_
  simp only [Act.put, List.getElem_toArray, List.getElem_cons_succ, List.getElem_cons_zero, List.setIfInBounds_toArray, List.set_cons_zero, List.set_cons_succ]
  refine wpAnyH_take (i := 4) (v := .int .i64 la) rfl (by kernel_rfl) (by kernel_rfl) (by kernel_rfl) (fun _ _ _ h => h) (Or.inl ⟨by rfl, fun wx hSw => by (dsimp only at hSw; go_simp)⟩) (by assumption) ?_
  simp only [Act.put, List.getElem_toArray, List.getElem_cons_succ, List.getElem_cons_zero, List.setIfInBounds_toArray, List.set_cons_zero, List.set_cons_succ]
  refine wpAnyH_take (i := 5) (v := .pointer (some ⟨P, 0, none⟩)) rfl (by kernel_rfl) (by kernel_rfl) (by kernel_rfl) (fun _ _ _ h => h) (Or.inl ⟨by rfl, fun wx hSw => by (dsimp only at hSw; go_simp)⟩) (by assumption) ?_
  simp only [Act.put, List.getElem_toArray, List.getElem_cons_succ, List.getElem_cons_zero, List.setIfInBounds_toArray, List.set_cons_zero, List.set_cons_succ]
  refine wpAnyH_take (i := 6) (v := .pointer (some ⟨P, 0, none⟩)) rfl (by kernel_rfl) (by kernel_rfl) (by kernel_rfl) (fun _ _ _ h => h) (Or.inl ⟨by rfl, fun wx hSw => by (dsimp only at hSw; go_simp)⟩) (by assumption) ?_
  simp only [Act.put, List.getElem_toArray, List.getElem_cons_succ, List.getElem_cons_zero, List.setIfInBounds_toArray, List.set_cons_zero, List.set_cons_succ]
  refine wpAnyH_take (i := 7) (v := .pointer (some ⟨P, 0, none⟩)) rfl (by kernel_rfl) (by kernel_rfl) (by kernel_rfl) (fun _ _ _ h => h) (Or.inl ⟨by rfl, fun wx hSw => by (dsimp only at hSw; go_simp)⟩) (by assumption) ?_
  simp only [Act.put, List.getElem_toArray, List.getElem_cons_succ, List.getElem_cons_zero, List.setIfInBounds_toArray, List.set_cons_zero, List.set_cons_succ]
  refine wpAnyH_take (i := 8) (v := .pointer (some ⟨P, 3, none⟩)) rfl (by kernel_rfl) (by kernel_rfl) (by kernel_rfl) (fun _ _ _ h => h) (Or.inl ⟨by rfl, fun wx hSw => by (dsimp only at hSw; go_simp)⟩) (by assumption) ?_
  simp only [Act.put, List.getElem_toArray, List.getElem_cons_succ, List.getElem_cons_zero, List.setIfInBounds_toArray, List.set_cons_zero, List.set_cons_succ]
  refine wpAnyH_take (i := 9) (v := .int .i64 fi) rfl (by kernel_rfl) (by kernel_rfl) (by kernel_rfl) (fun _ _ _ h => h) (Or.inl ⟨by rfl, fun wx hSw => by (dsimp only at hSw; go_simp)⟩) (by assumption) ?_
  simp only [Act.put, List.getElem_toArray, List.getElem_cons_succ, List.getElem_cons_zero, List.setIfInBounds_toArray, List.set_cons_zero, List.set_cons_succ]
  refine wpAnyH_take (i := 10) (v := .int .i64 wt) rfl (by kernel_rfl) (by kernel_rfl) (by kernel_rfl) (fun _ _ _ h => h) (Or.inl ⟨by rfl, fun wx hSw => by (dsimp only at hSw; go_simp)⟩) (by assumption) ?_
  simp only [Act.put, List.getElem_toArray, List.getElem_cons_succ, List.getElem_cons_zero, List.setIfInBounds_toArray, List.set_cons_zero, List.set_cons_succ]
  refine wpAnyH_take (i := 11) (v := .int .i64 (fi * wt)) rfl (by kernel_rfl) (by kernel_rfl) (by kernel_rfl) (fun _ _ _ h => h) (Or.inl ⟨by rfl, fun wx hSw => by (dsimp only at hSw; go_simp)⟩) (by assumption) ?_
  simp only [Act.put, List.getElem_toArray, List.getElem_cons_succ, List.getElem_cons_zero, List.setIfInBounds_toArray, List.set_cons_zero, List.set_cons_succ]
  refine wpAnyH_take (i := 12) (v := .int .i64 yr) rfl (by kernel_rfl) (by kernel_rfl) (by kernel_rfl) (fun _ _ _ h => h) (Or.inl ⟨by rfl, fun wx hSw => by (dsimp only at hSw; go_simp)⟩) (by assumption) ?_
  simp only [Act.put, List.getElem_toArray, List.getElem_cons_succ, List.getElem_cons_zero, List.setIfInBounds_toArray, List.set_cons_zero, List.set_cons_succ]
  refine wpAnyH_take (i := 13) (v := .pointer (some ⟨P, 7, none⟩)) rfl (by kernel_rfl) (by kernel_rfl) (by kernel_rfl) (fun _ _ _ h => h) (Or.inl ⟨by rfl, fun wx hSw => by (dsimp only at hSw; go_simp)⟩) (by assumption) ?_
  simp only [Act.put, List.getElem_toArray, List.getElem_cons_succ, List.getElem_cons_zero, List.setIfInBounds_toArray, List.set_cons_zero, List.set_cons_succ]
  refine wpAnyH_take (i := 14) (v := .pointer (some ⟨P, 7, none⟩)) rfl (by kernel_rfl) (by kernel_rfl) (by kernel_rfl) (fun _ _ _ h => h) (Or.inl ⟨by rfl, fun wx hSw => by (dsimp only at hSw; go_simp)⟩) (by assumption) ?_
  simp only [Act.put, List.getElem_toArray, List.getElem_cons_succ, List.getElem_cons_zero, List.setIfInBounds_toArray, List.set_cons_zero, List.set_cons_succ]
  refine wpAnyH_take (i := 15) (v := .pointer (some ⟨P, 19, none⟩)) rfl (by kernel_rfl) (by kernel_rfl) (by kernel_rfl) (fun _ _ _ h => h) (Or.inl ⟨by rfl, fun wx hSw => by (dsimp only at hSw; go_simp)⟩) (by assumption) ?_
  simp only [Act.put, List.getElem_toArray, List.getElem_cons_succ, List.getElem_cons_zero, List.setIfInBounds_toArray, List.set_cons_zero, List.set_cons_succ]
  refine wpAnyH_take (i := 16) (v := .int .u64 q2) rfl (by kernel_rfl) (by kernel_rfl) (by kernel_rfl) (fun _ _ _ h => h) (Or.inl ⟨by rfl, fun wx hSw => by (dsimp only at hSw; go_simp)⟩) (by assumption) ?_
  simp only [Act.put, List.getElem_toArray, List.getElem_cons_succ, List.getElem_cons_zero, List.setIfInBounds_toArray, List.set_cons_zero, List.set_cons_succ]
  refine wpAnyH_ready (rs := [17]) (by kernel_rfl) (by simp) ?_
  refine AllReadyH.cons rfl (fun K hK => ?_) AllReadyH.nil
  go_simp
  refine (hP2 _).mono ?_
  rintro e w3 ⟨rfl, k2, rfl⟩
  go_wp2_with fail
  refine hK.out _ _ ⟨v11, v3, v19, 1 + k2, rfl⟩ (fun hHeld2 => ?_)
  clear hK K hHeld
  refine wpAnyH_take (i := 18) (v := .tuple #[.int .i64 e2, .int .u64 r2]) rfl (by kernel_rfl) (by kernel_rfl) (by kernel_rfl) (fun _ _ _ h => h) (Or.inl ⟨by rfl, fun wx hSw => by (dsimp only at hSw; go_simp)⟩) (by assumption) ?_
  simp only [Act.put, List.getElem_toArray, List.getElem_cons_succ, List.getElem_cons_zero, List.setIfInBounds_toArray, List.set_cons_zero, List.set_cons_succ]
  refine wpAnyH_take (i := 19) (v := .int .i64 e2) rfl (by kernel_rfl) (by kernel_rfl) (by kernel_rfl) (fun _ _ _ h => h) (Or.inl ⟨by rfl, fun wx hSw => by (dsimp only at hSw; go_simp)⟩) (by assumption) ?_
  simp only [Act.put, List.getElem_toArray, List.getElem_cons_succ, List.getElem_cons_zero, List.setIfInBounds_toArray, List.set_cons_zero, List.set_cons_succ]
  refine wpAnyH_take (i := 20) (v := .int .u64 r2) rfl (by kernel_rfl) (by kernel_rfl) (by kernel_rfl) (fun _ _ _ h => h) (Or.inl ⟨by rfl, fun wx hSw => by (dsimp only at hSw; go_simp)⟩) (by assumption) ?_
  simp only [Act.put, List.getElem_toArray, List.getElem_cons_succ, List.getElem_cons_zero, List.setIfInBounds_toArray, List.set_cons_zero, List.set_cons_succ]
  refine wpAnyH_take (i := 21) (v := .int .i64 e2) rfl (by kernel_rfl) (by kernel_rfl) (by kernel_rfl) (fun _ _ _ h => h) (Or.inl ⟨by rfl, fun wx hSw => by (dsimp only at hSw; go_simp)⟩) (by assumption) ?_
  simp only [Act.put, List.getElem_toArray, List.getElem_cons_succ, List.getElem_cons_zero, List.setIfInBounds_toArray, List.set_cons_zero, List.set_cons_succ]
  refine wpAnyH_take (i := 22) (v := .int .u64 r2) rfl (by kernel_rfl) (by kernel_rfl) (by kernel_rfl) (fun _ _ _ h => h) (Or.inl ⟨by rfl, fun wx hSw => by (dsimp only at hSw; go_simp)⟩) (by assumption) ?_
  simp only [Act.put, List.getElem_toArray, List.getElem_cons_succ, List.getElem_cons_zero, List.setIfInBounds_toArray, List.set_cons_zero, List.set_cons_succ]
  refine wpAnyH_done (by kernel_rfl) ?_ _
  clear hHeld2 hP2
  go_wp2_with fail
  refine (hF3 _).mono ?_
  rintro e w4 ⟨rfl, h4⟩
  clear hF3
  go_wp2_with fail
  refine h4.mono ?_
  rintro e w5 ⟨rfl, h5⟩
  clear h4
  go_wp2
  go_end0
  exact ⟨rfl, h5⟩
end Go.Proofs.YtanndhoimpnhpaaGreatDoor
namespace Go.Proofs.YtanndhoimpnhpaaGreatDoor
open Go.RowKit Cal
namespace Ln
theorem quo_more (d x y : Int) (hd : 0 < d) : (x % d + y) / d = (x + y) / d - x / d := by
  have h := Int.mul_ediv_add_emod x d
  have e : x + y = (x % d + y) + x / d * d := by rw [Int.mul_comm (x / d) d]; omega
  rw [e, Int.add_mul_ediv_right _ _ (by omega)]
  omega
theorem rem_more (d x y : Int) : (x % d + y) % d = (x + y) % d := by
  rw [Int.add_emod, Int.emod_emod_of_dvd x (Int.dvd_refl d), ← Int.add_emod]
def sums (t : Terms) (w : Int) (y : Dy) : Dy := ⟨{ y.g with ea := y.g.ea + y.g.pr * (y.g.rt * w), fn := y.g.fn + y.g.la * (t.fi * w) }, y.am⟩
theorem late_eq (t : Terms) (w : Int) (y : Dy) : late t w y = enter (enter (sums t w y) 11 ((y.g.ea % den t + y.g.pr * (y.g.rt * w)) / den t)) 12 ((y.g.fn % den t + y.g.la * (t.fi * w)) / den t) := by
  have hd := den_bd t
  rw [quo_more _ _ _ (by omega), quo_more _ _ _ (by omega)]
  unfold late sums
  simp only [part_den]
theorem Fit.of_g {y z : Dy} (h : Fit y) (a : z.g.pr = y.g.pr) (b : z.g.it = y.g.it) (c : z.g.du = y.g.du) (d : z.g.la = y.g.la) (e : z.g.fi = y.g.fi) (f : z.g.cr = y.g.cr) : Fit z := by
  obtain ⟨h1, h2, h3, h4, h5, h6, h7, h8, h9, h10, h11, h12⟩ := h
  exact ⟨by omega, by omega, by omega, by omega, by omega, by omega, by omega, by omega, by omega, by omega, by omega, by omega⟩
theorem Inv.late_can {t : Terms} {L : Int} {s : Nat} {y : Dy} (h : Inv t L s y.g) (ht : OkT t) (w : Nat) (hw : w ≤ 3) (hs : s + w ≤ 4320) (hL : L ≤ 4100000000000) (hfn : (y.g.fn + y.g.la * (t.fi * w)) / den t ≤ 8000000000000000000) (hA : Am y L) :
    CanEnter (sums t w y) 11 ((y.g.ea % den t + y.g.pr * (y.g.rt * w)) / den t) ∧ Fit (sums t w y) ∧
    CanEnter (enter (sums t w y) 11 ((y.g.ea % den t + y.g.pr * (y.g.rt * w)) / den t)) 12 ((y.g.fn % den t + y.g.la * (t.fi * w)) / den t) ∧ Fit (enter (sums t w y) 11 ((y.g.ea % den t + y.g.pr * (y.g.rt * w)) / den t)) := by
  have hd := den_bd t
  have hI := h.late ht w hw
  have hb := hI.bound hs hL
  have hw0 : (0 : Int) ≤ w := by omega
  have m2 : 0 ≤ y.g.la * (t.fi * w) := Int.mul_nonneg h.la (Int.mul_nonneg ht.fi0 hw0)
  have q2 : y.g.fn / den t ≤ (y.g.fn + y.g.la * (t.fi * w)) / den t := Int.ediv_le_ediv (by omega) (by omega)
  have hf := h.fit (by omega) hL (by omega) y.am
  have m1 : 0 ≤ y.g.pr * (y.g.rt * w) := Int.mul_nonneg h.pr (Int.mul_nonneg h.rt0 hw0)
  have e1 : 0 ≤ (y.g.ea % den t + y.g.pr * (y.g.rt * w)) / den t := Int.ediv_nonneg (by have := Int.emod_nonneg y.g.ea (show den t ≠ 0 by omega); omega) (by omega)
  have e2 : 0 ≤ (y.g.fn % den t + y.g.la * (t.fi * w)) / den t := Int.ediv_nonneg (by have := Int.emod_nonneg y.g.fn (show den t ≠ 0 by omega); omega) (by omega)
  have e2' : y.g.fi + (y.g.fn % den t + y.g.la * (t.fi * w)) / den t ≤ 8000000000000000000 := by
    rw [quo_more _ _ _ (by omega)]
    have := h.fi1
    omega
  rw [late_eq] at hI hb
  have i1 := hI.pr
  have i2 := hI.du
  have i3 := hI.la
  generalize (y.g.ea % den t + y.g.pr * (y.g.rt * w)) / den t = a at *
  generalize (y.g.fn % den t + y.g.la * (t.fi * w)) / den t = b at *
  have hb' : y.g.pr + (y.g.it + a) + y.g.du + y.g.la ≤ 656820000000000000 := hb
  have g1 := h.pr
  have g2 := h.it
  have g3 := h.du
  have g4 := h.la
  have f1 : Fit (sums t w y) := hf.of_g rfl rfl rfl rfl rfl rfl
  refine ⟨⟨e1, hA.nn 11, ?_, ?_⟩, f1, ⟨e2, ?_, ?_, ?_⟩, ?_⟩
  · show y.am 11 + a ≤ _
    have := hA.a11
    omega
  · show y.g.it + a ≤ _
    omega
  · show 0 ≤ upd y.am 11 a 12
    rw [upd_ne _ _ _ _ (by decide)]
    exact hA.nn 12
  · show upd y.am 11 a 12 + b ≤ _
    rw [upd_ne _ _ _ _ (by decide), hA.a12]
    have := h.fi
    omega
  · show y.g.fi + b ≤ _
    omega
  · exact ⟨f1.pr0, f1.pr1, by show 0 ≤ y.g.it + a; omega, by show y.g.it + a ≤ _; omega, f1.du0, f1.du1, f1.la0, f1.la1, f1.fi0, f1.fi1, f1.cr0, f1.cr1⟩
end Ln
theorem At.drewN {w : World} {b : Nat} {l : List Value} (h : At w b l) (n : Nat) : At (w.drewN n) b l := h.block rfl
theorem Keep.drewN {S : Nat → Prop} {a w : World} (h : Keep S a w) (n : Nat) : Keep S a (w.drewN n) := ⟨h.os, h.tape, h.output, h.size, h.block⟩
set_option maxRecDepth 10000 in
theorem pend_any (w : World) (P : Nat) (t : Ln.Terms) (n : Int) (y : Ln.Dy) (h : Pas w P t n y) (hm : Mv w) (hP : ¬ P = 1) (n0 : 0 ≤ n) (n1 : n ≤ 109572) (L : Int) (s : Nat) (hI : Ln.Inv t L s y.g) (wt : Nat) (hwt : wtOf t.ba n = wt) (hw3 : wt ≤ 3) (hs : s + wt ≤ 4320) (hL : L ≤ 4100000000000)
    (hfn : (y.g.fn + y.g.la * (t.fi * wt)) / Ln.den t ≤ 8000000000000000000) (ht : Ln.OkT t) (hA : Ln.Am y L) :
    Calls Tryz.prog 80 #[.pointer (some ⟨P, 0, none⟩)] w fun e w' => e = .returned (.tuple #[]) ∧ Pas w' P t n (Ln.late t wt y) ∧ Keep (fun b => b = P) w w' := by
  obtain ⟨k11, f1, k12, f2⟩ := hI.late_can ht wt hw3 hs hL hfn hA
  have hd := Ln.den_bd t
  have hY : Ln.year t = 365 ∨ Ln.year t = 360 := by unfold Ln.year; split <;> simp
  have hb := hI.bound (by omega) hL
  have g1 := hI.pr
  have g2 := hI.it
  have g3 := hI.du
  have g4 := hI.la
  have hw0 : (0 : Int) ≤ wt := by omega
  have hw3' : (wt : Int) ≤ 3 := by omega
  have rw0 : 0 ≤ y.g.rt * wt := Int.mul_nonneg hI.rt0 hw0
  have rw1 : y.g.rt * wt ≤ 1000000 * 3 := Int.mul_le_mul hI.rt1 hw3' hw0 (by decide)
  have fw0 : 0 ≤ t.fi * wt := Int.mul_nonneg ht.fi0 hw0
  have fw1 : t.fi * wt ≤ 1000000 * 3 := Int.mul_le_mul ht.fi1 hw3' hw0 (by decide)
  have qa : 0 ≤ y.g.ea % Ln.den t ∧ y.g.ea % Ln.den t < 1000000 * Ln.year t := ⟨Int.emod_nonneg _ (by omega), Int.emod_lt_of_pos _ (by omega)⟩
  have qb : 0 ≤ y.g.fn % Ln.den t ∧ y.g.fn % Ln.den t < 1000000 * Ln.year t := ⟨Int.emod_nonneg _ (by omega), Int.emod_lt_of_pos _ (by omega)⟩
  obtain ⟨c, i, f, hA0⟩ := id h
  have hlt := h.lt
  rw [Ln.late_eq]
  refine pend_core w P t.ba n wt (Ln.year t) y.g.pr y.g.rt (y.g.ea % Ln.den t) y.g.la t.fi (y.g.fn % Ln.den t)
    ((y.g.ea % Ln.den t + y.g.pr * (y.g.rt * wt)) / Ln.den t) ((y.g.ea % Ln.den t + y.g.pr * (y.g.rt * wt)) % Ln.den t)
    ((y.g.fn % Ln.den t + y.g.la * (t.fi * wt)) / Ln.den t) ((y.g.fn % Ln.den t + y.g.la * (t.fi * wt)) % Ln.den t) n0 n1
    (hA0.cell 3 rfl) (hA0.cell 4 rfl) (hA0.cell 6 rfl) (hA0.cell 8 rfl) (hA0.cell 11 rfl) (hA0.cell 16 rfl) (hA0.cell 18 rfl) (hA0.free 18 rfl) (hA0.cell 19 rfl) (hA0.free 19 rfl)
    rw0 rw1 fw0 fw1 (fun W => by rw [← hwt]; exact weight_day t.ba n W n0 n1) (fun W => year_any t W)
    (fun W => perYear_any _ _ _ _ hY g1 (by omega) rw0 rw1 qa.1 qa.2 W) (fun W => perYear_any _ _ _ _ hY g4 (by omega) fw0 fw1 qb.1 qb.2 W) _ ?_
  intro W k1 V k2 hbW hV
  have hkW : Keep (fun b => b = P) w W := Keep.below hbW
  have hAW : At W P (pl t n y c i f) := At.keep (S := fun _ => False) (v := .int .i64 t.st) hA0 (Keep.below hbW) (fun x => x)
  rw [Ln.rem_more]
  rw [Ln.rem_more] at hV
  subst hV
  have hR := ((((hAW.drewN k1).set 18 (show 18 < 33 by decide) (.int .u64 ((y.g.ea + y.g.pr * (y.g.rt * wt)) % Ln.den t))).drewN k2).set 19 (show 19 < 33 by decide) (.int .u64 ((y.g.fn + y.g.la * (t.fi * wt)) % Ln.den t)))
  have kR : Keep (fun b => b = P) w ((((W.drewN k1).setCell ⟨P, 18, none⟩ (.int .u64 ((y.g.ea + y.g.pr * (y.g.rt * wt)) % Ln.den t))).drewN k2).setCell ⟨P, 19, none⟩ (.int .u64 ((y.g.fn + y.g.la * (t.fi * wt)) % Ln.den t))) :=
    ((((hkW.drewN k1).set (S := fun b => b = P) rfl 18 _).drewN k2).set rfl 19 _)
  refine (penter_any _ P t n (Ln.sums t wt y) ⟨c, i, f, hR⟩ (hm.keep kR (fun e => hP e.symm)) hP f1 11 _ k11).mono ?_
  rintro e w1 ⟨rfl, p1, kk1⟩
  refine ⟨rfl, ?_⟩
  have k1' := kR.trans kk1
  refine (penter_any w1 P t n _ p1 (hm.keep k1' (fun e => hP e.symm)) hP f2 12 _ k12).mono ?_
  rintro e w2 ⟨rfl, p2, kk2⟩
  exact ⟨rfl, p2, k1'.trans kk2⟩
end Go.Proofs.YtanndhoimpnhpaaGreatDoor
namespace Go.Proofs.YtanndhoimpnhpaaGreatDoor
open Go.RowKit Cal
def stV (t : Ln.Terms) (g : Ln.St) (c i f : Int) : Value :=
  .agg #[.int .i64 c, .int .i64 g.pr, .int .i64 g.it, .int .i64 g.du, .int .i64 g.la, .int .i64 g.fi, .int .i64 (-g.cr), .int .i64 i, .int .i64 f, .int .i64 g.rt, .int .i64 g.fr, .int .u64 (g.ea % Ln.den t), .int .u64 (g.fn % Ln.den t)]
def tmV (t : Ln.Terms) : Value := .agg #[.int .i64 t.st, .int .i64 t.pr, .int .i64 t.rt, .int .i64 t.fi, .int .i64 t.ba, .int .i64 t.du]
def amV (am : Nat → Int) : Value := .agg #[.int .i64 (am 0), .int .i64 (am 1), .int .i64 (am 2), .int .i64 (am 3), .int .i64 (am 4), .int .i64 (am 5), .int .i64 (am 6), .int .i64 (am 7), .int .i64 (am 8), .int .i64 (am 9), .int .i64 (am 10), .int .i64 (am 11), .int .i64 (am 12)]
end Go.Proofs.YtanndhoimpnhpaaGreatDoor
namespace Go.Proofs.YtanndhoimpnhpaaGreatDoor.Ln
theorem event_fn (n : Int) (y : Dy) (e : Ev) : (event n y e).g.fn = y.g.fn := by
  unfold event
  (repeat' split) <;> rfl
theorem events_fn (n : Int) : ∀ (l : List Ev) (y : Dy), (l.foldl (event n) y).g.fn = y.g.fn
  | [], _ => rfl
  | e :: r, y => (events_fn n r (event n y e)).trans (event_fn n y e)
theorem early_fn (t : Terms) (n cd : Int) (g : St) : (early t n cd g).g.fn = g.fn := by
  unfold early
  by_cases h : n = t.st
  · simp only [h, ne_eq, not_true, false_and, if_false, if_true]
    rfl
  · simp only [h, ne_eq, not_false_eq_true, true_and, if_false]
    split <;> rfl
theorem lent_nn {t : Terms} (n : Int) (e : Ev) (he : OkE t e) : 0 ≤ lent n e := by
  unfold lent
  have := he.a0
  split <;> omega
theorem lents_nn {t : Terms} (n : Int) : ∀ l : List Ev, (∀ e ∈ l, OkE t e) → 0 ≤ lents n l
  | [], _ => Int.le_refl _
  | e :: r, h => by
    have h1 := lent_nn n e (h e (by simp))
    have h2 := lents_nn n r (fun x hx => h x (by simp [hx]))
    show 0 ≤ lent n e + lents n r
    omega
theorem lents_append (n : Int) : ∀ l m : List Ev, lents n (l ++ m) = lents n l + lents n m
  | [], m => by simp [lents]
  | e :: r, m => by
    have := lents_append n r m
    show lent n e + lents n (r ++ m) = lent n e + lents n r + lents n m
    omega
theorem Am.events {t : Terms} (n : Int) : ∀ (l : List Ev) {y : Dy} {L : Int} {s : Nat}, Am y L → Inv t L s y.g → s ≤ 4320 → y.g.fn / den t ≤ 8000000000000000000 → L + lents n l ≤ 4100000000000 → (∀ e ∈ l, OkE t e) → Am (l.foldl (Ln.event n) y) (L + lents n l)
  | [], y, L, s, h, _, _, _, _, _ => by
    show Am y (L + 0)
    rw [Int.add_zero]
    exact h
  | e :: r, y, L, s, h, hI, hs, hf, hL, hl => by
    have he := hl e (by simp)
    have h1 := lent_nn n e he
    have h2 := lents_nn n r (fun x hx => hl x (by simp [hx]))
    have hL' : L + (lent n e + lents n r) ≤ 4100000000000 := hL
    have hfit := hI.fit hs (by omega) hf y.am
    have a1 := h.event hfit n e he
    have a2 := Am.events n r a1 (Inv.event hI n e he) hs (by rw [event_fn]; exact hf) (by omega) (fun x hx => hl x (by simp [hx]))
    have e3 : L + lent n e + lents n r = L + lents n (e :: r) := by show _ = L + (lent n e + lents n r); omega
    rw [e3] at a2
    exact a2
theorem Am.early {t : Terms} {n L : Int} {s : Nat} {g : St} (hI : Inv t L s g) (hs : s ≤ 4320) (hL : L + (if n = t.st then t.pr else 0) ≤ 4100000000000) (ht : OkT t) (cd : Int) : Am (Ln.early t n cd g) (L + (if n = t.st then t.pr else 0)) := by
  have hp := ht.pr0
  have hL0 := hI.L0
  have hb := hI.bound hs (by split at hL <;> omega)
  have g1 := hI.pr
  have g2 := hI.it
  have g3 := hI.du
  have g4 := hI.la
  have z : Am ⟨g, fun _ => 0⟩ L := Am.zero g L hL0 (by omega)
  unfold Ln.early
  by_cases h : n = t.st
  · simp only [h, ne_eq, not_true, false_and, if_false, if_true]
    exact z.lend t.pr hp
  · simp only [h, ne_eq, not_false_eq_true, true_and, if_false, Int.add_zero]
    split
    · refine ⟨fun j => ?_, ?_, ?_, ?_, ?_, fun j j5 j10 => ?_, ?_, ?_⟩
      · show 0 ≤ upd (upd (fun _ => 0) 2 g.du) 3 g.it j
        unfold upd
        dsimp only
        (repeat' split) <;> omega
      · show (0 : Int) ≤ L
        exact hL0
      · show 0 + g.du ≤ _
        omega
      · show 0 + g.it ≤ _
        omega
      · show 0 + (g.it - g.it) ≤ _
        omega
      · show upd (upd (fun _ => 0) 2 g.du) 3 g.it j ≤ L
        rw [upd_ne _ _ _ _ (by omega), upd_ne _ _ _ _ (by omega)]
        exact hL0
      · rfl
      · rfl
    · exact z
end Go.Proofs.YtanndhoimpnhpaaGreatDoor.Ln
namespace Go.Proofs.YtanndhoimpnhpaaGreatDoor
open Go.RowKit Cal
def tml (t : Ln.Terms) : List Value := [.int .i64 t.st, .int .i64 t.pr, .int .i64 t.rt, .int .i64 t.fi, .int .i64 t.ba, .int .i64 t.du]
def stl (t : Ln.Terms) (g : Ln.St) (c i f : Int) : List Value :=
  [.int .i64 c, .int .i64 g.pr, .int .i64 g.it, .int .i64 g.du, .int .i64 g.la, .int .i64 g.fi, .int .i64 (-g.cr), .int .i64 i, .int .i64 f, .int .i64 g.rt, .int .i64 g.fr, .int .u64 (g.ea % Ln.den t), .int .u64 (g.fn % Ln.den t)]
def aml (am : Nat → Int) : List Value := [.int .i64 (am 0), .int .i64 (am 1), .int .i64 (am 2), .int .i64 (am 3), .int .i64 (am 4), .int .i64 (am 5), .int .i64 (am 6), .int .i64 (am 7), .int .i64 (am 8), .int .i64 (am 9), .int .i64 (am 10), .int .i64 (am 11), .int .i64 (am 12)]
def zst : List Value := [.int .i64 0, .int .i64 0, .int .i64 0, .int .i64 0, .int .i64 0, .int .i64 0, .int .i64 0, .int .i64 0, .int .i64 0, .int .i64 0, .int .i64 0, .int .u64 0, .int .u64 0]
def zam : List Value := [.int .i64 0, .int .i64 0, .int .i64 0, .int .i64 0, .int .i64 0, .int .i64 0, .int .i64 0, .int .i64 0, .int .i64 0, .int .i64 0, .int .i64 0, .int .i64 0, .int .i64 0]
structure PassAt (w W : World) (t : Ln.Terms) (g : Ln.St) (c i f : Int) : Prop where
  size : W.heap.size = w.heap.size + 1 + 1 + 1 + 1
  st : At W w.heap.size (stl t g c i f)
  tm : At W (w.heap.size + 1) (tml t)
  rs : At W (w.heap.size + 1 + 1) zst
  ra : At W (w.heap.size + 1 + 1 + 1) zam
  below : Below w.heap.size w W
theorem passAt (w : World) (t : Ln.Terms) (g : Ln.St) (c i f : Int) (T1 T2 T3 T4 : TypeId) :
    PassAt w ((((w.alloc (.cells (stl t g c i f).toArray T1)).alloc (.cells (tml t).toArray T2)).alloc (.cells zst.toArray T3)).alloc (.cells zam.toArray T4)) t g c i f := by
  refine ⟨by simp, ?_, ?_, ?_, ?_, ?_⟩
  · exact At.over (At.over (At.over (At.allocs w _ _ rfl) _) _) _
  · exact At.over (At.over (At.allocs _ _ _ (by simp)) _) _
  · exact At.over (At.allocs _ _ _ (by simp)) _
  · exact At.allocs _ _ _ (by simp)
  · exact ((((Below.refl _ _).alloc (Nat.le_refl _) _).alloc (by simp) _).alloc (by simp; omega) _).alloc (by simp; omega) _
theorem foldl_take (n : Int) (y : Ln.Dy) (l : List Ln.Ev) (k : Nat) (hk : k < l.length) : (l.take (k + 1)).foldl (Ln.event n) y = Ln.event n ((l.take k).foldl (Ln.event n) y) l[k] := by
  rw [List.take_succ_eq_append_getElem hk, List.foldl_append]
  rfl
theorem stl_mid (t : Ln.Terms) (n : Int) (y : Ln.Dy) (c i f : Int) : ∀ j v, (stl t y.g c i f)[j]? = some v → (pl t n y c i f)[7 + j]? = some v := by
  intro j v h
  match j, h with
  | 0, h => exact h
  | 1, h => exact h
  | 2, h => exact h
  | 3, h => exact h
  | 4, h => exact h
  | 5, h => exact h
  | 6, h => exact h
  | 7, h => exact h
  | 8, h => exact h
  | 9, h => exact h
  | 10, h => exact h
  | 11, h => exact h
  | 12, h => exact h
  | j + 13, h => exact absurd h (by simp [stl])
theorem aml_mid (t : Ln.Terms) (n : Int) (y : Ln.Dy) (c i f : Int) : ∀ j v, (aml y.am)[j]? = some v → (pl t n y c i f)[20 + j]? = some v := by
  intro j v h
  match j, h with
  | 0, h => exact h
  | 1, h => exact h
  | 2, h => exact h
  | 3, h => exact h
  | 4, h => exact h
  | 5, h => exact h
  | 6, h => exact h
  | 7, h => exact h
  | 8, h => exact h
  | 9, h => exact h
  | 10, h => exact h
  | 11, h => exact h
  | 12, h => exact h
  | j + 13, h => exact absurd h (by simp [aml])
set_option maxRecDepth 10000 in
set_option maxHeartbeats 600000 in
theorem pass_core (w : World) (t : Ln.Terms) (n : Int) (g : Ln.St) (c i f : Int) (l : List Ln.Ev) (p : Option Addr) (cap : Nat) (y0 yf : Ln.Dy)
    (hev : ∀ k (hk : k < l.length), ∃ E o, p = some ⟨E, o, none⟩ ∧ E < w.heap.size ∧ w.cell? ⟨E, o + k * 4, none⟩ = some (.int .i64 l[k].d) ∧ w.cell? ⟨E, o + k * 4 + 1, none⟩ = some (.int .i64 l[k].k) ∧ w.cell? ⟨E, o + k * 4 + 2, none⟩ = some (.int .i64 l[k].s) ∧ w.cell? ⟨E, o + k * 4 + 3, none⟩ = some (.int .i64 l[k].a))
    (hll : l.length ≤ 1000000)
    (hB : ∀ (W : World) (P : Nat), Keep (fun _ => False) w W → w.heap.size ≤ P → Pas W P t n ⟨g, fun _ => 0⟩ → Calls Tryz.prog 78 #[.pointer (some ⟨P, 0, none⟩)] W fun e w' => e = .returned (.tuple #[]) ∧ Pas w' P t n y0 ∧ Keep (fun b => b = P) W w')
    (hH : ∀ (W : World) (P : Nat) (k : Nat) (hk : k < l.length), Keep (fun b => w.heap.size ≤ b) w W → w.heap.size ≤ P → Pas W P t n ((l.take k).foldl (Ln.event n) y0) → Calls Tryz.prog 79 #[.pointer (some ⟨P, 0, none⟩), .agg #[.int .i64 l[k].d, .int .i64 l[k].k, .int .i64 l[k].s, .int .i64 l[k].a]] W fun e w' => e = .returned (.tuple #[]) ∧ Pas w' P t n ((l.take (k + 1)).foldl (Ln.event n) y0) ∧ Keep (fun b => b = P) W w')
    (hE : ∀ (W : World) (P : Nat), Keep (fun b => w.heap.size ≤ b) w W → w.heap.size ≤ P → Pas W P t n (l.foldl (Ln.event n) y0) → Calls Tryz.prog 80 #[.pointer (some ⟨P, 0, none⟩)] W fun e w' => e = .returned (.tuple #[]) ∧ Pas w' P t n yf ∧ Keep (fun b => b = P) W w') :
    Calls Tryz.prog 39 #[stV t g c i f, tmV t, .int .i64 n, .slice p l.length cap] w fun e w' => (∃ c' i' f', e = .returned (.tuple #[stV t yf.g c' i' f', amV yf.am])) ∧ Below w.heap.size w w' := by
  unfold stV tmV
  go_enter Tryz.func39, Tryz.ntmps39
  go_upto_region 1 with fail
  refine (fun (key : ∀ W : World, PassAt w W t g c i f → Code.wp Tryz.prog _ _ _ W) => key _ (passAt w t g c i f _ _ _ _)) ?_
  intro W hW
  have hrt : W.rangeAt (w.heap.size + 1) 0 (tml t) := hW.tm.range
  have hrs : W.rangeAt w.heap.size 0 (stl t g c i f) := hW.st.range
  refine wp_region_lit ?_
  refine wpList_load_mid rfl 23 (.tmp 5) rfl _ 0 rfl (tml t) _ hrt Tryz.underlying23 rfl (by kernel_rfl) ?_
  simp only [Act.put, List.setIfInBounds_toArray, List.set_cons_zero, List.set_cons_succ]
  refine wpList_val (.int .i64 n) W rfl rfl ?_
  simp only [Act.put, List.setIfInBounds_toArray, List.set_cons_zero, List.set_cons_succ]
  refine wpList_load_mid rfl 92 (.tmp 4) rfl _ 0 rfl (stl t g c i f) _ hrs Tryz.underlying92 rfl (by kernel_rfl) ?_
  simp only [Act.put, List.setIfInBounds_toArray, List.set_cons_zero, List.set_cons_succ]
  refine wpList_val (.agg (pl t n ⟨g, fun _ => 0⟩ c i f).toArray) W rfl (by kernel_rfl) ?_
  simp only [Act.put, List.setIfInBounds_toArray, List.set_cons_zero, List.set_cons_succ]
  refine wpList_val (.pointer (some ⟨W.heap.size, 0, none⟩)) (W.alloc (.cells (pl ⟨0, 0, 0, 0, 0, 0⟩ 0 ⟨⟨0, 0, 0, 0, 0, 0, 0, 0, 0, 0⟩, fun _ => 0⟩ 0 0 0).toArray 144)) rfl (by kernel_rfl) ?_
  simp only [Act.put, List.setIfInBounds_toArray, List.set_cons_zero, List.set_cons_succ]
  refine wpList_store_new rfl 144 (.tmp 10) (.tmp 16) rfl _ _ rfl rfl (by kernel_rfl) rfl (by kernel_rfl) ?_
  simp only [Act.put]
  refine wpList_nil ?_
  have hp0 : Pas (W.alloc (.cells (pl t n ⟨g, fun _ => 0⟩ c i f).toArray 144)) W.heap.size t n ⟨g, fun _ => 0⟩ := ⟨c, i, f, At.alloc W _ _⟩
  have hPsz : w.heap.size + 4 = W.heap.size := by have := hW.size; omega
  have kW : ∀ S : Nat → Prop, Keep S w (W.alloc (.cells (pl t n ⟨g, fun _ => 0⟩ c i f).toArray 144)) := fun S => Keep.below (hW.below.alloc (by omega) _)
  have r0 : At (W.alloc (.cells (pl t n ⟨g, fun _ => 0⟩ c i f).toArray 144)) (w.heap.size + 1 + 1) zst := At.over hW.rs _
  have r1 : At (W.alloc (.cells (pl t n ⟨g, fun _ => 0⟩ c i f).toArray 144)) (w.heap.size + 1 + 1 + 1) zam := At.over hW.ra _
  generalize hV : W.alloc (.cells (pl t n ⟨g, fun _ => 0⟩ c i f).toArray 144) = V at *
  generalize hPd : W.heap.size = P at *
  clear hV hW hrt hrs
  have hPw : w.heap.size ≤ P := by omega
  go_wp2_with fail
  refine (hB V P (kW _) hPw hp0).mono ?_
  rintro e w1 ⟨rfl, hp1, k1⟩
  clear hB hp0
  have kk1 : Keep (fun b => w.heap.size ≤ b) w w1 := (kW _).trans (k1.mono (fun b _ h => by rw [h]; exact hPw))
  have s0 : At w1 (w.heap.size + 1 + 1) zst := r0.keep k1 (by omega)
  have s1 : At w1 (w.heap.size + 1 + 1 + 1) zam := r1.keep k1 (by omega)
  clear r0 r1 k1 kW
  go_wp2
  go_loopw [20] (fun i wr => ∃ k : Nat, k ≤ l.length ∧ i = .int .i64 k ∧ Pas wr P t n ((l.take k).foldl (Ln.event n) y0) ∧ Keep (fun b => w.heap.size ≤ b) w wr ∧ At wr (w.heap.size + 1 + 1) zst ∧ At wr (w.heap.size + 1 + 1 + 1) zam) (fun i _ => l.length - (intOf i).toNat)
  case atStart => exact ⟨0, Nat.zero_le _, rfl, hp1, kk1, s0, s1⟩
  case round =>
    obtain ⟨k, hk, rfl, hpk, hkk, t0, t1⟩ := hrel
    clear hp1 kk1 s0 s1
    have kA : ∀ (S : Nat → Prop) (ob : Obj), Keep S wr (wr.alloc ob) := fun S ob => Keep.below ((Below.refl _ _).alloc (Nat.le_refl _) ob)
    by_cases hlt : k < l.length
    · obtain ⟨E, o, rfl, hEw, e0, e1, e2, e3⟩ := hev k hlt
      have hbl := hkk.block E hEw (by omega)
      have d0 : wr.cell? ⟨E, o + k * 4, none⟩ = some (.int .i64 l[k].d) := (World.cell?_of_block (w := w) (a := ⟨E, _, none⟩) hbl).trans e0
      have d1 : wr.cell? ⟨E, o + k * 4 + 1, none⟩ = some (.int .i64 l[k].k) := (World.cell?_of_block (w := w) (a := ⟨E, _, none⟩) hbl).trans e1
      have d2 : wr.cell? ⟨E, o + k * 4 + 2, none⟩ = some (.int .i64 l[k].s) := (World.cell?_of_block (w := w) (a := ⟨E, _, none⟩) hbl).trans e2
      have d3 : wr.cell? ⟨E, o + k * 4 + 3, none⟩ = some (.int .i64 l[k].a) := (World.cell?_of_block (w := w) (a := ⟨E, _, none⟩) hbl).trans e3
      have hC := fun ob => hH (wr.alloc ob) P k hlt (hkk.trans (kA _ ob)) hPw (hpk.keep (kA (fun _ => False) ob) (fun x => x))
      clear hH hE hev e0 e1 e2 e3 hbl hpk
      go_wp2_with fail
      refine (hC _).mono ?_
      rintro e w2 ⟨rfl, hp2, k2⟩
      clear hC
      have k2' := (kA (fun b => b = P) _).trans k2
      have kk2 := hkk.trans (k2'.mono (T := fun b => w.heap.size ≤ b) (fun b _ h => by rw [h]; exact hPw))
      have t0' := t0.keep k2' (by omega)
      have t1' := t1.keep k2' (by omega)
      go_wp2
      go_roundw
      case rel => exact ⟨k + 1, by omega, by go_num, hp2, kk2, t0', t1'⟩
      case measure => simp [intOf]; omega
    · have hkl : k = l.length := by omega
      subst hkl
      rw [List.take_length] at hpk
      have hC := hE wr P hkk hPw hpk
      clear hH hE hev hpk
      go_wp2_with fail
      refine hC.mono ?_
      rintro e w2 ⟨rfl, hp2, k2⟩
      clear hC kA
      have kk2 := hkk.trans (k2.mono (T := fun b => w.heap.size ≤ b) (fun b _ h => by rw [h]; exact hPw))
      have t0' := t0.keep k2 (by omega)
      have t1' := t1.keep k2 (by omega)
      clear t0 t1 hkk k2
      go_wp2_with fail
      obtain ⟨c', i', f', hA⟩ := hp2
      have m1 : w2.rangeAt P 7 (stl t yf.g c' i' f') := hA.mid 7 _ (stl_mid t n yf c' i' f')
      have m2 : w2.rangeAt P 20 (aml yf.am) := hA.mid 20 _ (aml_mid t n yf c' i' f')
      have T0 : w2.drew.there (w.heap.size + 1 + 1) 0 13 := t0'.drew.there 13 rfl
      refine wp_region_held_drew (S := fun wx => wx.rangeAt P 7 (stl t yf.g c' i' f') ∧ wx.rangeAt P 20 (aml yf.am)) (by kernel_rfl) ⟨m1, m2⟩ (fun hHeld => ?_)
      refine wpAnyH_take (i := 0) (v := .pointer (some ⟨P, 7, none⟩)) rfl (by kernel_rfl) (by kernel_rfl) (by kernel_rfl) (fun _ _ _ h => h) (Or.inl ⟨by rfl, fun wx hSw => by (dsimp only at hSw; go_simp)⟩) (by assumption) ?_
      simp only [Act.put, List.getElem_toArray, List.getElem_cons_zero, List.setIfInBounds_toArray, List.set_cons_zero, List.set_cons_succ]
      refine wpAnyH_take (i := 1) (v := .agg (stl t yf.g c' i' f').toArray) rfl (by kernel_rfl) (by kernel_rfl) (by kernel_rfl) (fun _ _ _ h => h) (yieldsIf_load_mid (by rfl) 92 (.tmp 28) rfl _ _ rfl _ _ (fun _ h => h.1) Tryz.underlying92 rfl (by kernel_rfl)) (by assumption) ?_
      simp only [Act.put, List.getElem_toArray, List.getElem_cons_succ, List.getElem_cons_zero, List.setIfInBounds_toArray, List.set_cons_zero, List.set_cons_succ]
      refine wpAnyH_take (i := 2) (v := .pointer (some ⟨P, 20, none⟩)) rfl (by kernel_rfl) (by kernel_rfl) (by kernel_rfl) (fun _ _ _ h => h) (Or.inl ⟨by rfl, fun wx hSw => by (dsimp only at hSw; go_simp)⟩) (by assumption) ?_
      simp only [Act.put, List.getElem_toArray, List.getElem_cons_succ, List.getElem_cons_zero, List.setIfInBounds_toArray, List.set_cons_zero, List.set_cons_succ]
      refine wpAnyH_take (i := 3) (v := .agg (aml yf.am).toArray) rfl (by kernel_rfl) (by kernel_rfl) (by kernel_rfl) (fun _ _ _ h => h) (yieldsIf_load_mid (by rfl) 96 (.tmp 30) rfl _ _ rfl _ _ (fun _ h => h.2) Tryz.underlying96 rfl (by kernel_rfl)) (by assumption) ?_
      simp only [Act.put, List.getElem_toArray, List.getElem_cons_succ, List.getElem_cons_zero, List.setIfInBounds_toArray, List.set_cons_zero, List.set_cons_succ]
      refine wpAnyH_ready (rs := [4]) (by kernel_rfl) (by simp) ?_
      refine AllReadyH.cons rfl (fun K hK => ?_) AllReadyH.nil
      rw [if_pos (by rfl)]
      refine wp_store_mid 92 (.tmp 8) (.tmp 29) rfl _ 0 _ rfl rfl T0 (by kernel_rfl) (by kernel_rfl) ?_
      rw [List.toList_toArray]
      refine hK.out _ _ ⟨World.rangeAt_setCells_apart hHeld.1 _ _ _ (by omega), World.rangeAt_setCells_apart hHeld.2 _ _ _ (by omega)⟩ (fun hHeld2 => ?_)
      clear hK K
      have a0 : At (w2.drew.setCells (w.heap.size + 1 + 1) 0 (stl t yf.g c' i' f')) (w.heap.size + 1 + 1) (stl t yf.g c' i' f') := t0'.drew.setCells_same rfl
      have a1 : At (w2.drew.setCells (w.heap.size + 1 + 1) 0 (stl t yf.g c' i' f')) (w.heap.size + 1 + 1 + 1) zam := t1'.drew.apart (by omega) _ _
      have a2 : Keep (fun b => w.heap.size ≤ b) w (w2.drew.setCells (w.heap.size + 1 + 1) 0 (stl t yf.g c' i' f')) := Keep.setCells (S := fun b => w.heap.size ≤ b) (show w.heap.size ≤ w.heap.size + 1 + 1 by omega) _ _ _ kk2.drew
      generalize w2.drew.setCells (w.heap.size + 1 + 1) 0 (stl t yf.g c' i' f') = V2 at *
      simp only [Act.put, List.getElem_toArray, List.getElem_cons_succ, List.getElem_cons_zero]
      refine wpAnyH_ready (rs := [5]) (by kernel_rfl) (by simp) ?_
      refine AllReadyH.cons rfl (fun K hK => ?_) AllReadyH.nil
      rw [if_pos (by rfl)]
      refine wp_store_mid 96 (.tmp 9) (.tmp 31) rfl _ 0 _ rfl rfl (a1.there 13 rfl) (by kernel_rfl) (by kernel_rfl) ?_
      rw [List.toList_toArray]
      refine hK.out _ _ ⟨World.rangeAt_setCells_apart hHeld2.1 _ _ _ (by omega), World.rangeAt_setCells_apart hHeld2.2 _ _ _ (by omega)⟩ (fun hHeld3 => ?_)
      clear hK K
      have b0 : At (V2.setCells (w.heap.size + 1 + 1 + 1) 0 (aml yf.am)) (w.heap.size + 1 + 1) (stl t yf.g c' i' f') := a0.apart (by omega) _ _
      have b1 : At (V2.setCells (w.heap.size + 1 + 1 + 1) 0 (aml yf.am)) (w.heap.size + 1 + 1 + 1) (aml yf.am) := a1.setCells_same rfl
      have b2 : Keep (fun b => w.heap.size ≤ b) w (V2.setCells (w.heap.size + 1 + 1 + 1) 0 (aml yf.am)) := Keep.setCells (S := fun b => w.heap.size ≤ b) (show w.heap.size ≤ w.heap.size + 1 + 1 + 1 by omega) _ _ _ a2
      generalize V2.setCells (w.heap.size + 1 + 1 + 1) 0 (aml yf.am) = V3 at *
      simp only [Act.put, List.getElem_toArray, List.getElem_cons_succ, List.getElem_cons_zero]
      refine wpAnyH_done (by kernel_rfl) ?_ _
      go_wp2
      exact bodyPost_ret (v := .tuple #[stV t yf.g c' i' f', amV yf.am]) (results_two Tryz.results39 _ _ _ _ _ _ _ _ rfl rfl b0.range b1.range Tryz.underlying92 Tryz.underlying96 rfl rfl (by kernel_rfl) (by kernel_rfl)) rfl ⟨⟨c', i', f', rfl⟩, b2.os, b2.tape, b2.output, b2.size, fun k hk => b2.block k hk (by omega)⟩
end Go.Proofs.YtanndhoimpnhpaaGreatDoor
