/- A loan is opened: the program's New, Open, Balance. -/
import Derived.Test.YtanndhoimpnhpaaDoorPrM
import Derived.Test.YtanndhoimpnhpaaDoorPt
import Derived.Test.YtanndhoimpnhpaaDoorPvA
namespace Go.Proofs.YtanndhoimpnhpaaDoor
open Go.ChangeShapes Go.WideShapes Go.RowKit Go.WideMaps Go.Maps Cal

/-- The cells of a loan: terms, events, what Balance tells, where the book lies. -/
def ll (t : Ln.Terms) (v : Value) (g : Ln.St) (day : Int) (bk : Value) : List Value :=
  [.int .i64 t.st, .int .i64 t.pr, .int .i64 t.rt, .int .i64 t.fi, .int .i64 t.ba, .int .i64 t.du, v, .int .i64 g.pr, .int .i64 g.it, .int .i64 g.du, .int .i64 g.la, .int .i64 g.fi, .int .i64 g.cr, .int .i64 g.rt, .int .i64 day, bk]
theorem keepO {w W W' : World} {B : Nat} {l : List Value} {v : Value} (hb : Below W.heap.size W W') (h : At W B (v :: l) ∧ Below w.heap.size w W) : At W' B (v :: l) ∧ Below w.heap.size w W' :=
  ⟨h.1.keep (S := fun _ => False) (Keep.below hb) (fun x => x), h.2.trans (hb.mono h.2.size)⟩
theorem new_any (w : World) :
    Calls Tryd.prog 40 #[] w fun e w' => (∃ P Mb, e = .returned (.pointer (some ⟨P, 0, none⟩)) ∧ w.heap.size ≤ Mb ∧ BkIs w' P (.slice none 0 0) Mb []) ∧ Below w.heap.size w w' := by
  have hmm := @run_makeMap Tryd.prog
  go_enter Tryd.func40, Tryd.ntmps40
  go_wp2
  go_ret
  have e1 : (w.alloc (.map #[] 0)).heap.size = w.heap.size + 1 := by simp
  have b1 : Below w.heap.size w (w.alloc (.map #[] 0)) := (Below.refl _ _).alloc (Nat.le_refl _) _
  have m1 : MapIs (w.alloc (.map #[] 0)) w.heap.size 0 (fun _ _ => 0) := MapIs.made w
  have a2 : At ((w.alloc (.map #[] 0)).alloc (.cells #[.slice none 0 0, .map (some w.heap.size)] 114)) (w.alloc (.map #[] 0)).heap.size [.slice none 0 0, .map (some w.heap.size)] := At.alloc _ _ _
  have b2 : Below (w.alloc (.map #[] 0)).heap.size (w.alloc (.map #[] 0)) ((w.alloc (.map #[] 0)).alloc (.cells #[.slice none 0 0, .map (some w.heap.size)] 114)) := (Below.refl _ _).alloc (Nat.le_refl _) _
  rw [e1] at a2
  refine ⟨⟨w.heap.size + 1, w.heap.size, rfl, Nat.le_refl _, a2, ⟨rfl, .inl ⟨rfl, rfl⟩⟩, m1.block (b2.block _ (by omega)), Nat.lt_succ_self _⟩, b1.trans (b2.mono (by omega))⟩
theorem open_bad (t : Ln.Terms) (w : World) (h : rtB t = false) :
    Calls Tryd.prog 17 #[tmV t] w fun e w' => e = .returned (.tuple #[.pointer none, .int .i64 3]) ∧ Below w.heap.size w w' := by
  have hR := fun W => right_any t W
  rw [h] at hR
  unfold tmV at *
  have b0 : Below w.heap.size w (w.alloc (.cells (tml t).toArray 41)) := (Below.refl _ _).alloc (Nat.le_refl _) _
  go_enter Tryd.func17, Tryd.ntmps17
  go_wp2_with fail
  refine (hR _).mono ?_
  rintro e w1 ⟨rfl, hb1⟩
  have b1 := b0.trans (hb1.mono b0.size)
  clear hR hb1 b0
  go_wp2
  go_ret2
  exact ⟨rfl, b1⟩

set_option maxRecDepth 10000 in
set_option maxHeartbeats 2000000 in
theorem open_good (t : Ln.Terms) (w : World) (h : rtB t = true) :
    Calls Tryd.prog 17 #[tmV t] w fun e w' => (∃ B P Mb, e = .returned (.tuple #[.pointer (some ⟨B, 0, none⟩), .int .i64 0]) ∧ w.heap.size ≤ B ∧ w.heap.size ≤ Mb ∧ P < B ∧ At w' B (ll t (.slice none 0 0) (Ln.start t) t.st (.pointer (some ⟨P, 0, none⟩))) ∧ BkIs w' P (.slice none 0 0) Mb []) ∧ Below w.heap.size w w' := by
  have hR := fun W => right_any t W
  rw [h] at hR
  have hF := fun W => first_any t W
  have hB := fun W => balance_any t (Ln.start t) 0 0 0 t.st W (Int.le_refl _) (by show (0 : Int) ≤ _; decide)
  have a0 : At (w.alloc (.cells (tml t).toArray 41)) w.heap.size (tml t) := At.alloc w (tml t) _
  have b0 : Below w.heap.size w (w.alloc (.cells (tml t).toArray 41)) := (Below.refl _ _).alloc (Nat.le_refl _) _
  unfold tmV at *
  go_enter Tryd.func17, Tryd.ntmps17
  go_wp2_with fail
  refine (hR _).mono ?_
  rintro e w1 ⟨rfl, hb1⟩
  obtain ⟨a1, b1⟩ := keepO (v := .int .i64 t.st) hb1 ⟨a0, b0⟩
  clear hR hb1 b0 a0
  go_wp2_with fail
  refine wp_region_held_drew (S := fun wx => At wx w.heap.size (tml t) ∧ Below w.heap.size w wx) (by kernel_rfl) ⟨a1.drew, b1.drew⟩ (fun hHeld => ?_)
  refine wpAnyH_take (i := 0) (v := (.agg (tml t).toArray)) rfl (by kernel_rfl) (by kernel_rfl) (by kernel_rfl) (fun _ _ _ h => h) (yieldsIf_load_mid (by rfl) 41 (.tmp 1) rfl _ _ rfl _ _ (fun _ h => h.1.range) Tryd.underlying41 rfl (by kernel_rfl)) (by assumption) ?_
  simp only [Act.put, List.getElem_toArray, List.getElem_cons_zero, List.setIfInBounds_toArray, List.set_cons_zero, List.set_cons_succ]
  refine wpAnyH_take (i := 1) (v := (.agg (tml t).toArray)) rfl (by kernel_rfl) (by kernel_rfl) (by kernel_rfl) (fun _ _ _ h => h) (yieldsIf_load_mid (by rfl) 41 (.tmp 1) rfl _ _ rfl _ _ (fun _ h => h.1.range) Tryd.underlying41 rfl (by kernel_rfl)) (by assumption) ?_
  simp only [Act.put, List.getElem_toArray, List.getElem_cons_succ, List.getElem_cons_zero, List.setIfInBounds_toArray, List.set_cons_zero, List.set_cons_succ]
  refine wpAnyH_take (i := 3) (v := (.pointer (some ⟨w.heap.size, 0, none⟩))) rfl (by kernel_rfl) (by kernel_rfl) (by kernel_rfl) (fun _ _ _ h => h) (Or.inl ⟨by rfl, fun wx hSw => by (dsimp only at hSw; go_simp)⟩) (by assumption) ?_
  simp only [Act.put, List.getElem_toArray, List.getElem_cons_succ, List.getElem_cons_zero, List.setIfInBounds_toArray, List.set_cons_zero, List.set_cons_succ]
  refine wpAnyH_take (i := 4) (v := (.int .i64 t.st)) rfl (by kernel_rfl) (by kernel_rfl) (by kernel_rfl) (fun _ _ _ h => h) (Or.inl ⟨by rfl, fun wx hSw => by (have hc : wx.cell? ⟨w.heap.size, 0, none⟩ = some (.int .i64 t.st) := hSw.1.cell 0 rfl; go_simp)⟩) (by assumption) ?_
  simp only [Act.put, List.getElem_toArray, List.getElem_cons_succ, List.getElem_cons_zero, List.setIfInBounds_toArray, List.set_cons_zero, List.set_cons_succ]
  clear a1 b1
  refine wpAnyH_ready (rs := [2]) (by kernel_rfl) (by simp) ?_
  refine AllReadyH.cons rfl (fun K hK => ?_) AllReadyH.nil
  go_simp
  refine (hF _).mono ?_
  rintro e w2 ⟨rfl, hb2⟩
  go_wp2_with fail
  refine hK.out _ _ (keepO (v := .int .i64 t.st) hb2 hHeld) (fun hHeld' => ?_)
  clear hK K hHeld hb2
  refine wpAnyH_ready (rs := [5]) (by kernel_rfl) (by simp) ?_
  refine AllReadyH.cons rfl (fun K hK => ?_) AllReadyH.nil
  go_simp
  refine (hB _).mono ?_
  rintro e w3 ⟨rfl, hb3⟩
  go_wp2_with fail
  refine hK.out _ _ (keepO (v := .int .i64 t.st) hb3 hHeld') (fun hHeld'' => ?_)
  clear hK K hHeld' hb3
  refine wpAnyH_ready (rs := [6]) (by kernel_rfl) (by simp) ?_
  refine AllReadyH.cons rfl (fun K hK => ?_) AllReadyH.nil
  have hsz := hHeld''.2.size
  go_simp
  refine (new_any _).mono ?_
  rintro e w5 ⟨⟨P, Mb, rfl, hMw, hbk⟩, hb4⟩
  go_wp2_with fail
  refine hK.out _ _ (keepO (v := .int .i64 t.st) hb4 hHeld'') (fun hHeld''' => ?_)
  clear hK K hHeld'' hb4
  have hMw : w.heap.size ≤ Mb := Nat.le_trans hsz hMw
  refine wpAnyH_take (i := 7) (v := (.agg (ll t (.slice none 0 0) (Ln.start t) t.st (.pointer (some ⟨P, 0, none⟩))).toArray)) rfl (by kernel_rfl) (by kernel_rfl) (by kernel_rfl) (fun _ _ _ h => h) (Or.inl ⟨by rfl, fun wx hSw => by kernel_rfl⟩) (by assumption) ?_
  simp only [Act.put, List.getElem_toArray, List.getElem_cons_succ, List.getElem_cons_zero, List.setIfInBounds_toArray, List.set_cons_zero, List.set_cons_succ]
  refine wpAnyH_ready (rs := [8]) (by kernel_rfl) (by simp) ?_
  refine AllReadyH.cons rfl (fun K hK => ?_) AllReadyH.nil
  have a4 : At (w5.alloc (.cells (ll t (.slice none 0 0) (Ln.start t) t.st (.pointer (some ⟨P, 0, none⟩))).toArray 85)) w5.heap.size (ll t (.slice none 0 0) (Ln.start t) t.st (.pointer (some ⟨P, 0, none⟩))) := At.alloc w5 _ _
  have b4 := hHeld'''.2.size
  have hbk4 := hbk.keep (S := fun _ => False) (Keep.below (S := fun _ => False) ((Below.refl _ _).alloc (Nat.le_refl _) (.cells (ll t (.slice none 0 0) (Ln.start t) t.st (.pointer (some ⟨P, 0, none⟩))).toArray 85))) (fun _ _ h => h)
  have hPB : P < w5.heap.size := At.lt hbk.pl
  rw [if_pos (by rfl)]
  refine wp_valD (.pointer (some ⟨w5.heap.size, 0, none⟩)) (w5.alloc (.cells (ll t (.slice none 0 0) (Ln.start t) t.st (.pointer (some ⟨P, 0, none⟩))).toArray 85)) (by kernel_rfl) ?_
  refine hK.out _ _ (keepO (v := .int .i64 t.st) ((Below.refl _ _).alloc (Nat.le_refl _) _) hHeld''') (fun hHeld4 => ?_)
  clear hK K hHeld''' hbk
  generalize w5.alloc (.cells (ll t (.slice none 0 0) (Ln.start t) t.st (.pointer (some ⟨P, 0, none⟩))).toArray 85) = w4 at *
  generalize w5.heap.size = B at *
  simp only [Act.put, List.getElem_toArray, List.getElem_cons_succ, List.getElem_cons_zero, List.setIfInBounds_toArray, List.set_cons_zero, List.set_cons_succ]
  refine wpAnyH_take (i := 9) (v := (.pointer (some ⟨B, 0, none⟩))) rfl (by kernel_rfl) (by kernel_rfl) (by kernel_rfl) (fun _ _ _ h => h) (Or.inl ⟨by rfl, fun wx hSw => by (dsimp only at hSw; go_simp)⟩) (by assumption) ?_
  simp only [Act.put, List.getElem_toArray, List.getElem_cons_succ, List.getElem_cons_zero, List.setIfInBounds_toArray, List.set_cons_zero, List.set_cons_succ]
  refine wpAnyH_take (i := 10) (v := (.int .i64 0)) rfl (by kernel_rfl) (by kernel_rfl) (by kernel_rfl) (fun _ _ _ h => h) (Or.inl ⟨by rfl, fun wx hSw => by (dsimp only at hSw; go_simp)⟩) (by assumption) ?_
  simp only [Act.put, List.getElem_toArray, List.getElem_cons_succ, List.getElem_cons_zero, List.setIfInBounds_toArray, List.set_cons_zero, List.set_cons_succ]
  refine wpAnyH_done (by kernel_rfl) ?_ _
  have b5 := hHeld4.2
  clear hHeld4
  go_wp2
  go_ret2
  exact ⟨⟨B, P, Mb, rfl, b4, hMw, hPB, a4, hbk4⟩, b5⟩
end Go.Proofs.YtanndhoimpnhpaaDoor
