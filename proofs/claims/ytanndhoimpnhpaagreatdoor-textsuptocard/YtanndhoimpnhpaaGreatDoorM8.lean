/- Joined by program: PvB, TxX, TxY, TxP, BsA, BsB, BsC, BsG, BsK. -/
import Derived.Test.YtanndhoimpnhpaaGreatDoorM7
import Derived.Test.YtanndhoimpnhpaaGreatDoorM2
import Derived.Test.YtanndhoimpnhpaaGreatDoorM6
import Derived.Test.YtanndhoimpnhpaaGreatDoorM1
import Derived.Test.YtanndhoimpnhpaaGreatDoorM3
import Derived.Lib.OthersKept
import Derived.Lib.AppendStr
import Derived.Lib.AppendIntMem
import Derived.Laws.OwnMore
import Derived.OwnWalk
namespace Go.Proofs.YtanndhoimpnhpaaGreatDoor
open Go.ChangeShapes Go.WideShapes Go.RowKit Go.WideMaps Go.Maps Cal
def ll (t : Ln.Terms) (v : Value) (g : Ln.St) (day : Int) (bk : Value) : List Value :=
  [.int .i64 t.st, .int .i64 t.pr, .int .i64 t.rt, .int .i64 t.fi, .int .i64 t.ba, .int .i64 t.du, v, .int .i64 g.pr, .int .i64 g.it, .int .i64 g.du, .int .i64 g.la, .int .i64 g.fi, .int .i64 g.cr, .int .i64 g.rt, .int .i64 day, bk]
theorem keepO {w W W' : World} {B : Nat} {l : List Value} {v : Value} (hb : Below W.heap.size W W') (h : At W B (v :: l) ∧ Below w.heap.size w W) : At W' B (v :: l) ∧ Below w.heap.size w W' :=
  ⟨h.1.keep (S := fun _ => False) (Keep.below hb) (fun x => x), h.2.trans (hb.mono h.2.size)⟩
theorem new_any (w : World) :
    Calls Tryz.prog 55 #[] w fun e w' => (∃ P Mb, e = .returned (.pointer (some ⟨P, 0, none⟩)) ∧ w.heap.size ≤ Mb ∧ BkIs w' P (.slice none 0 0) Mb []) ∧ Below w.heap.size w w' := by
  have hmm := @run_makeMap Tryz.prog
  go_enter Tryz.func55, Tryz.ntmps55
  go_wp2
  go_ret
  have e1 : (w.alloc (.map #[] 0)).heap.size = w.heap.size + 1 := by simp
  have b1 : Below w.heap.size w (w.alloc (.map #[] 0)) := (Below.refl _ _).alloc (Nat.le_refl _) _
  have m1 : MapIs (w.alloc (.map #[] 0)) w.heap.size 0 (fun _ _ => 0) := MapIs.made w
  have a2 : At ((w.alloc (.map #[] 0)).alloc (.cells #[.slice none 0 0, .map (some w.heap.size)] 148)) (w.alloc (.map #[] 0)).heap.size [.slice none 0 0, .map (some w.heap.size)] := At.alloc _ _ _
  have b2 : Below (w.alloc (.map #[] 0)).heap.size (w.alloc (.map #[] 0)) ((w.alloc (.map #[] 0)).alloc (.cells #[.slice none 0 0, .map (some w.heap.size)] 148)) := (Below.refl _ _).alloc (Nat.le_refl _) _
  rw [e1] at a2
  refine ⟨⟨w.heap.size + 1, w.heap.size, rfl, Nat.le_refl _, a2, ⟨rfl, .inl ⟨rfl, rfl⟩⟩, m1.block (b2.block _ (by omega)), Nat.lt_succ_self _⟩, b1.trans (b2.mono (by omega))⟩
theorem open_bad (t : Ln.Terms) (w : World) (h : rtB t = false) :
    Calls Tryz.prog 23 #[tmV t] w fun e w' => e = .returned (.tuple #[.pointer none, .int .i64 3]) ∧ Below w.heap.size w w' := by
  have hR := fun W => right_any t W
  rw [h] at hR
  unfold tmV at *
  have b0 : Below w.heap.size w (w.alloc (.cells (tml t).toArray 23)) := (Below.refl _ _).alloc (Nat.le_refl _) _
  go_enter Tryz.func23, Tryz.ntmps23
  go_wp2_with fail
  refine (hR _).mono ?_
  rintro e w1 ⟨rfl, hb1⟩
  have b1 := b0.trans (hb1.mono b0.size)
  clear hR hb1 b0
  go_wp2
  go_ret2
  exact ⟨rfl, b1⟩
set_option maxRecDepth 10000 in
set_option maxHeartbeats 2000000 in
theorem open_good (t : Ln.Terms) (w : World) (h : rtB t = true) :
    Calls Tryz.prog 23 #[tmV t] w fun e w' => (∃ B P Mb, e = .returned (.tuple #[.pointer (some ⟨B, 0, none⟩), .int .i64 0]) ∧ w.heap.size ≤ B ∧ w.heap.size ≤ Mb ∧ P < B ∧ At w' B (ll t (.slice none 0 0) (Ln.start t) t.st (.pointer (some ⟨P, 0, none⟩))) ∧ BkIs w' P (.slice none 0 0) Mb []) ∧ Below w.heap.size w w' := by
  have hR := fun W => right_any t W
  rw [h] at hR
  have hF := fun W => first_any t W
  have hB := fun W => balance_any t (Ln.start t) 0 0 0 t.st W (Int.le_refl _) (by show (0 : Int) ≤ _; decide)
  have a0 : At (w.alloc (.cells (tml t).toArray 23)) w.heap.size (tml t) := At.alloc w (tml t) _
  have b0 : Below w.heap.size w (w.alloc (.cells (tml t).toArray 23)) := (Below.refl _ _).alloc (Nat.le_refl _) _
  unfold tmV at *
  go_enter Tryz.func23, Tryz.ntmps23
  go_wp2_with fail
  refine (hR _).mono ?_
  rintro e w1 ⟨rfl, hb1⟩
  obtain ⟨a1, b1⟩ := keepO (v := .int .i64 t.st) hb1 ⟨a0, b0⟩
  clear hR hb1 b0 a0
  go_wp2_with fail
  refine wp_region_held_drew (S := fun wx => At wx w.heap.size (tml t) ∧ Below w.heap.size w wx) (by kernel_rfl) ⟨a1.drew, b1.drew⟩ (fun hHeld => ?_)
  refine wpAnyH_take (i := 0) (v := (.agg (tml t).toArray)) rfl (by kernel_rfl) (by kernel_rfl) (by kernel_rfl) (fun _ _ _ h => h) (yieldsIf_load_mid (by rfl) 23 (.tmp 1) rfl _ _ rfl _ _ (fun _ h => h.1.range) Tryz.underlying23 rfl (by kernel_rfl)) (by assumption) ?_
  simp only [Act.put, List.getElem_toArray, List.getElem_cons_zero, List.setIfInBounds_toArray, List.set_cons_zero, List.set_cons_succ]
  refine wpAnyH_take (i := 1) (v := (.agg (tml t).toArray)) rfl (by kernel_rfl) (by kernel_rfl) (by kernel_rfl) (fun _ _ _ h => h) (yieldsIf_load_mid (by rfl) 23 (.tmp 1) rfl _ _ rfl _ _ (fun _ h => h.1.range) Tryz.underlying23 rfl (by kernel_rfl)) (by assumption) ?_
  simp only [Act.put, List.getElem_toArray, List.getElem_cons_succ, List.getElem_cons_zero, List.setIfInBounds_toArray, List.set_cons_zero, List.set_cons_succ]
  refine wpAnyH_take (i := 3) (v := (.pointer (some ⟨w.heap.size, 0, none⟩))) rfl (by kernel_rfl) (by kernel_rfl) (by kernel_rfl) (fun _ _ _ h => h) (Or.inl ⟨by rfl, fun wx hSw => by (dsimp only at hSw; go_simp)⟩) (by assumption) ?_
  simp only [Act.put, List.getElem_toArray, List.getElem_cons_succ, List.getElem_cons_zero, List.setIfInBounds_toArray, List.set_cons_zero, List.set_cons_succ]
  refine wpAnyH_take (i := 4) (v := (.int .i64 t.st)) rfl (by kernel_rfl) (by kernel_rfl) (by kernel_rfl) (fun _ _ _ h => h) (Or.inl ⟨by rfl, fun wx hSw => by (have hc : wx.cell? ⟨w.heap.size, 0, none⟩ = some (.int .i64 t.st) := hSw.1.cell 0 rfl; go_simp)⟩) (by assumption) ?_
  simp only [Act.put, List.getElem_toArray, List.getElem_cons_succ, List.getElem_cons_zero, List.setIfInBounds_toArray, List.set_cons_zero, List.set_cons_succ]
  clear a1 b1
  refine wpAnyH_ready (rs := [2]) (by kernel_rfl) (by simp) ?_
  refine AllReadyH.cons rfl (fun K hK => ?_) AllReadyH.nil
  go_simp
  refine (hF _).mono ?_
  rintro e w2 ⟨rfl, hb2⟩
  go_wp2_with fail
  refine hK.out _ _ (keepO (v := .int .i64 t.st) hb2 hHeld) (fun hHeld' => ?_)
  clear hK K hHeld hb2
  refine wpAnyH_ready (rs := [5]) (by kernel_rfl) (by simp) ?_
  refine AllReadyH.cons rfl (fun K hK => ?_) AllReadyH.nil
  go_simp
  refine (hB _).mono ?_
  rintro e w3 ⟨rfl, hb3⟩
  go_wp2_with fail
  refine hK.out _ _ (keepO (v := .int .i64 t.st) hb3 hHeld') (fun hHeld'' => ?_)
  clear hK K hHeld' hb3
  refine wpAnyH_ready (rs := [6]) (by kernel_rfl) (by simp) ?_
  refine AllReadyH.cons rfl (fun K hK => ?_) AllReadyH.nil
  have hsz := hHeld''.2.size
  go_simp
  refine (new_any _).mono ?_
  rintro e w5 ⟨⟨P, Mb, rfl, hMw, hbk⟩, hb4⟩
  go_wp2_with fail
  refine hK.out _ _ (keepO (v := .int .i64 t.st) hb4 hHeld'') (fun hHeld''' => ?_)
  clear hK K hHeld'' hb4
  have hMw : w.heap.size ≤ Mb := Nat.le_trans hsz hMw
  refine wpAnyH_take (i := 7) (v := (.agg (ll t (.slice none 0 0) (Ln.start t) t.st (.pointer (some ⟨P, 0, none⟩))).toArray)) rfl (by kernel_rfl) (by kernel_rfl) (by kernel_rfl) (fun _ _ _ h => h) (Or.inl ⟨by rfl, fun wx hSw => by kernel_rfl⟩) (by assumption) ?_
  simp only [Act.put, List.getElem_toArray, List.getElem_cons_succ, List.getElem_cons_zero, List.setIfInBounds_toArray, List.set_cons_zero, List.set_cons_succ]
  refine wpAnyH_ready (rs := [8]) (by kernel_rfl) (by simp) ?_
  refine AllReadyH.cons rfl (fun K hK => ?_) AllReadyH.nil
  have a4 : At (w5.alloc (.cells (ll t (.slice none 0 0) (Ln.start t) t.st (.pointer (some ⟨P, 0, none⟩))).toArray 84)) w5.heap.size (ll t (.slice none 0 0) (Ln.start t) t.st (.pointer (some ⟨P, 0, none⟩))) := At.alloc w5 _ _
  have b4 := hHeld'''.2.size
  have hbk4 := hbk.keep (S := fun _ => False) (Keep.below (S := fun _ => False) ((Below.refl _ _).alloc (Nat.le_refl _) (.cells (ll t (.slice none 0 0) (Ln.start t) t.st (.pointer (some ⟨P, 0, none⟩))).toArray 84))) (fun _ _ h => h)
  have hPB : P < w5.heap.size := At.lt hbk.pl
  rw [if_pos (by rfl)]
  refine wp_valD (.pointer (some ⟨w5.heap.size, 0, none⟩)) (w5.alloc (.cells (ll t (.slice none 0 0) (Ln.start t) t.st (.pointer (some ⟨P, 0, none⟩))).toArray 84)) (by kernel_rfl) ?_
  refine hK.out _ _ (keepO (v := .int .i64 t.st) ((Below.refl _ _).alloc (Nat.le_refl _) _) hHeld''') (fun hHeld4 => ?_)
  clear hK K hHeld''' hbk
  generalize w5.alloc (.cells (ll t (.slice none 0 0) (Ln.start t) t.st (.pointer (some ⟨P, 0, none⟩))).toArray 84) = w4 at *
  generalize w5.heap.size = B at *
  simp only [Act.put, List.getElem_toArray, List.getElem_cons_succ, List.getElem_cons_zero, List.setIfInBounds_toArray, List.set_cons_zero, List.set_cons_succ]
  refine wpAnyH_take (i := 9) (v := (.pointer (some ⟨B, 0, none⟩))) rfl (by kernel_rfl) (by kernel_rfl) (by kernel_rfl) (fun _ _ _ h => h) (Or.inl ⟨by rfl, fun wx hSw => by (dsimp only at hSw; go_simp)⟩) (by assumption) ?_
  simp only [Act.put, List.getElem_toArray, List.getElem_cons_succ, List.getElem_cons_zero, List.setIfInBounds_toArray, List.set_cons_zero, List.set_cons_succ]
  refine wpAnyH_take (i := 10) (v := (.int .i64 0)) rfl (by kernel_rfl) (by kernel_rfl) (by kernel_rfl) (fun _ _ _ h => h) (Or.inl ⟨by rfl, fun wx hSw => by (dsimp only at hSw; go_simp)⟩) (by assumption) ?_
  simp only [Act.put, List.getElem_toArray, List.getElem_cons_succ, List.getElem_cons_zero, List.setIfInBounds_toArray, List.set_cons_zero, List.set_cons_succ]
  refine wpAnyH_done (by kernel_rfl) ?_ _
  have b5 := hHeld4.2
  clear hHeld4
  go_wp2
  go_ret2
  exact ⟨⟨B, P, Mb, rfl, b4, hMw, hPB, a4, hbk4⟩, b5⟩
end Go.Proofs.YtanndhoimpnhpaaGreatDoor
namespace Go.Proofs.YtanndhoimpnhpaaGreatDoor
open Go.ChangeShapes Go.WideShapes Go.ChangeAt Go.RowKit Lg Cal
theorem newreader_any (w : World) (s : List UInt8) : Calls Tryz.prog 34 #[.string (bs s)] w fun e w' => e = .returned (.pointer (some ⟨w.heap.size, 0, none⟩)) ∧ At w' w.heap.size [.string (bs s)] ∧ Below w.heap.size w w' := by
  have HA : Hid (At (w.alloc (.cells #[.string (bs s)] 142)) w.heap.size [.string (bs s)]) := At.alloc w [.string (bs s)] _
  have HB : Hid (Below w.heap.size w (w.alloc (.cells #[.string (bs s)] 142))) := (Below.refl _ _).alloc (Nat.le_refl _) _
  generalize bs s = S at *
  go_enter Tryz.func34, Tryz.ntmps34
  go_wp2
  go_ret
  exact ⟨rfl, HA.out, HB.out⟩
theorem atend_any (w : World) (R : Nat) (s : List UInt8) (hA : At w R [.string (bs s)]) : Calls Tryz.prog 77 #[.pointer (some ⟨R, 0, none⟩)] w fun e w' => e = .returned (.bool (decide (s = []))) ∧ w' = w := by
  have c0 : w.cell? ⟨R, 0, none⟩ = some (.string (bs s)) := hA.cell 0 rfl
  have HX2 : Hid ((bs s).toList.isEmpty = decide (s = [])) := by
    show _ = _
    rw [ByteArray.toList_eq, bs_list]
    cases s <;> rfl
  obtain ⟨x, hx⟩ : ∃ b, (bs s).toList.isEmpty = b := ⟨_, rfl⟩
  rw [hx] at HX2
  clear hA
  generalize bs s = S at *
  go_enter Tryz.func77, Tryz.ntmps77
  go_wp2
  go_ret
  exact ⟨by rw [← HX2.out]; rfl, rfl⟩
def reB (t : Ln.Terms) (day d k a : Int) : Bool := decide (t.st ≤ d ∧ d ≤ day - 1) && (decide (1 ≤ k ∧ k ≤ 12) && decide (¬ a = 0))
set_option maxRecDepth 10000 in
set_option maxHeartbeats 2000000 in
theorem rightentry_any (w : World) (B : Nat) (t : Ln.Terms) (evv : Value) (g : Ln.St) (day : Int) (bk : Value) (hA : At w B (ll t evv g day bk)) (h0 : -1000000 ≤ day) (h1 : day ≤ 1000000) (d k a : Int) :
    Calls Tryz.prog 104 #[.pointer (some ⟨B, 0, none⟩), .agg #[.int .i64 d, .int .i64 k, .int .i64 a]] w fun e w' => e = .returned (.bool (reB t day d k a)) ∧ Below w.heap.size w w' := by
  have hB1 : Below w.heap.size w (w.alloc (.cells #[.int .i64 d, .int .i64 k, .int .i64 a] 114)) := (Below.refl _ _).alloc (Nat.le_refl _) _
  have hA1 : At (w.alloc (.cells #[.int .i64 d, .int .i64 k, .int .i64 a] 114)) w.heap.size [.int .i64 d, .int .i64 k, .int .i64 a] := At.alloc w [.int .i64 d, .int .i64 k, .int .i64 a] _
  have hA2 : At (w.alloc (.cells #[.int .i64 d, .int .i64 k, .int .i64 a] 114)) B (ll t evv g day bk) := At.keep (S := fun _ => False) (v := .int .i64 t.st) hA (Keep.below hB1) (fun x => x)
  have HB1 : Hid (Below w.heap.size w (w.alloc (.cells #[.int .i64 d, .int .i64 k, .int .i64 a] 114))) := hB1
  have HN : Hid (∀ wx, Below (w.alloc (.cells #[.int .i64 d, .int .i64 k, .int .i64 a] 114)).heap.size (w.alloc (.cells #[.int .i64 d, .int .i64 k, .int .i64 a] 114)) wx → At wx w.heap.size [.int .i64 d, .int .i64 k, .int .i64 a] ∧ At wx B (ll t evv g day bk)) := fun wx hx => ⟨hA1.lower hx, hA2.lower hx⟩
  have z1 : IntKind.i64.wrap (day - 1) = day - 1 := by rw [IntKind.wrap_i64]; omega
  have HL1 : Hid (∀ W, Calls Tryz.prog 36 #[.agg #[.int .i64 t.st, .int .i64 (day - 1)], .int .i64 d] W fun e w' => e = .returned (.bool (decide (t.st ≤ d ∧ d ≤ day - 1))) ∧ Below W.heap.size W w') := fun W => by
    by_cases h : t.st ≤ d ∧ d ≤ day - 1
    · rw [decide_eq_true h]; exact allow_yes _ _ _ W h.1 h.2
    · rw [decide_eq_false h]; exact allow_no _ _ _ W (by omega)
  have HL2 : Hid (∀ W, Calls Tryz.prog 36 #[.agg #[.int .i64 1, .int .i64 12], .int .i64 k] W fun e w' => e = .returned (.bool (decide (1 ≤ k ∧ k ≤ 12))) ∧ Below W.heap.size W w') := fun W => by
    by_cases h : 1 ≤ k ∧ k ≤ 12
    · rw [decide_eq_true h]; exact allow_yes _ _ _ W h.1 h.2
    · rw [decide_eq_false h]; exact allow_no _ _ _ W (by omega)
  obtain ⟨x1, e1⟩ : ∃ b, decide (t.st ≤ d ∧ d ≤ day - 1) = b := ⟨_, rfl⟩
  obtain ⟨x2, e2⟩ : ∃ b, decide (1 ≤ k ∧ k ≤ 12) = b := ⟨_, rfl⟩
  obtain ⟨x3, e3⟩ : ∃ b, (a != (0 : Int)) = b := ⟨_, rfl⟩
  have HV : Hid (reB t day d k a = (x1 && (x2 && x3))) := by
    show _ = _
    unfold reB
    rw [e1, e2, ← e3]
    congr 2
    by_cases ha : a = 0 <;> simp [ha]
  rw [e1] at HL1
  rw [e2] at HL2
  clear e1 e2 hA hA1 hA2 hB1
  go_enter Tryz.func104, Tryz.ntmps104
  go_upto_region 1 with fail
  generalize w.alloc (.cells #[.int .i64 d, .int .i64 k, .int .i64 a] 114) = W1 at *
  have HN9 : Hid (∀ wx, Below W1.heap.size W1 wx → At wx w.heap.size [.int .i64 d, .int .i64 k, .int .i64 a] ∧ At wx B (ll t evv g day bk)) := HN.out
  clear HN
  have HB2 : Hid (Below w.heap.size w W1) := HB1.out
  clear HB1
  have HB1 : Hid (∀ x, Below W1.heap.size W1 x → Below w.heap.size w x) := fun x hx => HB2.out.trans (hx.mono HB2.out.size)
  clear HB2
  generalize hNe : w.heap.size = N at *
  have HNe : Hid (w.heap.size = N) := hNe
  clear hNe
  have HN0 : Hid (∀ wx, Below W1.heap.size W1 wx → wx.cell? ⟨N, 0, none⟩ = some (.int .i64 d)) := fun wx hx => (HN9.out wx hx).1.cell 0 rfl
  have HN1 : Hid (∀ wx, Below W1.heap.size W1 wx → wx.cell? ⟨N, 1, none⟩ = some (.int .i64 k)) := fun wx hx => (HN9.out wx hx).1.cell 1 rfl
  have HN2 : Hid (∀ wx, Below W1.heap.size W1 wx → wx.cell? ⟨N, 2, none⟩ = some (.int .i64 a)) := fun wx hx => (HN9.out wx hx).1.cell 2 rfl
  have HS0 : Hid (∀ wx, Below W1.heap.size W1 wx → wx.cell? ⟨B, 0, none⟩ = some (.int .i64 t.st)) := fun wx hx => (HN9.out wx hx).2.cell 0 rfl
  have HDy : Hid (∀ wx, Below W1.heap.size W1 wx → wx.cell? ⟨B, 14, none⟩ = some (.int .i64 day)) := fun wx hx => (HN9.out wx hx).2.cell 14 rfl
  clear HN9
  refine wp_region_held_drew (S := fun wx => Below W1.heap.size W1 wx) (by kernel_rfl) (Below.refl _ _).drew (fun hHeld => ?_)
  generalize W1.drew = U0 at *
  refine wpAnyH_take (i := 0) (v := (.pointer (some ⟨B, 0, none⟩))) rfl (by kernel_rfl) (by kernel_rfl) (by kernel_rfl) (fun _ _ _ h => h) (Or.inl ⟨by rfl, fun wx hSw => by kernel_rfl⟩) (by assumption) ?_
  simp only [Act.put, List.getElem_toArray, List.getElem_cons_zero, List.setIfInBounds_toArray, List.set_cons_zero, List.set_cons_succ]
  refine wpAnyH_take (i := 1) (v := (.pointer (some ⟨B, 0, none⟩))) rfl (by kernel_rfl) (by kernel_rfl) (by kernel_rfl) (fun _ _ _ h => h) (Or.inl ⟨by rfl, fun wx hSw => by ((try dsimp only at hSw); go_simp)⟩) (by assumption) ?_
  simp only [Act.put, List.getElem_toArray, List.getElem_cons_succ, List.getElem_cons_zero, List.setIfInBounds_toArray, List.set_cons_zero, List.set_cons_succ]
  refine wpAnyH_take (i := 2) (v := (.pointer (some ⟨B, 0, none⟩))) rfl (by kernel_rfl) (by kernel_rfl) (by kernel_rfl) (fun _ _ _ h => h) (Or.inl ⟨by rfl, fun wx hSw => by ((try dsimp only at hSw); go_simp)⟩) (by assumption) ?_
  simp only [Act.put, List.getElem_toArray, List.getElem_cons_succ, List.getElem_cons_zero, List.setIfInBounds_toArray, List.set_cons_zero, List.set_cons_succ]
  refine wpAnyH_take (i := 3) (v := (.pointer (some ⟨B, 0, none⟩))) rfl (by kernel_rfl) (by kernel_rfl) (by kernel_rfl) (fun _ _ _ h => h) (Or.inl ⟨by rfl, fun wx hSw => by ((try dsimp only at hSw); go_simp)⟩) (by assumption) ?_
  simp only [Act.put, List.getElem_toArray, List.getElem_cons_succ, List.getElem_cons_zero, List.setIfInBounds_toArray, List.set_cons_zero, List.set_cons_succ]
  refine wpAnyH_take (i := 4) (v := (.int .i64 t.st)) rfl (by kernel_rfl) (by kernel_rfl) (by kernel_rfl) (fun _ _ _ h => h) (Or.inl ⟨by rfl, fun wx hSw => by (have hc := (HS0.out wx hSw); go_simp)⟩) (by assumption) ?_
  simp only [Act.put, List.getElem_toArray, List.getElem_cons_succ, List.getElem_cons_zero, List.setIfInBounds_toArray, List.set_cons_zero, List.set_cons_succ]
  refine wpAnyH_take (i := 5) (v := (.pointer (some ⟨B, 0, none⟩))) rfl (by kernel_rfl) (by kernel_rfl) (by kernel_rfl) (fun _ _ _ h => h) (Or.inl ⟨by rfl, fun wx hSw => by kernel_rfl⟩) (by assumption) ?_
  simp only [Act.put, List.getElem_toArray, List.getElem_cons_succ, List.getElem_cons_zero, List.setIfInBounds_toArray, List.set_cons_zero, List.set_cons_succ]
  refine wpAnyH_take (i := 6) (v := (.pointer (some ⟨B, 0, none⟩))) rfl (by kernel_rfl) (by kernel_rfl) (by kernel_rfl) (fun _ _ _ h => h) (Or.inl ⟨by rfl, fun wx hSw => by ((try dsimp only at hSw); go_simp)⟩) (by assumption) ?_
  simp only [Act.put, List.getElem_toArray, List.getElem_cons_succ, List.getElem_cons_zero, List.setIfInBounds_toArray, List.set_cons_zero, List.set_cons_succ]
  refine wpAnyH_take (i := 7) (v := (.pointer (some ⟨B, 7, none⟩))) rfl (by kernel_rfl) (by kernel_rfl) (by kernel_rfl) (fun _ _ _ h => h) (Or.inl ⟨by rfl, fun wx hSw => by ((try dsimp only at hSw); go_simp)⟩) (by assumption) ?_
  simp only [Act.put, List.getElem_toArray, List.getElem_cons_succ, List.getElem_cons_zero, List.setIfInBounds_toArray, List.set_cons_zero, List.set_cons_succ]
  refine wpAnyH_take (i := 8) (v := (.pointer (some ⟨B, 14, none⟩))) rfl (by kernel_rfl) (by kernel_rfl) (by kernel_rfl) (fun _ _ _ h => h) (Or.inl ⟨by rfl, fun wx hSw => by ((try dsimp only at hSw); go_simp)⟩) (by assumption) ?_
  simp only [Act.put, List.getElem_toArray, List.getElem_cons_succ, List.getElem_cons_zero, List.setIfInBounds_toArray, List.set_cons_zero, List.set_cons_succ]
  refine wpAnyH_take (i := 9) (v := (.int .i64 day)) rfl (by kernel_rfl) (by kernel_rfl) (by kernel_rfl) (fun _ _ _ h => h) (Or.inl ⟨by rfl, fun wx hSw => by (have hc := (HDy.out wx hSw); go_simp)⟩) (by assumption) ?_
  simp only [Act.put, List.getElem_toArray, List.getElem_cons_succ, List.getElem_cons_zero, List.setIfInBounds_toArray, List.set_cons_zero, List.set_cons_succ]
  refine wpAnyH_take (i := 10) (v := (.int .i64 (day - 1))) rfl (by kernel_rfl) (by kernel_rfl) (by kernel_rfl) (fun _ _ _ h => h) (Or.inl ⟨by rfl, fun wx hSw => by go_simp⟩) (by assumption) ?_
  simp only [Act.put, List.getElem_toArray, List.getElem_cons_succ, List.getElem_cons_zero, List.setIfInBounds_toArray, List.set_cons_zero, List.set_cons_succ]
  refine wpAnyH_take (i := 11) (v := (.agg #[.int .i64 t.st, .int .i64 (day - 1)])) rfl (by kernel_rfl) (by kernel_rfl) (by kernel_rfl) (fun _ _ _ h => h) (Or.inl ⟨by rfl, fun wx hSw => by go_simp⟩) (by assumption) ?_
  simp only [Act.put, List.getElem_toArray, List.getElem_cons_succ, List.getElem_cons_zero, List.setIfInBounds_toArray, List.set_cons_zero, List.set_cons_succ]
  refine wpAnyH_take (i := 12) (v := (.pointer (some ⟨N, 0, none⟩))) rfl (by kernel_rfl) (by kernel_rfl) (by kernel_rfl) (fun _ _ _ h => h) (Or.inl ⟨by rfl, fun wx hSw => by ((try dsimp only at hSw); go_simp)⟩) (by assumption) ?_
  simp only [Act.put, List.getElem_toArray, List.getElem_cons_succ, List.getElem_cons_zero, List.setIfInBounds_toArray, List.set_cons_zero, List.set_cons_succ]
  refine wpAnyH_take (i := 13) (v := (.int .i64 d)) rfl (by kernel_rfl) (by kernel_rfl) (by kernel_rfl) (fun _ _ _ h => h) (Or.inl ⟨by rfl, fun wx hSw => by (have hc := (HN0.out wx hSw); go_simp)⟩) (by assumption) ?_
  simp only [Act.put, List.getElem_toArray, List.getElem_cons_succ, List.getElem_cons_zero, List.setIfInBounds_toArray, List.set_cons_zero, List.set_cons_succ]
  refine wpAnyH_ready (rs := [14]) (by kernel_rfl) (by simp) ?_
  refine AllReadyH.cons rfl (fun K hK => ?_) AllReadyH.nil
  have hC := HL1.out U0
  go_simp
  refine hC.mono ?_
  rintro e U14 ⟨rfl, hb3⟩
  go_wp2_with fail
  have hb14 := hHeld.trans (hb3.mono hHeld.size)
  refine hK.out _ _ hb14 (fun hHeld => ?_)
  clear hK K hC hb3
  try simp only [Act.put, List.getElem_toArray, List.getElem_cons_succ, List.getElem_cons_zero, List.setIfInBounds_toArray, List.set_cons_zero, List.set_cons_succ]
  refine wpAnyH_take (i := 15) (v := (.bool x1)) rfl (by kernel_rfl) (by kernel_rfl) (by kernel_rfl) (fun _ _ _ h => h) (Or.inl ⟨by rfl, fun wx hSw => by kernel_rfl⟩) (by assumption) ?_
  simp only [Act.put, List.getElem_toArray, List.getElem_cons_succ, List.getElem_cons_zero, List.setIfInBounds_toArray, List.set_cons_zero, List.set_cons_succ]
  cases x1
  · skip
    refine wpAnyH_take (i := 16) (v := undef) rfl (by kernel_rfl) (by kernel_rfl) (by kernel_rfl) (fun _ _ _ h => h) (Or.inr ⟨by rfl, rfl⟩) (by assumption) ?_
    simp only [Act.put, List.getElem_toArray, List.getElem_cons_succ, List.getElem_cons_zero, List.setIfInBounds_toArray, List.set_cons_zero, List.set_cons_succ]
    refine wpAnyH_take (i := 17) (v := undef) rfl (by kernel_rfl) (by kernel_rfl) (by kernel_rfl) (fun _ _ _ h => h) (Or.inr ⟨by rfl, rfl⟩) (by assumption) ?_
    simp only [Act.put, List.getElem_toArray, List.getElem_cons_succ, List.getElem_cons_zero, List.setIfInBounds_toArray, List.set_cons_zero, List.set_cons_succ]
    refine wpAnyH_take (i := 18) (v := undef) rfl (by kernel_rfl) (by kernel_rfl) (by kernel_rfl) (fun _ _ _ h => h) (Or.inr ⟨by rfl, rfl⟩) (by assumption) ?_
    simp only [Act.put, List.getElem_toArray, List.getElem_cons_succ, List.getElem_cons_zero, List.setIfInBounds_toArray, List.set_cons_zero, List.set_cons_succ]
    refine wpAnyH_take (i := 19) (v := undef) rfl (by kernel_rfl) (by kernel_rfl) (by kernel_rfl) (fun _ _ _ h => h) (Or.inr ⟨by rfl, rfl⟩) (by assumption) ?_
    simp only [Act.put, List.getElem_toArray, List.getElem_cons_succ, List.getElem_cons_zero, List.setIfInBounds_toArray, List.set_cons_zero, List.set_cons_succ]
    refine wpAnyH_take (i := 20) (v := (.bool false)) rfl (by kernel_rfl) (by kernel_rfl) (by kernel_rfl) (fun _ _ _ h => h) (Or.inl ⟨by rfl, fun wx hSw => by ((try dsimp only at hSw); go_simp)⟩) (by assumption) ?_
    simp only [Act.put, List.getElem_toArray, List.getElem_cons_succ, List.getElem_cons_zero, List.setIfInBounds_toArray, List.set_cons_zero, List.set_cons_succ]
    refine wpAnyH_take (i := 21) (v := (.bool false)) rfl (by kernel_rfl) (by kernel_rfl) (by kernel_rfl) (fun _ _ _ h => h) (Or.inl ⟨by rfl, fun wx hSw => by kernel_rfl⟩) (by assumption) ?_
    simp only [Act.put, List.getElem_toArray, List.getElem_cons_succ, List.getElem_cons_zero, List.setIfInBounds_toArray, List.set_cons_zero, List.set_cons_succ]
    refine wpAnyH_take (i := 22) (v := undef) rfl (by kernel_rfl) (by kernel_rfl) (by kernel_rfl) (fun _ _ _ h => h) (Or.inr ⟨by rfl, rfl⟩) (by assumption) ?_
    simp only [Act.put, List.getElem_toArray, List.getElem_cons_succ, List.getElem_cons_zero, List.setIfInBounds_toArray, List.set_cons_zero, List.set_cons_succ]
    refine wpAnyH_take (i := 23) (v := undef) rfl (by kernel_rfl) (by kernel_rfl) (by kernel_rfl) (fun _ _ _ h => h) (Or.inr ⟨by rfl, rfl⟩) (by assumption) ?_
    simp only [Act.put, List.getElem_toArray, List.getElem_cons_succ, List.getElem_cons_zero, List.setIfInBounds_toArray, List.set_cons_zero, List.set_cons_succ]
    refine wpAnyH_take (i := 24) (v := undef) rfl (by kernel_rfl) (by kernel_rfl) (by kernel_rfl) (fun _ _ _ h => h) (Or.inr ⟨by rfl, rfl⟩) (by assumption) ?_
    simp only [Act.put, List.getElem_toArray, List.getElem_cons_succ, List.getElem_cons_zero, List.setIfInBounds_toArray, List.set_cons_zero, List.set_cons_succ]
    refine wpAnyH_take (i := 25) (v := (.bool false)) rfl (by kernel_rfl) (by kernel_rfl) (by kernel_rfl) (fun _ _ _ h => h) (Or.inl ⟨by rfl, fun wx hSw => by ((try dsimp only at hSw); go_simp)⟩) (by assumption) ?_
    simp only [Act.put, List.getElem_toArray, List.getElem_cons_succ, List.getElem_cons_zero, List.setIfInBounds_toArray, List.set_cons_zero, List.set_cons_succ]
    refine wpAnyH_take (i := 26) (v := (.bool false)) rfl (by kernel_rfl) (by kernel_rfl) (by kernel_rfl) (fun _ _ _ h => h) (Or.inl ⟨by rfl, fun wx hSw => by kernel_rfl⟩) (by assumption) ?_
    simp only [Act.put, List.getElem_toArray, List.getElem_cons_succ, List.getElem_cons_zero, List.setIfInBounds_toArray, List.set_cons_zero, List.set_cons_succ]
    refine wpAnyH_done (by kernel_rfl) ?_ _
    have HE : Hid (Below W1.heap.size W1 _) := hHeld
    go_wp2
    go_ret
    exact ⟨by rw [HV.out]; rfl, by rw [HNe.out]; exact HB1.out _ HE.out⟩
  · skip
    refine wpAnyH_take (i := 16) (v := (.agg #[.int .i64 1, .int .i64 12])) rfl (by kernel_rfl) (by kernel_rfl) (by kernel_rfl) (fun _ _ _ h => h) (Or.inl ⟨by rfl, fun wx hSw => by go_simp⟩) (by assumption) ?_
    simp only [Act.put, List.getElem_toArray, List.getElem_cons_succ, List.getElem_cons_zero, List.setIfInBounds_toArray, List.set_cons_zero, List.set_cons_succ]
    refine wpAnyH_take (i := 17) (v := (.pointer (some ⟨N, 1, none⟩))) rfl (by kernel_rfl) (by kernel_rfl) (by kernel_rfl) (fun _ _ _ h => h) (Or.inl ⟨by rfl, fun wx hSw => by ((try dsimp only at hSw); go_simp)⟩) (by assumption) ?_
    simp only [Act.put, List.getElem_toArray, List.getElem_cons_succ, List.getElem_cons_zero, List.setIfInBounds_toArray, List.set_cons_zero, List.set_cons_succ]
    refine wpAnyH_take (i := 18) (v := (.int .i64 k)) rfl (by kernel_rfl) (by kernel_rfl) (by kernel_rfl) (fun _ _ _ h => h) (Or.inl ⟨by rfl, fun wx hSw => by (have hc := (HN1.out wx hSw); go_simp)⟩) (by assumption) ?_
    simp only [Act.put, List.getElem_toArray, List.getElem_cons_succ, List.getElem_cons_zero, List.setIfInBounds_toArray, List.set_cons_zero, List.set_cons_succ]
    refine wpAnyH_ready (rs := [19]) (by kernel_rfl) (by simp) ?_
    refine AllReadyH.cons rfl (fun K hK => ?_) AllReadyH.nil
    have hC := HL2.out U14
    go_simp
    refine hC.mono ?_
    rintro e U19 ⟨rfl, hb3⟩
    go_wp2_with fail
    have hb19 := hHeld.trans (hb3.mono hHeld.size)
    refine hK.out _ _ hb19 (fun hHeld => ?_)
    clear hK K hC hb3
    try simp only [Act.put, List.getElem_toArray, List.getElem_cons_succ, List.getElem_cons_zero, List.setIfInBounds_toArray, List.set_cons_zero, List.set_cons_succ]
    refine wpAnyH_take (i := 20) (v := (.bool x2)) rfl (by kernel_rfl) (by kernel_rfl) (by kernel_rfl) (fun _ _ _ h => h) (Or.inl ⟨by rfl, fun wx hSw => by go_simp⟩) (by assumption) ?_
    simp only [Act.put, List.getElem_toArray, List.getElem_cons_succ, List.getElem_cons_zero, List.setIfInBounds_toArray, List.set_cons_zero, List.set_cons_succ]
    refine wpAnyH_take (i := 21) (v := (.bool x2)) rfl (by kernel_rfl) (by kernel_rfl) (by kernel_rfl) (fun _ _ _ h => h) (Or.inl ⟨by rfl, fun wx hSw => by kernel_rfl⟩) (by assumption) ?_
    simp only [Act.put, List.getElem_toArray, List.getElem_cons_succ, List.getElem_cons_zero, List.setIfInBounds_toArray, List.set_cons_zero, List.set_cons_succ]
    cases x2
    · skip
      refine wpAnyH_take (i := 22) (v := undef) rfl (by kernel_rfl) (by kernel_rfl) (by kernel_rfl) (fun _ _ _ h => h) (Or.inr ⟨by rfl, rfl⟩) (by assumption) ?_
      simp only [Act.put, List.getElem_toArray, List.getElem_cons_succ, List.getElem_cons_zero, List.setIfInBounds_toArray, List.set_cons_zero, List.set_cons_succ]
      refine wpAnyH_take (i := 23) (v := undef) rfl (by kernel_rfl) (by kernel_rfl) (by kernel_rfl) (fun _ _ _ h => h) (Or.inr ⟨by rfl, rfl⟩) (by assumption) ?_
      simp only [Act.put, List.getElem_toArray, List.getElem_cons_succ, List.getElem_cons_zero, List.setIfInBounds_toArray, List.set_cons_zero, List.set_cons_succ]
      refine wpAnyH_take (i := 24) (v := undef) rfl (by kernel_rfl) (by kernel_rfl) (by kernel_rfl) (fun _ _ _ h => h) (Or.inr ⟨by rfl, rfl⟩) (by assumption) ?_
      simp only [Act.put, List.getElem_toArray, List.getElem_cons_succ, List.getElem_cons_zero, List.setIfInBounds_toArray, List.set_cons_zero, List.set_cons_succ]
      refine wpAnyH_take (i := 25) (v := (.bool false)) rfl (by kernel_rfl) (by kernel_rfl) (by kernel_rfl) (fun _ _ _ h => h) (Or.inl ⟨by rfl, fun wx hSw => by ((try dsimp only at hSw); go_simp)⟩) (by assumption) ?_
      simp only [Act.put, List.getElem_toArray, List.getElem_cons_succ, List.getElem_cons_zero, List.setIfInBounds_toArray, List.set_cons_zero, List.set_cons_succ]
      refine wpAnyH_take (i := 26) (v := (.bool false)) rfl (by kernel_rfl) (by kernel_rfl) (by kernel_rfl) (fun _ _ _ h => h) (Or.inl ⟨by rfl, fun wx hSw => by kernel_rfl⟩) (by assumption) ?_
      simp only [Act.put, List.getElem_toArray, List.getElem_cons_succ, List.getElem_cons_zero, List.setIfInBounds_toArray, List.set_cons_zero, List.set_cons_succ]
      refine wpAnyH_done (by kernel_rfl) ?_ _
      have HE : Hid (Below W1.heap.size W1 _) := hHeld
      go_wp2
      go_ret
      exact ⟨by rw [HV.out]; rfl, by rw [HNe.out]; exact HB1.out _ HE.out⟩
    · skip
      refine wpAnyH_take (i := 22) (v := (.pointer (some ⟨N, 2, none⟩))) rfl (by kernel_rfl) (by kernel_rfl) (by kernel_rfl) (fun _ _ _ h => h) (Or.inl ⟨by rfl, fun wx hSw => by ((try dsimp only at hSw); go_simp)⟩) (by assumption) ?_
      simp only [Act.put, List.getElem_toArray, List.getElem_cons_succ, List.getElem_cons_zero, List.setIfInBounds_toArray, List.set_cons_zero, List.set_cons_succ]
      refine wpAnyH_take (i := 23) (v := (.int .i64 a)) rfl (by kernel_rfl) (by kernel_rfl) (by kernel_rfl) (fun _ _ _ h => h) (Or.inl ⟨by rfl, fun wx hSw => by (have hc := (HN2.out wx hSw); go_simp)⟩) (by assumption) ?_
      simp only [Act.put, List.getElem_toArray, List.getElem_cons_succ, List.getElem_cons_zero, List.setIfInBounds_toArray, List.set_cons_zero, List.set_cons_succ]
      refine wpAnyH_take (i := 24) (v := (.bool x3)) rfl (by kernel_rfl) (by kernel_rfl) (by kernel_rfl) (fun _ _ _ h => h) (Or.inl ⟨by rfl, fun wx hSw => by go_simp⟩) (by assumption) ?_
      simp only [Act.put, List.getElem_toArray, List.getElem_cons_succ, List.getElem_cons_zero, List.setIfInBounds_toArray, List.set_cons_zero, List.set_cons_succ]
      refine wpAnyH_take (i := 25) (v := (.bool x3)) rfl (by kernel_rfl) (by kernel_rfl) (by kernel_rfl) (fun _ _ _ h => h) (Or.inl ⟨by rfl, fun wx hSw => by ((try dsimp only at hSw); go_simp)⟩) (by assumption) ?_
      simp only [Act.put, List.getElem_toArray, List.getElem_cons_succ, List.getElem_cons_zero, List.setIfInBounds_toArray, List.set_cons_zero, List.set_cons_succ]
      refine wpAnyH_take (i := 26) (v := (.bool x3)) rfl (by kernel_rfl) (by kernel_rfl) (by kernel_rfl) (fun _ _ _ h => h) (Or.inl ⟨by rfl, fun wx hSw => by kernel_rfl⟩) (by assumption) ?_
      simp only [Act.put, List.getElem_toArray, List.getElem_cons_succ, List.getElem_cons_zero, List.setIfInBounds_toArray, List.set_cons_zero, List.set_cons_succ]
      refine wpAnyH_done (by kernel_rfl) ?_ _
      have HE : Hid (Below W1.heap.size W1 _) := hHeld
      go_wp2
      go_ret
      exact ⟨by rw [HV.out]; rfl, by rw [HNe.out]; exact HB1.out _ HE.out⟩
end Go.Proofs.YtanndhoimpnhpaaGreatDoor
namespace Go.Proofs.YtanndhoimpnhpaaGreatDoor
noncomputable def tl (j : Int) (σ : Option Sv) (s : List UInt8) : Option Sv := if (cutL s).2 = [] then fin j σ (cutL s).1 else none
theorem told_tl (s : List UInt8) : told s = tl (-1) none s := rfl
theorem noL_wdk : ∀ k, k < 6 → NoL (wdk k)
  | 0, _ | 1, _ | 2, _ | 3, _ | 4, _ | 5, _ => by unfold NoL; decide
  | _ + 6, h => absurd h (by omega)
theorem noB_wdk (k : Nat) (h : k < 6) : NoB (wdk k) := noB_wds k _ (wdk_wds h)
theorem nx_cut {s : List UInt8} {k : Nat} {ns : List Int} {r : List UInt8} (hk : k < 6) (h : Nx s (wdk k) (cnk k) ns r) : cutL s = ((wdk k ++ lnum ns) :: (cutL r).1, (cutL r).2) ∧ Lnk k ns (wdk k ++ lnum ns) := by
  obtain ⟨h1, h2, h3⟩ := h
  refine ⟨?_, h3, wdk k, wdk_wds hk, by rw [cnk_cnt hk, h2], rfl⟩
  rw [h1]
  exact cutL_line _ _ ((noL_wdk k hk).app (lnum_noL ns))
theorem tl_go {j : Int} {σ : Option Sv} {s : List UInt8} {k : Nat} {ns : List Int} {r : List UInt8} {s' : Sv} (hk : k < 6) (h : Nx s (wdk k) (cnk k) ns r) (hn : nextOk j k = true) (hs : stepK σ k ns = some s') : tl j σ s = tl k (some s') r := by
  obtain ⟨h1, h2⟩ := nx_cut hk h
  unfold tl
  rw [h1]
  simp only
  rw [fin_step h2 hn hs]
theorem tl_fail {j : Int} {σ : Option Sv} {s : List UInt8} {k : Nat} {ns : List Int} {r : List UInt8} (hk : k < 6) (h : Nx s (wdk k) (cnk k) ns r) (hs : stepK σ k ns = none) : tl j σ s = none := by
  obtain ⟨h1, h2⟩ := nx_cut hk h
  unfold tl
  rw [h1]
  simp only
  rw [fin_fail h2 hs]
  simp
theorem tl_none {j : Int} {σ : Option Sv} {s : List UInt8} (hj : ¬ j = 5) (h : ∀ k, k < 6 → nextOk j k = true → ¬ ∃ ns r, Nx s (wdk k) (cnk k) ns r) : tl j σ s = none := by
  unfold tl
  rcases nl_cases s with hn | ⟨line, r, rfl, hn⟩
  · rw [cutL_tail s hn]
    split
    · rw [fin, if_neg hj]
    · rfl
  · rw [cutL_line _ _ hn]
    simp only
    split
    · cases hc : cls line with
      | none => rw [fin, hc]
      | some p =>
        obtain ⟨k, ns⟩ := p
        have hl := cls_some hc
        cases hx : nextOk j k with
        | false => exact fin_not hl hx
        | true =>
          obtain ⟨h1, wa, h2, h3, h4⟩ := hl
          obtain ⟨g1, g2⟩ := wds_wdk h2
          rw [cnk_cnt g1] at h3
          exact absurd ⟨ns, r, by rw [h4, g2], (Option.some.inj h3).symm, h1⟩ (h k g1 hx)
    · rfl
theorem tl_end (σ : Option Sv) (s : List UInt8) : tl 5 σ s = if s = [] then σ else none := by
  by_cases hs : s = []
  · subst hs
    simp [tl, cutL, fin]
  · rw [if_neg hs]
    unfold tl
    rcases nl_cases s with hn | ⟨line, r, rfl, hn⟩
    · rw [cutL_tail s hn, if_neg hs]
    · rw [cutL_line _ _ hn]
      simp only
      split
      · cases hc : cls line with
        | none => rw [fin, hc]
        | some p =>
          obtain ⟨k, ns⟩ := p
          have hl := cls_some hc
          obtain ⟨h1, wa, h2, h3, h4⟩ := id hl
          obtain ⟨g1, g2⟩ := wds_wdk h2
          refine fin_not hl ?_
          unfold nextOk
          rw [decide_eq_false_iff_not]
          omega
      · rfl
theorem fin_same {i j : Int} (hi : ¬ i = 5) (hj : ¬ j = 5) (h : ∀ k, k < 6 → nextOk i k = nextOk j k) (σ : Option Sv) : ∀ ls, fin i σ ls = fin j σ ls
  | [] => by rw [fin, fin, if_neg hi, if_neg hj]
  | line :: r => by
    rw [fin, fin]
    cases hc : cls line with
    | none => rfl
    | some p =>
      obtain ⟨k, ns⟩ := p
      obtain ⟨_, _, h2, _⟩ := cls_some hc
      simp only
      rw [h k (wds_wdk h2).1]
theorem tl_01 (σ : Option Sv) (s : List UInt8) : tl 0 σ s = tl 1 σ s := by
  unfold tl
  rw [fin_same (i := 0) (j := 1) (by decide) (by decide) (by decide) σ]
theorem tl_34 (σ : Option Sv) (s : List UInt8) : tl 3 σ s = tl 4 σ s := by
  unfold tl
  rw [fin_same (i := 3) (j := 4) (by decide) (by decide) (by decide) σ]
end Go.Proofs.YtanndhoimpnhpaaGreatDoor
namespace Go.Proofs.YtanndhoimpnhpaaGreatDoor
open Go.RowKit
def Wf (W : Nat) (w w' : World) : Prop := Below W w w' ∧ Lib.OthersKept 5 (some W) w w'
theorem Wf.refl (W : Nat) (w : World) : Wf W w w := ⟨Below.refl _ _, Lib.OthersKept.refl _ _ _⟩
theorem Wf.trans {W : Nat} {a b c : World} (h : Wf W a b) (k : Wf W b c) : Wf W a c := ⟨h.1.trans k.1, h.2.trans k.2⟩
theorem Wf.drew {W : Nat} {a w : World} (h : Wf W a w) : Wf W a w.drew := ⟨h.1.drew, h.2.drew⟩
theorem Wf.below {W : Nat} {w w' : World} (h : Below w.heap.size w w') (hW : W ≤ w.heap.size) : Wf W w w' :=
  ⟨h.mono hW, fun k o hk _ _ => by
    have hl : k < w.heap.size := by
      rcases Nat.lt_or_ge k w.heap.size with h | h
      · exact h
      · rw [Array.getElem?_eq_none h] at hk; cases hk
    rw [h.block k hl]; exact hk⟩
def Sf (w : World) (W b : Nat) : Prop := b < W ∨ (¬ b = W ∧ ∃ o, w.heap[b]? = some o ∧ ∀ c fz, ¬ o = .cells c 5 fz)
theorem Sf.same {w w' : World} {W b : Nat} (h : Sf w W b) (hf : Wf W w w') : w'.heap[b]? = w.heap[b]? := by
  rcases h with h | ⟨h1, o, h2, h3⟩
  · exact hf.1.block b h
  · rw [h2, hf.2 b o h2 (fun e => h1 (Option.some.inj e)) h3]
theorem Sf.keep {w w' : World} {W b : Nat} (h : Sf w W b) (hf : Wf W w w') : Sf w' W b := by
  have := h.same hf
  rcases h with h | ⟨h1, o, h2, h3⟩
  · exact .inl h
  · exact .inr ⟨h1, o, this.trans h2, h3⟩
def Wr (w : World) (W : Nat) (txt : List UInt8) : Prop := ∃ v, At w W [v] ∧ w.ownsRow (W + 1) 5 1 v txt.length (Lib.byteCells txt)
theorem own_row {w : World} {base : Nat} {e : TypeId} {size : Nat} {v : Value} {n : Nat} {xs : List Value} (h : w.ownsRow base e size v n xs) {k : Nat} (hk : v.ownBlock = some k) : ∃ cur, w.heap[k]? = some (.cells cur e (0, 0)) := by
  obtain ⟨_, ⟨rfl, _⟩ | ⟨g, cap, cur, rfl, _, h5, _⟩⟩ := h
  · cases hk
  · injection hk with hk
    subst hk
    exact ⟨cur, h5⟩
theorem Wr.set {w w1 : World} {W : Nat} {v v1 : Value} {n1 : Nat} {xs1 : List Value} (hA : At w W [v]) (hb : w1.heap[W]? = w.heap[W]?) (hf : Wf W w w1) (ho1 : w1.ownsRow (W + 1) 5 1 v1 n1 xs1) :
    At w1 W [v] ∧ Wf W w (w1.setCell ⟨W, 0, none⟩ v1) ∧ At (w1.setCell ⟨W, 0, none⟩ v1) W [v1] ∧ (w1.setCell ⟨W, 0, none⟩ v1).ownsRow (W + 1) 5 1 v1 n1 xs1 := by
  have a1 : At w1 W [v] := hA.block hb
  refine ⟨a1, hf.trans ⟨(Below.refl W w1).setCell (p := ⟨W, 0, none⟩) (Nat.le_refl _) v1, fun k o hk hne _ => ?_⟩, a1.set 0 (by simp) v1, ownsRow_setCell_below ho1 (Nat.lt_succ_self W) _⟩
  rw [Below.heap_setCell w1 ⟨W, 0, none⟩ v1 k (fun e => hne (by rw [e]))]
  exact hk
theorem Wr.put {w w1 : World} {W : Nat} {v v1 : Value} {n n1 : Nat} {xs xs1 : List Value} (hA : At w W [v]) (ho : w.ownsRow (W + 1) 5 1 v n xs) (hg : w.grownBy w1 v.ownBlock) (ho1 : w1.ownsRow (W + 1) 5 1 v1 n1 xs1) :
    At w1 W [v] ∧ Wf W w (w1.setCell ⟨W, 0, none⟩ v1) ∧ At (w1.setCell ⟨W, 0, none⟩ v1) W [v1] ∧ (w1.setCell ⟨W, 0, none⟩ v1).ownsRow (W + 1) 5 1 v1 n1 xs1 := by
  have hl : W < w.heap.size := At.lt hA
  have hn : ∀ k, k ≤ W → some k ≠ v.ownBlock := fun k hk e => by
    have := (own_base ho e.symm).1
    omega
  refine Wr.set hA (hg.block W hl (hn W (Nat.le_refl _))) ⟨⟨hg.os, hg.tape, hg.output, hg.size, fun k hk => hg.block k (by omega) (hn k (by omega))⟩, fun k o hk _ hno => ?_⟩ ho1
  have hkl : k < w.heap.size := by
    rcases Nat.lt_or_ge k w.heap.size with h | h
    · exact h
    · rw [Array.getElem?_eq_none h] at hk; cases hk
  rw [hg.block k hkl (fun e => by
    obtain ⟨cur, hc⟩ := own_row ho e.symm
    rw [hc] at hk
    injection hk with hk
    exact hno _ _ hk.symm)]
  exact hk
theorem Wr.put2 {w w1 : World} {W : Nat} {v v1 : Value} {n1 : Nat} {xs1 : List Value} (hA : At w W [v]) (hb : Below (W + 1) w w1) (hk : Lib.OthersKept 5 none w w1) (ho1 : w1.ownsRow (W + 1) 5 1 v1 n1 xs1) :
    At w1 W [v] ∧ Wf W w (w1.setCell ⟨W, 0, none⟩ v1) ∧ At (w1.setCell ⟨W, 0, none⟩ v1) W [v1] ∧ (w1.setCell ⟨W, 0, none⟩ v1).ownsRow (W + 1) 5 1 v1 n1 xs1 :=
  Wr.set hA (hb.block W (Nat.lt_succ_self W)) ⟨hb.mono (Nat.le_succ W), fun k o h1 _ h3 => hk k o h1 (fun e => by cases e) h3⟩ ho1
def Nm (w : World) (W : Nat) (nv : Value) (ns : List Int) : Prop :=
  ∃ p cap, nv = .slice p ns.length cap ∧ ns.length ≤ cap ∧ ∀ k (hk : k < ns.length), ∃ b o c d, p = some ⟨b, o, none⟩ ∧ w.cell? ⟨b, o + k, none⟩ = some (.pointer (some ⟨c, d, none⟩)) ∧ w.cell? ⟨c, d, none⟩ = some (.int .i64 ns[k]) ∧ Sf w W b ∧ Sf w W c
theorem Nm.keep {w w' : World} {W : Nat} {nv : Value} {ns : List Int} (h : Nm w W nv ns) (hf : Wf W w w') : Nm w' W nv ns := by
  obtain ⟨p, cap, h1, h2, h3⟩ := h
  refine ⟨p, cap, h1, h2, fun k hk => ?_⟩
  obtain ⟨b, o, c, d, e1, e2, e3, e4, e5⟩ := h3 k hk
  exact ⟨b, o, c, d, e1, (World.cell?_of_block (w := w) (a := ⟨b, o + k, none⟩) (e4.same hf)).trans e2, (World.cell?_of_block (w := w) (a := ⟨c, d, none⟩) (e5.same hf)).trans e3, e4.keep hf, e5.keep hf⟩
theorem tab_on {W : Nat} {w w1 : World} (h : Lib.TabBelow Tryz.prog W w "internal/strconv.uint64pow10" .u64 Lib.pow10Tab) (hf : Wf W w w1) : Lib.TabBelow Tryz.prog (W + 1) w1 "internal/strconv.uint64pow10" .u64 Lib.pow10Tab := fun w' hb => h w' (hf.1.trans (hb.mono (Nat.le_succ W)))
end Go.Proofs.YtanndhoimpnhpaaGreatDoor
namespace Go.Proofs.YtanndhoimpnhpaaGreatDoor
open Go.RowKit
end Go.Proofs.YtanndhoimpnhpaaGreatDoor
namespace Go.Proofs.YtanndhoimpnhpaaGreatDoor
open Go.RowKit
section
variable {w w' : World} {TS : TypeId} {sz : Nat} {ok : Nat → List Value → Prop} {mk : Nat → List Value} {lv wv rv : Value} {Ls Ws Rs : List Value} {i : Nat} {τ τ' : Nat → Nat} {s : Nat}
end
section
variable {w w' : World} {TS : TypeId} {sz W : Nat} {ok : Nat → List Value → Prop} {mk : Nat → List Value} {lv wv rv wv' rv' v r : Value} {Ls Ws Rs : List Value} {n : Nat} {xs : List Value} {τ : Nat → Nat} {s : Nat}
end
end Go.Proofs.YtanndhoimpnhpaaGreatDoor
namespace Go.Proofs.YtanndhoimpnhpaaGreatDoor
open Go.RowKit
section
variable {w w' : World} {TS : TypeId} {sz W : Nat} {ok : Nat → List Value → Prop} {mk : Nat → List Value} {lv wv rv lv' l x y z : Value} {Ls Ws Rs c : List Value} {i : Nat} {τ : Nat → Nat} {s : Nat}
end
end Go.Proofs.YtanndhoimpnhpaaGreatDoor
namespace Go.Proofs.YtanndhoimpnhpaaGreatDoor
open Go.RowKit
end Go.Proofs.YtanndhoimpnhpaaGreatDoor
namespace Go.Proofs.YtanndhoimpnhpaaGreatDoor
open Go.RowKit
end Go.Proofs.YtanndhoimpnhpaaGreatDoor
