/- Joined by program: TxX, TxP, BsA, BsB, BsC, BsG, BsK, BsE, BsF, BsH. -/
import Derived.Test.YtanndhoimpnhpaaGreatDoorM19
import Derived.Test.YtanndhoimpnhpaaGreatDoorM7
import Derived.Test.YtanndhoimpnhpaaGreatDoorM11
import Derived.Test.YtanndhoimpnhpaaGreatDoorM2
import Derived.Test.YtanndhoimpnhpaaGreatDoorM1
import Derived.Lib.OthersKept
import Derived.Lib.AppendStr
import Derived.Lib.AppendIntMem
import Derived.Laws.OwnMore
import Derived.OwnWalk
import Derived.Test.YtanndhoimpnhpaaGreatDoorM13
import Derived.Deep.CutRange
import Derived.Deep.MidRow
import Derived.Deep.RegionHeld3
namespace Go.Proofs.YtanndhoimpnhpaaGreatDoor
open Go.ChangeShapes Go.WideShapes Go.ChangeAt Go.RowKit Lg Cal
theorem newreader_any (w : World) (s : List UInt8) : Calls Tryz.prog 34 #[.string (bs s)] w fun e w' => e = .returned (.pointer (some ⟨w.heap.size, 0, none⟩)) ∧ At w' w.heap.size [.string (bs s)] ∧ Below w.heap.size w w' := by
  have HA : Hid (At (w.alloc (.cells #[.string (bs s)] 142)) w.heap.size [.string (bs s)]) := At.alloc w [.string (bs s)] _
  have HB : Hid (Below w.heap.size w (w.alloc (.cells #[.string (bs s)] 142))) := (Below.refl _ _).alloc (Nat.le_refl _) _
  generalize bs s = S at *
  go_enter Tryz.func34, Tryz.ntmps34
  go_wp2
  go_ret
  exact ⟨rfl, HA.out, HB.out⟩
theorem atend_any (w : World) (R : Nat) (s : List UInt8) (hA : At w R [.string (bs s)]) : Calls Tryz.prog 77 #[.pointer (some ⟨R, 0, none⟩)] w fun e w' => e = .returned (.bool (decide (s = []))) ∧ w' = w := by
  have c0 : w.cell? ⟨R, 0, none⟩ = some (.string (bs s)) := hA.cell 0 rfl
  have HX2 : Hid ((bs s).toList.isEmpty = decide (s = [])) := by
    show _ = _
    rw [ByteArray.toList_eq, bs_list]
    cases s <;> rfl
  obtain ⟨x, hx⟩ : ∃ b, (bs s).toList.isEmpty = b := ⟨_, rfl⟩
  rw [hx] at HX2
  clear hA
  generalize bs s = S at *
  go_enter Tryz.func77, Tryz.ntmps77
  go_wp2
  go_ret
  exact ⟨by rw [← HX2.out]; rfl, rfl⟩
def reB (t : Ln.Terms) (day d k a : Int) : Bool := decide (t.st ≤ d ∧ d ≤ day - 1) && (decide (1 ≤ k ∧ k ≤ 12) && decide (¬ a = 0))
set_option maxRecDepth 10000 in
set_option maxHeartbeats 2000000 in
theorem rightentry_any (w : World) (B : Nat) (t : Ln.Terms) (evv : Value) (g : Ln.St) (day : Int) (bk : Value) (hA : At w B (ll t evv g day bk)) (h0 : -1000000 ≤ day) (h1 : day ≤ 1000000) (d k a : Int) :
    Calls Tryz.prog 104 #[.pointer (some ⟨B, 0, none⟩), .agg #[.int .i64 d, .int .i64 k, .int .i64 a]] w fun e w' => e = .returned (.bool (reB t day d k a)) ∧ Below w.heap.size w w' := by
  have hB1 : Below w.heap.size w (w.alloc (.cells #[.int .i64 d, .int .i64 k, .int .i64 a] 114)) := (Below.refl _ _).alloc (Nat.le_refl _) _
  have hA1 : At (w.alloc (.cells #[.int .i64 d, .int .i64 k, .int .i64 a] 114)) w.heap.size [.int .i64 d, .int .i64 k, .int .i64 a] := At.alloc w [.int .i64 d, .int .i64 k, .int .i64 a] _
  have hA2 : At (w.alloc (.cells #[.int .i64 d, .int .i64 k, .int .i64 a] 114)) B (ll t evv g day bk) := At.keep (S := fun _ => False) (v := .int .i64 t.st) hA (Keep.below hB1) (fun x => x)
  have HB1 : Hid (Below w.heap.size w (w.alloc (.cells #[.int .i64 d, .int .i64 k, .int .i64 a] 114))) := hB1
  have HN : Hid (∀ wx, Below (w.alloc (.cells #[.int .i64 d, .int .i64 k, .int .i64 a] 114)).heap.size (w.alloc (.cells #[.int .i64 d, .int .i64 k, .int .i64 a] 114)) wx → At wx w.heap.size [.int .i64 d, .int .i64 k, .int .i64 a] ∧ At wx B (ll t evv g day bk)) := fun wx hx => ⟨hA1.lower hx, hA2.lower hx⟩
  have z1 : IntKind.i64.wrap (day - 1) = day - 1 := by rw [IntKind.wrap_i64]; omega
  have HL1 : Hid (∀ W, Calls Tryz.prog 36 #[.agg #[.int .i64 t.st, .int .i64 (day - 1)], .int .i64 d] W fun e w' => e = .returned (.bool (decide (t.st ≤ d ∧ d ≤ day - 1))) ∧ Below W.heap.size W w') := fun W => by
    by_cases h : t.st ≤ d ∧ d ≤ day - 1
    · rw [decide_eq_true h]; exact allow_yes _ _ _ W h.1 h.2
    · rw [decide_eq_false h]; exact allow_no _ _ _ W (by omega)
  have HL2 : Hid (∀ W, Calls Tryz.prog 36 #[.agg #[.int .i64 1, .int .i64 12], .int .i64 k] W fun e w' => e = .returned (.bool (decide (1 ≤ k ∧ k ≤ 12))) ∧ Below W.heap.size W w') := fun W => by
    by_cases h : 1 ≤ k ∧ k ≤ 12
    · rw [decide_eq_true h]; exact allow_yes _ _ _ W h.1 h.2
    · rw [decide_eq_false h]; exact allow_no _ _ _ W (by omega)
  obtain ⟨x1, e1⟩ : ∃ b, decide (t.st ≤ d ∧ d ≤ day - 1) = b := ⟨_, rfl⟩
  obtain ⟨x2, e2⟩ : ∃ b, decide (1 ≤ k ∧ k ≤ 12) = b := ⟨_, rfl⟩
  obtain ⟨x3, e3⟩ : ∃ b, (a != (0 : Int)) = b := ⟨_, rfl⟩
  have HV : Hid (reB t day d k a = (x1 && (x2 && x3))) := by
    show _ = _
    unfold reB
    rw [e1, e2, ← e3]
    congr 2
    by_cases ha : a = 0 <;> simp [ha]
  rw [e1] at HL1
  rw [e2] at HL2
  clear e1 e2 hA hA1 hA2 hB1
  go_enter Tryz.func104, Tryz.ntmps104
  go_upto_region 1 with fail
  generalize w.alloc (.cells #[.int .i64 d, .int .i64 k, .int .i64 a] 114) = W1 at *
  have HN9 : Hid (∀ wx, Below W1.heap.size W1 wx → At wx w.heap.size [.int .i64 d, .int .i64 k, .int .i64 a] ∧ At wx B (ll t evv g day bk)) := HN.out
  clear HN
  have HB2 : Hid (Below w.heap.size w W1) := HB1.out
  clear HB1
  have HB1 : Hid (∀ x, Below W1.heap.size W1 x → Below w.heap.size w x) := fun x hx => HB2.out.trans (hx.mono HB2.out.size)
  clear HB2
  generalize hNe : w.heap.size = N at *
  have HNe : Hid (w.heap.size = N) := hNe
  clear hNe
  have HN0 : Hid (∀ wx, Below W1.heap.size W1 wx → wx.cell? ⟨N, 0, none⟩ = some (.int .i64 d)) := fun wx hx => (HN9.out wx hx).1.cell 0 rfl
  have HN1 : Hid (∀ wx, Below W1.heap.size W1 wx → wx.cell? ⟨N, 1, none⟩ = some (.int .i64 k)) := fun wx hx => (HN9.out wx hx).1.cell 1 rfl
  have HN2 : Hid (∀ wx, Below W1.heap.size W1 wx → wx.cell? ⟨N, 2, none⟩ = some (.int .i64 a)) := fun wx hx => (HN9.out wx hx).1.cell 2 rfl
  have HS0 : Hid (∀ wx, Below W1.heap.size W1 wx → wx.cell? ⟨B, 0, none⟩ = some (.int .i64 t.st)) := fun wx hx => (HN9.out wx hx).2.cell 0 rfl
  have HDy : Hid (∀ wx, Below W1.heap.size W1 wx → wx.cell? ⟨B, 14, none⟩ = some (.int .i64 day)) := fun wx hx => (HN9.out wx hx).2.cell 14 rfl
  clear HN9
  refine wp_region_held_drew (S := fun wx => Below W1.heap.size W1 wx) (by kernel_rfl) (Below.refl _ _).drew (fun hHeld => ?_)
  generalize W1.drew = U0 at *
  refine wpAnyH_take (i := 0) (v := (.pointer (some ⟨B, 0, none⟩))) rfl (by kernel_rfl) (by kernel_rfl) (by kernel_rfl) (fun _ _ _ h => h) (Or.inl ⟨by rfl, fun wx hSw => by kernel_rfl⟩) (by assumption) ?_
  simp only [Act.put, List.getElem_toArray, List.getElem_cons_zero, List.setIfInBounds_toArray, List.set_cons_zero, List.set_cons_succ]
  refine wpAnyH_take (i := 1) (v := (.pointer (some ⟨B, 0, none⟩))) rfl (by kernel_rfl) (by kernel_rfl) (by kernel_rfl) (fun _ _ _ h => h) (Or.inl ⟨by rfl, fun wx hSw => by ((try dsimp only at hSw); go_simp)⟩) (by assumption) ?_
  simp only [Act.put, List.getElem_toArray, List.getElem_cons_succ, List.getElem_cons_zero, List.setIfInBounds_toArray, List.set_cons_zero, List.set_cons_succ]
  refine wpAnyH_take (i := 2) (v := (.pointer (some ⟨B, 0, none⟩))) rfl (by kernel_rfl) (by kernel_rfl) (by kernel_rfl) (fun _ _ _ h => h) (Or.inl ⟨by rfl, fun wx hSw => by ((try dsimp only at hSw); go_simp)⟩) (by assumption) ?_
  simp only [Act.put, List.getElem_toArray, List.getElem_cons_succ, List.getElem_cons_zero, List.setIfInBounds_toArray, List.set_cons_zero, List.set_cons_succ]
  refine wpAnyH_take (i := 3) (v := (.pointer (some ⟨B, 0, none⟩))) rfl (by kernel_rfl) (by kernel_rfl) (by kernel_rfl) (fun _ _ _ h => h) (Or.inl ⟨by rfl, fun wx hSw => by ((try dsimp only at hSw); go_simp)⟩) (by assumption) ?_
  simp only [Act.put, List.getElem_toArray, List.getElem_cons_succ, List.getElem_cons_zero, List.setIfInBounds_toArray, List.set_cons_zero, List.set_cons_succ]
  refine wpAnyH_take (i := 4) (v := (.int .i64 t.st)) rfl (by kernel_rfl) (by kernel_rfl) (by kernel_rfl) (fun _ _ _ h => h) (Or.inl ⟨by rfl, fun wx hSw => by (have hc := (HS0.out wx hSw); go_simp)⟩) (by assumption) ?_
  simp only [Act.put, List.getElem_toArray, List.getElem_cons_succ, List.getElem_cons_zero, List.setIfInBounds_toArray, List.set_cons_zero, List.set_cons_succ]
  refine wpAnyH_take (i := 5) (v := (.pointer (some ⟨B, 0, none⟩))) rfl (by kernel_rfl) (by kernel_rfl) (by kernel_rfl) (fun _ _ _ h => h) (Or.inl ⟨by rfl, fun wx hSw => by kernel_rfl⟩) (by assumption) ?_
  simp only [Act.put, List.getElem_toArray, List.getElem_cons_succ, List.getElem_cons_zero, List.setIfInBounds_toArray, List.set_cons_zero, List.set_cons_succ]
  refine wpAnyH_take (i := 6) (v := (.pointer (some ⟨B, 0, none⟩))) rfl (by kernel_rfl) (by kernel_rfl) (by kernel_rfl) (fun _ _ _ h => h) (Or.inl ⟨by rfl, fun wx hSw => by ((try dsimp only at hSw); go_simp)⟩) (by assumption) ?_
  simp only [Act.put, List.getElem_toArray, List.getElem_cons_succ, List.getElem_cons_zero, List.setIfInBounds_toArray, List.set_cons_zero, List.set_cons_succ]
  refine wpAnyH_take (i := 7) (v := (.pointer (some ⟨B, 7, none⟩))) rfl (by kernel_rfl) (by kernel_rfl) (by kernel_rfl) (fun _ _ _ h => h) (Or.inl ⟨by rfl, fun wx hSw => by ((try dsimp only at hSw); go_simp)⟩) (by assumption) ?_
  simp only [Act.put, List.getElem_toArray, List.getElem_cons_succ, List.getElem_cons_zero, List.setIfInBounds_toArray, List.set_cons_zero, List.set_cons_succ]
  refine wpAnyH_take (i := 8) (v := (.pointer (some ⟨B, 14, none⟩))) rfl (by kernel_rfl) (by kernel_rfl) (by kernel_rfl) (fun _ _ _ h => h) (Or.inl ⟨by rfl, fun wx hSw => by ((try dsimp only at hSw); go_simp)⟩) (by assumption) ?_
  simp only [Act.put, List.getElem_toArray, List.getElem_cons_succ, List.getElem_cons_zero, List.setIfInBounds_toArray, List.set_cons_zero, List.set_cons_succ]
  refine wpAnyH_take (i := 9) (v := (.int .i64 day)) rfl (by kernel_rfl) (by kernel_rfl) (by kernel_rfl) (fun _ _ _ h => h) (Or.inl ⟨by rfl, fun wx hSw => by (have hc := (HDy.out wx hSw); go_simp)⟩) (by assumption) ?_
  simp only [Act.put, List.getElem_toArray, List.getElem_cons_succ, List.getElem_cons_zero, List.setIfInBounds_toArray, List.set_cons_zero, List.set_cons_succ]
  refine wpAnyH_take (i := 10) (v := (.int .i64 (day - 1))) rfl (by kernel_rfl) (by kernel_rfl) (by kernel_rfl) (fun _ _ _ h => h) (Or.inl ⟨by rfl, fun wx hSw => by go_simp⟩) (by assumption) ?_
  simp only [Act.put, List.getElem_toArray, List.getElem_cons_succ, List.getElem_cons_zero, List.setIfInBounds_toArray, List.set_cons_zero, List.set_cons_succ]
  refine wpAnyH_take (i := 11) (v := (.agg #[.int .i64 t.st, .int .i64 (day - 1)])) rfl (by kernel_rfl) (by kernel_rfl) (by kernel_rfl) (fun _ _ _ h => h) (Or.inl ⟨by rfl, fun wx hSw => by go_simp⟩) (by assumption) ?_
  simp only [Act.put, List.getElem_toArray, List.getElem_cons_succ, List.getElem_cons_zero, List.setIfInBounds_toArray, List.set_cons_zero, List.set_cons_succ]
  refine wpAnyH_take (i := 12) (v := (.pointer (some ⟨N, 0, none⟩))) rfl (by kernel_rfl) (by kernel_rfl) (by kernel_rfl) (fun _ _ _ h => h) (Or.inl ⟨by rfl, fun wx hSw => by ((try dsimp only at hSw); go_simp)⟩) (by assumption) ?_
  simp only [Act.put, List.getElem_toArray, List.getElem_cons_succ, List.getElem_cons_zero, List.setIfInBounds_toArray, List.set_cons_zero, List.set_cons_succ]
  refine wpAnyH_take (i := 13) (v := (.int .i64 d)) rfl (by kernel_rfl) (by kernel_rfl) (by kernel_rfl) (fun _ _ _ h => h) (Or.inl ⟨by rfl, fun wx hSw => by (have hc := (HN0.out wx hSw); go_simp)⟩) (by assumption) ?_
  simp only [Act.put, List.getElem_toArray, List.getElem_cons_succ, List.getElem_cons_zero, List.setIfInBounds_toArray, List.set_cons_zero, List.set_cons_succ]
  refine wpAnyH_ready (rs := [14]) (by kernel_rfl) (by simp) ?_
  refine AllReadyH.cons rfl (fun K hK => ?_) AllReadyH.nil
  have hC := HL1.out U0
  go_simp
  refine hC.mono ?_
  rintro e U14 ⟨rfl, hb3⟩
  go_wp2_with fail
  have hb14 := hHeld.trans (hb3.mono hHeld.size)
  refine hK.out _ _ hb14 (fun hHeld => ?_)
  clear hK K hC hb3
  try simp only [Act.put, List.getElem_toArray, List.getElem_cons_succ, List.getElem_cons_zero, List.setIfInBounds_toArray, List.set_cons_zero, List.set_cons_succ]
  refine wpAnyH_take (i := 15) (v := (.bool x1)) rfl (by kernel_rfl) (by kernel_rfl) (by kernel_rfl) (fun _ _ _ h => h) (Or.inl ⟨by rfl, fun wx hSw => by kernel_rfl⟩) (by assumption) ?_
  simp only [Act.put, List.getElem_toArray, List.getElem_cons_succ, List.getElem_cons_zero, List.setIfInBounds_toArray, List.set_cons_zero, List.set_cons_succ]
  cases x1
  · skip
    refine wpAnyH_take (i := 16) (v := undef) rfl (by kernel_rfl) (by kernel_rfl) (by kernel_rfl) (fun _ _ _ h => h) (Or.inr ⟨by rfl, rfl⟩) (by assumption) ?_
    simp only [Act.put, List.getElem_toArray, List.getElem_cons_succ, List.getElem_cons_zero, List.setIfInBounds_toArray, List.set_cons_zero, List.set_cons_succ]
    refine wpAnyH_take (i := 17) (v := undef) rfl (by kernel_rfl) (by kernel_rfl) (by kernel_rfl) (fun _ _ _ h => h) (Or.inr ⟨by rfl, rfl⟩) (by assumption) ?_
    simp only [Act.put, List.getElem_toArray, List.getElem_cons_succ, List.getElem_cons_zero, List.setIfInBounds_toArray, List.set_cons_zero, List.set_cons_succ]
    refine wpAnyH_take (i := 18) (v := undef) rfl (by kernel_rfl) (by kernel_rfl) (by kernel_rfl) (fun _ _ _ h => h) (Or.inr ⟨by rfl, rfl⟩) (by assumption) ?_
    simp only [Act.put, List.getElem_toArray, List.getElem_cons_succ, List.getElem_cons_zero, List.setIfInBounds_toArray, List.set_cons_zero, List.set_cons_succ]
    refine wpAnyH_take (i := 19) (v := undef) rfl (by kernel_rfl) (by kernel_rfl) (by kernel_rfl) (fun _ _ _ h => h) (Or.inr ⟨by rfl, rfl⟩) (by assumption) ?_
    simp only [Act.put, List.getElem_toArray, List.getElem_cons_succ, List.getElem_cons_zero, List.setIfInBounds_toArray, List.set_cons_zero, List.set_cons_succ]
    refine wpAnyH_take (i := 20) (v := (.bool false)) rfl (by kernel_rfl) (by kernel_rfl) (by kernel_rfl) (fun _ _ _ h => h) (Or.inl ⟨by rfl, fun wx hSw => by ((try dsimp only at hSw); go_simp)⟩) (by assumption) ?_
    simp only [Act.put, List.getElem_toArray, List.getElem_cons_succ, List.getElem_cons_zero, List.setIfInBounds_toArray, List.set_cons_zero, List.set_cons_succ]
    refine wpAnyH_take (i := 21) (v := (.bool false)) rfl (by kernel_rfl) (by kernel_rfl) (by kernel_rfl) (fun _ _ _ h => h) (Or.inl ⟨by rfl, fun wx hSw => by kernel_rfl⟩) (by assumption) ?_
    simp only [Act.put, List.getElem_toArray, List.getElem_cons_succ, List.getElem_cons_zero, List.setIfInBounds_toArray, List.set_cons_zero, List.set_cons_succ]
    refine wpAnyH_take (i := 22) (v := undef) rfl (by kernel_rfl) (by kernel_rfl) (by kernel_rfl) (fun _ _ _ h => h) (Or.inr ⟨by rfl, rfl⟩) (by assumption) ?_
    simp only [Act.put, List.getElem_toArray, List.getElem_cons_succ, List.getElem_cons_zero, List.setIfInBounds_toArray, List.set_cons_zero, List.set_cons_succ]
    refine wpAnyH_take (i := 23) (v := undef) rfl (by kernel_rfl) (by kernel_rfl) (by kernel_rfl) (fun _ _ _ h => h) (Or.inr ⟨by rfl, rfl⟩) (by assumption) ?_
    simp only [Act.put, List.getElem_toArray, List.getElem_cons_succ, List.getElem_cons_zero, List.setIfInBounds_toArray, List.set_cons_zero, List.set_cons_succ]
    refine wpAnyH_take (i := 24) (v := undef) rfl (by kernel_rfl) (by kernel_rfl) (by kernel_rfl) (fun _ _ _ h => h) (Or.inr ⟨by rfl, rfl⟩) (by assumption) ?_
    simp only [Act.put, List.getElem_toArray, List.getElem_cons_succ, List.getElem_cons_zero, List.setIfInBounds_toArray, List.set_cons_zero, List.set_cons_succ]
    refine wpAnyH_take (i := 25) (v := (.bool false)) rfl (by kernel_rfl) (by kernel_rfl) (by kernel_rfl) (fun _ _ _ h => h) (Or.inl ⟨by rfl, fun wx hSw => by ((try dsimp only at hSw); go_simp)⟩) (by assumption) ?_
    simp only [Act.put, List.getElem_toArray, List.getElem_cons_succ, List.getElem_cons_zero, List.setIfInBounds_toArray, List.set_cons_zero, List.set_cons_succ]
    refine wpAnyH_take (i := 26) (v := (.bool false)) rfl (by kernel_rfl) (by kernel_rfl) (by kernel_rfl) (fun _ _ _ h => h) (Or.inl ⟨by rfl, fun wx hSw => by kernel_rfl⟩) (by assumption) ?_
    simp only [Act.put, List.getElem_toArray, List.getElem_cons_succ, List.getElem_cons_zero, List.setIfInBounds_toArray, List.set_cons_zero, List.set_cons_succ]
    refine wpAnyH_done (by kernel_rfl) ?_ _
    have HE : Hid (Below W1.heap.size W1 _) := hHeld
    go_wp2
    go_ret
    exact ⟨by rw [HV.out]; rfl, by rw [HNe.out]; exact HB1.out _ HE.out⟩
  · skip
    refine wpAnyH_take (i := 16) (v := (.agg #[.int .i64 1, .int .i64 12])) rfl (by kernel_rfl) (by kernel_rfl) (by kernel_rfl) (fun _ _ _ h => h) (Or.inl ⟨by rfl, fun wx hSw => by go_simp⟩) (by assumption) ?_
    simp only [Act.put, List.getElem_toArray, List.getElem_cons_succ, List.getElem_cons_zero, List.setIfInBounds_toArray, List.set_cons_zero, List.set_cons_succ]
    refine wpAnyH_take (i := 17) (v := (.pointer (some ⟨N, 1, none⟩))) rfl (by kernel_rfl) (by kernel_rfl) (by kernel_rfl) (fun _ _ _ h => h) (Or.inl ⟨by rfl, fun wx hSw => by ((try dsimp only at hSw); go_simp)⟩) (by assumption) ?_
    simp only [Act.put, List.getElem_toArray, List.getElem_cons_succ, List.getElem_cons_zero, List.setIfInBounds_toArray, List.set_cons_zero, List.set_cons_succ]
    refine wpAnyH_take (i := 18) (v := (.int .i64 k)) rfl (by kernel_rfl) (by kernel_rfl) (by kernel_rfl) (fun _ _ _ h => h) (Or.inl ⟨by rfl, fun wx hSw => by (have hc := (HN1.out wx hSw); go_simp)⟩) (by assumption) ?_
    simp only [Act.put, List.getElem_toArray, List.getElem_cons_succ, List.getElem_cons_zero, List.setIfInBounds_toArray, List.set_cons_zero, List.set_cons_succ]
    refine wpAnyH_ready (rs := [19]) (by kernel_rfl) (by simp) ?_
    refine AllReadyH.cons rfl (fun K hK => ?_) AllReadyH.nil
    have hC := HL2.out U14
    go_simp
    refine hC.mono ?_
    rintro e U19 ⟨rfl, hb3⟩
    go_wp2_with fail
    have hb19 := hHeld.trans (hb3.mono hHeld.size)
    refine hK.out _ _ hb19 (fun hHeld => ?_)
    clear hK K hC hb3
    try simp only [Act.put, List.getElem_toArray, List.getElem_cons_succ, List.getElem_cons_zero, List.setIfInBounds_toArray, List.set_cons_zero, List.set_cons_succ]
    refine wpAnyH_take (i := 20) (v := (.bool x2)) rfl (by kernel_rfl) (by kernel_rfl) (by kernel_rfl) (fun _ _ _ h => h) (Or.inl ⟨by rfl, fun wx hSw => by go_simp⟩) (by assumption) ?_
    simp only [Act.put, List.getElem_toArray, List.getElem_cons_succ, List.getElem_cons_zero, List.setIfInBounds_toArray, List.set_cons_zero, List.set_cons_succ]
    refine wpAnyH_take (i := 21) (v := (.bool x2)) rfl (by kernel_rfl) (by kernel_rfl) (by kernel_rfl) (fun _ _ _ h => h) (Or.inl ⟨by rfl, fun wx hSw => by kernel_rfl⟩) (by assumption) ?_
    simp only [Act.put, List.getElem_toArray, List.getElem_cons_succ, List.getElem_cons_zero, List.setIfInBounds_toArray, List.set_cons_zero, List.set_cons_succ]
    cases x2
    · skip
      refine wpAnyH_take (i := 22) (v := undef) rfl (by kernel_rfl) (by kernel_rfl) (by kernel_rfl) (fun _ _ _ h => h) (Or.inr ⟨by rfl, rfl⟩) (by assumption) ?_
      simp only [Act.put, List.getElem_toArray, List.getElem_cons_succ, List.getElem_cons_zero, List.setIfInBounds_toArray, List.set_cons_zero, List.set_cons_succ]
      refine wpAnyH_take (i := 23) (v := undef) rfl (by kernel_rfl) (by kernel_rfl) (by kernel_rfl) (fun _ _ _ h => h) (Or.inr ⟨by rfl, rfl⟩) (by assumption) ?_
      simp only [Act.put, List.getElem_toArray, List.getElem_cons_succ, List.getElem_cons_zero, List.setIfInBounds_toArray, List.set_cons_zero, List.set_cons_succ]
      refine wpAnyH_take (i := 24) (v := undef) rfl (by kernel_rfl) (by kernel_rfl) (by kernel_rfl) (fun _ _ _ h => h) (Or.inr ⟨by rfl, rfl⟩) (by assumption) ?_
      simp only [Act.put, List.getElem_toArray, List.getElem_cons_succ, List.getElem_cons_zero, List.setIfInBounds_toArray, List.set_cons_zero, List.set_cons_succ]
      refine wpAnyH_take (i := 25) (v := (.bool false)) rfl (by kernel_rfl) (by kernel_rfl) (by kernel_rfl) (fun _ _ _ h => h) (Or.inl ⟨by rfl, fun wx hSw => by ((try dsimp only at hSw); go_simp)⟩) (by assumption) ?_
      simp only [Act.put, List.getElem_toArray, List.getElem_cons_succ, List.getElem_cons_zero, List.setIfInBounds_toArray, List.set_cons_zero, List.set_cons_succ]
      refine wpAnyH_take (i := 26) (v := (.bool false)) rfl (by kernel_rfl) (by kernel_rfl) (by kernel_rfl) (fun _ _ _ h => h) (Or.inl ⟨by rfl, fun wx hSw => by kernel_rfl⟩) (by assumption) ?_
      simp only [Act.put, List.getElem_toArray, List.getElem_cons_succ, List.getElem_cons_zero, List.setIfInBounds_toArray, List.set_cons_zero, List.set_cons_succ]
      refine wpAnyH_done (by kernel_rfl) ?_ _
      have HE : Hid (Below W1.heap.size W1 _) := hHeld
      go_wp2
      go_ret
      exact ⟨by rw [HV.out]; rfl, by rw [HNe.out]; exact HB1.out _ HE.out⟩
    · skip
      refine wpAnyH_take (i := 22) (v := (.pointer (some ⟨N, 2, none⟩))) rfl (by kernel_rfl) (by kernel_rfl) (by kernel_rfl) (fun _ _ _ h => h) (Or.inl ⟨by rfl, fun wx hSw => by ((try dsimp only at hSw); go_simp)⟩) (by assumption) ?_
      simp only [Act.put, List.getElem_toArray, List.getElem_cons_succ, List.getElem_cons_zero, List.setIfInBounds_toArray, List.set_cons_zero, List.set_cons_succ]
      refine wpAnyH_take (i := 23) (v := (.int .i64 a)) rfl (by kernel_rfl) (by kernel_rfl) (by kernel_rfl) (fun _ _ _ h => h) (Or.inl ⟨by rfl, fun wx hSw => by (have hc := (HN2.out wx hSw); go_simp)⟩) (by assumption) ?_
      simp only [Act.put, List.getElem_toArray, List.getElem_cons_succ, List.getElem_cons_zero, List.setIfInBounds_toArray, List.set_cons_zero, List.set_cons_succ]
      refine wpAnyH_take (i := 24) (v := (.bool x3)) rfl (by kernel_rfl) (by kernel_rfl) (by kernel_rfl) (fun _ _ _ h => h) (Or.inl ⟨by rfl, fun wx hSw => by go_simp⟩) (by assumption) ?_
      simp only [Act.put, List.getElem_toArray, List.getElem_cons_succ, List.getElem_cons_zero, List.setIfInBounds_toArray, List.set_cons_zero, List.set_cons_succ]
      refine wpAnyH_take (i := 25) (v := (.bool x3)) rfl (by kernel_rfl) (by kernel_rfl) (by kernel_rfl) (fun _ _ _ h => h) (Or.inl ⟨by rfl, fun wx hSw => by ((try dsimp only at hSw); go_simp)⟩) (by assumption) ?_
      simp only [Act.put, List.getElem_toArray, List.getElem_cons_succ, List.getElem_cons_zero, List.setIfInBounds_toArray, List.set_cons_zero, List.set_cons_succ]
      refine wpAnyH_take (i := 26) (v := (.bool x3)) rfl (by kernel_rfl) (by kernel_rfl) (by kernel_rfl) (fun _ _ _ h => h) (Or.inl ⟨by rfl, fun wx hSw => by kernel_rfl⟩) (by assumption) ?_
      simp only [Act.put, List.getElem_toArray, List.getElem_cons_succ, List.getElem_cons_zero, List.setIfInBounds_toArray, List.set_cons_zero, List.set_cons_succ]
      refine wpAnyH_done (by kernel_rfl) ?_ _
      have HE : Hid (Below W1.heap.size W1 _) := hHeld
      go_wp2
      go_ret
      exact ⟨by rw [HV.out]; rfl, by rw [HNe.out]; exact HB1.out _ HE.out⟩
end Go.Proofs.YtanndhoimpnhpaaGreatDoor
namespace Go.Proofs.YtanndhoimpnhpaaGreatDoor
open Go.RowKit
def Wf (W : Nat) (w w' : World) : Prop := Below W w w' ∧ Lib.OthersKept 5 (some W) w w'
theorem Wf.refl (W : Nat) (w : World) : Wf W w w := ⟨Below.refl _ _, Lib.OthersKept.refl _ _ _⟩
theorem Wf.trans {W : Nat} {a b c : World} (h : Wf W a b) (k : Wf W b c) : Wf W a c := ⟨h.1.trans k.1, h.2.trans k.2⟩
theorem Wf.drew {W : Nat} {a w : World} (h : Wf W a w) : Wf W a w.drew := ⟨h.1.drew, h.2.drew⟩
theorem Wf.below {W : Nat} {w w' : World} (h : Below w.heap.size w w') (hW : W ≤ w.heap.size) : Wf W w w' :=
  ⟨h.mono hW, fun k o hk _ _ => by
    have hl : k < w.heap.size := by
      rcases Nat.lt_or_ge k w.heap.size with h | h
      · exact h
      · rw [Array.getElem?_eq_none h] at hk; cases hk
    rw [h.block k hl]; exact hk⟩
def Sf (w : World) (W b : Nat) : Prop := b < W ∨ (¬ b = W ∧ ∃ o, w.heap[b]? = some o ∧ ∀ c fz, ¬ o = .cells c 5 fz)
theorem Sf.same {w w' : World} {W b : Nat} (h : Sf w W b) (hf : Wf W w w') : w'.heap[b]? = w.heap[b]? := by
  rcases h with h | ⟨h1, o, h2, h3⟩
  · exact hf.1.block b h
  · rw [h2, hf.2 b o h2 (fun e => h1 (Option.some.inj e)) h3]
theorem Sf.keep {w w' : World} {W b : Nat} (h : Sf w W b) (hf : Wf W w w') : Sf w' W b := by
  have := h.same hf
  rcases h with h | ⟨h1, o, h2, h3⟩
  · exact .inl h
  · exact .inr ⟨h1, o, this.trans h2, h3⟩
def Wr (w : World) (W : Nat) (txt : List UInt8) : Prop := ∃ v, At w W [v] ∧ w.ownsRow (W + 1) 5 1 v txt.length (Lib.byteCells txt)
theorem own_row {w : World} {base : Nat} {e : TypeId} {size : Nat} {v : Value} {n : Nat} {xs : List Value} (h : w.ownsRow base e size v n xs) {k : Nat} (hk : v.ownBlock = some k) : ∃ cur, w.heap[k]? = some (.cells cur e (0, 0)) := by
  obtain ⟨_, ⟨rfl, _⟩ | ⟨g, cap, cur, rfl, _, h5, _⟩⟩ := h
  · cases hk
  · injection hk with hk
    subst hk
    exact ⟨cur, h5⟩
theorem Wr.set {w w1 : World} {W : Nat} {v v1 : Value} {n1 : Nat} {xs1 : List Value} (hA : At w W [v]) (hb : w1.heap[W]? = w.heap[W]?) (hf : Wf W w w1) (ho1 : w1.ownsRow (W + 1) 5 1 v1 n1 xs1) :
    At w1 W [v] ∧ Wf W w (w1.setCell ⟨W, 0, none⟩ v1) ∧ At (w1.setCell ⟨W, 0, none⟩ v1) W [v1] ∧ (w1.setCell ⟨W, 0, none⟩ v1).ownsRow (W + 1) 5 1 v1 n1 xs1 := by
  have a1 : At w1 W [v] := hA.block hb
  refine ⟨a1, hf.trans ⟨(Below.refl W w1).setCell (p := ⟨W, 0, none⟩) (Nat.le_refl _) v1, fun k o hk hne _ => ?_⟩, a1.set 0 (by simp) v1, ownsRow_setCell_below ho1 (Nat.lt_succ_self W) _⟩
  rw [Below.heap_setCell w1 ⟨W, 0, none⟩ v1 k (fun e => hne (by rw [e]))]
  exact hk
theorem Wr.put {w w1 : World} {W : Nat} {v v1 : Value} {n n1 : Nat} {xs xs1 : List Value} (hA : At w W [v]) (ho : w.ownsRow (W + 1) 5 1 v n xs) (hg : w.grownBy w1 v.ownBlock) (ho1 : w1.ownsRow (W + 1) 5 1 v1 n1 xs1) :
    At w1 W [v] ∧ Wf W w (w1.setCell ⟨W, 0, none⟩ v1) ∧ At (w1.setCell ⟨W, 0, none⟩ v1) W [v1] ∧ (w1.setCell ⟨W, 0, none⟩ v1).ownsRow (W + 1) 5 1 v1 n1 xs1 := by
  have hl : W < w.heap.size := At.lt hA
  have hn : ∀ k, k ≤ W → some k ≠ v.ownBlock := fun k hk e => by
    have := (own_base ho e.symm).1
    omega
  refine Wr.set hA (hg.block W hl (hn W (Nat.le_refl _))) ⟨⟨hg.os, hg.tape, hg.output, hg.size, fun k hk => hg.block k (by omega) (hn k (by omega))⟩, fun k o hk _ hno => ?_⟩ ho1
  have hkl : k < w.heap.size := by
    rcases Nat.lt_or_ge k w.heap.size with h | h
    · exact h
    · rw [Array.getElem?_eq_none h] at hk; cases hk
  rw [hg.block k hkl (fun e => by
    obtain ⟨cur, hc⟩ := own_row ho e.symm
    rw [hc] at hk
    injection hk with hk
    exact hno _ _ hk.symm)]
  exact hk
theorem Wr.put2 {w w1 : World} {W : Nat} {v v1 : Value} {n1 : Nat} {xs1 : List Value} (hA : At w W [v]) (hb : Below (W + 1) w w1) (hk : Lib.OthersKept 5 none w w1) (ho1 : w1.ownsRow (W + 1) 5 1 v1 n1 xs1) :
    At w1 W [v] ∧ Wf W w (w1.setCell ⟨W, 0, none⟩ v1) ∧ At (w1.setCell ⟨W, 0, none⟩ v1) W [v1] ∧ (w1.setCell ⟨W, 0, none⟩ v1).ownsRow (W + 1) 5 1 v1 n1 xs1 :=
  Wr.set hA (hb.block W (Nat.lt_succ_self W)) ⟨hb.mono (Nat.le_succ W), fun k o h1 _ h3 => hk k o h1 (fun e => by cases e) h3⟩ ho1
def Nm (w : World) (W : Nat) (nv : Value) (ns : List Int) : Prop :=
  ∃ p cap, nv = .slice p ns.length cap ∧ ns.length ≤ cap ∧ ∀ k (hk : k < ns.length), ∃ b o c d, p = some ⟨b, o, none⟩ ∧ w.cell? ⟨b, o + k, none⟩ = some (.pointer (some ⟨c, d, none⟩)) ∧ w.cell? ⟨c, d, none⟩ = some (.int .i64 ns[k]) ∧ Sf w W b ∧ Sf w W c
theorem Nm.keep {w w' : World} {W : Nat} {nv : Value} {ns : List Int} (h : Nm w W nv ns) (hf : Wf W w w') : Nm w' W nv ns := by
  obtain ⟨p, cap, h1, h2, h3⟩ := h
  refine ⟨p, cap, h1, h2, fun k hk => ?_⟩
  obtain ⟨b, o, c, d, e1, e2, e3, e4, e5⟩ := h3 k hk
  exact ⟨b, o, c, d, e1, (World.cell?_of_block (w := w) (a := ⟨b, o + k, none⟩) (e4.same hf)).trans e2, (World.cell?_of_block (w := w) (a := ⟨c, d, none⟩) (e5.same hf)).trans e3, e4.keep hf, e5.keep hf⟩
theorem tab_on {W : Nat} {w w1 : World} (h : Lib.TabBelow Tryz.prog W w "internal/strconv.uint64pow10" .u64 Lib.pow10Tab) (hf : Wf W w w1) : Lib.TabBelow Tryz.prog (W + 1) w1 "internal/strconv.uint64pow10" .u64 Lib.pow10Tab := fun w' hb => h w' (hf.1.trans (hb.mono (Nat.le_succ W)))
end Go.Proofs.YtanndhoimpnhpaaGreatDoor
namespace Go.Proofs.YtanndhoimpnhpaaGreatDoor
open Go.RowKit
end Go.Proofs.YtanndhoimpnhpaaGreatDoor
namespace Go.Proofs.YtanndhoimpnhpaaGreatDoor
open Go.RowKit
section
variable {w w' : World} {TS : TypeId} {sz : Nat} {ok : Nat → List Value → Prop} {mk : Nat → List Value} {lv wv rv : Value} {Ls Ws Rs : List Value} {i : Nat} {τ τ' : Nat → Nat} {s : Nat}
end
section
variable {w w' : World} {TS : TypeId} {sz W : Nat} {ok : Nat → List Value → Prop} {mk : Nat → List Value} {lv wv rv wv' rv' v r : Value} {Ls Ws Rs : List Value} {n : Nat} {xs : List Value} {τ : Nat → Nat} {s : Nat}
end
end Go.Proofs.YtanndhoimpnhpaaGreatDoor
namespace Go.Proofs.YtanndhoimpnhpaaGreatDoor
open Go.RowKit
section
variable {w w' : World} {TS : TypeId} {sz W : Nat} {ok : Nat → List Value → Prop} {mk : Nat → List Value} {lv wv rv lv' l x y z : Value} {Ls Ws Rs c : List Value} {i : Nat} {τ : Nat → Nat} {s : Nat}
end
end Go.Proofs.YtanndhoimpnhpaaGreatDoor
namespace Go.Proofs.YtanndhoimpnhpaaGreatDoor
open Go.RowKit
end Go.Proofs.YtanndhoimpnhpaaGreatDoor
namespace Go.Proofs.YtanndhoimpnhpaaGreatDoor
open Go.RowKit
end Go.Proofs.YtanndhoimpnhpaaGreatDoor
namespace Go.Proofs.YtanndhoimpnhpaaGreatDoor
open Go.ChangeShapes Go.WideShapes Go.ChangeAt Go.RowKit Cal
end Go.Proofs.YtanndhoimpnhpaaGreatDoor
namespace Go.Proofs.YtanndhoimpnhpaaGreatDoor
open Go.ChangeShapes Go.WideShapes Go.ChangeAt Go.RowKit Cal
end Go.Proofs.YtanndhoimpnhpaaGreatDoor
namespace Go.Proofs.YtanndhoimpnhpaaGreatDoor
open Go.ChangeShapes Go.WideShapes Go.ChangeAt Go.RowKit Cal
theorem wp_skipD {Pr : Program} {o : Oper} {a : Act} {w : World} {K : Act → World → Prop} {Q : Exit → Act → World → Prop} (w' : World) (hrun : (execOp a.eval o).run Pr w = .ok .skip w') (h : K (a.put o.dst undef) w') : Oper.wp Pr o a w K Q := by
  unfold Oper.wp
  rw [hrun]
  exact h
end Go.Proofs.YtanndhoimpnhpaaGreatDoor
