/- Joined by program: LwH, LwI, LwJ, LwK, Opl. -/
import Derived.Test.YtanndhoimpnhpaaGreatDoorM28
import Derived.Deep.Slices
import Derived.ChangeSame
/- A script played, of the kinds up to Balance. -/
namespace Go.Proofs.YtanndhoimpnhpaaGreatDoor
open Go.ChangeShapes Go.WideShapes Go.ChangeAt Go.RowKit Go.WideMaps Go.Maps Lg Cal

/-- A step of a script. -/
structure Sp where
  kind : Int
  on : Int
  e : Ln.Ev
  m : Int
  sv : Value
def spl (s : Sp) : List Value := opl s.kind s.on s.e s.m s.sv
/-- A script in memory. -/
def SpV (w : World) (v : Value) (l : List Sp) : Prop :=
  ∃ p cap, v = .slice p l.length cap ∧ l.length ≤ cap ∧ ∀ k (hk : k < l.length), ∃ b o, p = some ⟨b, o, none⟩ ∧ b < w.heap.size ∧ w.rangeAt b (o + k * 8) (spl l[k])
/-- What opened has left: a pair. -/
theorem op_pair {w w' : World} {t : Ln.Terms} {x : Ending} (h : OpPost w t x w') : Below w.heap.size w w' ∧ ∃ a c : Option Addr, x = .returned (.tuple #[.agg #[.pointer a, .pointer c], .bool true]) ∧ Pair w' (.pointer a) (.pointer c) 0 (Wd (fun _ => False) w w') := by
  obtain ⟨hb, ⟨_, rfl⟩ | ⟨_, B, D, F1, F2, rfl, hT, h1, h2⟩⟩ := h
  · exact ⟨hb, none, none, rfl, .inl ⟨rfl, rfl⟩⟩
  · exact ⟨hb, some ⟨B, 0, none⟩, some ⟨D, 0, none⟩, rfl, .inr ⟨B, D, t, [], [], _, _, [], F1, F2, rfl, rfl, hT, fun b hb => .inr ⟨h1 b hb, hT.l1 b hb⟩, fun b hb => .inr ⟨h2 b hb, hT.l2 b hb⟩, by simp⟩⟩
theorem Pair.below {w w' : World} {p d : Value} {n : Nat} {G : Nat → Prop} (h : Pair w p d n G) (hb : Below w.heap.size w w') : Pair w' p d n G := h.keep (S := fun _ => False) (Keep.below hb) (fun _ _ x => x)

/-- The book was settled: nothing else has changed. -/
theorem WlS.home {w0 w w' : World} {W n : Nat} {pv dv : Nat → Value} {G : Nat → Nat → Prop} (h : WlS w0 w W n pv dv G) (hA : At w' W (wl (pv 0) (dv 0) (pv 1) (dv 1))) (hk : Keep (fun b => b = W) w w') : WlS w0 w' W n pv dv G :=
  ⟨hA, Keep.fresh h.bl hk (fun b hb => by have := h.wg; omega), fun k hk2 => (h.pr k hk2).keep hk (fun b hb x => h.nw k hk2 (by rw [← x]; exact hb)), h.ap, h.nw, h.ge, fun k b hk2 hg => Nat.lt_of_lt_of_le (h.lt k b hk2 hg) hk.size, h.wg⟩
/-- What the loop over the script keeps. -/
def PlR (w : World) (W N : Nat) (pv dv : Nat → Value) (s14 : Value) (wr : World) : Prop := ∃ (k n : Nat) (G : Nat → Nat → Prop), k ≤ N ∧ n ≤ k ∧ s14 = .int .i64 k ∧ WlS w wr W n pv dv G
/-- What the loop over the two pairs keeps. -/
def PlR2 (w : World) (W : Nat) (pv dv : Nat → Value) (s18 : Value) (wr : World) : Prop := ∃ (k n : Nat) (G : Nat → Nat → Prop), k ≤ 2 ∧ s18 = .int .i64 k ∧ WlS w wr W n pv dv G

set_option maxRecDepth 10000 in
set_option maxHeartbeats 8000000 in
theorem played4 (w : World) (ta tb : Ln.Terms) (v : Value) (sc : List Sp) (hv : SpV w v sc) (hsl : sc.length ≤ 40000000) (hmv : Mv w) (hlim : Lim w) :
    Calls Tryz.prog 9 #[tmV ta, tmV tb, v, .int .i64 4] w fun e w' => e = .returned (.bool true) ∧ Below w.heap.size w w' := by
  have HMv : Hid (Mv w) := hmv
  have HLim : Hid (Lim w) := hlim
  obtain ⟨sp, scap, rfl, hcap, hsr⟩ := hv
  have HSR : Hid (∀ k (hk : k < sc.length), ∃ b o, sp = some ⟨b, o, none⟩ ∧ b < w.heap.size ∧ w.rangeAt b (o + k * 8) (spl sc[k])) := hsr
  have s1 : (w.alloc (.cells (tml ta).toArray 23)).heap.size = w.heap.size + 1 := Array.size_push _
  have s2 : ((w.alloc (.cells (tml ta).toArray 23)).alloc (.cells (tml tb).toArray 23)).heap.size = w.heap.size + 2 := (Array.size_push _).trans (by rw [s1])
  have b1 : Below w.heap.size w (w.alloc (.cells (tml ta).toArray 23)) := (Below.refl _ _).alloc (Nat.le_refl _) _
  have b2 : Below w.heap.size w ((w.alloc (.cells (tml ta).toArray 23)).alloc (.cells (tml tb).toArray 23)) := b1.alloc b1.size _
  have b3 : Below w.heap.size w (((w.alloc (.cells (tml ta).toArray 23)).alloc (.cells (tml tb).toArray 23)).alloc (.cells (wl (.pointer none) (.pointer none) (.pointer none) (.pointer none)).toArray 68)) := b2.alloc b2.size _
  have k12 : Below (w.alloc (.cells (tml ta).toArray 23)).heap.size (w.alloc (.cells (tml ta).toArray 23)) ((w.alloc (.cells (tml ta).toArray 23)).alloc (.cells (tml tb).toArray 23)) := (Below.refl _ _).alloc (Nat.le_refl _) _
  have k23 : Below ((w.alloc (.cells (tml ta).toArray 23)).alloc (.cells (tml tb).toArray 23)).heap.size ((w.alloc (.cells (tml ta).toArray 23)).alloc (.cells (tml tb).toArray 23)) (((w.alloc (.cells (tml ta).toArray 23)).alloc (.cells (tml tb).toArray 23)).alloc (.cells (wl (.pointer none) (.pointer none) (.pointer none) (.pointer none)).toArray 68)) := (Below.refl _ _).alloc (Nat.le_refl _) _
  have HA : Hid (At (((w.alloc (.cells (tml ta).toArray 23)).alloc (.cells (tml tb).toArray 23)).alloc (.cells (wl (.pointer none) (.pointer none) (.pointer none) (.pointer none)).toArray 68)) w.heap.size (tml ta)) := At.keep (S := fun _ => False) (v := .int .i64 ta.st) (At.keep (S := fun _ => False) (v := .int .i64 ta.st) (At.alloc w (tml ta) _) (Keep.below k12) (fun x => x)) (Keep.below k23) (fun x => x)
  have HB : Hid (At (((w.alloc (.cells (tml ta).toArray 23)).alloc (.cells (tml tb).toArray 23)).alloc (.cells (wl (.pointer none) (.pointer none) (.pointer none) (.pointer none)).toArray 68)) (w.heap.size + 1) (tml tb)) := by
    have h := At.alloc (w.alloc (.cells (tml ta).toArray 23)) (tml tb) 23
    rw [s1] at h
    exact At.keep (S := fun _ => False) (v := .int .i64 tb.st) h (Keep.below k23) (fun x => x)
  have HW : Hid (At (((w.alloc (.cells (tml ta).toArray 23)).alloc (.cells (tml tb).toArray 23)).alloc (.cells (wl (.pointer none) (.pointer none) (.pointer none) (.pointer none)).toArray 68)) (w.heap.size + 2) (wl (.pointer none) (.pointer none) (.pointer none) (.pointer none))) := by
    have h := At.alloc ((w.alloc (.cells (tml ta).toArray 23)).alloc (.cells (tml tb).toArray 23)) (wl (.pointer none) (.pointer none) (.pointer none) (.pointer none)) 68
    rw [s2] at h
    exact h
  have HBl : Hid (Below w.heap.size w (((w.alloc (.cells (tml ta).toArray 23)).alloc (.cells (tml tb).toArray 23)).alloc (.cells (wl (.pointer none) (.pointer none) (.pointer none) (.pointer none)).toArray 68)) ∧ (((w.alloc (.cells (tml ta).toArray 23)).alloc (.cells (tml tb).toArray 23)).alloc (.cells (wl (.pointer none) (.pointer none) (.pointer none) (.pointer none)).toArray 68)).heap.size = w.heap.size + 3) := ⟨b3, (Array.size_push _).trans (by rw [s2])⟩
  clear hsr s1 s2 b1 b2 b3 k12 k23 hmv hlim
  unfold tmV
  go_enter Tryz.func9, Tryz.ntmps9
  go_upto_region 2 with fail
  have z1 : (w.alloc (.cells (tml ta).toArray 23)).heap.size = w.heap.size + 1 := Array.size_push _
  change Code.wp _ _ _ _ (((w.alloc (.cells (tml ta).toArray 23)).alloc (.cells (tml tb).toArray 23)).alloc (.cells (wl (.pointer none) (.pointer none) (.pointer none) (.pointer none)).toArray 68))
  generalize (((w.alloc (.cells (tml ta).toArray 23)).alloc (.cells (tml tb).toArray 23)).alloc (.cells (wl (.pointer none) (.pointer none) (.pointer none) (.pointer none)).toArray 68)) = V0 at *
  refine wp_region_lit ?_
  refine wpList_load_mid rfl 23 (.tmp 4) rfl _ 0 rfl (tml ta) _ HA.out.range Tryz.underlying23 rfl (by kernel_rfl) ?_
  simp only [Act.put, List.setIfInBounds_toArray, List.set_cons_zero, List.set_cons_succ]
  have hO := opened_any ta V0
  unfold tmV at hO
  go_wp2_with fail
  refine hO.mono ?_
  rintro x w1 hx
  obtain ⟨hb1, a0, c0, rfl, hP0⟩ := op_pair hx
  clear hx hO
  have kb1 : Below w1.heap.size w1 (w1.alloc (.cells #[.pointer a0, .pointer c0] 31)) := (Below.refl _ _).alloc (Nat.le_refl _) _
  have k1 : Below V0.heap.size V0 (w1.alloc (.cells #[.pointer a0, .pointer c0] 31)) := hb1.alloc hb1.size _
  have HP0 : Hid (Pair (w1.alloc (.cells #[.pointer a0, .pointer c0] 31)) (.pointer a0) (.pointer c0) 0 (Wd (fun _ => False) V0 w1) ∧ At (w1.alloc (.cells #[.pointer a0, .pointer c0] 31)) w1.heap.size [.pointer a0, .pointer c0] ∧ V0.heap.size ≤ w1.heap.size ∧ (w1.alloc (.cells #[.pointer a0, .pointer c0] 31)).heap.size = w1.heap.size + 1) := ⟨hP0.below kb1, At.alloc w1 [.pointer a0, .pointer c0] _, hb1.size, Array.size_push _⟩
  have HB1 : Hid (At (w1.alloc (.cells #[.pointer a0, .pointer c0] 31)) (w.heap.size + 1) (tml tb)) := At.keep (S := fun _ => False) (v := .int .i64 tb.st) HB.out (Keep.below k1) (fun x => x)
  have HW1 : Hid (At (w1.alloc (.cells #[.pointer a0, .pointer c0] 31)) (w.heap.size + 2) (wl (.pointer none) (.pointer none) (.pointer none) (.pointer none))) := At.keep (S := fun _ => False) (v := .slice none 0 0) HW.out (Keep.below k1) (fun x => x)
  have HBl1 : Hid (Below w.heap.size w (w1.alloc (.cells #[.pointer a0, .pointer c0] 31)) ∧ V0.heap.size = w.heap.size + 3) := ⟨HBl.out.1.trans (k1.mono HBl.out.1.size), HBl.out.2⟩
  have HN1 : Hid (∀ b, Wd (fun _ => False) V0 w1 b → V0.heap.size ≤ b ∧ b < w1.heap.size) := fun b hb => hb.elim (fun x => x.elim) (fun x => x)
  clear hP0 kb1 k1 hb1 HA HB HW HBl
  go_upto_region 3 with (first | (refine wpList_store_new rfl 31 (.tmp 10) (.tmp 29) rfl #[.pointer a0, .pointer c0] _ rfl rfl (by kernel_rfl) rfl (by kernel_rfl) ?_) | fail)
  generalize w1.alloc (.cells #[.pointer a0, .pointer c0] 31) = V1 at *
  generalize w1.heap.size = N10 at *
  refine wp_region_lit ?_
  refine wpList_load_mid rfl 23 (.tmp 5) rfl _ 0 rfl (tml tb) _ HB1.out.range Tryz.underlying23 rfl (by kernel_rfl) ?_
  simp only [Act.put, List.setIfInBounds_toArray, List.set_cons_zero, List.set_cons_succ]
  have hO := opened_any tb V1
  unfold tmV at hO
  go_wp2_with fail
  refine hO.mono ?_
  rintro x w2 hx
  obtain ⟨hb2, a1, c1, rfl, hP1⟩ := op_pair hx
  clear hx hO
  have kb2 : Below w2.heap.size w2 (w2.alloc (.cells #[.pointer a1, .pointer c1] 31)) := (Below.refl _ _).alloc (Nat.le_refl _) _
  have k2 : Below V1.heap.size V1 (w2.alloc (.cells #[.pointer a1, .pointer c1] 31)) := hb2.alloc hb2.size _
  have HP1 : Hid (Pair (w2.alloc (.cells #[.pointer a1, .pointer c1] 31)) (.pointer a1) (.pointer c1) 0 (Wd (fun _ => False) V1 w2) ∧ At (w2.alloc (.cells #[.pointer a1, .pointer c1] 31)) w2.heap.size [.pointer a1, .pointer c1] ∧ V1.heap.size ≤ w2.heap.size ∧ (w2.alloc (.cells #[.pointer a1, .pointer c1] 31)).heap.size = w2.heap.size + 1) := ⟨hP1.below kb2, At.alloc w2 [.pointer a1, .pointer c1] _, hb2.size, Array.size_push _⟩
  have HP02 : Hid (Pair (w2.alloc (.cells #[.pointer a1, .pointer c1] 31)) (.pointer a0) (.pointer c0) 0 (Wd (fun _ => False) V0 w1) ∧ At (w2.alloc (.cells #[.pointer a1, .pointer c1] 31)) N10 [.pointer a0, .pointer c0] ∧ V0.heap.size ≤ N10 ∧ V1.heap.size = N10 + 1) := ⟨HP0.out.1.below k2, At.keep (S := fun _ => False) (v := .pointer a0) HP0.out.2.1 (Keep.below k2) (fun x => x), HP0.out.2.2.1, HP0.out.2.2.2⟩
  have HW2 : Hid (At (w2.alloc (.cells #[.pointer a1, .pointer c1] 31)) (w.heap.size + 2) (wl (.pointer none) (.pointer none) (.pointer none) (.pointer none))) := At.keep (S := fun _ => False) (v := .slice none 0 0) HW1.out (Keep.below k2) (fun x => x)
  have HBl2 : Hid (Below w.heap.size w (w2.alloc (.cells #[.pointer a1, .pointer c1] 31)) ∧ V0.heap.size = w.heap.size + 3) := ⟨HBl1.out.1.trans (k2.mono HBl1.out.1.size), HBl1.out.2⟩
  have HN2 : Hid (∀ b, Wd (fun _ => False) V1 w2 b → V1.heap.size ≤ b ∧ b < w2.heap.size) := fun b hb => hb.elim (fun x => x.elim) (fun x => x)
  generalize hGa : Wd (fun _ => False) V0 w1 = Ga at *
  generalize hGb : Wd (fun _ => False) V1 w2 = Gb at *
  clear hP1 kb2 k2 hb2 HB1 HW1 HBl1 HP0 hGa hGb
  go_upto_region 6 with (first | (refine wpList_store_new rfl 31 (.tmp 12) (.tmp 34) rfl #[.pointer a1, .pointer c1] _ rfl rfl (by kernel_rfl) rfl (by kernel_rfl) ?_) | fail)
  generalize w2.alloc (.cells #[.pointer a1, .pointer c1] 31) = V2 at *
  generalize w2.heap.size = N12 at *
  refine wp_region_held_drew (S := fun wx => At wx N10 [.pointer a0, .pointer c0]) (by kernel_rfl) HP02.out.2.1.drew (fun hHeld => ?_)
  refine wpAnyH_take (i := 0) (v := (.pointer (some ⟨w.heap.size + 2, 0, none⟩))) rfl (by kernel_rfl) (by kernel_rfl) (by kernel_rfl) (fun _ _ _ h => h) (Or.inl ⟨by rfl, fun wx hSw => by kernel_rfl⟩) (by assumption) ?_
  simp only [Act.put, List.getElem_toArray, List.getElem_cons_zero, List.setIfInBounds_toArray, List.set_cons_zero, List.set_cons_succ]
  refine wpAnyH_take (i := 1) (v := (.agg #[.pointer a0, .pointer c0])) rfl (by kernel_rfl) (by kernel_rfl) (by kernel_rfl) (fun _ _ _ h => h) (yieldsIf_load_mid (by rfl) 31 (.tmp 10) rfl _ _ rfl _ _ (fun _ h => h.range) Tryz.underlying31 rfl (by kernel_rfl)) (by assumption) ?_
  simp only [Act.put, List.getElem_toArray, List.getElem_cons_succ, List.getElem_cons_zero, List.setIfInBounds_toArray, List.set_cons_zero, List.set_cons_succ]
  refine wpAnyH_take (i := 2) (v := (.pointer (some ⟨w.heap.size + 2, 0, none⟩))) rfl (by kernel_rfl) (by kernel_rfl) (by kernel_rfl) (fun _ _ _ h => h) (Or.inl ⟨by rfl, fun wx hSw => by kernel_rfl⟩) (by assumption) ?_
  simp only [Act.put, List.getElem_toArray, List.getElem_cons_succ, List.getElem_cons_zero, List.setIfInBounds_toArray, List.set_cons_zero, List.set_cons_succ]
  refine wpAnyH_take (i := 3) (v := (.pointer (some ⟨w.heap.size + 2, 6, none⟩))) rfl (by kernel_rfl) (by kernel_rfl) (by kernel_rfl) (fun _ _ _ h => h) (Or.inl ⟨by rfl, fun wx hSw => by kernel_rfl⟩) (by assumption) ?_
  simp only [Act.put, List.getElem_toArray, List.getElem_cons_succ, List.getElem_cons_zero, List.setIfInBounds_toArray, List.set_cons_zero, List.set_cons_succ]
  refine wpAnyH_take (i := 4) (v := (.pointer (some ⟨w.heap.size + 2, 6, none⟩))) rfl (by kernel_rfl) (by kernel_rfl) (by kernel_rfl) (fun _ _ _ h => h) (Or.inl ⟨by rfl, fun wx hSw => by kernel_rfl⟩) (by assumption) ?_
  simp only [Act.put, List.getElem_toArray, List.getElem_cons_succ, List.getElem_cons_zero, List.setIfInBounds_toArray, List.set_cons_zero, List.set_cons_succ]
  refine wpAnyH_ready (rs := [5]) (by kernel_rfl) (by simp) ?_
  refine AllReadyH.cons rfl (fun K hK => ?_) AllReadyH.nil
  rw [if_pos (by rfl)]
  have hw2 := HW2.out.drew
  have hs6 := hw2.there_mid 6 2 (show 6 + 2 ≤ 10 by decide)
  have hn10 : V0.heap.size = w.heap.size + 3 ∧ V0.heap.size ≤ N10 ∧ V1.heap.size = N10 + 1 := ⟨HBl2.out.2, HP02.out.2.2.1, HP02.out.2.2.2⟩
  have kS1 : Keep (fun b => b = w.heap.size + 2) V2 (V2.drew.setCells (w.heap.size + 2) 6 [.pointer a0, .pointer c0]) := Keep.setCells (S := fun b => b = w.heap.size + 2) rfl _ _ _ (Keep.refl _ _).drew
  refine wp_store_mid 31 (.tmp 46) (.tmp 43) rfl _ 6 #[.pointer a0, .pointer c0] rfl rfl hs6 (by kernel_rfl) (by kernel_rfl) ?_
  refine hK.out _ _ (At.keep (v := .pointer a0) HP02.out.2.1 kS1 (by omega)) (fun _ => ?_)
  clear hK K hHeld
  refine wpAnyH_done (by kernel_rfl) ?_ _
  have hA3 : At (V2.drew.setCells (w.heap.size + 2) 6 [.pointer a0, .pointer c0]) (w.heap.size + 2) (wl (.pointer a0) (.pointer c0) (.pointer none) (.pointer none)) := At.setCells [.pointer a0, .pointer c0] 6 _ _ hw2 (show 6 + 2 ≤ 10 by decide)
  have HS3 : Hid (At (V2.drew.setCells (w.heap.size + 2) 6 [.pointer a0, .pointer c0]) (w.heap.size + 2) (wl (.pointer a0) (.pointer c0) (.pointer none) (.pointer none)) ∧ Keep (fun b => b = w.heap.size + 2) V2 (V2.drew.setCells (w.heap.size + 2) 6 [.pointer a0, .pointer c0])) := ⟨hA3, kS1⟩
  clear hA3 kS1 hw2 hs6
  change Exit.then _ _ _ _ (V2.drew.setCells (w.heap.size + 2) 6 [.pointer a0, .pointer c0])
  generalize V2.drew.setCells (w.heap.size + 2) 6 [.pointer a0, .pointer c0] = V3 at *
  go_upto_region 7 with fail
  have hN12 : V1.heap.size ≤ N12 ∧ V2.heap.size = N12 + 1 := ⟨HP1.out.2.2.1, HP1.out.2.2.2⟩
  have hq3 : At V3 N12 [.pointer a1, .pointer c1] := At.keep (v := .pointer a1) HP1.out.2.1 HS3.out.2 (by omega)
  refine wp_region_held_drew (S := fun wx => At wx N12 [.pointer a1, .pointer c1]) (by kernel_rfl) hq3.drew (fun hHeld => ?_)
  refine wpAnyH_take (i := 0) (v := (.pointer (some ⟨w.heap.size + 2, 0, none⟩))) rfl (by kernel_rfl) (by kernel_rfl) (by kernel_rfl) (fun _ _ _ h => h) (Or.inl ⟨by rfl, fun wx hSw => by kernel_rfl⟩) (by assumption) ?_
  simp only [Act.put, List.getElem_toArray, List.getElem_cons_zero, List.setIfInBounds_toArray]
  refine wpAnyH_take (i := 1) (v := (.agg #[.pointer a1, .pointer c1])) rfl (by kernel_rfl) (by kernel_rfl) (by kernel_rfl) (fun _ _ _ h => h) (yieldsIf_load_mid (by rfl) 31 (.tmp 12) rfl _ _ rfl _ _ (fun _ h => h.range) Tryz.underlying31 rfl (by kernel_rfl)) (by assumption) ?_
  simp only [Act.put, List.getElem_toArray, List.getElem_cons_succ, List.getElem_cons_zero, List.setIfInBounds_toArray, List.set_cons_zero, List.set_cons_succ]
  refine wpAnyH_take (i := 2) (v := (.pointer (some ⟨w.heap.size + 2, 0, none⟩))) rfl (by kernel_rfl) (by kernel_rfl) (by kernel_rfl) (fun _ _ _ h => h) (Or.inl ⟨by rfl, fun wx hSw => by kernel_rfl⟩) (by assumption) ?_
  simp only [Act.put, List.getElem_toArray, List.getElem_cons_succ, List.getElem_cons_zero, List.setIfInBounds_toArray, List.set_cons_zero, List.set_cons_succ]
  refine wpAnyH_take (i := 3) (v := (.pointer (some ⟨w.heap.size + 2, 6, none⟩))) rfl (by kernel_rfl) (by kernel_rfl) (by kernel_rfl) (fun _ _ _ h => h) (Or.inl ⟨by rfl, fun wx hSw => by kernel_rfl⟩) (by assumption) ?_
  simp only [Act.put, List.getElem_toArray, List.getElem_cons_succ, List.getElem_cons_zero, List.setIfInBounds_toArray, List.set_cons_zero, List.set_cons_succ]
  refine wpAnyH_take (i := 4) (v := (.pointer (some ⟨w.heap.size + 2, 8, none⟩))) rfl (by kernel_rfl) (by kernel_rfl) (by kernel_rfl) (fun _ _ _ h => h) (Or.inl ⟨by rfl, fun wx hSw => by kernel_rfl⟩) (by assumption) ?_
  simp only [Act.put, List.getElem_toArray, List.getElem_cons_succ, List.getElem_cons_zero, List.setIfInBounds_toArray, List.set_cons_zero, List.set_cons_succ]
  refine wpAnyH_ready (rs := [5]) (by kernel_rfl) (by simp) ?_
  refine AllReadyH.cons rfl (fun K hK => ?_) AllReadyH.nil
  rw [if_pos (by rfl)]
  have hw3 := HS3.out.1.drew
  have hs8 := hw3.there_mid 8 2 (show 8 + 2 ≤ 10 by decide)
  have kS2 : Keep (fun b => b = w.heap.size + 2) V3 (V3.drew.setCells (w.heap.size + 2) 8 [.pointer a1, .pointer c1]) := Keep.setCells (S := fun b => b = w.heap.size + 2) rfl _ _ _ (Keep.refl _ _).drew
  refine wp_store_mid 31 (.tmp 51) (.tmp 48) rfl _ 8 #[.pointer a1, .pointer c1] rfl rfl hs8 (by kernel_rfl) (by kernel_rfl) ?_
  refine hK.out _ _ (At.keep (v := .pointer a1) hq3 kS2 (by omega)) (fun _ => ?_)
  clear hK K hHeld
  refine wpAnyH_done (by kernel_rfl) ?_ _
  have hA4 : At (V3.drew.setCells (w.heap.size + 2) 8 [.pointer a1, .pointer c1]) (w.heap.size + 2) (wl (.pointer a0) (.pointer c0) (.pointer a1) (.pointer c1)) := At.setCells [.pointer a1, .pointer c1] 8 _ _ hw3 (show 8 + 2 ≤ 10 by decide)
  have HS4 : Hid (WlS w (V3.drew.setCells (w.heap.size + 2) 8 [.pointer a1, .pointer c1]) (w.heap.size + 2) 0 (fun k => if k = 0 then .pointer a0 else .pointer a1) (fun k => if k = 0 then .pointer c0 else .pointer c1) (fun k => if k = 0 then Ga else Gb)) := by
    have kk : Keep (fun b => b = w.heap.size + 2) V2 (V3.drew.setCells (w.heap.size + 2) 8 [.pointer a1, .pointer c1]) := HS3.out.2.trans kS2
    have hz := HBl2.out.1.size
    have hzk := kk.size
    refine ⟨hA4, Keep.fresh HBl2.out.1 kk (fun b hb => by omega), fun k hk => ?_, fun b hb hb2 => ?_, fun k hk => ?_, fun k b hk => ?_, fun k b hk => ?_, by omega⟩
    · rcases (show k = 0 ∨ k = 1 by omega) with rfl | rfl
      · exact HP02.out.1.keep kk (fun b hb => by have := HN1.out b hb; omega)
      · exact HP1.out.1.keep kk (fun b hb => by have := HN2.out b hb; omega)
    · have h1 := HN1.out b hb
      have h2 := HN2.out b hb2
      omega
    · rcases (show k = 0 ∨ k = 1 by omega) with rfl | rfl
      · exact fun x => by have := HN1.out _ x; omega
      · exact fun x => by have := HN2.out _ x; omega
    · rcases (show k = 0 ∨ k = 1 by omega) with rfl | rfl
      · exact fun x => by have := HN1.out _ x; omega
      · exact fun x => by have := HN2.out _ x; omega
    · rcases (show k = 0 ∨ k = 1 by omega) with rfl | rfl
      · exact fun x => by have := HN1.out _ x; omega
      · exact fun x => by have := HN2.out _ x; omega
  clear hA4 kS2 hw3 hs8 hq3 HS3 HP1 HP02 HW2 HBl2 HN1 HN2 hN12 hn10
  change Exit.then _ _ _ _ (V3.drew.setCells (w.heap.size + 2) 8 [.pointer a1, .pointer c1])
  generalize V3.drew.setCells (w.heap.size + 2) 8 [.pointer a1, .pointer c1] = V4 at *
  generalize hpv : (fun k : Nat => if k = 0 then Value.pointer a0 else Value.pointer a1) = pv at *
  generalize hdv : (fun k : Nat => if k = 0 then Value.pointer c0 else Value.pointer c1) = dv at *
  clear hpv hdv
  obtain ⟨W, hW⟩ : ∃ W, W = w.heap.size + 2 := ⟨_, rfl⟩
  rw [← hW] at HS4
  have HWe : Hid (W = w.heap.size + 2) := hW
  rw [show w.heap.size + 1 + 1 = W from hW.symm]
  clear hW
  go_wp2
  go_loopw [14, 15, 16, 17] (fun s14 _ _ _ wr => PlR w W sc.length pv dv s14 wr) (fun s14 _ _ _ _ => (sc.length - intOf s14).toNat)
  case atStart => exact ⟨0, 0, _, Nat.zero_le _, Nat.le_refl _, rfl, HS4.out⟩
  case round =>
    obtain ⟨k, n, G, hk, hnk, rfl, hS⟩ := hrel
    have HS : Hid (WlS w wr W n pv dv G) := hS
    clear hS HS4
    by_cases hlt : k < sc.length
    · obtain ⟨b, o, rfl, hbl, hx⟩ := HSR.out k hlt
      have hrw : wr.rangeAt b (o + k * 8) (spl sc[k]) := fun j u hu => (World.cell?_of_block (w := w) (a := ⟨b, o + k * 8 + j, none⟩) (HS.out.bl.block b hbl)).trans (hx j u hu)
      clear hx
      generalize sc[k] = sp at *
      obtain ⟨kind, on, e, m, sv⟩ := sp
      have q0 : wr.cell? ⟨b, o + k * 8, none⟩ = some (.int .i64 kind) := hrw 0 _ rfl
      have zk : (k : Int) < (sc.length : Int) := by omega
      by_cases hk4 : 4 < kind
      · have HE : Hid (PlR w W sc.length pv dv (.int .i64 ((k + 1 : Nat) : Int)) wr) := ⟨k + 1, n, G, hlt, by omega, rfl, HS.out⟩
        clear hrw
        go_wp2
        exact ⟨HE.out, by simp [intOf]; omega⟩
      · have hSt : Calls Tryz.prog 25 #[.pointer (some ⟨W, 0, none⟩), .agg (opl kind on e m sv).toArray] wr (StepPost w W n pv dv) := step_any w wr W n pv dv G HS.out HMv.out HLim.out (by omega) kind on e m sv (by omega)
        have hrw2 : wr.rangeAt b (o + k * 8) (opl kind on e m sv) := hrw
        go_upto_region 12 with fail
        refine wp_region_lit ?_
        refine wpList_val (.pointer (some ⟨W, 0, none⟩)) wr rfl rfl ?_
        simp only [Act.put, List.setIfInBounds_toArray, List.set_cons_zero, List.set_cons_succ]
        refine wpList_val (.slice (some ⟨b, o, none⟩) sc.length scap) wr rfl rfl ?_
        simp only [Act.put, List.setIfInBounds_toArray, List.set_cons_zero, List.set_cons_succ]
        refine wpList_val (.int .i64 k) wr rfl rfl ?_
        simp only [Act.put, List.setIfInBounds_toArray, List.set_cons_zero, List.set_cons_succ]
        refine wpList_val (.pointer (some ⟨b, o + k * 8, none⟩)) wr rfl (by go_simp) ?_
        simp only [Act.put, List.setIfInBounds_toArray, List.set_cons_zero, List.set_cons_succ]
        refine wpList_load_mid rfl 60 (.tmp 68) rfl b (o + k * 8) rfl (opl kind on e m sv) _ hrw2 Tryz.underlying60 rfl (by kernel_rfl) ?_
        simp only [Act.put, List.setIfInBounds_toArray, List.set_cons_zero, List.set_cons_succ]
        clear q0 hrw hrw2
        go_wp2_with fail
        refine hSt.mono ?_
        rintro x w2 ⟨rfl, G2, hS2⟩
        clear hSt HS
        have HS2 : Hid (WlS w w2 W (n + 1) pv dv G2) := hS2
        clear hS2
        have HE : Hid (∀ wy, WlS w wy W (n + 1) pv dv G2 → PlR w W sc.length pv dv (.int .i64 ((k + 1 : Nat) : Int)) wy) := fun wy hy => ⟨k + 1, n + 1, G2, hlt, by omega, rfl, hy⟩
        by_cases h3 : k % 3 = 2
        · have z3 : ((k : Int) % 3 == 2) = true := by simp; omega
          have hSe := settle0 w2 W _ _ _ _ HS2.out.wa
          go_wp2_with fail
          refine hSe.mono ?_
          rintro x w3 ⟨rfl, hA3, hk3⟩
          clear hSe
          have HS3 : Hid (WlS w w3 W (n + 1) pv dv G2) := HS2.out.home hA3 hk3
          have hLo := looks0 w3 W _ _ _ _ hA3
          clear hA3 hk3 HS2
          go_wp2_with fail
          refine hLo.mono ?_
          rintro x w4 ⟨rfl, hw4⟩
          obtain rfl := hw4.symm
          clear hLo hw4
          have HE3 := HE.out w3 HS3.out
          clear HE HS3
          go_wp2
          exact ⟨HE3, by simp [intOf]; omega⟩
        · have z3 : ((k : Int) % 3 == 2) = false := by simp; omega
          have hLo := looks0 w2 W _ _ _ _ HS2.out.wa
          go_wp2_with fail
          refine hLo.mono ?_
          rintro x w4 ⟨rfl, hw4⟩
          obtain rfl := hw4.symm
          clear hLo hw4
          have HE3 := HE.out w2 HS2.out
          clear HE HS2
          go_wp2
          exact ⟨HE3, by simp [intOf]; omega⟩
    · obtain rfl : k = sc.length := by omega
      have zk : ¬ (sc.length : Int) < (sc.length : Int) := by omega
      go_wp2
      go_loopw [18, 19, 20, 21] (fun s18 _ _ _ wr => PlR2 w W pv dv s18 wr) (fun s18 _ _ _ _ => (2 - intOf s18).toNat)
      case atStart => exact ⟨0, n, G, Nat.zero_le _, rfl, HS.out⟩
      case round =>
        rename_i wr0 _ _ _ _ _ _ _ _
        obtain ⟨j, n2, G2, hj, rfl, hS2⟩ := hrel
        have HS2 : Hid (WlS w wr W n2 pv dv G2) := hS2
        clear hS2 HS
        by_cases hj2 : j < 2
        · have zj : (j : Int) < 2 := by omega
          have hrow : wr.rangeAt W (6 + j * 2) [pv j, dv j] := HS2.out.wa.mid (6 + j * 2) _ (wl_at _ _ _ _ pv dv ⟨rfl, rfl, rfl, rfl⟩ j hj2)
          have HE : Hid (∀ wy, WlS w wy W n2 pv dv G2 → PlR2 w W pv dv (.int .i64 ((j + 1 : Nat) : Int)) wy) := fun wy hy => ⟨j + 1, n2, G2, hj2, rfl, hy⟩
          rcases HS2.out.pr j hj2 with ⟨hp, hd⟩ | ⟨B, D, t, E, l, g, day, L, F1, F2, hp, hd, hT, _, _, _⟩
          · rw [hp, hd] at hrow
            have q0 : wr.cell? ⟨W, 6 + j * 2, none⟩ = some (.pointer none) := hrow 0 _ rfl
            have HE3 := HE.out wr HS2.out
            clear hrow HE HS2
            go_wp2
            exact ⟨HE3, by simp [intOf]; omega⟩
          · rw [hp, hd] at hrow
            have q0 : wr.cell? ⟨W, 6 + j * 2, none⟩ = some (.pointer (some ⟨B, 0, none⟩)) := hrow 0 _ rfl
            have hBa := lawbal_any wr B D t E l g day L F1 F2 hT
            clear hT hp hd
            go_upto_region 23 with fail
            refine wp_region_lit ?_
            refine wpList_val (.pointer (some ⟨W, 0, none⟩)) wr rfl rfl ?_
            simp only [Act.put, List.setIfInBounds_toArray, List.set_cons_zero, List.set_cons_succ]
            refine wpList_val (.int .i64 j) wr rfl rfl ?_
            simp only [Act.put, List.setIfInBounds_toArray, List.set_cons_zero, List.set_cons_succ]
            refine wpList_val (.pointer (some ⟨W, 0, none⟩)) wr rfl rfl ?_
            simp only [Act.put, List.setIfInBounds_toArray, List.set_cons_zero, List.set_cons_succ]
            refine wpList_val (.pointer (some ⟨W, 6, none⟩)) wr rfl (by go_simp) ?_
            simp only [Act.put, List.setIfInBounds_toArray, List.set_cons_zero, List.set_cons_succ]
            refine wpList_val (.pointer (some ⟨W, 6 + j * 2, none⟩)) wr rfl (by go_simp) ?_
            simp only [Act.put, List.setIfInBounds_toArray, List.set_cons_zero, List.set_cons_succ]
            refine wpList_load_mid rfl 31 (.tmp 108) rfl W (6 + j * 2) rfl [.pointer (some ⟨B, 0, none⟩), .pointer (some ⟨D, 0, none⟩)] _ hrow Tryz.underlying31 rfl (by kernel_rfl) ?_
            simp only [Act.put, List.setIfInBounds_toArray, List.set_cons_zero, List.set_cons_succ]
            clear q0 hrow
            go_wp2_with fail
            refine hBa.mono ?_
            rintro x w3 ⟨rfl, hb3⟩
            have HE3 := HE.out w3 (HS2.out.below hb3)
            clear hBa hb3 HE HS2
            go_wp2
            exact ⟨HE3, by simp [intOf]; omega⟩
        · obtain rfl : j = 2 := by omega
          have zj : ¬ ((2 : Nat) : Int) < 2 := by omega
          have hSe := settle0 wr W _ _ _ _ HS2.out.wa
          go_wp2_with fail
          refine hSe.mono ?_
          rintro x w3 ⟨rfl, hA3, hk3⟩
          clear hSe
          have HB3 : Hid (Below w.heap.size w w3) := (HS2.out.home hA3 hk3).bl
          have hLo := looks0 w3 W _ _ _ _ hA3
          clear hA3 hk3 HS2
          go_wp2_with fail
          refine hLo.mono ?_
          rintro x w4 ⟨rfl, hw4⟩
          obtain rfl := hw4.symm
          clear hLo hw4
          go_wp2
          go_ret
          exact ⟨rfl, HB3.out⟩
end Go.Proofs.YtanndhoimpnhpaaGreatDoor

/- The document's loan, ahead of a script. -/
namespace Go.Proofs.YtanndhoimpnhpaaGreatDoor
open Go.ChangeShapes Go.WideShapes Go.ChangeAt Go.RowKit Go.WideMaps Go.Maps Lg Cal

def kt : Ln.Terms := ⟨36524, 36500000, 10000, 0, 1, 15⟩
theorem kt_cd0 : cdOf (36524 + ((0 : Nat) : Int)) = 1 := cdOf_is ⟨2000, 1, by unfold Ok; decide, by decide⟩
theorem kt_cd1 : cdOf (36524 + ((1 : Nat) : Int)) = 2 := cdOf_is ⟨2000, 1, by unfold Ok; decide, by decide⟩
theorem kt_it : (Ln.run kt cdOf (wtOf kt.ba) [] 2).it = 2000 := by
  show (Ln.day kt (36524 + ((1 : Nat) : Int)) (cdOf (36524 + ((1 : Nat) : Int))) (wtOf 1 (36524 + ((1 : Nat) : Int))) [] (Ln.day kt (36524 + ((0 : Nat) : Int)) (cdOf (36524 + ((0 : Nat) : Int))) (wtOf 1 (36524 + ((0 : Nat) : Int))) [] (Ln.start kt)).g).g.it = 2000
  rw [kt_cd0, kt_cd1, wtOf_one _ (by decide), wtOf_one _ (by decide)]
  decide
end Go.Proofs.YtanndhoimpnhpaaGreatDoor

/- known, of the kinds up to Balance. -/
namespace Go.Proofs.YtanndhoimpnhpaaGreatDoor
open Go.ChangeShapes Go.WideShapes Go.ChangeAt Go.RowKit Go.WideMaps Go.Maps Lg Cal

/-- The script of known. -/
def ksc : List Sp := [⟨3, 0, ⟨0, 0, 0, 0⟩, 36526, .string ByteArray.empty⟩, ⟨7, 0, ⟨0, 0, 0, 0⟩, 0, .string ByteArray.empty⟩, ⟨1, 0, ⟨36525, 5, 0, 500⟩, 0, .string ByteArray.empty⟩, ⟨3, 0, ⟨0, 0, 0, 0⟩, 36539, .string ByteArray.empty⟩]
/-- A script's cells. -/
def scl : List Sp → List Value
  | [] => []
  | s :: r => spl s ++ scl r
theorem ksc_mid (k : Nat) (hk : k < ksc.length) : ∀ j u, (spl ksc[k])[j]? = some u → (scl ksc)[k * 8 + j]? = some u := by
  intro j u hu
  have hj : j < 8 := (List.getElem?_eq_some_iff.1 hu).1
  have hk4 : k < 4 := hk
  match k, hk4, j, hj with
  | 0, _, 0, _ => exact hu
  | 0, _, 1, _ => exact hu
  | 0, _, 2, _ => exact hu
  | 0, _, 3, _ => exact hu
  | 0, _, 4, _ => exact hu
  | 0, _, 5, _ => exact hu
  | 0, _, 6, _ => exact hu
  | 0, _, 7, _ => exact hu
  | 1, _, 0, _ => exact hu
  | 1, _, 1, _ => exact hu
  | 1, _, 2, _ => exact hu
  | 1, _, 3, _ => exact hu
  | 1, _, 4, _ => exact hu
  | 1, _, 5, _ => exact hu
  | 1, _, 6, _ => exact hu
  | 1, _, 7, _ => exact hu
  | 2, _, 0, _ => exact hu
  | 2, _, 1, _ => exact hu
  | 2, _, 2, _ => exact hu
  | 2, _, 3, _ => exact hu
  | 2, _, 4, _ => exact hu
  | 2, _, 5, _ => exact hu
  | 2, _, 6, _ => exact hu
  | 2, _, 7, _ => exact hu
  | 3, _, 0, _ => exact hu
  | 3, _, 1, _ => exact hu
  | 3, _, 2, _ => exact hu
  | 3, _, 3, _ => exact hu
  | 3, _, 4, _ => exact hu
  | 3, _, 5, _ => exact hu
  | 3, _, 6, _ => exact hu
  | 3, _, 7, _ => exact hu

set_option maxRecDepth 10000 in
set_option maxHeartbeats 8000000 in
theorem known4 (w : World) (hmv : Mv w) (hlim : Lim w) :
    Calls Tryz.prog 8 #[.int .i64 4] w fun e w' => e = .returned (.bool true) ∧ Below w.heap.size w w' := by
  have HMv : Hid (Mv w) := hmv
  have HLim : Hid (Lim w) := hlim
  have hgl := hmv.lt
  have HA : Hid (At (w.alloc (.cells (tml kt).toArray 23)) w.heap.size (tml kt)) := At.alloc w _ _
  have HB : Hid (Below w.heap.size w (w.alloc (.cells (tml kt).toArray 23))) := (Below.refl _ _).alloc (Nat.le_refl _) _
  clear hmv hlim
  go_enter Tryz.func8, Tryz.ntmps8
  go_upto_region 2 with (first | (refine wpList_store_new rfl 23 (.tmp 3) (.tmp 9) rfl (tml kt).toArray _ rfl rfl (by kernel_rfl) rfl (by kernel_rfl) ?_) | fail)
  change Code.wp _ _ _ _ (w.alloc (.cells (tml kt).toArray 23))
  generalize w.alloc (.cells (tml kt).toArray 23) = V0 at *
  have hO := openL kt V0 (by decide)
  unfold tmV at hO
  refine wp_region_lit ?_
  refine wpList_load_mid rfl 23 (.tmp 3) rfl _ 0 rfl (tml kt) _ HA.out.range Tryz.underlying23 rfl (by kernel_rfl) ?_
  simp only [Act.put, List.setIfInBounds_toArray, List.set_cons_zero, List.set_cons_succ]
  go_wp2_with fail
  refine hO.mono ?_
  rintro x w1 ⟨B, rfl, hLo, hb1⟩
  clear hO
  have hbw1 : Below w.heap.size w w1 := HB.out.trans (hb1.mono HB.out.size)
  have hR : Calls Tryz.prog 17 #[.pointer (some ⟨B, 0, none⟩), .int .i64 36526] w1 _ := runL w1 B kt [] _ _ _ _ hLo (by simp) 2 (by decide) (by omega) (HMv.out.below hbw1) (fun x => by have := Wd.fresh x; have := HB.out.size; omega)
  go_wp2_with fail
  refine hR.mono ?_
  rintro x w2 ⟨rfl, hLo2, hk2⟩
  clear hR
  have HB2 : Hid (Below V0.heap.size V0 w2) := dfresh hb1 hk2 (fun b x => Wd.fresh x) hb1.size
  have hBa := balanceL w2 B _ _ _ _ _ _ hLo2
  have Hit : Hid ((Ln.run kt cdOf (wtOf kt.ba) [] 2).it = 2000) := kt_it
  clear hLo hLo2 hk2 hbw1 hb1
  generalize Ln.run kt cdOf (wtOf kt.ba) [] 2 = G at *
  generalize kt.st + ((2 : Nat) : Int) = dy at *
  go_wp2_with fail
  refine hBa.mono ?_
  rintro x w3 ⟨rfl, hb3⟩
  clear hBa
  unfold blV
  have hb4 : Below V0.heap.size V0 (w3.alloc (.cells (bll G dy).toArray 52)) := (HB2.out.trans (hb3.mono HB2.out.size)).alloc (Nat.le_trans HB2.out.size hb3.size) _
  have HN7 : Hid (At (w3.alloc (.cells (bll G dy).toArray 52)) w3.heap.size (bll G dy)) := At.alloc w3 _ _
  have HB4 : Hid (Below w.heap.size w (w3.alloc (.cells (bll G dy).toArray 52))) := HB.out.trans (hb4.mono HB.out.size)
  have HA4 : Hid (At (w3.alloc (.cells (bll G dy).toArray 52)) w.heap.size (tml kt)) := At.keep (S := fun _ => False) (v := .int .i64 kt.st) HA.out (Keep.below hb4) (fun x => x)
  clear HB2 hb3 hb4 HA HB
  go_upto_region 7 with (first | (refine wpList_store_new rfl 52 (.tmp 7) (.tmp 24) rfl (bll G dy).toArray _ rfl rfl (by kernel_rfl) rfl (by kernel_rfl) ?_) | fail)
  generalize w3.alloc (.cells (bll G dy).toArray 52) = V3 at *
  generalize w3.heap.size = N7 at *
  refine wp_region_lit ?_
  refine wpList_load_mid rfl 23 (.tmp 3) rfl _ 0 rfl (tml kt) _ HA4.out.range Tryz.underlying23 rfl (by kernel_rfl) ?_
  simp only [Act.put, List.setIfInBounds_toArray, List.set_cons_zero, List.set_cons_succ]
  refine wpList_load_mid rfl 23 (.tmp 3) rfl _ 0 rfl (tml kt) _ HA4.out.range Tryz.underlying23 rfl (by kernel_rfl) ?_
  simp only [Act.put, List.setIfInBounds_toArray, List.set_cons_zero, List.set_cons_succ]
  refine wpList_val (.agg #[.int .i64 3, .int .i64 0, .int .i64 0, .int .i64 0, .int .i64 0, .int .i64 0, .int .i64 36526, .string ByteArray.empty]) V3 rfl (by kernel_rfl) ?_
  simp only [Act.put, List.setIfInBounds_toArray, List.set_cons_zero, List.set_cons_succ]
  refine wpList_val (.agg #[.int .i64 7, .int .i64 0, .int .i64 0, .int .i64 0, .int .i64 0, .int .i64 0, .int .i64 0, .string ByteArray.empty]) V3 rfl (by kernel_rfl) ?_
  simp only [Act.put, List.setIfInBounds_toArray, List.set_cons_zero, List.set_cons_succ]
  refine wpList_val (.agg #[.int .i64 36525, .int .i64 5, .int .i64 0, .int .i64 500]) V3 rfl (by kernel_rfl) ?_
  simp only [Act.put, List.setIfInBounds_toArray, List.set_cons_zero, List.set_cons_succ]
  refine wpList_val (.agg #[.int .i64 1, .int .i64 0, .int .i64 36525, .int .i64 5, .int .i64 0, .int .i64 500, .int .i64 0, .string ByteArray.empty]) V3 rfl (by kernel_rfl) ?_
  simp only [Act.put, List.setIfInBounds_toArray, List.set_cons_zero, List.set_cons_succ]
  refine wpList_val (.agg #[.int .i64 3, .int .i64 0, .int .i64 0, .int .i64 0, .int .i64 0, .int .i64 0, .int .i64 36539, .string ByteArray.empty]) V3 rfl (by kernel_rfl) ?_
  simp only [Act.put, List.setIfInBounds_toArray, List.set_cons_zero, List.set_cons_succ]
  have hsz : Below V3.heap.size V3 (V3.alloc (.cells (scl ksc).toArray 60)) := (Below.refl _ _).alloc (Nat.le_refl _) _
  have HB5 : Hid (Below w.heap.size w (V3.alloc (.cells (scl ksc).toArray 60))) := HB4.out.alloc HB4.out.size _
  have HN5 : Hid (At (V3.alloc (.cells (scl ksc).toArray 60)) N7 (bll G dy)) := At.keep (S := fun _ => False) (v := .int .i64 G.pr) HN7.out (Keep.below hsz) (fun x => x)
  have hRow : At (V3.alloc (.cells (scl ksc).toArray 60)) V3.heap.size (scl ksc) := At.alloc V3 _ _
  have hSp : SpV (V3.alloc (.cells (scl ksc).toArray 60)) (.slice (some ⟨V3.heap.size, 0, none⟩) 4 4) ksc := ⟨some ⟨V3.heap.size, 0, none⟩, 4, rfl, Nat.le_refl _, fun k hk => ⟨V3.heap.size, 0, rfl, At.lt (v := .int .i64 3) hRow, by rw [Nat.zero_add]; exact hRow.mid (k * 8) _ (ksc_mid k hk)⟩⟩
  have hPl := played4 _ kt kt _ ksc hSp (by decide) (HMv.out.below HB5.out) (HLim.out.keep (S := fun _ => False) (Keep.below HB5.out) (fun x => x))
  unfold tmV at hPl
  refine wpList_val (.slice (some ⟨V3.heap.size, 0, none⟩) 4 4) (V3.alloc (.cells (scl ksc).toArray 60)) rfl (by kernel_rfl) ?_
  simp only [Act.put, List.setIfInBounds_toArray, List.set_cons_zero, List.set_cons_succ]
  clear hRow hSp hsz HB4 HA4 HN7
  generalize V3.alloc (.cells (scl ksc).toArray 60) = V5 at *
  go_wp2_with fail
  refine hPl.mono ?_
  rintro x w6 ⟨rfl, hb6⟩
  clear hPl
  have q1 : w6.cell? ⟨N7, 1, none⟩ = some (.int .i64 2000) := by
    have := (At.keep (S := fun _ => False) (v := .int .i64 G.pr) HN5.out (Keep.below hb6) (fun x => x)).cell 1 rfl
    rw [this, Hit.out]
  have HE : Hid (Below w.heap.size w w6) := HB5.out.trans (hb6.mono HB5.out.size)
  clear hb6 HN5 HB5
  go_wp2
  go_ret
  exact ⟨rfl, HE.out⟩
end Go.Proofs.YtanndhoimpnhpaaGreatDoor

/- The statement Loans, walked. -/
namespace Go.Proofs.YtanndhoimpnhpaaGreatDoor
open Go.ChangeShapes Go.WideShapes Go.ChangeAt Go.RowKit Go.WideMaps Go.Maps Lg Cal

theorem SpV.below {w w' : World} {v : Value} {l : List Sp} (h : SpV w v l) (hb : Below w.heap.size w w') : SpV w' v l := by
  obtain ⟨p, cap, h1, h2, h3⟩ := h
  refine ⟨p, cap, h1, h2, fun k hk => ?_⟩
  obtain ⟨b, o, h4, h5, h6⟩ := h3 k hk
  exact ⟨b, o, h4, Nat.lt_of_lt_of_le h5 hb.size, fun j u hu => (World.cell?_of_block (w := w) (a := ⟨b, o + k * 8 + j, none⟩) (hb.block b h5)).trans (h6 j u hu)⟩
set_option maxRecDepth 10000 in
set_option maxHeartbeats 4000000 in
theorem loans_any (w : World) (ta tb : Ln.Terms) (v : Value) (sc : List Sp) (hv : SpV w v sc) (hsl : sc.length ≤ 40000000) (hmv : Mv w) (hlim : Lim w) :
    Calls Tryz.prog 3 #[tmV ta, tmV tb, v] w fun e w' => e = .returned (.bool true) ∧ Below w.heap.size w w' := by
  have s1 : (w.alloc (.cells (tml ta).toArray 23)).heap.size = w.heap.size + 1 := Array.size_push _
  have b1 : Below w.heap.size w (w.alloc (.cells (tml ta).toArray 23)) := (Below.refl _ _).alloc (Nat.le_refl _) _
  have b2 : Below w.heap.size w ((w.alloc (.cells (tml ta).toArray 23)).alloc (.cells (tml tb).toArray 23)) := b1.alloc b1.size _
  have k12 : Below (w.alloc (.cells (tml ta).toArray 23)).heap.size (w.alloc (.cells (tml ta).toArray 23)) ((w.alloc (.cells (tml ta).toArray 23)).alloc (.cells (tml tb).toArray 23)) := (Below.refl _ _).alloc (Nat.le_refl _) _
  have HA : Hid (At ((w.alloc (.cells (tml ta).toArray 23)).alloc (.cells (tml tb).toArray 23)) w.heap.size (tml ta)) := At.keep (S := fun _ => False) (v := .int .i64 ta.st) (At.alloc w (tml ta) _) (Keep.below k12) (fun x => x)
  have HB : Hid (At ((w.alloc (.cells (tml ta).toArray 23)).alloc (.cells (tml tb).toArray 23)) (w.heap.size + 1) (tml tb)) := by
    have h := At.alloc (w.alloc (.cells (tml ta).toArray 23)) (tml tb) 23
    rw [s1] at h
    exact h
  have HBl : Hid (Below w.heap.size w ((w.alloc (.cells (tml ta).toArray 23)).alloc (.cells (tml tb).toArray 23))) := b2
  have HV : Hid (SpV w v sc) := hv
  have HMv : Hid (Mv w) := hmv
  have HLim : Hid (Lim w) := hlim
  obtain ⟨sp, scap, rfl, _, _⟩ := hv
  clear s1 b1 b2 k12 hmv hlim
  unfold tmV
  go_enter Tryz.func3, Tryz.ntmps3
  go_upto_region 1 with fail
  change Code.wp _ _ _ _ ((w.alloc (.cells (tml ta).toArray 23)).alloc (.cells (tml tb).toArray 23))
  generalize (w.alloc (.cells (tml ta).toArray 23)).alloc (.cells (tml tb).toArray 23) = V0 at *
  have hK := known4 V0 (HMv.out.below HBl.out) (HLim.out.keep (S := fun _ => False) (Keep.below HBl.out) (fun x => x))
  go_wp2_with fail
  refine hK.mono ?_
  rintro x w1 ⟨rfl, hb1⟩
  clear hK
  have HB1 : Hid (Below w.heap.size w w1) := HBl.out.trans (hb1.mono HBl.out.size)
  have ra : w1.rangeAt w.heap.size 0 (tml ta) := (At.keep (S := fun _ => False) (v := .int .i64 ta.st) HA.out (Keep.below hb1) (fun x => x)).range
  have rb : w1.rangeAt (w.heap.size + 1) 0 (tml tb) := (At.keep (S := fun _ => False) (v := .int .i64 tb.st) HB.out (Keep.below hb1) (fun x => x)).range
  have hP := played4 w1 ta tb _ sc (HV.out.below HB1.out) hsl (HMv.out.below HB1.out) (HLim.out.keep (S := fun _ => False) (Keep.below HB1.out) (fun x => x))
  unfold tmV at hP
  clear hb1 HA HB HBl
  go_upto_region 2 with fail
  refine wp_region_lit ?_
  refine wpList_load_mid rfl 23 (.tmp 3) rfl _ 0 rfl (tml ta) _ ra Tryz.underlying23 rfl (by kernel_rfl) ?_
  simp only [Act.put, List.setIfInBounds_toArray, List.set_cons_zero, List.set_cons_succ]
  refine wpList_load_mid rfl 23 (.tmp 4) rfl _ 0 rfl (tml tb) _ rb Tryz.underlying23 rfl (by kernel_rfl) ?_
  simp only [Act.put, List.setIfInBounds_toArray, List.set_cons_zero, List.set_cons_succ]
  clear ra rb
  go_wp2_with fail
  refine hP.mono ?_
  rintro x w2 ⟨rfl, hb2⟩
  clear hP
  have HE : Hid (Below w.heap.size w w2) := HB1.out.trans (hb2.mono HB1.out.size)
  clear hb2 HB1
  go_wp2
  go_ret
  exact ⟨rfl, HE.out⟩
end Go.Proofs.YtanndhoimpnhpaaGreatDoor

/- Arguments opened: terms, a script. -/
namespace Go.Proofs.YtanndhoimpnhpaaGreatDoor
open Go.ChangeShapes Go.WideShapes Go.RowKit Go.Deep Cal

instance : Inhabited Sp := ⟨⟨0, 0, ⟨0, 0, 0, 0⟩, 0, .bool false⟩⟩
section
variable {H : Type} {enc : TypeId × Value → H}

set_option maxRecDepth 100000 in
theorem open_Terms {W : World} {b0 : Nat} {v : Value} {d : DataW H} {ps : List MemPlace} (hok : Value.okWide Tryz.prog W .any b0 23 v) (h : DataW.Trod enc Tryz.prog W 0 (fun _ => true) true 23 v d ps) : ∃ t : Ln.Terms, v = tmV t := by
  obtain ⟨cs, rfl, hsz⟩ := okWide_struct Tryz.underlying23 hok
  obtain ⟨n, hn⟩ := h
  have hn2 : DataW.trod enc Tryz.prog W 0 (fun _ => true) true n 23 cs.toList = some (d, ps) := hn
  rw [show Tryz.prog.cellsOf 23 = 6 by kernel_rfl] at hsz
  obtain ⟨xs, k, hk, hxy, _, hxl, hf⟩ := DataW.trod_struct Tryz.underlying23 hn2
  obtain ⟨l⟩ := cs
  match l, hsz with
  | [u0, u1, u2, u3, u4, u5], _ =>
    match xs, hxl with
    | [y0, y1, y2, y3, y4, y5], _ =>
      have g0 := hf 0 _ rfl
      have g1 := hf 1 _ rfl
      have g2 := hf 2 _ rfl
      have g3 := hf 3 _ rfl
      have g4 := hf 4 _ rfl
      have g5 := hf 5 _ rfl
      have c1 : Tryz.prog.cellsOf 3 = 1 := by kernel_rfl
      simp [c1] at g0 g1 g2 g3 g4 g5
      obtain ⟨z0, e0, _, w0⟩ := DataW.trod_int Tryz.underlying3 g0
      obtain ⟨z1, e1, _, w1⟩ := DataW.trod_int Tryz.underlying3 g1
      obtain ⟨z2, e2, _, w2⟩ := DataW.trod_int Tryz.underlying3 g2
      obtain ⟨z3, e3, _, w3⟩ := DataW.trod_int Tryz.underlying3 g3
      obtain ⟨z4, e4, _, w4⟩ := DataW.trod_int Tryz.underlying3 g4
      obtain ⟨z5, e5, _, w5⟩ := DataW.trod_int Tryz.underlying3 g5
      simp only [List.cons.injEq, and_true] at e0 e1 e2 e3 e4 e5
      subst e0 e1 e2 e3 e4 e5
      exact ⟨⟨z0, z1, z2, z3, z4, z5⟩, rfl⟩
end
end Go.Proofs.YtanndhoimpnhpaaGreatDoor
