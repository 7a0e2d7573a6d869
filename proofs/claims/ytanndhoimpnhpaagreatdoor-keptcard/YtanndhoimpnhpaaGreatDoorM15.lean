/- Joined by program: AdC, AdD. -/
import Derived.Test.YtanndhoimpnhpaaGreatDoorM14
namespace Go.Proofs.YtanndhoimpnhpaaGreatDoor
open Go.RowKit Cal
def CeS (w : World) (a b : Ln.Ev) (wx : World) : Prop := At wx w.heap.size (evl a) ∧ At wx (w.heap.size + 1) (evl b) ∧ Below w.heap.size w wx
theorem CeS.below {w W W' : World} {a b : Ln.Ev} (h : CeS w a b W) (hb : Below W.heap.size W W') : CeS w a b W' :=
  ⟨At.keep (S := fun _ => False) (v := .int .i64 a.d) h.1 (Keep.below hb) (fun x => x), At.keep (S := fun _ => False) (v := .int .i64 b.d) h.2.1 (Keep.below hb) (fun x => x), h.2.2.trans (hb.mono h.2.2.size)⟩
theorem CeS.drew {w W : World} {a b : Ln.Ev} (h : CeS w a b W) : CeS w a b W.drew := ⟨h.1.drew, h.2.1.drew, h.2.2.drew⟩
theorem or_alloc (a b c : Int) (W : World) :
    Calls Tryz.prog 85 #[.slice (some ⟨W.heap.size, 0, none⟩) 3 3] (W.alloc (.cells #[.int .i64 a, .int .i64 b, .int .i64 c] 3)) fun e w' => e = .returned (.int .i64 (orI a b c)) ∧ w' = W.alloc (.cells #[.int .i64 a, .int .i64 b, .int .i64 c] 3) :=
  or_any a b c W.heap.size 3 _ (by simp) (by simp) (by simp)
set_option maxRecDepth 10000 in
set_option maxHeartbeats 8000000 in
theorem compareEvents_any (a b : Ln.Ev) (w : World) :
    Calls Tryz.prog 52 #[evV a, evV b] w fun x w' => x = .returned (.int .i64 (cmpE a b)) ∧ Below w.heap.size w w' := by
  have hD := fun W => cmp_any a.d b.d W
  have hK := fun W => cmp_any a.k b.k W
  have hS := fun W => cmp_any a.s b.s W
  have hO := fun W => or_alloc (cmpI a.d b.d) (cmpI a.k b.k) (cmpI a.s b.s) W
  have HE : Hid (orI (cmpI a.d b.d) (cmpI a.k b.k) (cmpI a.s b.s) = cmpE a b) := rfl
  have HS0 : Hid (CeS w a b ((w.alloc (.cells (evl a).toArray 50)).alloc (.cells (evl b).toArray 50))) := by
    have b1 : Below w.heap.size w (w.alloc (.cells (evl a).toArray 50)) := (Below.refl _ _).alloc (Nat.le_refl _) _
    have z1 : (w.alloc (.cells (evl a).toArray 50)).heap.size = w.heap.size + 1 := by simp
    refine ⟨At.over (v := .int .i64 a.d) (At.alloc w (evl a) _) _, ?_, b1.alloc (by omega) _⟩
    have := At.alloc (w.alloc (.cells (evl a).toArray 50)) (evl b) 50
    rw [z1] at this
    exact this
  generalize cmpI a.d b.d = x1 at *
  generalize cmpI a.k b.k = x2 at *
  generalize cmpI a.s b.s = x3 at *
  generalize cmpE a b = code at *
  generalize orI x1 x2 x3 = orr at *
  unfold evV
  go_enter Tryz.func52, Tryz.ntmps52
  go_upto_region 1 with fail
  change Code.wp _ _ _ _ ((w.alloc (.cells (evl a).toArray 50)).alloc (.cells (evl b).toArray 50))
  generalize (w.alloc (.cells (evl a).toArray 50)).alloc (.cells (evl b).toArray 50) = V at *
  try simp only [size_alloc]
  refine wp_region_held_drew (S := CeS w a b) (by kernel_rfl) HS0.out.drew (fun hHeld => ?_)
  clear HS0
  generalize V.drew = V1 at *
  refine wpAnyH_take (i := 0) (v := (.pointer (some ⟨w.heap.size, 0, none⟩))) rfl (by kernel_rfl) (by kernel_rfl) (by kernel_rfl) (fun _ _ _ h => h) (Or.inl ⟨by rfl, fun wx hSw => by ((try dsimp only at hSw); go_simp)⟩) (by assumption) ?_
  simp only [Act.put, List.getElem_toArray, List.getElem_cons_zero, List.setIfInBounds_toArray, List.set_cons_zero, List.set_cons_succ]
  refine wpAnyH_take (i := 1) (v := (.int .i64 a.d)) rfl (by kernel_rfl) (by kernel_rfl) (by kernel_rfl) (fun _ _ _ h => h) (Or.inl ⟨by rfl, fun wx hSw => by (have hc : wx.cell? ⟨w.heap.size, 0, none⟩ = some (.int .i64 a.d) := hSw.1.cell 0 rfl; go_simp)⟩) (by assumption) ?_
  simp only [Act.put, List.getElem_toArray, List.getElem_cons_succ, List.getElem_cons_zero, List.setIfInBounds_toArray, List.set_cons_zero, List.set_cons_succ]
  refine wpAnyH_take (i := 2) (v := (.pointer (some ⟨w.heap.size + 1, 0, none⟩))) rfl (by kernel_rfl) (by kernel_rfl) (by kernel_rfl) (fun _ _ _ h => h) (Or.inl ⟨by rfl, fun wx hSw => by ((try dsimp only at hSw); go_simp)⟩) (by assumption) ?_
  simp only [Act.put, List.getElem_toArray, List.getElem_cons_succ, List.getElem_cons_zero, List.setIfInBounds_toArray, List.set_cons_zero, List.set_cons_succ]
  refine wpAnyH_take (i := 3) (v := (.int .i64 b.d)) rfl (by kernel_rfl) (by kernel_rfl) (by kernel_rfl) (fun _ _ _ h => h) (Or.inl ⟨by rfl, fun wx hSw => by (have hc : wx.cell? ⟨w.heap.size + 1, 0, none⟩ = some (.int .i64 b.d) := hSw.2.1.cell 0 rfl; go_simp)⟩) (by assumption) ?_
  simp only [Act.put, List.getElem_toArray, List.getElem_cons_succ, List.getElem_cons_zero, List.setIfInBounds_toArray, List.set_cons_zero, List.set_cons_succ]
  refine wpAnyH_take (i := 5) (v := (.pointer (some ⟨w.heap.size, 1, none⟩))) rfl (by kernel_rfl) (by kernel_rfl) (by kernel_rfl) (fun _ _ _ h => h) (Or.inl ⟨by rfl, fun wx hSw => by ((try dsimp only at hSw); go_simp)⟩) (by assumption) ?_
  simp only [Act.put, List.getElem_toArray, List.getElem_cons_succ, List.getElem_cons_zero, List.setIfInBounds_toArray, List.set_cons_zero, List.set_cons_succ]
  refine wpAnyH_take (i := 6) (v := (.int .i64 a.k)) rfl (by kernel_rfl) (by kernel_rfl) (by kernel_rfl) (fun _ _ _ h => h) (Or.inl ⟨by rfl, fun wx hSw => by (have hc : wx.cell? ⟨w.heap.size, 1, none⟩ = some (.int .i64 a.k) := hSw.1.cell 1 rfl; go_simp)⟩) (by assumption) ?_
  simp only [Act.put, List.getElem_toArray, List.getElem_cons_succ, List.getElem_cons_zero, List.setIfInBounds_toArray, List.set_cons_zero, List.set_cons_succ]
  refine wpAnyH_take (i := 7) (v := (.pointer (some ⟨w.heap.size + 1, 1, none⟩))) rfl (by kernel_rfl) (by kernel_rfl) (by kernel_rfl) (fun _ _ _ h => h) (Or.inl ⟨by rfl, fun wx hSw => by ((try dsimp only at hSw); go_simp)⟩) (by assumption) ?_
  simp only [Act.put, List.getElem_toArray, List.getElem_cons_succ, List.getElem_cons_zero, List.setIfInBounds_toArray, List.set_cons_zero, List.set_cons_succ]
  refine wpAnyH_take (i := 8) (v := (.int .i64 b.k)) rfl (by kernel_rfl) (by kernel_rfl) (by kernel_rfl) (fun _ _ _ h => h) (Or.inl ⟨by rfl, fun wx hSw => by (have hc : wx.cell? ⟨w.heap.size + 1, 1, none⟩ = some (.int .i64 b.k) := hSw.2.1.cell 1 rfl; go_simp)⟩) (by assumption) ?_
  simp only [Act.put, List.getElem_toArray, List.getElem_cons_succ, List.getElem_cons_zero, List.setIfInBounds_toArray, List.set_cons_zero, List.set_cons_succ]
  refine wpAnyH_take (i := 10) (v := (.pointer (some ⟨w.heap.size, 2, none⟩))) rfl (by kernel_rfl) (by kernel_rfl) (by kernel_rfl) (fun _ _ _ h => h) (Or.inl ⟨by rfl, fun wx hSw => by ((try dsimp only at hSw); go_simp)⟩) (by assumption) ?_
  simp only [Act.put, List.getElem_toArray, List.getElem_cons_succ, List.getElem_cons_zero, List.setIfInBounds_toArray, List.set_cons_zero, List.set_cons_succ]
  refine wpAnyH_take (i := 11) (v := (.int .i64 a.s)) rfl (by kernel_rfl) (by kernel_rfl) (by kernel_rfl) (fun _ _ _ h => h) (Or.inl ⟨by rfl, fun wx hSw => by (have hc : wx.cell? ⟨w.heap.size, 2, none⟩ = some (.int .i64 a.s) := hSw.1.cell 2 rfl; go_simp)⟩) (by assumption) ?_
  simp only [Act.put, List.getElem_toArray, List.getElem_cons_succ, List.getElem_cons_zero, List.setIfInBounds_toArray, List.set_cons_zero, List.set_cons_succ]
  refine wpAnyH_take (i := 12) (v := (.pointer (some ⟨w.heap.size + 1, 2, none⟩))) rfl (by kernel_rfl) (by kernel_rfl) (by kernel_rfl) (fun _ _ _ h => h) (Or.inl ⟨by rfl, fun wx hSw => by ((try dsimp only at hSw); go_simp)⟩) (by assumption) ?_
  simp only [Act.put, List.getElem_toArray, List.getElem_cons_succ, List.getElem_cons_zero, List.setIfInBounds_toArray, List.set_cons_zero, List.set_cons_succ]
  refine wpAnyH_take (i := 13) (v := (.int .i64 b.s)) rfl (by kernel_rfl) (by kernel_rfl) (by kernel_rfl) (fun _ _ _ h => h) (Or.inl ⟨by rfl, fun wx hSw => by (have hc : wx.cell? ⟨w.heap.size + 1, 2, none⟩ = some (.int .i64 b.s) := hSw.2.1.cell 2 rfl; go_simp)⟩) (by assumption) ?_
  simp only [Act.put, List.getElem_toArray, List.getElem_cons_succ, List.getElem_cons_zero, List.setIfInBounds_toArray, List.set_cons_zero, List.set_cons_succ]
  refine wpAnyH_ready (rs := [4]) (by kernel_rfl) (by simp) ?_
  refine AllReadyH.cons rfl (fun K hK' => ?_) AllReadyH.nil
  go_simp
  refine (hD _).mono ?_
  rintro x w' ⟨rfl, hw'⟩
  obtain rfl := hw'.symm
  go_wp2_with fail
  refine hK'.out _ _ hHeld (fun hHeld => ?_)
  clear hK' K
  try simp only [Act.put, List.getElem_toArray, List.getElem_cons_succ, List.getElem_cons_zero, List.setIfInBounds_toArray, List.set_cons_zero, List.set_cons_succ]
  refine wpAnyH_ready (rs := [9]) (by kernel_rfl) (by simp) ?_
  refine AllReadyH.cons rfl (fun K hK' => ?_) AllReadyH.nil
  go_simp
  refine (hK _).mono ?_
  rintro x w' ⟨rfl, hw'⟩
  obtain rfl := hw'.symm
  go_wp2_with fail
  refine hK'.out _ _ hHeld (fun hHeld => ?_)
  clear hK' K
  try simp only [Act.put, List.getElem_toArray, List.getElem_cons_succ, List.getElem_cons_zero, List.setIfInBounds_toArray, List.set_cons_zero, List.set_cons_succ]
  refine wpAnyH_ready (rs := [14]) (by kernel_rfl) (by simp) ?_
  refine AllReadyH.cons rfl (fun K hK' => ?_) AllReadyH.nil
  go_simp
  refine (hS _).mono ?_
  rintro x w' ⟨rfl, hw'⟩
  obtain rfl := hw'.symm
  go_wp2_with fail
  refine hK'.out _ _ hHeld (fun hHeld => ?_)
  clear hK' K
  try simp only [Act.put, List.getElem_toArray, List.getElem_cons_succ, List.getElem_cons_zero, List.setIfInBounds_toArray, List.set_cons_zero, List.set_cons_succ]
  refine wpAnyH_ready (rs := [15]) (by kernel_rfl) (by simp) ?_
  refine AllReadyH.cons rfl (fun K hK' => ?_) AllReadyH.nil
  have hO1 := hO V1
  have b1 : Below V1.heap.size V1 (V1.alloc (.cells #[.int .i64 x1, .int .i64 x2, .int .i64 x3] 3)) := (Below.refl _ _).alloc (Nat.le_refl _) _
  rw [if_pos (by rfl)]
  refine wp_valD (.slice (some ⟨V1.heap.size, 0, none⟩) 3 3) (V1.alloc (.cells #[.int .i64 x1, .int .i64 x2, .int .i64 x3] 3)) (by kernel_rfl) ?_
  refine hK'.out _ _ (hHeld.below b1) (fun hHeld9 => ?_)
  clear hK' K b1
  try simp only [Act.put, List.getElem_toArray, List.getElem_cons_succ, List.getElem_cons_zero, List.setIfInBounds_toArray, List.set_cons_zero, List.set_cons_succ]
  generalize V1.alloc (.cells #[.int .i64 x1, .int .i64 x2, .int .i64 x3] 3) = V2 at *
  generalize V1.heap.size = N2 at *
  refine wpAnyH_ready (rs := [16]) (by kernel_rfl) (by simp) ?_
  refine AllReadyH.cons rfl (fun K hK' => ?_) AllReadyH.nil
  go_simp
  refine hO1.mono ?_
  rintro x w5 ⟨rfl, hw'⟩
  obtain rfl := hw'.symm
  clear hw'
  go_wp2_with fail
  refine hK'.out _ _ hHeld9 (fun hHeld10 => ?_)
  clear hK' K hO1
  have HB : Hid (Below w.heap.size w V2) := hHeld10.2.2
  try simp only [Act.put, List.getElem_toArray, List.getElem_cons_succ, List.getElem_cons_zero, List.setIfInBounds_toArray, List.set_cons_zero, List.set_cons_succ]
  refine wpAnyH_take (i := 17) (v := (.int .i64 orr)) rfl (by kernel_rfl) (by kernel_rfl) (by kernel_rfl) (fun _ _ _ h => h) (Or.inl ⟨by rfl, fun wx hSw => by ((try dsimp only at hSw); go_simp)⟩) (by assumption) ?_
  simp only [Act.put, List.getElem_toArray, List.getElem_cons_succ, List.getElem_cons_zero, List.setIfInBounds_toArray, List.set_cons_zero, List.set_cons_succ]
  refine wpAnyH_done (by kernel_rfl) ?_ _
  clear hHeld9 hHeld10 hO
  obtain rfl := HE.out
  go_wp2
  go_ret
  exact ⟨rfl, HB.out⟩
end Go.Proofs.YtanndhoimpnhpaaGreatDoor
namespace Go.Proofs.YtanndhoimpnhpaaGreatDoor
open Go.RowKit Cal
structure Bel (e : Ln.Ev) (l : List Ln.Ev) (i : Nat) : Prop where
  le : i ≤ l.length
  lo : ∀ j (hj : j < l.length), j < i → So.Ah l[j] e
  hi : ∀ j (hj : j < l.length), i ≤ j → ¬ So.Ah l[j] e
def BsS (w : World) (e : Ln.Ev) (wx : World) : Prop := At wx w.heap.size (evl e) ∧ Below w.heap.size w wx
theorem BsS.below {w W W' : World} {e : Ln.Ev} (h : BsS w e W) (hb : Below W.heap.size W W') : BsS w e W' :=
  ⟨At.keep (S := fun _ => False) (v := .int .i64 e.d) h.1 (Keep.below hb) (fun x => x), h.2.trans (hb.mono h.2.size)⟩
theorem BsS.drew {w W : World} {e : Ln.Ev} (h : BsS w e W) : BsS w e W.drew := ⟨h.1.drew, h.2.drew⟩
set_option maxRecDepth 10000 in
set_option maxHeartbeats 4000000 in
theorem search_any (w : World) (E : Nat) (v : Value) (l : List Ln.Ev) (e : Ln.Ev) (h : EvV w E v l) (hl : l.length ≤ 1000000) (hso : l.Pairwise So.Ah) :
    Calls Tryz.prog 51 #[v, evV e, .func (.func 52) #[] #[]] w fun x w' => (∃ (i : Nat) (b : Bool), x = .returned (.tuple #[.int .i64 i, .bool b]) ∧ Bel e l i) ∧ Below w.heap.size w w' := by
  obtain ⟨p, cap, rfl, hcap, hat⟩ := h
  have HAt : Hid (EvAt w E p l) := hat
  have HSo : Hid (∀ i j (hi : i < l.length) (hj : j < l.length), i < j → So.Ah l[i] l[j]) := List.pairwise_iff_getElem.1 hso
  have HC : Hid (∀ (a : Ln.Ev) (W : World), Calls Tryz.prog 52 #[evV a, evV e] W fun x w' => x = .returned (.int .i64 (cmpE a e)) ∧ Below W.heap.size W w') := fun a W => compareEvents_any a e W
  have HV0 : Hid (BsS w e (w.alloc (.cells (evl e).toArray 50))) := ⟨At.alloc w (evl e) _, (Below.refl _ _).alloc (Nat.le_refl _) _⟩
  have HLt : Hid (∀ a : Ln.Ev, cmpE a e < 0 ↔ So.Ah a e) := fun a => cmpE_lt a e
  clear hat hso
  unfold evV
  go_enter Tryz.func51, Tryz.ntmps51
  go_upto_region 1 with fail
  change Code.wp _ _ _ _ (w.alloc (.cells (evl e).toArray 50))
  generalize w.alloc (.cells (evl e).toArray 50) = V at *
  go_wp2
  go_loopw [9, 10, 11] (fun s9 s10 _ wr => ∃ i j : Nat, i ≤ j ∧ j ≤ l.length ∧ s9 = .int .i64 i ∧ s10 = .int .i64 j ∧ BsS w e wr ∧ (∀ q (hq : q < l.length), q < i → So.Ah l[q] e) ∧ (∀ q (hq : q < l.length), j ≤ q → ¬ So.Ah l[q] e)) (fun s9 s10 _ _ => (intOf s10 - intOf s9).toNat)
  case atStart => exact ⟨0, l.length, Nat.zero_le _, Nat.le_refl _, rfl, rfl, HV0.out, fun q _ h => absurd h (Nat.not_lt_zero q), fun q hq h => by omega⟩
  case round =>
    obtain ⟨i, j, hij, hjn, rfl, rfl, hS, hlo, hhi⟩ := hrel
    have HS : Hid (BsS w e wr) := hS
    have HLo : Hid (∀ q (hq : q < l.length), q < i → So.Ah l[q] e) := hlo
    have HHi : Hid (∀ q (hq : q < l.length), j ≤ q → ¬ So.Ah l[q] e) := hhi
    clear hS hlo hhi
    by_cases hlt : i < j
    · obtain ⟨m, hm⟩ : ∃ m, m = (i + j) / 2 := ⟨_, rfl⟩
      have hm1 : i ≤ m := by omega
      have hm2 : m < j := by omega
      have hml : m < l.length := by omega
      obtain ⟨o, rfl, hEl, hr⟩ := HAt.out.range m hml
      have HR : Hid (∀ wx, BsS w e wx → wx.rangeAt E (o + m * 4) (evl l[m])) := fun wx hx j u hu => (World.cell?_of_block (w := w) (a := ⟨E, o + m * 4 + j, none⟩) (hx.2.block E hEl)).trans (hr j u hu)
      have hC := HC.out l[m]
      have HUp : Hid (cmpE l[m] e < 0 → ∀ q (hq : q < l.length), q < m + 1 → So.Ah l[q] e) := fun hc q hq hqm => by
        have h1 := (HLt.out l[m]).1 hc
        by_cases z : q = m
        · subst z; exact h1
        · exact So.ah_trans (HSo.out q m hq hml (by omega)) h1
      have HDn : Hid (¬ cmpE l[m] e < 0 → ∀ q (hq : q < l.length), m ≤ q → ¬ So.Ah l[q] e) := fun hc q hq hqm ha => by
        refine hc ((HLt.out l[m]).2 ?_)
        by_cases z : q = m
        · subst z; exact ha
        · exact So.ah_trans (HSo.out m q hml hq (by omega)) ha
      clear hr
      unfold evV at hC
      generalize l[m] = x at *
      have z1 : (i : Int) < (j : Int) := by omega
      have z2 : ((i : Int) + (j : Int)) / 2 = (m : Int) := by omega
      have HM : Hid (m = (i + j) / 2) := hm
      clear hm
      generalize cmpE x e = c at *
      go_upto_region 5 with fail
      refine wp_region_held_drew (S := BsS w e) (by kernel_rfl) HS.out.drew (fun hHeld => ?_)
      clear HS
      generalize wr.drew = V1 at *
      refine wpAnyH_take (i := 0) (v := (.func (.func 52) #[] #[])) rfl (by kernel_rfl) (by kernel_rfl) (by kernel_rfl) (fun _ _ _ h => h) (Or.inl ⟨by rfl, fun wx hSw => by kernel_rfl⟩) (by assumption) ?_
      simp only [Act.put, List.getElem_toArray, List.getElem_cons_zero, List.setIfInBounds_toArray, List.set_cons_zero, List.set_cons_succ]
      refine wpAnyH_take (i := 1) (v := (.slice (some ⟨E, o, none⟩) l.length cap)) rfl (by kernel_rfl) (by kernel_rfl) (by kernel_rfl) (fun _ _ _ h => h) (Or.inl ⟨by rfl, fun wx hSw => by kernel_rfl⟩) (by assumption) ?_
      simp only [Act.put, List.getElem_toArray, List.getElem_cons_succ, List.getElem_cons_zero, List.setIfInBounds_toArray, List.set_cons_zero, List.set_cons_succ]
      refine wpAnyH_take (i := 2) (v := (.int .i64 m)) rfl (by kernel_rfl) (by kernel_rfl) (by kernel_rfl) (fun _ _ _ h => h) (Or.inl ⟨by rfl, fun wx hSw => by kernel_rfl⟩) (by assumption) ?_
      simp only [Act.put, List.getElem_toArray, List.getElem_cons_succ, List.getElem_cons_zero, List.setIfInBounds_toArray, List.set_cons_zero, List.set_cons_succ]
      refine wpAnyH_take (i := 3) (v := (.pointer (some ⟨E, o + m * 4, none⟩))) rfl (by kernel_rfl) (by kernel_rfl) (by kernel_rfl) (fun _ _ _ h => h) (Or.inl ⟨by rfl, fun wx hSw => by ((try dsimp only at hSw); go_simp)⟩) (by assumption) ?_
      simp only [Act.put, List.getElem_toArray, List.getElem_cons_succ, List.getElem_cons_zero, List.setIfInBounds_toArray, List.set_cons_zero, List.set_cons_succ]
      refine wpAnyH_take (i := 4) (v := (.agg (evl x).toArray)) rfl (by kernel_rfl) (by kernel_rfl) (by kernel_rfl) (fun _ _ _ h => h) (yieldsIf_load_mid (by rfl) 50 (.tmp 27) rfl _ _ rfl _ _ (fun _ h => HR.out _ h) Tryz.underlying50 rfl (by kernel_rfl)) (by assumption) ?_
      simp only [Act.put, List.getElem_toArray, List.getElem_cons_succ, List.getElem_cons_zero, List.setIfInBounds_toArray, List.set_cons_zero, List.set_cons_succ]
      refine wpAnyH_take (i := 5) (v := (.agg (evl e).toArray)) rfl (by kernel_rfl) (by kernel_rfl) (by kernel_rfl) (fun _ _ _ h => h) (yieldsIf_load_mid (by rfl) 50 (.tmp 4) rfl _ _ rfl _ _ (fun _ h => h.1.range) Tryz.underlying50 rfl (by kernel_rfl)) (by assumption) ?_
      simp only [Act.put, List.getElem_toArray, List.getElem_cons_succ, List.getElem_cons_zero, List.setIfInBounds_toArray, List.set_cons_zero, List.set_cons_succ]
      refine wpAnyH_ready (rs := [6]) (by kernel_rfl) (by simp) ?_
      refine AllReadyH.cons rfl (fun K hK => ?_) AllReadyH.nil
      go_simp
      refine (hC _).mono ?_
      rintro y w2 ⟨rfl, hb2⟩
      go_wp2_with fail
      refine hK.out _ _ (hHeld.below hb2) (fun hHeld2 => ?_)
      clear hK K hHeld hb2 hC
      try simp only [Act.put, List.getElem_toArray, List.getElem_cons_succ, List.getElem_cons_zero, List.setIfInBounds_toArray, List.set_cons_zero, List.set_cons_succ]
      have HS2 : Hid (BsS w e w2) := hHeld2
      by_cases hc : c < 0
      · have hcb : decide (c < 0) = true := by simp [hc]
        have HU := HUp.out hc
        have HU : Hid (∀ q (hq : q < l.length), q < m + 1 → So.Ah l[q] e) := HU
        clear HUp HDn
        refine wpAnyH_take (i := 7) (v := (.bool true)) rfl (by kernel_rfl) (by kernel_rfl) (by kernel_rfl) (fun _ _ _ h => h) (Or.inl ⟨by rfl, fun wx hSw => by ((try dsimp only at hSw); go_simp)⟩) (by assumption) ?_
        simp only [Act.put, List.getElem_toArray, List.getElem_cons_succ, List.getElem_cons_zero, List.setIfInBounds_toArray, List.set_cons_zero, List.set_cons_succ]
        refine wpAnyH_done (by kernel_rfl) ?_ _
        clear hHeld2 HR
        go_wp2
        exact ⟨⟨m + 1, j, by omega, hjn, rfl, rfl, HS2.out, HU.out, HHi.out⟩, by simp [intOf]; omega⟩
      · have hcb : decide (c < 0) = false := by simp [hc]
        have HU := HDn.out (by omega)
        have HU : Hid (∀ q (hq : q < l.length), m ≤ q → ¬ So.Ah l[q] e) := HU
        clear HUp HDn
        refine wpAnyH_take (i := 7) (v := (.bool false)) rfl (by kernel_rfl) (by kernel_rfl) (by kernel_rfl) (fun _ _ _ h => h) (Or.inl ⟨by rfl, fun wx hSw => by ((try dsimp only at hSw); go_simp)⟩) (by assumption) ?_
        simp only [Act.put, List.getElem_toArray, List.getElem_cons_succ, List.getElem_cons_zero, List.setIfInBounds_toArray, List.set_cons_zero, List.set_cons_succ]
        refine wpAnyH_done (by kernel_rfl) ?_ _
        clear hHeld2 HR
        go_wp2
        exact ⟨⟨i, m, hm1, by omega, rfl, rfl, HS2.out, HLo.out, HU.out⟩, by simp [intOf]; omega⟩
    · obtain rfl : i = j := by omega
      have HF : Hid (Bel e l i) := ⟨hjn, HLo.out, HHi.out⟩
      clear HLo HHi
      by_cases hn : i < l.length
      · obtain ⟨o, rfl, hEl, hr⟩ := HAt.out.range i hn
        have HR : Hid (∀ wx, BsS w e wx → wx.rangeAt E (o + i * 4) (evl l[i])) := fun wx hx j u hu => (World.cell?_of_block (w := w) (a := ⟨E, o + i * 4 + j, none⟩) (hx.2.block E hEl)).trans (hr j u hu)
        have hC := HC.out l[i]
        clear hr
        unfold evV at hC
        generalize l[i] = x at *
        have z1 : (i : Int) < (l.length : Int) := by omega
        have z2 : decide ((i : Int) < (l.length : Int)) = true := by simp [z1]
        generalize cmpE x e = c at *
        go_upto_region 8 with fail
        refine wp_region_held_drew (S := BsS w e) (by kernel_rfl) HS.out.drew (fun hHeld => ?_)
        clear HS
        generalize wr.drew = V1 at *
        refine wpAnyH_take (i := 0) (v := (.int .i64 i)) rfl (by kernel_rfl) (by kernel_rfl) (by kernel_rfl) (fun _ _ _ h => h) (Or.inl ⟨by rfl, fun wx hSw => by kernel_rfl⟩) (by assumption) ?_
        simp only [Act.put, List.getElem_toArray, List.getElem_cons_zero, List.setIfInBounds_toArray, List.set_cons_zero, List.set_cons_succ]
        refine wpAnyH_take (i := 1) (v := (.int .i64 i)) rfl (by kernel_rfl) (by kernel_rfl) (by kernel_rfl) (fun _ _ _ h => h) (Or.inl ⟨by rfl, fun wx hSw => by kernel_rfl⟩) (by assumption) ?_
        simp only [Act.put, List.getElem_toArray, List.getElem_cons_succ, List.getElem_cons_zero, List.setIfInBounds_toArray, List.set_cons_zero, List.set_cons_succ]
        refine wpAnyH_take (i := 2) (v := (.int .i64 l.length)) rfl (by kernel_rfl) (by kernel_rfl) (by kernel_rfl) (fun _ _ _ h => h) (Or.inl ⟨by rfl, fun wx hSw => by kernel_rfl⟩) (by assumption) ?_
        simp only [Act.put, List.getElem_toArray, List.getElem_cons_succ, List.getElem_cons_zero, List.setIfInBounds_toArray, List.set_cons_zero, List.set_cons_succ]
        refine wpAnyH_take (i := 3) (v := (.bool true)) rfl (by kernel_rfl) (by kernel_rfl) (by kernel_rfl) (fun _ _ _ h => h) (Or.inl ⟨by rfl, fun wx hSw => by ((try dsimp only at hSw); go_simp)⟩) (by assumption) ?_
        simp only [Act.put, List.getElem_toArray, List.getElem_cons_succ, List.getElem_cons_zero, List.setIfInBounds_toArray, List.set_cons_zero, List.set_cons_succ]
        refine wpAnyH_take (i := 4) (v := (.bool true)) rfl (by kernel_rfl) (by kernel_rfl) (by kernel_rfl) (fun _ _ _ h => h) (Or.inl ⟨by rfl, fun wx hSw => by kernel_rfl⟩) (by assumption) ?_
        simp only [Act.put, List.getElem_toArray, List.getElem_cons_succ, List.getElem_cons_zero, List.setIfInBounds_toArray, List.set_cons_zero, List.set_cons_succ]
        refine wpAnyH_take (i := 5) (v := (.func (.func 52) #[] #[])) rfl (by kernel_rfl) (by kernel_rfl) (by kernel_rfl) (fun _ _ _ h => h) (Or.inl ⟨by rfl, fun wx hSw => by kernel_rfl⟩) (by assumption) ?_
        simp only [Act.put, List.getElem_toArray, List.getElem_cons_succ, List.getElem_cons_zero, List.setIfInBounds_toArray, List.set_cons_zero, List.set_cons_succ]
        refine wpAnyH_take (i := 6) (v := (.slice (some ⟨E, o, none⟩) l.length cap)) rfl (by kernel_rfl) (by kernel_rfl) (by kernel_rfl) (fun _ _ _ h => h) (Or.inl ⟨by rfl, fun wx hSw => by kernel_rfl⟩) (by assumption) ?_
        simp only [Act.put, List.getElem_toArray, List.getElem_cons_succ, List.getElem_cons_zero, List.setIfInBounds_toArray, List.set_cons_zero, List.set_cons_succ]
        refine wpAnyH_take (i := 7) (v := (.int .i64 i)) rfl (by kernel_rfl) (by kernel_rfl) (by kernel_rfl) (fun _ _ _ h => h) (Or.inl ⟨by rfl, fun wx hSw => by kernel_rfl⟩) (by assumption) ?_
        simp only [Act.put, List.getElem_toArray, List.getElem_cons_succ, List.getElem_cons_zero, List.setIfInBounds_toArray, List.set_cons_zero, List.set_cons_succ]
        refine wpAnyH_take (i := 8) (v := (.pointer (some ⟨E, o + i * 4, none⟩))) rfl (by kernel_rfl) (by kernel_rfl) (by kernel_rfl) (fun _ _ _ h => h) (Or.inl ⟨by rfl, fun wx hSw => by ((try dsimp only at hSw); go_simp)⟩) (by assumption) ?_
        simp only [Act.put, List.getElem_toArray, List.getElem_cons_succ, List.getElem_cons_zero, List.setIfInBounds_toArray, List.set_cons_zero, List.set_cons_succ]
        refine wpAnyH_take (i := 9) (v := (.agg (evl x).toArray)) rfl (by kernel_rfl) (by kernel_rfl) (by kernel_rfl) (fun _ _ _ h => h) (yieldsIf_load_mid (by rfl) 50 (.tmp 43) rfl _ _ rfl _ _ (fun _ h => HR.out _ h) Tryz.underlying50 rfl (by kernel_rfl)) (by assumption) ?_
        simp only [Act.put, List.getElem_toArray, List.getElem_cons_succ, List.getElem_cons_zero, List.setIfInBounds_toArray, List.set_cons_zero, List.set_cons_succ]
        refine wpAnyH_take (i := 10) (v := (.agg (evl e).toArray)) rfl (by kernel_rfl) (by kernel_rfl) (by kernel_rfl) (fun _ _ _ h => h) (yieldsIf_load_mid (by rfl) 50 (.tmp 4) rfl _ _ rfl _ _ (fun _ h => h.1.range) Tryz.underlying50 rfl (by kernel_rfl)) (by assumption) ?_
        simp only [Act.put, List.getElem_toArray, List.getElem_cons_succ, List.getElem_cons_zero, List.setIfInBounds_toArray, List.set_cons_zero, List.set_cons_succ]
        refine wpAnyH_ready (rs := [11]) (by kernel_rfl) (by simp) ?_
        refine AllReadyH.cons rfl (fun K hK => ?_) AllReadyH.nil
        go_simp
        refine (hC _).mono ?_
        rintro y w2 ⟨rfl, hb2⟩
        go_wp2_with fail
        refine hK.out _ _ (hHeld.below hb2) (fun hHeld2 => ?_)
        clear hK K hHeld hb2 hC
        try simp only [Act.put, List.getElem_toArray, List.getElem_cons_succ, List.getElem_cons_zero, List.setIfInBounds_toArray, List.set_cons_zero, List.set_cons_succ]
        have HB2 : Hid (Below w.heap.size w w2) := hHeld2.2
        refine wpAnyH_take (i := 12) (v := (.bool (c == 0))) rfl (by kernel_rfl) (by kernel_rfl) (by kernel_rfl) (fun _ _ _ h => h) (Or.inl ⟨by rfl, fun wx hSw => by ((try dsimp only at hSw); go_simp)⟩) (by assumption) ?_
        simp only [Act.put, List.getElem_toArray, List.getElem_cons_succ, List.getElem_cons_zero, List.setIfInBounds_toArray, List.set_cons_zero, List.set_cons_succ]
        refine wpAnyH_take (i := 13) (v := (.bool (c == 0))) rfl (by kernel_rfl) (by kernel_rfl) (by kernel_rfl) (fun _ _ _ h => h) (Or.inl ⟨by rfl, fun wx hSw => by ((try dsimp only at hSw); go_simp)⟩) (by assumption) ?_
        simp only [Act.put, List.getElem_toArray, List.getElem_cons_succ, List.getElem_cons_zero, List.setIfInBounds_toArray, List.set_cons_zero, List.set_cons_succ]
        refine wpAnyH_take (i := 14) (v := (.int .i64 i)) rfl (by kernel_rfl) (by kernel_rfl) (by kernel_rfl) (fun _ _ _ h => h) (Or.inl ⟨by rfl, fun wx hSw => by kernel_rfl⟩) (by assumption) ?_
        simp only [Act.put, List.getElem_toArray, List.getElem_cons_succ, List.getElem_cons_zero, List.setIfInBounds_toArray, List.set_cons_zero, List.set_cons_succ]
        refine wpAnyH_take (i := 15) (v := (.bool (c == 0))) rfl (by kernel_rfl) (by kernel_rfl) (by kernel_rfl) (fun _ _ _ h => h) (Or.inl ⟨by rfl, fun wx hSw => by ((try dsimp only at hSw); go_simp)⟩) (by assumption) ?_
        simp only [Act.put, List.getElem_toArray, List.getElem_cons_succ, List.getElem_cons_zero, List.setIfInBounds_toArray, List.set_cons_zero, List.set_cons_succ]
        refine wpAnyH_done (by kernel_rfl) ?_ _
        clear hHeld2 HR
        go_wp2
        go_ret2
        exact ⟨⟨i, c == 0, rfl, HF.out⟩, HB2.out⟩
      · have z2 : decide ((i : Int) < (l.length : Int)) = false := by simp; omega
        go_upto_region 8 with fail
        refine wp_region_held_drew (S := BsS w e) (by kernel_rfl) HS.out.drew (fun hHeld => ?_)
        clear HS
        generalize wr.drew = V1 at *
        refine wpAnyH_take (i := 0) (v := (.int .i64 i)) rfl (by kernel_rfl) (by kernel_rfl) (by kernel_rfl) (fun _ _ _ h => h) (Or.inl ⟨by rfl, fun wx hSw => by kernel_rfl⟩) (by assumption) ?_
        simp only [Act.put, List.getElem_toArray, List.getElem_cons_zero, List.setIfInBounds_toArray, List.set_cons_zero, List.set_cons_succ]
        refine wpAnyH_take (i := 1) (v := (.int .i64 i)) rfl (by kernel_rfl) (by kernel_rfl) (by kernel_rfl) (fun _ _ _ h => h) (Or.inl ⟨by rfl, fun wx hSw => by kernel_rfl⟩) (by assumption) ?_
        simp only [Act.put, List.getElem_toArray, List.getElem_cons_succ, List.getElem_cons_zero, List.setIfInBounds_toArray, List.set_cons_zero, List.set_cons_succ]
        refine wpAnyH_take (i := 2) (v := (.int .i64 l.length)) rfl (by kernel_rfl) (by kernel_rfl) (by kernel_rfl) (fun _ _ _ h => h) (Or.inl ⟨by rfl, fun wx hSw => by kernel_rfl⟩) (by assumption) ?_
        simp only [Act.put, List.getElem_toArray, List.getElem_cons_succ, List.getElem_cons_zero, List.setIfInBounds_toArray, List.set_cons_zero, List.set_cons_succ]
        refine wpAnyH_take (i := 3) (v := (.bool false)) rfl (by kernel_rfl) (by kernel_rfl) (by kernel_rfl) (fun _ _ _ h => h) (Or.inl ⟨by rfl, fun wx hSw => by ((try dsimp only at hSw); go_simp)⟩) (by assumption) ?_
        simp only [Act.put, List.getElem_toArray, List.getElem_cons_succ, List.getElem_cons_zero, List.setIfInBounds_toArray, List.set_cons_zero, List.set_cons_succ]
        refine wpAnyH_take (i := 4) (v := (.bool false)) rfl (by kernel_rfl) (by kernel_rfl) (by kernel_rfl) (fun _ _ _ h => h) (Or.inl ⟨by rfl, fun wx hSw => by kernel_rfl⟩) (by assumption) ?_
        simp only [Act.put, List.getElem_toArray, List.getElem_cons_succ, List.getElem_cons_zero, List.setIfInBounds_toArray, List.set_cons_zero, List.set_cons_succ]
        refine wpAnyH_take (i := 5) (v := undef) rfl (by kernel_rfl) (by kernel_rfl) (by kernel_rfl) (fun _ _ _ h => h) (Or.inr ⟨by rfl, rfl⟩) (by assumption) ?_
        simp only [Act.put, List.getElem_toArray, List.getElem_cons_succ, List.getElem_cons_zero, List.setIfInBounds_toArray, List.set_cons_zero, List.set_cons_succ]
        refine wpAnyH_take (i := 6) (v := undef) rfl (by kernel_rfl) (by kernel_rfl) (by kernel_rfl) (fun _ _ _ h => h) (Or.inr ⟨by rfl, rfl⟩) (by assumption) ?_
        simp only [Act.put, List.getElem_toArray, List.getElem_cons_succ, List.getElem_cons_zero, List.setIfInBounds_toArray, List.set_cons_zero, List.set_cons_succ]
        refine wpAnyH_take (i := 7) (v := undef) rfl (by kernel_rfl) (by kernel_rfl) (by kernel_rfl) (fun _ _ _ h => h) (Or.inr ⟨by rfl, rfl⟩) (by assumption) ?_
        simp only [Act.put, List.getElem_toArray, List.getElem_cons_succ, List.getElem_cons_zero, List.setIfInBounds_toArray, List.set_cons_zero, List.set_cons_succ]
        refine wpAnyH_take (i := 8) (v := undef) rfl (by kernel_rfl) (by kernel_rfl) (by kernel_rfl) (fun _ _ _ h => h) (Or.inr ⟨by rfl, rfl⟩) (by assumption) ?_
        simp only [Act.put, List.getElem_toArray, List.getElem_cons_succ, List.getElem_cons_zero, List.setIfInBounds_toArray, List.set_cons_zero, List.set_cons_succ]
        refine wpAnyH_take (i := 9) (v := undef) rfl (by kernel_rfl) (by kernel_rfl) (by kernel_rfl) (fun _ _ _ h => h) (Or.inr ⟨by rfl, rfl⟩) (by assumption) ?_
        simp only [Act.put, List.getElem_toArray, List.getElem_cons_succ, List.getElem_cons_zero, List.setIfInBounds_toArray, List.set_cons_zero, List.set_cons_succ]
        refine wpAnyH_take (i := 10) (v := undef) rfl (by kernel_rfl) (by kernel_rfl) (by kernel_rfl) (fun _ _ _ h => h) (Or.inr ⟨by rfl, rfl⟩) (by assumption) ?_
        simp only [Act.put, List.getElem_toArray, List.getElem_cons_succ, List.getElem_cons_zero, List.setIfInBounds_toArray, List.set_cons_zero, List.set_cons_succ]
        refine wpAnyH_take (i := 11) (v := undef) rfl (by kernel_rfl) (by kernel_rfl) (by kernel_rfl) (fun _ _ _ h => h) (Or.inr ⟨by rfl, rfl⟩) (by assumption) ?_
        simp only [Act.put, List.getElem_toArray, List.getElem_cons_succ, List.getElem_cons_zero, List.setIfInBounds_toArray, List.set_cons_zero, List.set_cons_succ]
        refine wpAnyH_take (i := 12) (v := undef) rfl (by kernel_rfl) (by kernel_rfl) (by kernel_rfl) (fun _ _ _ h => h) (Or.inr ⟨by rfl, rfl⟩) (by assumption) ?_
        simp only [Act.put, List.getElem_toArray, List.getElem_cons_succ, List.getElem_cons_zero, List.setIfInBounds_toArray, List.set_cons_zero, List.set_cons_succ]
        refine wpAnyH_take (i := 13) (v := (.bool false)) rfl (by kernel_rfl) (by kernel_rfl) (by kernel_rfl) (fun _ _ _ h => h) (Or.inl ⟨by rfl, fun wx hSw => by ((try dsimp only at hSw); go_simp)⟩) (by assumption) ?_
        simp only [Act.put, List.getElem_toArray, List.getElem_cons_succ, List.getElem_cons_zero, List.setIfInBounds_toArray, List.set_cons_zero, List.set_cons_succ]
        refine wpAnyH_take (i := 14) (v := (.int .i64 i)) rfl (by kernel_rfl) (by kernel_rfl) (by kernel_rfl) (fun _ _ _ h => h) (Or.inl ⟨by rfl, fun wx hSw => by kernel_rfl⟩) (by assumption) ?_
        simp only [Act.put, List.getElem_toArray, List.getElem_cons_succ, List.getElem_cons_zero, List.setIfInBounds_toArray, List.set_cons_zero, List.set_cons_succ]
        refine wpAnyH_take (i := 15) (v := (.bool false)) rfl (by kernel_rfl) (by kernel_rfl) (by kernel_rfl) (fun _ _ _ h => h) (Or.inl ⟨by rfl, fun wx hSw => by ((try dsimp only at hSw); go_simp)⟩) (by assumption) ?_
        simp only [Act.put, List.getElem_toArray, List.getElem_cons_succ, List.getElem_cons_zero, List.setIfInBounds_toArray, List.set_cons_zero, List.set_cons_succ]
        have HB2 : Hid (Below w.heap.size w V1) := hHeld.2
        refine wpAnyH_done (by kernel_rfl) ?_ _
        clear hHeld
        go_wp2
        go_ret2
        exact ⟨⟨i, false, rfl, HF.out⟩, HB2.out⟩
end Go.Proofs.YtanndhoimpnhpaaGreatDoor
