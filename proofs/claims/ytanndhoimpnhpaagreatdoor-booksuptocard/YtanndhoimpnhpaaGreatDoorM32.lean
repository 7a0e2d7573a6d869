/- Joined by program: BsM, Ba. -/
import Derived.Test.YtanndhoimpnhpaaGreatDoorM31
import Derived.Test.YtanndhoimpnhpaaGreatDoorM1
import Derived.Test.YtanndhoimpnhpaaGreatDoorM2
/- The statements' settle: what waited is as it was, and is written over. -/
namespace Go.Proofs.YtanndhoimpnhpaaGreatDoor
open Go.ChangeShapes Go.WideShapes Go.ChangeAt Go.RowKit Go.WideMaps Go.Maps Cal

set_option maxRecDepth 10000 in
set_option maxHeartbeats 8000000 in
theorem settle_any (w : World) (W : Nat) (B : Bv) (p0 d0 p1 d1 : Value) (c : Nat) (Q : Nat → Prop) (hA : At w W (wlb B p0 d0 p1 d1)) (hB : Bok w B c Q) (hc : c ≤ 200000000) (hq : ∀ b, Q b → b < w.heap.size) (hqw : ¬ Q W) :
    Calls Tryz.prog 26 #[.pointer (some ⟨W, 0, none⟩)] w (SettPost w W p0 d0 p1 d1 c Q) := by
  obtain ⟨τ, L1, W1, R1, L2, W2, R2, h1, h2, ht, hn1, hn2⟩ := hB
  obtain ⟨l1, l2, v1, u1, v2, u2⟩ := B
  simp only at h1 h2
  have hWl : W < w.heap.size := At.lt (v := l1) hA
  have htw : τ W = 0 := by
    rcases Nat.eq_zero_or_pos (τ W) with e | e
    · exact e
    · exact absurd (ht W (by omega)) hqw
  have HS0 : Hid (SetS w W v1 u1 v2 u2 [p0, d0, p1, d1] W1 R1 W2 R2 c Q 0 0 w l1 l2 τ L1 L2) := ⟨hA, h1, h2, fun b hb => .inl (ht b hb), htw, Keep.refl _ _, by omega, by omega⟩
  have HQ : Hid (∀ b, Q b → b < w.heap.size) := hq
  obtain ⟨pw1, cw1, e1⟩ := own_slice h1.ow
  obtain ⟨pr1, cr1, e2⟩ := own_slice h1.or
  obtain ⟨pw2, cw2, e3⟩ := own_slice h2.ow
  obtain ⟨pr2, cr2, e4⟩ := own_slice h2.or
  subst e1 e2 e3 e4
  have HX : Hid (At w W (wlb ⟨l1, l2, .slice pw1 W1.length cw1, .slice pr1 W1.length cr1, .slice pw2 W2.length cw2, .slice pr2 W2.length cr2⟩ p0 d0 p1 d1)) := hA
  have HOw1 : Hid (w.ownsRow 0 38 1 (.slice pw1 W1.length cw1) W1.length W1) := h1.ow
  have HOr1 : Hid (w.ownsRow 0 38 1 (.slice pr1 W1.length cr1) W1.length R1) := h1.or
  have HOw2 : Hid (w.ownsRow 0 54 1 (.slice pw2 W2.length cw2) W2.length W2) := h2.ow
  have HOr2 : Hid (w.ownsRow 0 54 1 (.slice pr2 W2.length cr2) W2.length R2) := h2.or
  have HRl1 : Hid (R1.length = W1.length) := h1.rl
  have HRl2 : Hid (R2.length = W2.length) := h2.rl
  have HWs1 : Hid (∀ k v r, 0 ≤ k → W1[k]? = some v → R1[k]? = some r → ∃ n xs, okI n xs ∧ OwT w 1 v n xs ∧ OwT w 1 r n xs ∧ (∀ b, v.ownBlock = some b → τ b = 100 + 2 * k + 0) ∧ (∀ b, r.ownBlock = some b → τ b = 18 + 0)) := h1.ws
  have HWs2 : Hid (∀ k v r, 0 ≤ k → W2[k]? = some v → R2[k]? = some r → ∃ n xs, okE n xs ∧ OwT w 3 v n xs ∧ OwT w 3 r n xs ∧ (∀ b, v.ownBlock = some b → τ b = 100 + 2 * k + 1) ∧ (∀ b, r.ownBlock = some b → τ b = 18 + 1)) := h2.ws
  have HCx : Hid (∀ wx, Below w.heap.size w wx → wx.cell? ⟨W, 2, none⟩ = some (.slice pw1 W1.length cw1) ∧ wx.cell? ⟨W, 4, none⟩ = some (.slice pw2 W2.length cw2)) := fun wx hx =>
    ⟨(World.cell?_of_block (w := w) (a := ⟨W, 2, none⟩) (hx.block W hWl)).trans (hA.cell 2 rfl), (World.cell?_of_block (w := w) (a := ⟨W, 4, none⟩) (hx.block W hWl)).trans (hA.cell 4 rfl)⟩
  clear hA h1 h2 ht htw hq hqw
  go_enter Tryz.func26, Tryz.ntmps26
  go_wp2
  go_loopw [3, 4, 5] (fun s3 s4 _ wr => ∃ i : Nat, i ≤ W1.length ∧ s3 = .bool true ∧ s4 = .int .i64 i ∧ Below w.heap.size w wr) (fun _ s4 _ _ => (W1.length - intOf s4).toNat)
  case atStart => exact ⟨0, Nat.zero_le _, rfl, rfl, Below.refl _ _⟩
  case round =>
    obtain ⟨i, hi, rfl, rfl, hb⟩ := hrel
    have HB : Hid (Below w.heap.size w wr) := hb
    clear hb
    by_cases hlt : i < W1.length
    · have zi : (i : Int) < (W1.length : Int) := by omega
      obtain ⟨gw, capx, ew, hcw, hgw, hcellw⟩ := row_elem HOw1.out i hlt
      injection ew with ew1 _ ew3
      subst ew1 ew3
      obtain ⟨gr, capy, er, hcr, hgr, hcellr⟩ := row_elem (Ls := R1) (by have := HOr1.out; rwa [← HRl1.out] at this) i (by rw [HRl1.out]; exact hlt)
      rw [HRl1.out] at er hcr
      injection er with er1 _ er3
      subst er1 er3
      obtain ⟨n, xs, hok, hov, hor, _, _⟩ := HWs1.out i W1[i] (R1[i]'(by rw [HRl1.out]; exact hlt)) (Nat.zero_le _) (List.getElem?_eq_getElem hlt) (List.getElem?_eq_getElem _)
      obtain ⟨hnl, zs, hzl, rfl⟩ := hok
      subst hzl
      obtain ⟨pv, pc, ev⟩ := hov.slice
      obtain ⟨pu, pd, eu⟩ := hor.slice
      have HSame : Hid (∀ wx, Below w.heap.size w wx → Calls Tryz.prog 62 #[.slice pv zs.length pc, .slice pu zs.length pd] wx fun e w' => e = .returned (.bool true) ∧ Below wx.heap.size wx w') := fun wx hx => by
        have h1 : IsV w W1[i] zs := hov.isv
        have h2 : IsV w (R1[i]'(by rw [HRl1.out]; exact hlt)) zs := hor.isv
        rw [ev] at h1
        rw [eu] at h2
        exact lawInts_true wx _ _ zs (h1.below hx) (h2.below hx) hnl
      rw [ev] at hcellw
      rw [eu] at hcellr
      have HCW : Hid (∀ wx, Below w.heap.size w wx → wx.cell? ⟨W, 2, none⟩ = some (.slice (some ⟨gw, 0, none⟩) W1.length cw1) ∧ wx.cell? ⟨W, 3, none⟩ = some (.slice (some ⟨gr, 0, none⟩) W1.length cr1) ∧ wx.cell? ⟨gw, i, none⟩ = some (.slice pv zs.length pc) ∧ wx.cell? ⟨gr, i, none⟩ = some (.slice pu zs.length pd)) := fun wx hx =>
        ⟨(World.cell?_of_block (w := w) (a := ⟨W, 2, none⟩) (hx.block W hWl)).trans (HX.out.cell 2 rfl), (World.cell?_of_block (w := w) (a := ⟨W, 3, none⟩) (hx.block W hWl)).trans (HX.out.cell 3 rfl), (World.cell?_of_block (w := w) (a := ⟨gw, i, none⟩) (hx.block gw hgw)).trans hcellw, (World.cell?_of_block (w := w) (a := ⟨gr, i, none⟩) (hx.block gr hgr)).trans hcellr⟩
      have hcx : wr.cell? ⟨W, 2, none⟩ = some (.slice (some ⟨gw, 0, none⟩) W1.length cw1) := (HCW.out wr HB.out).1
      clear hov hor ev eu hcellw hcellr
      go_upto_region 5 with fail
      clear hcx
      refine wp_region_held_drew (S := fun wx => Below w.heap.size w wx) (by kernel_rfl) HB.out.drew (fun hHeld => ?_)
      clear HB
      generalize wr.drew = V1 at *
      refine wpAnyH_take (i := 0) (v := (.pointer (some ⟨W, 0, none⟩))) rfl (by kernel_rfl) (by kernel_rfl) (by kernel_rfl) (fun _ _ _ h => h) (Or.inl ⟨by rfl, fun wx hSw => by kernel_rfl⟩) (by assumption) ?_
      simp only [Act.put, List.getElem_toArray, List.getElem_cons_zero, List.setIfInBounds_toArray, List.set_cons_zero, List.set_cons_succ]
      refine wpAnyH_take (i := 1) (v := (.pointer (some ⟨W, 0, none⟩))) rfl (by kernel_rfl) (by kernel_rfl) (by kernel_rfl) (fun _ _ _ h => h) (Or.inl ⟨by rfl, fun wx hSw => by ((try dsimp only at hSw); go_simp)⟩) (by assumption) ?_
      simp only [Act.put, List.getElem_toArray, List.getElem_cons_succ, List.getElem_cons_zero, List.setIfInBounds_toArray, List.set_cons_zero, List.set_cons_succ]
      refine wpAnyH_take (i := 2) (v := (.pointer (some ⟨W, 2, none⟩))) rfl (by kernel_rfl) (by kernel_rfl) (by kernel_rfl) (fun _ _ _ h => h) (Or.inl ⟨by rfl, fun wx hSw => by ((try dsimp only at hSw); go_simp)⟩) (by assumption) ?_
      simp only [Act.put, List.getElem_toArray, List.getElem_cons_succ, List.getElem_cons_zero, List.setIfInBounds_toArray, List.set_cons_zero, List.set_cons_succ]
      refine wpAnyH_take (i := 3) (v := (.slice (some ⟨gw, 0, none⟩) W1.length cw1)) rfl (by kernel_rfl) (by kernel_rfl) (by kernel_rfl) (fun _ _ _ h => h) (Or.inl ⟨by rfl, fun wx hSw => by (have hc := (HCW.out wx hSw).1; go_simp)⟩) (by assumption) ?_
      simp only [Act.put, List.getElem_toArray, List.getElem_cons_succ, List.getElem_cons_zero, List.setIfInBounds_toArray, List.set_cons_zero, List.set_cons_succ]
      refine wpAnyH_take (i := 4) (v := (.int .i64 i)) rfl (by kernel_rfl) (by kernel_rfl) (by kernel_rfl) (fun _ _ _ h => h) (Or.inl ⟨by rfl, fun wx hSw => by kernel_rfl⟩) (by assumption) ?_
      simp only [Act.put, List.getElem_toArray, List.getElem_cons_succ, List.getElem_cons_zero, List.setIfInBounds_toArray, List.set_cons_zero, List.set_cons_succ]
      refine wpAnyH_take (i := 5) (v := (.pointer (some ⟨gw, i, none⟩))) rfl (by kernel_rfl) (by kernel_rfl) (by kernel_rfl) (fun _ _ _ h => h) (Or.inl ⟨by rfl, fun wx hSw => by ((try dsimp only at hSw); go_simp)⟩) (by assumption) ?_
      simp only [Act.put, List.getElem_toArray, List.getElem_cons_succ, List.getElem_cons_zero, List.setIfInBounds_toArray, List.set_cons_zero, List.set_cons_succ]
      refine wpAnyH_take (i := 6) (v := (.slice pv zs.length pc)) rfl (by kernel_rfl) (by kernel_rfl) (by kernel_rfl) (fun _ _ _ h => h) (Or.inl ⟨by rfl, fun wx hSw => by (have hc := (HCW.out wx hSw).2.2.1; go_simp)⟩) (by assumption) ?_
      simp only [Act.put, List.getElem_toArray, List.getElem_cons_succ, List.getElem_cons_zero, List.setIfInBounds_toArray, List.set_cons_zero, List.set_cons_succ]
      refine wpAnyH_take (i := 7) (v := (.pointer (some ⟨W, 0, none⟩))) rfl (by kernel_rfl) (by kernel_rfl) (by kernel_rfl) (fun _ _ _ h => h) (Or.inl ⟨by rfl, fun wx hSw => by kernel_rfl⟩) (by assumption) ?_
      simp only [Act.put, List.getElem_toArray, List.getElem_cons_succ, List.getElem_cons_zero, List.setIfInBounds_toArray, List.set_cons_zero, List.set_cons_succ]
      refine wpAnyH_take (i := 8) (v := (.pointer (some ⟨W, 0, none⟩))) rfl (by kernel_rfl) (by kernel_rfl) (by kernel_rfl) (fun _ _ _ h => h) (Or.inl ⟨by rfl, fun wx hSw => by ((try dsimp only at hSw); go_simp)⟩) (by assumption) ?_
      simp only [Act.put, List.getElem_toArray, List.getElem_cons_succ, List.getElem_cons_zero, List.setIfInBounds_toArray, List.set_cons_zero, List.set_cons_succ]
      refine wpAnyH_take (i := 9) (v := (.pointer (some ⟨W, 3, none⟩))) rfl (by kernel_rfl) (by kernel_rfl) (by kernel_rfl) (fun _ _ _ h => h) (Or.inl ⟨by rfl, fun wx hSw => by ((try dsimp only at hSw); go_simp)⟩) (by assumption) ?_
      simp only [Act.put, List.getElem_toArray, List.getElem_cons_succ, List.getElem_cons_zero, List.setIfInBounds_toArray, List.set_cons_zero, List.set_cons_succ]
      refine wpAnyH_take (i := 10) (v := (.slice (some ⟨gr, 0, none⟩) W1.length cr1)) rfl (by kernel_rfl) (by kernel_rfl) (by kernel_rfl) (fun _ _ _ h => h) (Or.inl ⟨by rfl, fun wx hSw => by (have hc := (HCW.out wx hSw).2.1; go_simp)⟩) (by assumption) ?_
      simp only [Act.put, List.getElem_toArray, List.getElem_cons_succ, List.getElem_cons_zero, List.setIfInBounds_toArray, List.set_cons_zero, List.set_cons_succ]
      refine wpAnyH_take (i := 11) (v := (.int .i64 i)) rfl (by kernel_rfl) (by kernel_rfl) (by kernel_rfl) (fun _ _ _ h => h) (Or.inl ⟨by rfl, fun wx hSw => by kernel_rfl⟩) (by assumption) ?_
      simp only [Act.put, List.getElem_toArray, List.getElem_cons_succ, List.getElem_cons_zero, List.setIfInBounds_toArray, List.set_cons_zero, List.set_cons_succ]
      refine wpAnyH_take (i := 12) (v := (.pointer (some ⟨gr, i, none⟩))) rfl (by kernel_rfl) (by kernel_rfl) (by kernel_rfl) (fun _ _ _ h => h) (Or.inl ⟨by rfl, fun wx hSw => by ((try dsimp only at hSw); go_simp)⟩) (by assumption) ?_
      simp only [Act.put, List.getElem_toArray, List.getElem_cons_succ, List.getElem_cons_zero, List.setIfInBounds_toArray, List.set_cons_zero, List.set_cons_succ]
      refine wpAnyH_take (i := 13) (v := (.slice pu zs.length pd)) rfl (by kernel_rfl) (by kernel_rfl) (by kernel_rfl) (fun _ _ _ h => h) (Or.inl ⟨by rfl, fun wx hSw => by (have hc := (HCW.out wx hSw).2.2.2; go_simp)⟩) (by assumption) ?_
      simp only [Act.put, List.getElem_toArray, List.getElem_cons_succ, List.getElem_cons_zero, List.setIfInBounds_toArray, List.set_cons_zero, List.set_cons_succ]
      have HS1 := HSame.out V1 hHeld
      refine wpAnyH_ready (rs := [14]) (by kernel_rfl) (by simp) ?_
      refine AllReadyH.cons rfl (fun K hK => ?_) AllReadyH.nil
      go_simp
      refine HS1.mono ?_
      rintro x w5 ⟨rfl, hb5⟩
      go_wp2_with fail
      have HB5 : Hid (Below w.heap.size w w5) := hHeld.trans (hb5.mono hHeld.size)
      refine hK.out _ _ HB5.out (fun _ => ?_)
      clear hK K hHeld hb5 HS1 HSame HCW
      try simp only [Act.put, List.getElem_toArray, List.getElem_cons_succ, List.getElem_cons_zero, List.setIfInBounds_toArray, List.set_cons_zero, List.set_cons_succ]
      refine wpAnyH_take (i := 15) (v := (.bool true)) rfl (by kernel_rfl) (by kernel_rfl) (by kernel_rfl) (fun _ _ _ h => h) (Or.inl ⟨by rfl, fun wx hSw => by kernel_rfl⟩) (by assumption) ?_
      simp only [Act.put, List.getElem_toArray, List.getElem_cons_succ, List.getElem_cons_zero, List.setIfInBounds_toArray, List.set_cons_zero, List.set_cons_succ]
      refine wpAnyH_done (by kernel_rfl) ?_ _
      go_wp2
      exact ⟨⟨i + 1, hlt, rfl, rfl, HB5.out⟩, by simp [intOf]; omega⟩
    · obtain rfl : i = W1.length := by omega
      have zi : ¬ (W1.length : Int) < (W1.length : Int) := by omega
      have hcx := (HCx.out wr HB.out).1
      go_wp2
      clear hcx
      go_loopw [3, 6, 7] (fun s3 s6 _ wr => ∃ i : Nat, i ≤ W2.length ∧ s3 = .bool true ∧ s6 = .int .i64 i ∧ Below w.heap.size w wr) (fun _ s6 _ _ => (W2.length - intOf s6).toNat)
      case atStart => exact ⟨0, Nat.zero_le _, rfl, rfl, HB.out⟩
      case round =>
        rename_i wr0 _ _ _ _
        obtain ⟨i, hi2, rfl, rfl, hb⟩ := hrel
        clear HB
        have HB : Hid (Below w.heap.size w wr) := hb
        clear hb
        by_cases hlt : i < W2.length
        · have zi2 : (i : Int) < (W2.length : Int) := by omega
          obtain ⟨gw, capx, ew, hcw, hgw, hcellw⟩ := row_elem HOw2.out i hlt
          injection ew with ew1 _ ew3
          subst ew1 ew3
          obtain ⟨gr, capy, er, hcr, hgr, hcellr⟩ := row_elem (Ls := R2) (by have := HOr2.out; rwa [← HRl2.out] at this) i (by rw [HRl2.out]; exact hlt)
          rw [HRl2.out] at er hcr
          injection er with er1 _ er3
          subst er1 er3
          obtain ⟨n, xs, hok, hov, hor, _, _⟩ := HWs2.out i W2[i] (R2[i]'(by rw [HRl2.out]; exact hlt)) (Nat.zero_le _) (List.getElem?_eq_getElem hlt) (List.getElem?_eq_getElem _)
          obtain ⟨hnl, zs, hzl, rfl⟩ := hok
          subst hzl
          obtain ⟨pv, pc, ev⟩ := hov.slice
          obtain ⟨pu, pd, eu⟩ := hor.slice
          have HSame : Hid (∀ wx, Below w.heap.size w wx → Calls Tryz.prog 63 #[.slice pv zs.length pc, .slice pu zs.length pd] wx fun e w' => e = .returned (.bool true) ∧ Below wx.heap.size wx w') := fun wx hx => by
            have h1 : EnV w W2[i] zs := hov.env
            have h2 : EnV w (R2[i]'(by rw [HRl2.out]; exact hlt)) zs := hor.env
            rw [ev] at h1
            rw [eu] at h2
            exact lawEntries_true wx _ _ zs (h1.below hx) (h2.below hx) hnl
          rw [ev] at hcellw
          rw [eu] at hcellr
          have HCW : Hid (∀ wx, Below w.heap.size w wx → wx.cell? ⟨W, 4, none⟩ = some (.slice (some ⟨gw, 0, none⟩) W2.length cw2) ∧ wx.cell? ⟨W, 5, none⟩ = some (.slice (some ⟨gr, 0, none⟩) W2.length cr2) ∧ wx.cell? ⟨gw, i, none⟩ = some (.slice pv zs.length pc) ∧ wx.cell? ⟨gr, i, none⟩ = some (.slice pu zs.length pd)) := fun wx hx =>
            ⟨(World.cell?_of_block (w := w) (a := ⟨W, 4, none⟩) (hx.block W hWl)).trans (HX.out.cell 4 rfl), (World.cell?_of_block (w := w) (a := ⟨W, 5, none⟩) (hx.block W hWl)).trans (HX.out.cell 5 rfl), (World.cell?_of_block (w := w) (a := ⟨gw, i, none⟩) (hx.block gw hgw)).trans hcellw, (World.cell?_of_block (w := w) (a := ⟨gr, i, none⟩) (hx.block gr hgr)).trans hcellr⟩
          have hcx : wr.cell? ⟨W, 4, none⟩ = some (.slice (some ⟨gw, 0, none⟩) W2.length cw2) := (HCW.out wr HB.out).1
          clear hov hor ev eu hcellw hcellr
          go_upto_region 10 with fail
          clear hcx
          refine wp_region_held_drew (S := fun wx => Below w.heap.size w wx) (by kernel_rfl) HB.out.drew (fun hHeld => ?_)
          clear HB
          generalize wr.drew = V1 at *
          refine wpAnyH_take (i := 0) (v := (.pointer (some ⟨W, 0, none⟩))) rfl (by kernel_rfl) (by kernel_rfl) (by kernel_rfl) (fun _ _ _ h => h) (Or.inl ⟨by rfl, fun wx hSw => by kernel_rfl⟩) (by assumption) ?_
          simp only [Act.put, List.getElem_toArray, List.getElem_cons_zero, List.setIfInBounds_toArray, List.set_cons_zero, List.set_cons_succ]
          refine wpAnyH_take (i := 1) (v := (.pointer (some ⟨W, 0, none⟩))) rfl (by kernel_rfl) (by kernel_rfl) (by kernel_rfl) (fun _ _ _ h => h) (Or.inl ⟨by rfl, fun wx hSw => by ((try dsimp only at hSw); go_simp)⟩) (by assumption) ?_
          simp only [Act.put, List.getElem_toArray, List.getElem_cons_succ, List.getElem_cons_zero, List.setIfInBounds_toArray, List.set_cons_zero, List.set_cons_succ]
          refine wpAnyH_take (i := 2) (v := (.pointer (some ⟨W, 4, none⟩))) rfl (by kernel_rfl) (by kernel_rfl) (by kernel_rfl) (fun _ _ _ h => h) (Or.inl ⟨by rfl, fun wx hSw => by ((try dsimp only at hSw); go_simp)⟩) (by assumption) ?_
          simp only [Act.put, List.getElem_toArray, List.getElem_cons_succ, List.getElem_cons_zero, List.setIfInBounds_toArray, List.set_cons_zero, List.set_cons_succ]
          refine wpAnyH_take (i := 3) (v := (.slice (some ⟨gw, 0, none⟩) W2.length cw2)) rfl (by kernel_rfl) (by kernel_rfl) (by kernel_rfl) (fun _ _ _ h => h) (Or.inl ⟨by rfl, fun wx hSw => by (have hc := (HCW.out wx hSw).1; go_simp)⟩) (by assumption) ?_
          simp only [Act.put, List.getElem_toArray, List.getElem_cons_succ, List.getElem_cons_zero, List.setIfInBounds_toArray, List.set_cons_zero, List.set_cons_succ]
          refine wpAnyH_take (i := 4) (v := (.int .i64 i)) rfl (by kernel_rfl) (by kernel_rfl) (by kernel_rfl) (fun _ _ _ h => h) (Or.inl ⟨by rfl, fun wx hSw => by kernel_rfl⟩) (by assumption) ?_
          simp only [Act.put, List.getElem_toArray, List.getElem_cons_succ, List.getElem_cons_zero, List.setIfInBounds_toArray, List.set_cons_zero, List.set_cons_succ]
          refine wpAnyH_take (i := 5) (v := (.pointer (some ⟨gw, i, none⟩))) rfl (by kernel_rfl) (by kernel_rfl) (by kernel_rfl) (fun _ _ _ h => h) (Or.inl ⟨by rfl, fun wx hSw => by ((try dsimp only at hSw); go_simp)⟩) (by assumption) ?_
          simp only [Act.put, List.getElem_toArray, List.getElem_cons_succ, List.getElem_cons_zero, List.setIfInBounds_toArray, List.set_cons_zero, List.set_cons_succ]
          refine wpAnyH_take (i := 6) (v := (.slice pv zs.length pc)) rfl (by kernel_rfl) (by kernel_rfl) (by kernel_rfl) (fun _ _ _ h => h) (Or.inl ⟨by rfl, fun wx hSw => by (have hc := (HCW.out wx hSw).2.2.1; go_simp)⟩) (by assumption) ?_
          simp only [Act.put, List.getElem_toArray, List.getElem_cons_succ, List.getElem_cons_zero, List.setIfInBounds_toArray, List.set_cons_zero, List.set_cons_succ]
          refine wpAnyH_take (i := 7) (v := (.pointer (some ⟨W, 0, none⟩))) rfl (by kernel_rfl) (by kernel_rfl) (by kernel_rfl) (fun _ _ _ h => h) (Or.inl ⟨by rfl, fun wx hSw => by kernel_rfl⟩) (by assumption) ?_
          simp only [Act.put, List.getElem_toArray, List.getElem_cons_succ, List.getElem_cons_zero, List.setIfInBounds_toArray, List.set_cons_zero, List.set_cons_succ]
          refine wpAnyH_take (i := 8) (v := (.pointer (some ⟨W, 0, none⟩))) rfl (by kernel_rfl) (by kernel_rfl) (by kernel_rfl) (fun _ _ _ h => h) (Or.inl ⟨by rfl, fun wx hSw => by ((try dsimp only at hSw); go_simp)⟩) (by assumption) ?_
          simp only [Act.put, List.getElem_toArray, List.getElem_cons_succ, List.getElem_cons_zero, List.setIfInBounds_toArray, List.set_cons_zero, List.set_cons_succ]
          refine wpAnyH_take (i := 9) (v := (.pointer (some ⟨W, 5, none⟩))) rfl (by kernel_rfl) (by kernel_rfl) (by kernel_rfl) (fun _ _ _ h => h) (Or.inl ⟨by rfl, fun wx hSw => by ((try dsimp only at hSw); go_simp)⟩) (by assumption) ?_
          simp only [Act.put, List.getElem_toArray, List.getElem_cons_succ, List.getElem_cons_zero, List.setIfInBounds_toArray, List.set_cons_zero, List.set_cons_succ]
          refine wpAnyH_take (i := 10) (v := (.slice (some ⟨gr, 0, none⟩) W2.length cr2)) rfl (by kernel_rfl) (by kernel_rfl) (by kernel_rfl) (fun _ _ _ h => h) (Or.inl ⟨by rfl, fun wx hSw => by (have hc := (HCW.out wx hSw).2.1; go_simp)⟩) (by assumption) ?_
          simp only [Act.put, List.getElem_toArray, List.getElem_cons_succ, List.getElem_cons_zero, List.setIfInBounds_toArray, List.set_cons_zero, List.set_cons_succ]
          refine wpAnyH_take (i := 11) (v := (.int .i64 i)) rfl (by kernel_rfl) (by kernel_rfl) (by kernel_rfl) (fun _ _ _ h => h) (Or.inl ⟨by rfl, fun wx hSw => by kernel_rfl⟩) (by assumption) ?_
          simp only [Act.put, List.getElem_toArray, List.getElem_cons_succ, List.getElem_cons_zero, List.setIfInBounds_toArray, List.set_cons_zero, List.set_cons_succ]
          refine wpAnyH_take (i := 12) (v := (.pointer (some ⟨gr, i, none⟩))) rfl (by kernel_rfl) (by kernel_rfl) (by kernel_rfl) (fun _ _ _ h => h) (Or.inl ⟨by rfl, fun wx hSw => by ((try dsimp only at hSw); go_simp)⟩) (by assumption) ?_
          simp only [Act.put, List.getElem_toArray, List.getElem_cons_succ, List.getElem_cons_zero, List.setIfInBounds_toArray, List.set_cons_zero, List.set_cons_succ]
          refine wpAnyH_take (i := 13) (v := (.slice pu zs.length pd)) rfl (by kernel_rfl) (by kernel_rfl) (by kernel_rfl) (fun _ _ _ h => h) (Or.inl ⟨by rfl, fun wx hSw => by (have hc := (HCW.out wx hSw).2.2.2; go_simp)⟩) (by assumption) ?_
          simp only [Act.put, List.getElem_toArray, List.getElem_cons_succ, List.getElem_cons_zero, List.setIfInBounds_toArray, List.set_cons_zero, List.set_cons_succ]
          have HS1 := HSame.out V1 hHeld
          refine wpAnyH_ready (rs := [14]) (by kernel_rfl) (by simp) ?_
          refine AllReadyH.cons rfl (fun K hK => ?_) AllReadyH.nil
          go_simp
          refine HS1.mono ?_
          rintro x w5 ⟨rfl, hb5⟩
          go_wp2_with fail
          have HB5 : Hid (Below w.heap.size w w5) := hHeld.trans (hb5.mono hHeld.size)
          refine hK.out _ _ HB5.out (fun _ => ?_)
          clear hK K hHeld hb5 HS1 HSame HCW
          try simp only [Act.put, List.getElem_toArray, List.getElem_cons_succ, List.getElem_cons_zero, List.setIfInBounds_toArray, List.set_cons_zero, List.set_cons_succ]
          refine wpAnyH_take (i := 15) (v := (.bool true)) rfl (by kernel_rfl) (by kernel_rfl) (by kernel_rfl) (fun _ _ _ h => h) (Or.inl ⟨by rfl, fun wx hSw => by kernel_rfl⟩) (by assumption) ?_
          simp only [Act.put, List.getElem_toArray, List.getElem_cons_succ, List.getElem_cons_zero, List.setIfInBounds_toArray, List.set_cons_zero, List.set_cons_succ]
          refine wpAnyH_done (by kernel_rfl) ?_ _
          go_wp2
          exact ⟨⟨i + 1, hlt, rfl, rfl, HB5.out⟩, by simp [intOf]; omega⟩
        · obtain rfl : i = W2.length := by omega
          have zi2 : ¬ (W2.length : Int) < (W2.length : Int) := by omega
          have hcx := (HCx.out wr HB.out).2
          have HS1 : Hid (SetS w W (.slice pw1 W1.length cw1) (.slice pr1 W1.length cr1) (.slice pw2 W2.length cw2) (.slice pr2 W2.length cr2) [p0, d0, p1, d1] W1 R1 W2 R2 c Q 0 0 wr l1 l2 τ L1 L2) := HS0.out.below HB.out
          clear HB HS0 HCx HWs1 HWs2 HRl1 HRl2 HOw1 HOw2 HOr1 HOr2 HX
          go_wp2
          clear hcx
          go_loopw [8] (fun s8 wr => ∃ (i : Nat) (lv1 : Value) (τ : Nat → Nat) (L1 : List Value), i ≤ W1.length ∧ s8 = .int .i64 i ∧ SetS w W (.slice pw1 W1.length cw1) (.slice pr1 W1.length cr1) (.slice pw2 W2.length cw2) (.slice pr2 W2.length cr2) [p0, d0, p1, d1] W1 R1 W2 R2 c Q i 0 wr lv1 l2 τ L1 L2) (fun s8 _ => (W1.length - intOf s8).toNat)
          case atStart => exact ⟨0, l1, τ, L1, Nat.zero_le _, rfl, HS1.out⟩
          case round =>
            rename_i wr1 _ _ _ _
            obtain ⟨i, lv1, τ1, M1, hi3, rfl, hS⟩ := hrel
            clear HS1
            have HS : Hid (SetS w W (.slice pw1 W1.length cw1) (.slice pr1 W1.length cr1) (.slice pw2 W2.length cw2) (.slice pr2 W2.length cr2) [p0, d0, p1, d1] W1 R1 W2 R2 c Q i 0 wr lv1 l2 τ1 M1 L2) := hS
            clear hS
            by_cases hlt : i < W1.length
            · have zi3 : (i : Int) < (W1.length : Int) := by omega
              obtain ⟨gw, capx, ew, hcw, hgw, hcellw⟩ := row_elem HS.out.s1.ow i hlt
              injection ew with ew1 _ ew3
              subst ew1 ew3
              obtain ⟨n, xs, hok, hov, htg⟩ := HS.out.get1 hlt
              obtain ⟨pv, pc, ev⟩ := hov.slice
              have hI := ints_core wr W _ lv1 W1[i] M1 n xs HS.out.wa HS.out.s1.ol hov (by have := HS.out.n1; omega) hok.1 (fun b hb e => by have := HS.out.s1.tl b hb; have := HS.out.tw; subst e; omega) (fun b hb => ⟨fun e => by have := htg b hb; have := HS.out.tw; subst e; omega, fun e => by have := htg b hb; have := HS.out.s1.tl b e; omega⟩)
              have HN : Hid (∀ w', (∃ lv' x y z, At w' W (lv' :: l2 :: .slice (some ⟨gw, 0, none⟩) W1.length cw1 :: .slice pr1 W1.length cr1 :: .slice pw2 W2.length cw2 :: .slice pr2 W2.length cr2 :: [p0, d0, p1, d1]) ∧ MarkTo wr 38 1 W (mkI (M1.length / 4)) lv1 M1 W1[i] lv' x y z w') → ∃ lv1 τ L1, SetS w W (.slice (some ⟨gw, 0, none⟩) W1.length cw1) (.slice pr1 W1.length cr1) (.slice pw2 W2.length cw2) (.slice pr2 W2.length cr2) [p0, d0, p1, d1] W1 R1 W2 R2 c Q (i + 1) 0 w' lv1 l2 τ L1 L2) := fun w' ⟨lv', x, y, z, hA', hM⟩ => by
                obtain ⟨τ', hT⟩ := HS.out.mark1 HQ.out hlt hA' hM
                exact ⟨lv', τ', _, hT⟩
              have hcx : wr.cell? ⟨W, 2, none⟩ = some (.slice (some ⟨gw, 0, none⟩) W1.length cw1) := HS.out.wa.cell 2 rfl
              clear hov hok htg HS
              rw [ev] at hcellw hI HN
              clear ev
              go_wp2_with fail
              refine hI.mono ?_
              rintro x w5 ⟨rfl, h5⟩
              obtain ⟨lvx, τ2, M2, hS2⟩ := HN.out w5 h5
              have HS2 : Hid (SetS w W (.slice (some ⟨gw, 0, none⟩) W1.length cw1) (.slice pr1 W1.length cr1) (.slice pw2 W2.length cw2) (.slice pr2 W2.length cr2) [p0, d0, p1, d1] W1 R1 W2 R2 c Q (i + 1) 0 w5 lvx l2 τ2 M2 L2) := hS2
              clear hI h5 HN hS2 hcx hcellw
              go_wp2
              exact ⟨⟨i + 1, lvx, τ2, M2, hlt, rfl, HS2.out⟩, by simp [intOf]; omega⟩
            · obtain rfl : i = W1.length := by omega
              have zi3 : ¬ (W1.length : Int) < (W1.length : Int) := by omega
              have hcx : wr.cell? ⟨W, 2, none⟩ = some (.slice pw1 W1.length cw1) := HS.out.wa.cell 2 rfl
              go_wp2
              clear hcx
              go_loopw [9] (fun s9 wr => ∃ (i : Nat) (lv2 : Value) (τ : Nat → Nat) (L2 : List Value), i ≤ W2.length ∧ s9 = .int .i64 i ∧ SetS w W (.slice pw1 W1.length cw1) (.slice pr1 W1.length cr1) (.slice pw2 W2.length cw2) (.slice pr2 W2.length cr2) [p0, d0, p1, d1] W1 R1 W2 R2 c Q W1.length i wr lv1 lv2 τ M1 L2) (fun s9 _ => (W2.length - intOf s9).toNat)
              case atStart => exact ⟨0, l2, τ1, L2, Nat.zero_le _, rfl, HS.out⟩
              case round =>
                rename_i wr2 _ _ _ _
                obtain ⟨i, lv2, τ3, M2, hi4, rfl, hS⟩ := hrel
                clear HS
                have HS : Hid (SetS w W (.slice pw1 W1.length cw1) (.slice pr1 W1.length cr1) (.slice pw2 W2.length cw2) (.slice pr2 W2.length cr2) [p0, d0, p1, d1] W1 R1 W2 R2 c Q W1.length i wr lv1 lv2 τ3 M1 M2) := hS
                clear hS
                by_cases hlt : i < W2.length
                · have zi4 : (i : Int) < (W2.length : Int) := by omega
                  obtain ⟨gw, capx, ew, hcw, hgw, hcellw⟩ := row_elem HS.out.s2.ow i hlt
                  injection ew with ew1 _ ew3
                  subst ew1 ew3
                  obtain ⟨n, xs, hok, hov, htg⟩ := HS.out.get2 hlt
                  obtain ⟨pv, pc, ev⟩ := hov.slice
                  have hI := entries_core wr W _ lv1 lv2 W2[i] M2 n xs HS.out.wa HS.out.s2.ol hov (by have := HS.out.n2; omega) hok.1 (fun b hb e => by have := HS.out.s2.tl b hb; have := HS.out.tw; subst e; omega) (fun b hb => ⟨fun e => by have := htg b hb; have := HS.out.tw; subst e; omega, fun e => by have := htg b hb; have := HS.out.s2.tl b e; omega⟩)
                  have HN : Hid (∀ w', (∃ lv' x y z, At w' W (lv1 :: lv' :: .slice pw1 W1.length cw1 :: .slice pr1 W1.length cr1 :: .slice (some ⟨gw, 0, none⟩) W2.length cw2 :: .slice pr2 W2.length cr2 :: [p0, d0, p1, d1]) ∧ MarkTo wr 54 3 W (mkE (M2.length / 4)) lv2 M2 W2[i] lv' x y z w') → ∃ lv2 τ L2, SetS w W (.slice pw1 W1.length cw1) (.slice pr1 W1.length cr1) (.slice (some ⟨gw, 0, none⟩) W2.length cw2) (.slice pr2 W2.length cr2) [p0, d0, p1, d1] W1 R1 W2 R2 c Q W1.length (i + 1) w' lv1 lv2 τ M1 L2) := fun w' ⟨lv', x, y, z, hA', hM⟩ => by
                    obtain ⟨τ', hT⟩ := HS.out.mark2 HQ.out hlt hA' hM
                    exact ⟨lv', τ', _, hT⟩
                  have hcx : wr.cell? ⟨W, 4, none⟩ = some (.slice (some ⟨gw, 0, none⟩) W2.length cw2) := HS.out.wa.cell 4 rfl
                  clear hov hok htg HS
                  rw [ev] at hcellw hI HN
                  clear ev
                  go_wp2_with fail
                  refine hI.mono ?_
                  rintro x w5 ⟨rfl, h5⟩
                  obtain ⟨lvx, τ2, M3, hS2⟩ := HN.out w5 h5
                  have HS2 : Hid (SetS w W (.slice pw1 W1.length cw1) (.slice pr1 W1.length cr1) (.slice (some ⟨gw, 0, none⟩) W2.length cw2) (.slice pr2 W2.length cr2) [p0, d0, p1, d1] W1 R1 W2 R2 c Q W1.length (i + 1) w5 lv1 lvx τ2 M1 M3) := hS2
                  clear hI h5 HN hS2 hcx hcellw
                  go_wp2
                  exact ⟨⟨i + 1, lvx, τ2, M3, hlt, rfl, HS2.out⟩, by simp [intOf]; omega⟩
                · obtain rfl : i = W2.length := by omega
                  have zi4 : ¬ (W2.length : Int) < (W2.length : Int) := by omega
                  have hcx : wr.cell? ⟨W, 4, none⟩ = some (.slice pw2 W2.length cw2) := HS.out.wa.cell 4 rfl
                  have k2 : wr.cell? ⟨W, 2, none⟩ = some (.slice pw1 W1.length cw1) := HS.out.wa.cell 2 rfl
                  have k3 : wr.cell? ⟨W, 3, none⟩ = some (.slice pr1 W1.length cr1) := HS.out.wa.cell 3 rfl
                  have k5 : wr.cell? ⟨W, 5, none⟩ = some (.slice pr2 W2.length cr2) := HS.out.wa.cell 5 rfl
                  have z2 : wr.frozen? ⟨W, 2, none⟩ = false := HS.out.wa.free 2 rfl
                  have z3 : wr.frozen? ⟨W, 3, none⟩ = false := HS.out.wa.free 3 rfl
                  have z4 : wr.frozen? ⟨W, 4, none⟩ = false := HS.out.wa.free 4 rfl
                  have z5 : wr.frozen? ⟨W, 5, none⟩ = false := HS.out.wa.free 5 rfl
                  have HE : Hid (SettPost w W p0 d0 p1 d1 c Q (.returned (.bool true)) ((((wr.setCell ⟨W, 2, none⟩ (.slice none 0 0)).setCell ⟨W, 3, none⟩ (.slice none 0 0)).setCell ⟨W, 4, none⟩ (.slice none 0 0)).setCell ⟨W, 5, none⟩ (.slice none 0 0))) := by
                    have hAt : At ((((wr.setCell ⟨W, 2, none⟩ (.slice none 0 0)).setCell ⟨W, 3, none⟩ (.slice none 0 0)).setCell ⟨W, 4, none⟩ (.slice none 0 0)).setCell ⟨W, 5, none⟩ (.slice none 0 0)) W (wlb ⟨lv1, lv2, .slice none 0 0, .slice none 0 0, .slice none 0 0, .slice none 0 0⟩ p0 d0 p1 d1) :=
                      (((HS.out.wa.set 2 (show 2 < 10 by decide) _).set 3 (show 3 < 10 by decide) _).set 4 (show 4 < 10 by decide) _).set 5 (show 5 < 10 by decide) _
                    have hkp : Keep (fun b => b = W) wr ((((wr.setCell ⟨W, 2, none⟩ (.slice none 0 0)).setCell ⟨W, 3, none⟩ (.slice none 0 0)).setCell ⟨W, 4, none⟩ (.slice none 0 0)).setCell ⟨W, 5, none⟩ (.slice none 0 0)) :=
                      ((((Keep.refl _ _).set (S := fun b => b = W) rfl 2 _).set (S := fun b => b = W) rfl 3 _).set (S := fun b => b = W) rfl 4 _).set (S := fun b => b = W) rfl 5 _
                    obtain ⟨h8, h9⟩ := HS.out.done hkp
                    exact ⟨rfl, _, hAt, h8, h9⟩
                  clear HS
                  go_wp2
                  go_ret
                  exact HE.out
end Go.Proofs.YtanndhoimpnhpaaGreatDoor

/- The accounts of a loan's book are what the loan owes. (Plain.) -/
namespace Go.Proofs.YtanndhoimpnhpaaGreatDoor.Ln

/-- What was owed, a day's amounts, and what is owed now: D was lent, Q was paid. -/
structure Tie (g0 : St) (D Q : Int) (y : Dy) : Prop where
  pr : y.g.pr = g0.pr + y.am 1 + y.am 4 - y.am 9
  it : y.g.it = g0.it - y.am 3 - y.am 4 - y.am 8 + y.am 11
  du : y.g.du = g0.du - y.am 2 + y.am 3 - y.am 7
  la : y.g.la = g0.la + y.am 2 - y.am 6
  fi : y.g.fi = g0.fi - y.am 5 + y.am 12
  cr : y.g.cr = g0.cr + y.am 10
  ld : y.am 1 = D
  pd : y.am 5 + y.am 6 + y.am 7 + y.am 8 + y.am 9 + y.am 10 = Q
theorem Tie.begin (g : St) : Tie g 0 0 ⟨g, fun _ => 0⟩ := by
  constructor <;> simp
theorem Tie.lend {g0 : St} {D Q : Int} {y : Dy} (h : Tie g0 D Q y) (a : Int) : Tie g0 (D + a) Q (enter y 1 a) := by
  obtain ⟨h1, h2, h3, h4, h5, h6, h7, h8⟩ := h
  constructor <;> simp [enter, move, upd] <;> omega
theorem Tie.two {g0 : St} {D Q : Int} {y : Dy} (h : Tie g0 D Q y) (a : Int) : Tie g0 D Q (enter y 2 a) := by
  obtain ⟨h1, h2, h3, h4, h5, h6, h7, h8⟩ := h
  constructor <;> simp [enter, move, upd] <;> omega
theorem Tie.three {g0 : St} {D Q : Int} {y : Dy} (h : Tie g0 D Q y) (a : Int) : Tie g0 D Q (enter y 3 a) := by
  obtain ⟨h1, h2, h3, h4, h5, h6, h7, h8⟩ := h
  constructor <;> simp [enter, move, upd] <;> omega
theorem Tie.four {g0 : St} {D Q : Int} {y : Dy} (h : Tie g0 D Q y) (a : Int) : Tie g0 D Q (enter y 4 a) := by
  obtain ⟨h1, h2, h3, h4, h5, h6, h7, h8⟩ := h
  constructor <;> simp [enter, move, upd] <;> omega
theorem Tie.eleven {g0 : St} {D Q : Int} {y : Dy} (h : Tie g0 D Q y) (a : Int) : Tie g0 D Q (enter y 11 a) := by
  obtain ⟨h1, h2, h3, h4, h5, h6, h7, h8⟩ := h
  constructor <;> simp [enter, move, upd] <;> omega
theorem Tie.twelve {g0 : St} {D Q : Int} {y : Dy} (h : Tie g0 D Q y) (a : Int) : Tie g0 D Q (enter y 12 a) := by
  obtain ⟨h1, h2, h3, h4, h5, h6, h7, h8⟩ := h
  constructor <;> simp [enter, move, upd] <;> omega
theorem Tie.paid {g0 : St} {D Q : Int} {y : Dy} (h : Tie g0 D Q y) (k : Nat) (hk : 5 ≤ k) (hk2 : k ≤ 10) (a : Int) : Tie g0 D (Q + a) (enter y k a) := by
  obtain ⟨h1, h2, h3, h4, h5, h6, h7, h8⟩ := h
  rcases (show k = 5 ∨ k = 6 ∨ k = 7 ∨ k = 8 ∨ k = 9 ∨ k = 10 by omega) with rfl | rfl | rfl | rfl | rfl | rfl <;>
    (constructor <;> simp [enter, move, upd] <;> omega)
theorem Tie.pay {g0 : St} {D Q : Int} {y : Dy} (h : Tie g0 D Q y) (a : Int) : Tie g0 D (Q + a) (Ln.pay y a) := by
  unfold Ln.pay
  have h1 := (((((h.paid 5 (by omega) (by omega) (least y.g.fi a)).paid 6 (by omega) (by omega) (least y.g.la (a - least y.g.fi a))).paid 7 (by omega) (by omega) (least y.g.du (a - least y.g.fi a - least y.g.la (a - least y.g.fi a)))).paid 8 (by omega) (by omega) (least y.g.it (a - least y.g.fi a - least y.g.la (a - least y.g.fi a) - least y.g.du (a - least y.g.fi a - least y.g.la (a - least y.g.fi a))))).paid 9 (by omega) (by omega) (least y.g.pr (a - least y.g.fi a - least y.g.la (a - least y.g.fi a) - least y.g.du (a - least y.g.fi a - least y.g.la (a - least y.g.fi a)) - least y.g.it (a - least y.g.fi a - least y.g.la (a - least y.g.fi a) - least y.g.du (a - least y.g.fi a - least y.g.la (a - least y.g.fi a)))))).paid 10 (by omega) (by omega) (a - least y.g.fi a - least y.g.la (a - least y.g.fi a) - least y.g.du (a - least y.g.fi a - least y.g.la (a - least y.g.fi a)) - least y.g.it (a - least y.g.fi a - least y.g.la (a - least y.g.fi a) - least y.g.du (a - least y.g.fi a - least y.g.la (a - least y.g.fi a))) - least y.g.pr (a - least y.g.fi a - least y.g.la (a - least y.g.fi a) - least y.g.du (a - least y.g.fi a - least y.g.la (a - least y.g.fi a)) - least y.g.it (a - least y.g.fi a - least y.g.la (a - least y.g.fi a) - least y.g.du (a - least y.g.fi a - least y.g.la (a - least y.g.fi a)))))
  refine (fun {Q1 Q2 : Int} {z : Dy} (e : Q1 = Q2) (hh : Tie g0 D Q1 z) => (show Tie g0 D Q2 z from e ▸ hh)) ?_ h1
  omega
/-- What an event lends, and what it pays, on day n. -/
def drawn (n : Int) (e : Ev) : Int := if e.d = n ∧ e.k = 1 then e.a else 0
def repaid (n : Int) (e : Ev) : Int := if e.d = n ∧ e.k = 5 then e.a else 0
def drawns (n : Int) : List Ev → Int
  | [] => 0
  | e :: r => drawn n e + drawns n r
def repaids (n : Int) : List Ev → Int
  | [] => 0
  | e :: r => repaid n e + repaids n r
theorem Tie.rate {g0 : St} {D Q : Int} {y : Dy} (h : Tie g0 D Q y) (g' : St) (h1 : g'.pr = y.g.pr) (h2 : g'.it = y.g.it) (h3 : g'.du = y.g.du) (h4 : g'.la = y.g.la) (h5 : g'.fi = y.g.fi) (h6 : g'.cr = y.g.cr) : Tie g0 D Q ⟨g', y.am⟩ :=
  ⟨h1.trans h.pr, h2.trans h.it, h3.trans h.du, h4.trans h.la, h5.trans h.fi, h6.trans h.cr, h.ld, h.pd⟩
theorem Tie.event {g0 : St} {D Q : Int} {y : Dy} (h : Tie g0 D Q y) (n : Int) (e : Ev) : Tie g0 (D + drawn n e) (Q + repaid n e) (Ln.event n y e) := by
  unfold Ln.event drawn repaid
  by_cases hd : e.d = n
  · simp only [hd, ne_eq, not_true, if_false, true_and]
    by_cases h1 : e.k = 1
    · simp only [h1, if_true]
      simpa using h.lend e.a
    · simp only [h1, if_false]
      by_cases h2 : e.k = 2
      · simp only [h2, if_true]
        simpa using h.rate { y.g with rt := e.a } rfl rfl rfl rfl rfl rfl
      · simp only [h2, if_false]
        by_cases h3 : e.k = 3
        · simp only [h3, if_true]
          by_cases hf : y.g.fr < n + e.a
          · rw [if_pos hf]
            simpa using h.rate { y.g with fr := n + e.a } rfl rfl rfl rfl rfl rfl
          · rw [if_neg hf]
            simpa using h
        · simp only [h3, if_false]
          by_cases h4 : e.k = 4
          · simp only [h4, if_true]
            simpa using h.four y.g.it
          · simp only [h4, if_false]
            by_cases h5 : e.k = 5
            · simp only [h5, if_true]
              simpa using h.pay e.a
            · simp only [h5, if_false]
              simpa using h
  · simp only [hd, ne_eq, not_false_eq_true, if_true, false_and, if_false, Int.add_zero]
    exact h
theorem Tie.events {g0 : St} (n : Int) : ∀ (l : List Ev) {D Q : Int} {y : Dy}, Tie g0 D Q y → Tie g0 (D + drawns n l) (Q + repaids n l) (l.foldl (Ln.event n) y)
  | [], D, Q, y, h => by simpa [drawns, repaids] using h
  | e :: r, D, Q, y, h => by
    have h1 := Tie.events n r (h.event n e)
    rw [Int.add_assoc, Int.add_assoc] at h1
    exact h1
theorem Tie.early (t : Terms) (n cd : Int) (g : St) : Tie g (if n = t.st then t.pr else 0) 0 (Ln.early t n cd g) := by
  unfold Ln.early
  by_cases hn : n = t.st
  · simp only [hn, if_true, ne_eq, not_true, false_and, if_false]
    simpa using (Tie.begin g).lend t.pr
  · simp only [hn, if_false, ne_eq, not_false_eq_true, true_and]
    split
    · exact ((Tie.begin g).two _).three _
    · exact Tie.begin g
theorem Tie.late {g0 : St} {D Q : Int} {y : Dy} (h : Tie g0 D Q y) (t : Terms) (w : Int) : Tie g0 D Q (Ln.late t w y) := by
  unfold Ln.late
  exact ((h.rate { y.g with ea := y.g.ea + y.g.pr * (y.g.rt * w), fn := y.g.fn + y.g.la * (t.fi * w) } rfl rfl rfl rfl rfl rfl).eleven _).twelve _
theorem Tie.day (t : Terms) (n cd w : Int) (l : List Ev) (g : St) : Tie g ((if n = t.st then t.pr else 0) + drawns n l) (repaids n l) (Ln.day t n cd w l g) := by
  have h := (Tie.events n l (Tie.early t n cd g)).late t w
  rw [Int.zero_add] at h
  exact h
end Go.Proofs.YtanndhoimpnhpaaGreatDoor.Ln
namespace Go.Proofs.YtanndhoimpnhpaaGreatDoor
open Go.RowKit

def kTo (k : Int) : Int := if k = 1 ∨ k = 4 then 1 else if k = 2 then 4 else if k = 3 then 3 else if k = 11 then 2 else if k = 12 then 5 else 0
def kFrom (k : Int) : Int := if k = 1 then 0 else if k = 2 ∨ k = 7 then 3 else if k = 3 ∨ k = 4 ∨ k = 8 then 2 else if k = 5 then 5 else if k = 6 then 4 else if k = 9 then 1 else if k = 10 then 6 else if k = 11 then 7 else 8
/-- What an entry does to account i. -/
def acE (i : Int) (e : En) : Int := (if kTo e.k = i then e.a else 0) - (if kFrom e.k = i then e.a else 0)
/-- What entries make of account i (without wrapping round). -/
def acc (i : Int) : List En → Int
  | [] => 0
  | e :: r => acE i e + acc i r
theorem acc_append (i : Int) : ∀ l m : List En, acc i (l ++ m) = acc i l + acc i m
  | [], m => by simp [acc]
  | e :: r, m => by
    simp only [List.cons_append, acc, acc_append i r m]
    omega
theorem acc_kind (i : Int) (n : Int) (k : Nat) (am : Int) : acc i (kindW n k 0 am) = (if kTo k = i then am else 0) - (if kFrom k = i then am else 0) := by
  unfold kindW
  by_cases h : 0 = am
  · rw [if_pos h, ← h]
    simp [acc]
  · rw [if_neg h, if_pos rfl, if_neg (fun e => h e.symm)]
    simp [acc, acE]
theorem acc_kinds (i : Int) (n : Int) (am : Nat → Int) : acc i (kindsW n (fun _ => 0) am 12) =
    ((if kTo 1 = i then am 1 else 0) - (if kFrom 1 = i then am 1 else 0)) + ((if kTo 2 = i then am 2 else 0) - (if kFrom 2 = i then am 2 else 0)) + ((if kTo 3 = i then am 3 else 0) - (if kFrom 3 = i then am 3 else 0)) + ((if kTo 4 = i then am 4 else 0) - (if kFrom 4 = i then am 4 else 0)) + ((if kTo 5 = i then am 5 else 0) - (if kFrom 5 = i then am 5 else 0)) + ((if kTo 6 = i then am 6 else 0) - (if kFrom 6 = i then am 6 else 0)) + ((if kTo 7 = i then am 7 else 0) - (if kFrom 7 = i then am 7 else 0)) + ((if kTo 8 = i then am 8 else 0) - (if kFrom 8 = i then am 8 else 0)) + ((if kTo 9 = i then am 9 else 0) - (if kFrom 9 = i then am 9 else 0)) + ((if kTo 10 = i then am 10 else 0) - (if kFrom 10 = i then am 10 else 0)) + ((if kTo 11 = i then am 11 else 0) - (if kFrom 11 = i then am 11 else 0)) + ((if kTo 12 = i then am 12 else 0) - (if kFrom 12 = i then am 12 else 0)) := by
  simp only [kindsW, List.nil_append, acc_append, acc_kind]
  rfl
end Go.Proofs.YtanndhoimpnhpaaGreatDoor
