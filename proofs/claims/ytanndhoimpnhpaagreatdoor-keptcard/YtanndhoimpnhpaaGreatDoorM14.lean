/- Joined by program: KpB, Env, AdB, AdC0. -/
import Derived.Test.YtanndhoimpnhpaaGreatDoorM13
import Derived.Test.YtanndhoimpnhpaaGreatDoorM11
namespace Go.Proofs.YtanndhoimpnhpaaGreatDoor
open Go.RowKit Cal
def IntsV (w : World) (v : Value) (zs : List Int) : Prop :=
  (∀ z ∈ zs, (Lit.int .i64 z).wf = true) ∧ ∃ p cap, v = .slice p zs.length cap ∧ zs.length ≤ cap ∧ ∀ k (hk : k < zs.length), ∃ b o, p = some ⟨b, o, none⟩ ∧ b < w.heap.size ∧ w.cell? ⟨b, o + k, none⟩ = some (.int .i64 zs[k])
theorem IntsV.keep {S : Nat → Prop} {w w' : World} {v : Value} {zs : List Int} (h : IntsV w v zs) (hk : Keep S w w') (hs : ∀ b, b < w.heap.size → ¬ S b) : IntsV w' v zs := by
  obtain ⟨hw, p, cap, h1, h2, h3⟩ := h
  refine ⟨hw, p, cap, h1, h2, fun k hkl => ?_⟩
  obtain ⟨b, o, h4, h5, h6⟩ := h3 k hkl
  exact ⟨b, o, h4, Nat.lt_of_lt_of_le h5 hk.size, (World.cell?_of_block (w := w) (a := ⟨b, o + k, none⟩) (hk.block b h5 (hs b h5))).trans h6⟩
theorem IntsV.below {w w' : World} {v : Value} {zs : List Int} (h : IntsV w v zs) (hb : Below w.heap.size w w') : IntsV w' v zs := h.keep (S := fun _ => False) (Keep.below hb) (fun _ _ x => x)
def TmS (w : World) (f : Nat → Int) (wx : World) : Prop := At wx (w.heap.size + 1) (hc 6 f) ∧ (∃ t, At wx w.heap.size (tml t)) ∧ Below w.heap.size w wx
theorem TmS.drew {w wx : World} {f : Nat → Int} (h : TmS w f wx) : TmS w f wx.drew := ⟨h.1.drew, h.2.1.imp (fun _ h => h.drew), h.2.2.drew⟩
set_option maxRecDepth 10000 in
set_option maxHeartbeats 4000000 in
theorem terms_any (w : World) (v : Value) (zs : List Int) (h : IntsV w v zs) :
    Calls Tryz.prog 13 #[v] w fun e w' => (∃ t, rtB t = true ∧ e = .returned (tmV t)) ∧ Below w.heap.size w w' := by
  obtain ⟨hwf, p, cap, rfl, hcap, hcell⟩ := h
  have HW : Hid (∀ z ∈ zs, (Lit.int .i64 z).wf = true) := hwf
  have HC : Hid (∀ k (hk : k < zs.length), ∃ b o, p = some ⟨b, o, none⟩ ∧ b < w.heap.size ∧ w.cell? ⟨b, o + k, none⟩ = some (.int .i64 zs[k])) := hcell
  clear hwf hcell
  have HV0 : Hid (TmS w (fun _ => 0) ((w.alloc (.cells (tml ⟨0, 0, 0, 0, 0, 0⟩).toArray 23)).alloc (.cells (hc 6 (fun _ => 0)).toArray 80))) := by
    have b1 : Below w.heap.size w (w.alloc (.cells (tml ⟨0, 0, 0, 0, 0, 0⟩).toArray 23)) := (Below.refl _ _).alloc (Nat.le_refl _) _
    have z1 : (w.alloc (.cells (tml ⟨0, 0, 0, 0, 0, 0⟩).toArray 23)).heap.size = w.heap.size + 1 := by simp
    refine ⟨?_, ⟨⟨0, 0, 0, 0, 0, 0⟩, At.over (v := .int .i64 0) (At.alloc w (tml ⟨0, 0, 0, 0, 0, 0⟩) _) _⟩, b1.alloc (by omega) _⟩
    have := At.alloc (w.alloc (.cells (tml ⟨0, 0, 0, 0, 0, 0⟩).toArray 23)) (hc 6 (fun _ => 0)) 80
    rw [z1] at this
    exact this
  go_enter Tryz.func13, Tryz.ntmps13
  go_upto_region 2 with fail
  change Code.wp _ _ _ _ ((w.alloc (.cells (tml ⟨0, 0, 0, 0, 0, 0⟩).toArray 23)).alloc (.cells (hc 6 (fun _ => 0)).toArray 80))
  generalize (w.alloc (.cells (tml ⟨0, 0, 0, 0, 0, 0⟩).toArray 23)).alloc (.cells (hc 6 (fun _ => 0)).toArray 80) = V at *
  try simp only [size_alloc]
  go_wp2
  go_loopw [4] (fun i wr => ∃ (k : Nat) (f : Nat → Int), k ≤ 6 ∧ i = .int .i64 k ∧ (∀ j, (Lit.int .i64 (f j)).wf = true) ∧ TmS w f wr) (fun i _ => (6 - intOf i).toNat)
  case atStart => exact ⟨0, fun _ => 0, Nat.zero_le _, rfl, fun _ => (by decide : (Lit.int .i64 0).wf = true), HV0.out⟩
  case round =>
    obtain ⟨k, f, hk, rfl, hf, hS⟩ := hrel
    have HF : Hid (∀ j, (Lit.int .i64 (f j)).wf = true) := hf
    have HS : Hid (TmS w f wr) := hS
    clear hf hS
    by_cases hlt : k < 6 ∧ k < zs.length
    · obtain ⟨h6, hz⟩ := hlt
      obtain ⟨b, o, rfl, hb, hc0⟩ := HC.out k hz
      have hcW : wr.cell? ⟨b, o + k, none⟩ = some (.int .i64 zs[k]) := (World.cell?_of_block (w := w) (a := ⟨b, o + k, none⟩) (HS.out.2.2.block b hb)).trans hc0
      have hwz := HW.out zs[k] (List.getElem_mem hz)
      have hck : wr.cell? ⟨w.heap.size + 1, k, none⟩ = some (.int .i64 (f k)) := HS.out.1.cell k (hc_at 6 f k h6)
      have hcf : wr.frozen? ⟨w.heap.size + 1, k, none⟩ = false := HS.out.1.free k (hc_at 6 f k h6)
      have HN : Hid (TmS w (fun j => if j = k then zs[k] else f j) (wr.setCell ⟨w.heap.size + 1, k, none⟩ (.int .i64 zs[k]))) := by
        have hset := HS.out.1.set k (by rw [hc_len]; exact h6) (.int .i64 zs[k])
        rw [hc_set 6 f (fun j => if j = k then zs[k] else f j) k zs[k] (fun j _ => rfl)] at hset
        refine ⟨hset, HS.out.2.1.imp (fun _ h => At.other h (by omega) _ _), ?_⟩
        have kk : Keep (fun x => x = w.heap.size + 1) wr (wr.setCell ⟨w.heap.size + 1, k, none⟩ (.int .i64 zs[k])) := (Keep.refl _ _).set (S := fun x => x = w.heap.size + 1) rfl k _
        exact ⟨kk.os.trans HS.out.2.2.os, kk.tape.trans HS.out.2.2.tape, kk.output.trans HS.out.2.2.output, Nat.le_trans HS.out.2.2.size kk.size, fun x hx => (kk.block x (Nat.lt_of_lt_of_le hx HS.out.2.2.size) (by omega)).trans (HS.out.2.2.block x hx)⟩
      have HG : Hid (∀ j, (Lit.int .i64 (if j = k then zs[k] else f j)).wf = true) := fun j => by
        by_cases hj : j = k
        · simpa [hj] using hwz
        · simpa [hj] using HF.out j
      generalize zs[k] = z at *
      have z1 : (k : Int) < 6 := by omega
      have z2 : (k : Int) < (zs.length : Int) := by omega
      clear HF HS hc0
      go_wp2
      exact ⟨⟨k + 1, _, by omega, rfl, HG.out, HN.out⟩, by simp [intOf]; omega⟩
    · obtain ⟨r0, a0, b0, h0⟩ := pick_all (f 0) 105873 (HF.out 0) (by decide) (by decide)
      obtain ⟨r1, a1, b1, h1⟩ := pick_all (f 1) 100000000001 (HF.out 1) (by decide) (by decide)
      obtain ⟨r2, a2, b2, h2⟩ := pick_all (f 2) 1000001 (HF.out 2) (by decide) (by decide)
      obtain ⟨r3, a3, b3, h3⟩ := pick_all (f 3) 1000001 (HF.out 3) (by decide) (by decide)
      obtain ⟨r4, a4, b4, h4⟩ := pick_all (f 4) 3 (HF.out 4) (by decide) (by decide)
      obtain ⟨r5, a5, b5, h5⟩ := pick_all (f 5) 28 (HF.out 5) (by decide) (by decide)
      have HT : Hid (rtB ⟨r0, r1, r2, r3, 1 + r4, 1 + r5⟩ = true) := by
        show rtB _ = true
        unfold rtB
        simp
        omega
      have ew4 : IntKind.i64.wrap (1 + r4) = 1 + r4 := by rw [IntKind.wrap_i64]; omega
      have ew5 : IntKind.i64.wrap (1 + r5) = 1 + r5 := by rw [IntKind.wrap_i64]; omega
      clear HF HW HC a0 b0 a1 b1 a2 b2 a3 b3 a4 b4 a5 b5
      have hx : ¬ ((k : Int) < 6 ∧ (k : Int) < (zs.length : Int)) := by omega
      have X : Hid (TmS w f wr) := HS.out
      clear HS
      by_cases h6 : (k : Int) < 6
      · have hz : ¬ (k : Int) < (zs.length : Int) := fun h => hx ⟨h6, h⟩
        clear hx
        go_upto_region 6 with fail
        refine wp_region_held_drew (S := TmS w f) (by kernel_rfl) X.out.drew (fun hHeld => ?_)
        clear X
        generalize wr.drew = V1 at *
        refine wpAnyH_take (i := 0) (v := (.pointer (some ⟨w.heap.size + 1, 0, none⟩))) rfl (by kernel_rfl) (by kernel_rfl) (by kernel_rfl) (fun _ _ _ h => h) (Or.inl ⟨by rfl, fun wx hSw => by ((try dsimp only at hSw); go_simp)⟩) (by assumption) ?_
        simp only [Act.put, List.getElem_toArray, List.getElem_cons_zero, List.setIfInBounds_toArray, List.set_cons_zero, List.set_cons_succ]
        refine wpAnyH_take (i := 1) (v := (.int .i64 (f 0))) rfl (by kernel_rfl) (by kernel_rfl) (by kernel_rfl) (fun _ _ _ h => h) (Or.inl ⟨by rfl, fun wx hSw => by (have hc : wx.cell? ⟨w.heap.size + 1, 0, none⟩ = some (.int .i64 (f 0)) := hSw.1.cell 0 rfl; go_simp)⟩) (by assumption) ?_
        simp only [Act.put, List.getElem_toArray, List.getElem_cons_succ, List.getElem_cons_zero, List.setIfInBounds_toArray, List.set_cons_zero, List.set_cons_succ]
        refine wpAnyH_take (i := 3) (v := (.pointer (some ⟨w.heap.size + 1, 1, none⟩))) rfl (by kernel_rfl) (by kernel_rfl) (by kernel_rfl) (fun _ _ _ h => h) (Or.inl ⟨by rfl, fun wx hSw => by ((try dsimp only at hSw); go_simp)⟩) (by assumption) ?_
        simp only [Act.put, List.getElem_toArray, List.getElem_cons_succ, List.getElem_cons_zero, List.setIfInBounds_toArray, List.set_cons_zero, List.set_cons_succ]
        refine wpAnyH_take (i := 4) (v := (.int .i64 (f 1))) rfl (by kernel_rfl) (by kernel_rfl) (by kernel_rfl) (fun _ _ _ h => h) (Or.inl ⟨by rfl, fun wx hSw => by (have hc : wx.cell? ⟨w.heap.size + 1, 1, none⟩ = some (.int .i64 (f 1)) := hSw.1.cell 1 rfl; go_simp)⟩) (by assumption) ?_
        simp only [Act.put, List.getElem_toArray, List.getElem_cons_succ, List.getElem_cons_zero, List.setIfInBounds_toArray, List.set_cons_zero, List.set_cons_succ]
        refine wpAnyH_take (i := 6) (v := (.pointer (some ⟨w.heap.size + 1, 2, none⟩))) rfl (by kernel_rfl) (by kernel_rfl) (by kernel_rfl) (fun _ _ _ h => h) (Or.inl ⟨by rfl, fun wx hSw => by ((try dsimp only at hSw); go_simp)⟩) (by assumption) ?_
        simp only [Act.put, List.getElem_toArray, List.getElem_cons_succ, List.getElem_cons_zero, List.setIfInBounds_toArray, List.set_cons_zero, List.set_cons_succ]
        refine wpAnyH_take (i := 7) (v := (.int .i64 (f 2))) rfl (by kernel_rfl) (by kernel_rfl) (by kernel_rfl) (fun _ _ _ h => h) (Or.inl ⟨by rfl, fun wx hSw => by (have hc : wx.cell? ⟨w.heap.size + 1, 2, none⟩ = some (.int .i64 (f 2)) := hSw.1.cell 2 rfl; go_simp)⟩) (by assumption) ?_
        simp only [Act.put, List.getElem_toArray, List.getElem_cons_succ, List.getElem_cons_zero, List.setIfInBounds_toArray, List.set_cons_zero, List.set_cons_succ]
        refine wpAnyH_take (i := 9) (v := (.pointer (some ⟨w.heap.size + 1, 3, none⟩))) rfl (by kernel_rfl) (by kernel_rfl) (by kernel_rfl) (fun _ _ _ h => h) (Or.inl ⟨by rfl, fun wx hSw => by ((try dsimp only at hSw); go_simp)⟩) (by assumption) ?_
        simp only [Act.put, List.getElem_toArray, List.getElem_cons_succ, List.getElem_cons_zero, List.setIfInBounds_toArray, List.set_cons_zero, List.set_cons_succ]
        refine wpAnyH_take (i := 10) (v := (.int .i64 (f 3))) rfl (by kernel_rfl) (by kernel_rfl) (by kernel_rfl) (fun _ _ _ h => h) (Or.inl ⟨by rfl, fun wx hSw => by (have hc : wx.cell? ⟨w.heap.size + 1, 3, none⟩ = some (.int .i64 (f 3)) := hSw.1.cell 3 rfl; go_simp)⟩) (by assumption) ?_
        simp only [Act.put, List.getElem_toArray, List.getElem_cons_succ, List.getElem_cons_zero, List.setIfInBounds_toArray, List.set_cons_zero, List.set_cons_succ]
        refine wpAnyH_take (i := 12) (v := (.pointer (some ⟨w.heap.size + 1, 4, none⟩))) rfl (by kernel_rfl) (by kernel_rfl) (by kernel_rfl) (fun _ _ _ h => h) (Or.inl ⟨by rfl, fun wx hSw => by ((try dsimp only at hSw); go_simp)⟩) (by assumption) ?_
        simp only [Act.put, List.getElem_toArray, List.getElem_cons_succ, List.getElem_cons_zero, List.setIfInBounds_toArray, List.set_cons_zero, List.set_cons_succ]
        refine wpAnyH_take (i := 13) (v := (.int .i64 (f 4))) rfl (by kernel_rfl) (by kernel_rfl) (by kernel_rfl) (fun _ _ _ h => h) (Or.inl ⟨by rfl, fun wx hSw => by (have hc : wx.cell? ⟨w.heap.size + 1, 4, none⟩ = some (.int .i64 (f 4)) := hSw.1.cell 4 rfl; go_simp)⟩) (by assumption) ?_
        simp only [Act.put, List.getElem_toArray, List.getElem_cons_succ, List.getElem_cons_zero, List.setIfInBounds_toArray, List.set_cons_zero, List.set_cons_succ]
        refine wpAnyH_take (i := 16) (v := (.pointer (some ⟨w.heap.size + 1, 5, none⟩))) rfl (by kernel_rfl) (by kernel_rfl) (by kernel_rfl) (fun _ _ _ h => h) (Or.inl ⟨by rfl, fun wx hSw => by ((try dsimp only at hSw); go_simp)⟩) (by assumption) ?_
        simp only [Act.put, List.getElem_toArray, List.getElem_cons_succ, List.getElem_cons_zero, List.setIfInBounds_toArray, List.set_cons_zero, List.set_cons_succ]
        refine wpAnyH_take (i := 17) (v := (.int .i64 (f 5))) rfl (by kernel_rfl) (by kernel_rfl) (by kernel_rfl) (fun _ _ _ h => h) (Or.inl ⟨by rfl, fun wx hSw => by (have hc : wx.cell? ⟨w.heap.size + 1, 5, none⟩ = some (.int .i64 (f 5)) := hSw.1.cell 5 rfl; go_simp)⟩) (by assumption) ?_
        simp only [Act.put, List.getElem_toArray, List.getElem_cons_succ, List.getElem_cons_zero, List.setIfInBounds_toArray, List.set_cons_zero, List.set_cons_succ]
        refine wpAnyH_ready (rs := [2]) (by kernel_rfl) (by simp) ?_
        refine AllReadyH.cons rfl (fun K hK => ?_) AllReadyH.nil
        go_simp
        refine (h0 _).mono ?_
        rintro e w' ⟨rfl, hw'⟩
        obtain rfl := hw'.symm
        go_wp2_with fail
        refine hK.out _ _ hHeld (fun hHeld => ?_)
        clear hK K hw' h0
        try simp only [Act.put, List.getElem_toArray, List.getElem_cons_succ, List.getElem_cons_zero, List.setIfInBounds_toArray, List.set_cons_zero, List.set_cons_succ]
        refine wpAnyH_ready (rs := [5]) (by kernel_rfl) (by simp) ?_
        refine AllReadyH.cons rfl (fun K hK => ?_) AllReadyH.nil
        go_simp
        refine (h1 _).mono ?_
        rintro e w' ⟨rfl, hw'⟩
        obtain rfl := hw'.symm
        go_wp2_with fail
        refine hK.out _ _ hHeld (fun hHeld => ?_)
        clear hK K hw' h1
        try simp only [Act.put, List.getElem_toArray, List.getElem_cons_succ, List.getElem_cons_zero, List.setIfInBounds_toArray, List.set_cons_zero, List.set_cons_succ]
        refine wpAnyH_ready (rs := [8]) (by kernel_rfl) (by simp) ?_
        refine AllReadyH.cons rfl (fun K hK => ?_) AllReadyH.nil
        go_simp
        refine (h2 _).mono ?_
        rintro e w' ⟨rfl, hw'⟩
        obtain rfl := hw'.symm
        go_wp2_with fail
        refine hK.out _ _ hHeld (fun hHeld => ?_)
        clear hK K hw' h2
        try simp only [Act.put, List.getElem_toArray, List.getElem_cons_succ, List.getElem_cons_zero, List.setIfInBounds_toArray, List.set_cons_zero, List.set_cons_succ]
        refine wpAnyH_ready (rs := [11]) (by kernel_rfl) (by simp) ?_
        refine AllReadyH.cons rfl (fun K hK => ?_) AllReadyH.nil
        go_simp
        refine (h3 _).mono ?_
        rintro e w' ⟨rfl, hw'⟩
        obtain rfl := hw'.symm
        go_wp2_with fail
        refine hK.out _ _ hHeld (fun hHeld => ?_)
        clear hK K hw' h3
        try simp only [Act.put, List.getElem_toArray, List.getElem_cons_succ, List.getElem_cons_zero, List.setIfInBounds_toArray, List.set_cons_zero, List.set_cons_succ]
        refine wpAnyH_ready (rs := [14]) (by kernel_rfl) (by simp) ?_
        refine AllReadyH.cons rfl (fun K hK => ?_) AllReadyH.nil
        go_simp
        refine (h4 _).mono ?_
        rintro e w' ⟨rfl, hw'⟩
        obtain rfl := hw'.symm
        go_wp2_with fail
        refine hK.out _ _ hHeld (fun hHeld => ?_)
        clear hK K hw' h4
        try simp only [Act.put, List.getElem_toArray, List.getElem_cons_succ, List.getElem_cons_zero, List.setIfInBounds_toArray, List.set_cons_zero, List.set_cons_succ]
        refine wpAnyH_take (i := 15) (v := (.int .i64 (1 + r4))) rfl (by kernel_rfl) (by kernel_rfl) (by kernel_rfl) (fun _ _ _ h => h) (Or.inl ⟨by rfl, fun wx hSw => by ((try dsimp only at hSw); go_simp)⟩) (by assumption) ?_
        simp only [Act.put, List.getElem_toArray, List.getElem_cons_succ, List.getElem_cons_zero, List.setIfInBounds_toArray, List.set_cons_zero, List.set_cons_succ]
        refine wpAnyH_ready (rs := [18]) (by kernel_rfl) (by simp) ?_
        refine AllReadyH.cons rfl (fun K hK => ?_) AllReadyH.nil
        go_simp
        refine (h5 _).mono ?_
        rintro e w' ⟨rfl, hw'⟩
        obtain rfl := hw'.symm
        go_wp2_with fail
        refine hK.out _ _ hHeld (fun hHeld => ?_)
        clear hK K hw' h5
        try simp only [Act.put, List.getElem_toArray, List.getElem_cons_succ, List.getElem_cons_zero, List.setIfInBounds_toArray, List.set_cons_zero, List.set_cons_succ]
        refine wpAnyH_take (i := 19) (v := (.int .i64 (1 + r5))) rfl (by kernel_rfl) (by kernel_rfl) (by kernel_rfl) (fun _ _ _ h => h) (Or.inl ⟨by rfl, fun wx hSw => by ((try dsimp only at hSw); go_simp)⟩) (by assumption) ?_
        simp only [Act.put, List.getElem_toArray, List.getElem_cons_succ, List.getElem_cons_zero, List.setIfInBounds_toArray, List.set_cons_zero, List.set_cons_succ]
        refine wpAnyH_take (i := 20) (v := (.agg (tml ⟨r0, r1, r2, r3, 1 + r4, 1 + r5⟩).toArray)) rfl (by kernel_rfl) (by kernel_rfl) (by kernel_rfl) (fun _ _ _ h => h) (Or.inl ⟨by rfl, fun wx hSw => by kernel_rfl⟩) (by assumption) ?_
        simp only [Act.put, List.getElem_toArray, List.getElem_cons_succ, List.getElem_cons_zero, List.setIfInBounds_toArray, List.set_cons_zero, List.set_cons_succ]
        refine wpAnyH_ready (rs := [21]) (by kernel_rfl) (by simp) ?_
        refine AllReadyH.cons rfl (fun K hK => ?_) AllReadyH.nil
        rw [if_pos (by rfl)]
        obtain ⟨t0, ht0⟩ := hHeld.2.1
        refine wp_store_mid 23 (.tmp 2) (.tmp 41) rfl _ 0 _ rfl rfl (ht0.there 6 rfl) (by kernel_rfl) (by kernel_rfl) ?_
        rw [List.toList_toArray]
        have hT1 : At (V1.setCells w.heap.size 0 (tml ⟨r0, r1, r2, r3, 1 + r4, 1 + r5⟩)) w.heap.size (tml ⟨r0, r1, r2, r3, 1 + r4, 1 + r5⟩) := At.setCells_same ht0 rfl
        have kT : Keep (fun x => x = w.heap.size) V1 (V1.setCells w.heap.size 0 (tml ⟨r0, r1, r2, r3, 1 + r4, 1 + r5⟩)) := Keep.setCells (S := fun x => x = w.heap.size) rfl _ _ _ (Keep.refl _ _)
        have hB : Below w.heap.size w (V1.setCells w.heap.size 0 (tml ⟨r0, r1, r2, r3, 1 + r4, 1 + r5⟩)) := ⟨kT.os.trans hHeld.2.2.os, kT.tape.trans hHeld.2.2.tape, kT.output.trans hHeld.2.2.output, Nat.le_trans hHeld.2.2.size kT.size, fun x hx => (kT.block x (Nat.lt_of_lt_of_le hx hHeld.2.2.size) (by omega)).trans (hHeld.2.2.block x hx)⟩
        refine hK.out _ _ ⟨hHeld.1.block (kT.block _ (At.lt (v := .int .i64 (f 0)) hHeld.1) (by omega)), ⟨_, hT1⟩, hB⟩ (fun _ => ?_)
        clear hK K ht0 kT hHeld
        generalize V1.setCells w.heap.size 0 (tml ⟨r0, r1, r2, r3, 1 + r4, 1 + r5⟩) = V2 at *
        refine wpAnyH_done (by kernel_rfl) ?_ _
        have d0 : V2.cell? ⟨w.heap.size, 0, none⟩ = some (.int .i64 r0) := hT1.cell 0 rfl
        have d1 : V2.cell? ⟨w.heap.size, 1, none⟩ = some (.int .i64 r1) := hT1.cell 1 rfl
        have d2 : V2.cell? ⟨w.heap.size, 2, none⟩ = some (.int .i64 r2) := hT1.cell 2 rfl
        have d3 : V2.cell? ⟨w.heap.size, 3, none⟩ = some (.int .i64 r3) := hT1.cell 3 rfl
        have d4 : V2.cell? ⟨w.heap.size, 4, none⟩ = some (.int .i64 (1 + r4)) := hT1.cell 4 rfl
        have d5 : V2.cell? ⟨w.heap.size, 5, none⟩ = some (.int .i64 (1 + r5)) := hT1.cell 5 rfl
        clear hT1
        go_wp2
        exact bodyPost_ret (v := .agg #[.int .i64 r0, .int .i64 r1, .int .i64 r2, .int .i64 r3, .int .i64 (1 + r4), .int .i64 (1 + r5)]) (by simp [results, Tryz.results13, go_sem, d0, d1, d2, d3, d4, d5]) rfl ⟨⟨_, HT.out, rfl⟩, hB⟩
      · clear hx
        go_upto_region 6 with fail
        refine wp_region_held_drew (S := TmS w f) (by kernel_rfl) X.out.drew (fun hHeld => ?_)
        clear X
        generalize wr.drew = V1 at *
        refine wpAnyH_take (i := 0) (v := (.pointer (some ⟨w.heap.size + 1, 0, none⟩))) rfl (by kernel_rfl) (by kernel_rfl) (by kernel_rfl) (fun _ _ _ h => h) (Or.inl ⟨by rfl, fun wx hSw => by ((try dsimp only at hSw); go_simp)⟩) (by assumption) ?_
        simp only [Act.put, List.getElem_toArray, List.getElem_cons_zero, List.setIfInBounds_toArray, List.set_cons_zero, List.set_cons_succ]
        refine wpAnyH_take (i := 1) (v := (.int .i64 (f 0))) rfl (by kernel_rfl) (by kernel_rfl) (by kernel_rfl) (fun _ _ _ h => h) (Or.inl ⟨by rfl, fun wx hSw => by (have hc : wx.cell? ⟨w.heap.size + 1, 0, none⟩ = some (.int .i64 (f 0)) := hSw.1.cell 0 rfl; go_simp)⟩) (by assumption) ?_
        simp only [Act.put, List.getElem_toArray, List.getElem_cons_succ, List.getElem_cons_zero, List.setIfInBounds_toArray, List.set_cons_zero, List.set_cons_succ]
        refine wpAnyH_take (i := 3) (v := (.pointer (some ⟨w.heap.size + 1, 1, none⟩))) rfl (by kernel_rfl) (by kernel_rfl) (by kernel_rfl) (fun _ _ _ h => h) (Or.inl ⟨by rfl, fun wx hSw => by ((try dsimp only at hSw); go_simp)⟩) (by assumption) ?_
        simp only [Act.put, List.getElem_toArray, List.getElem_cons_succ, List.getElem_cons_zero, List.setIfInBounds_toArray, List.set_cons_zero, List.set_cons_succ]
        refine wpAnyH_take (i := 4) (v := (.int .i64 (f 1))) rfl (by kernel_rfl) (by kernel_rfl) (by kernel_rfl) (fun _ _ _ h => h) (Or.inl ⟨by rfl, fun wx hSw => by (have hc : wx.cell? ⟨w.heap.size + 1, 1, none⟩ = some (.int .i64 (f 1)) := hSw.1.cell 1 rfl; go_simp)⟩) (by assumption) ?_
        simp only [Act.put, List.getElem_toArray, List.getElem_cons_succ, List.getElem_cons_zero, List.setIfInBounds_toArray, List.set_cons_zero, List.set_cons_succ]
        refine wpAnyH_take (i := 6) (v := (.pointer (some ⟨w.heap.size + 1, 2, none⟩))) rfl (by kernel_rfl) (by kernel_rfl) (by kernel_rfl) (fun _ _ _ h => h) (Or.inl ⟨by rfl, fun wx hSw => by ((try dsimp only at hSw); go_simp)⟩) (by assumption) ?_
        simp only [Act.put, List.getElem_toArray, List.getElem_cons_succ, List.getElem_cons_zero, List.setIfInBounds_toArray, List.set_cons_zero, List.set_cons_succ]
        refine wpAnyH_take (i := 7) (v := (.int .i64 (f 2))) rfl (by kernel_rfl) (by kernel_rfl) (by kernel_rfl) (fun _ _ _ h => h) (Or.inl ⟨by rfl, fun wx hSw => by (have hc : wx.cell? ⟨w.heap.size + 1, 2, none⟩ = some (.int .i64 (f 2)) := hSw.1.cell 2 rfl; go_simp)⟩) (by assumption) ?_
        simp only [Act.put, List.getElem_toArray, List.getElem_cons_succ, List.getElem_cons_zero, List.setIfInBounds_toArray, List.set_cons_zero, List.set_cons_succ]
        refine wpAnyH_take (i := 9) (v := (.pointer (some ⟨w.heap.size + 1, 3, none⟩))) rfl (by kernel_rfl) (by kernel_rfl) (by kernel_rfl) (fun _ _ _ h => h) (Or.inl ⟨by rfl, fun wx hSw => by ((try dsimp only at hSw); go_simp)⟩) (by assumption) ?_
        simp only [Act.put, List.getElem_toArray, List.getElem_cons_succ, List.getElem_cons_zero, List.setIfInBounds_toArray, List.set_cons_zero, List.set_cons_succ]
        refine wpAnyH_take (i := 10) (v := (.int .i64 (f 3))) rfl (by kernel_rfl) (by kernel_rfl) (by kernel_rfl) (fun _ _ _ h => h) (Or.inl ⟨by rfl, fun wx hSw => by (have hc : wx.cell? ⟨w.heap.size + 1, 3, none⟩ = some (.int .i64 (f 3)) := hSw.1.cell 3 rfl; go_simp)⟩) (by assumption) ?_
        simp only [Act.put, List.getElem_toArray, List.getElem_cons_succ, List.getElem_cons_zero, List.setIfInBounds_toArray, List.set_cons_zero, List.set_cons_succ]
        refine wpAnyH_take (i := 12) (v := (.pointer (some ⟨w.heap.size + 1, 4, none⟩))) rfl (by kernel_rfl) (by kernel_rfl) (by kernel_rfl) (fun _ _ _ h => h) (Or.inl ⟨by rfl, fun wx hSw => by ((try dsimp only at hSw); go_simp)⟩) (by assumption) ?_
        simp only [Act.put, List.getElem_toArray, List.getElem_cons_succ, List.getElem_cons_zero, List.setIfInBounds_toArray, List.set_cons_zero, List.set_cons_succ]
        refine wpAnyH_take (i := 13) (v := (.int .i64 (f 4))) rfl (by kernel_rfl) (by kernel_rfl) (by kernel_rfl) (fun _ _ _ h => h) (Or.inl ⟨by rfl, fun wx hSw => by (have hc : wx.cell? ⟨w.heap.size + 1, 4, none⟩ = some (.int .i64 (f 4)) := hSw.1.cell 4 rfl; go_simp)⟩) (by assumption) ?_
        simp only [Act.put, List.getElem_toArray, List.getElem_cons_succ, List.getElem_cons_zero, List.setIfInBounds_toArray, List.set_cons_zero, List.set_cons_succ]
        refine wpAnyH_take (i := 16) (v := (.pointer (some ⟨w.heap.size + 1, 5, none⟩))) rfl (by kernel_rfl) (by kernel_rfl) (by kernel_rfl) (fun _ _ _ h => h) (Or.inl ⟨by rfl, fun wx hSw => by ((try dsimp only at hSw); go_simp)⟩) (by assumption) ?_
        simp only [Act.put, List.getElem_toArray, List.getElem_cons_succ, List.getElem_cons_zero, List.setIfInBounds_toArray, List.set_cons_zero, List.set_cons_succ]
        refine wpAnyH_take (i := 17) (v := (.int .i64 (f 5))) rfl (by kernel_rfl) (by kernel_rfl) (by kernel_rfl) (fun _ _ _ h => h) (Or.inl ⟨by rfl, fun wx hSw => by (have hc : wx.cell? ⟨w.heap.size + 1, 5, none⟩ = some (.int .i64 (f 5)) := hSw.1.cell 5 rfl; go_simp)⟩) (by assumption) ?_
        simp only [Act.put, List.getElem_toArray, List.getElem_cons_succ, List.getElem_cons_zero, List.setIfInBounds_toArray, List.set_cons_zero, List.set_cons_succ]
        refine wpAnyH_ready (rs := [2]) (by kernel_rfl) (by simp) ?_
        refine AllReadyH.cons rfl (fun K hK => ?_) AllReadyH.nil
        go_simp
        refine (h0 _).mono ?_
        rintro e w' ⟨rfl, hw'⟩
        obtain rfl := hw'.symm
        go_wp2_with fail
        refine hK.out _ _ hHeld (fun hHeld => ?_)
        clear hK K hw' h0
        try simp only [Act.put, List.getElem_toArray, List.getElem_cons_succ, List.getElem_cons_zero, List.setIfInBounds_toArray, List.set_cons_zero, List.set_cons_succ]
        refine wpAnyH_ready (rs := [5]) (by kernel_rfl) (by simp) ?_
        refine AllReadyH.cons rfl (fun K hK => ?_) AllReadyH.nil
        go_simp
        refine (h1 _).mono ?_
        rintro e w' ⟨rfl, hw'⟩
        obtain rfl := hw'.symm
        go_wp2_with fail
        refine hK.out _ _ hHeld (fun hHeld => ?_)
        clear hK K hw' h1
        try simp only [Act.put, List.getElem_toArray, List.getElem_cons_succ, List.getElem_cons_zero, List.setIfInBounds_toArray, List.set_cons_zero, List.set_cons_succ]
        refine wpAnyH_ready (rs := [8]) (by kernel_rfl) (by simp) ?_
        refine AllReadyH.cons rfl (fun K hK => ?_) AllReadyH.nil
        go_simp
        refine (h2 _).mono ?_
        rintro e w' ⟨rfl, hw'⟩
        obtain rfl := hw'.symm
        go_wp2_with fail
        refine hK.out _ _ hHeld (fun hHeld => ?_)
        clear hK K hw' h2
        try simp only [Act.put, List.getElem_toArray, List.getElem_cons_succ, List.getElem_cons_zero, List.setIfInBounds_toArray, List.set_cons_zero, List.set_cons_succ]
        refine wpAnyH_ready (rs := [11]) (by kernel_rfl) (by simp) ?_
        refine AllReadyH.cons rfl (fun K hK => ?_) AllReadyH.nil
        go_simp
        refine (h3 _).mono ?_
        rintro e w' ⟨rfl, hw'⟩
        obtain rfl := hw'.symm
        go_wp2_with fail
        refine hK.out _ _ hHeld (fun hHeld => ?_)
        clear hK K hw' h3
        try simp only [Act.put, List.getElem_toArray, List.getElem_cons_succ, List.getElem_cons_zero, List.setIfInBounds_toArray, List.set_cons_zero, List.set_cons_succ]
        refine wpAnyH_ready (rs := [14]) (by kernel_rfl) (by simp) ?_
        refine AllReadyH.cons rfl (fun K hK => ?_) AllReadyH.nil
        go_simp
        refine (h4 _).mono ?_
        rintro e w' ⟨rfl, hw'⟩
        obtain rfl := hw'.symm
        go_wp2_with fail
        refine hK.out _ _ hHeld (fun hHeld => ?_)
        clear hK K hw' h4
        try simp only [Act.put, List.getElem_toArray, List.getElem_cons_succ, List.getElem_cons_zero, List.setIfInBounds_toArray, List.set_cons_zero, List.set_cons_succ]
        refine wpAnyH_take (i := 15) (v := (.int .i64 (1 + r4))) rfl (by kernel_rfl) (by kernel_rfl) (by kernel_rfl) (fun _ _ _ h => h) (Or.inl ⟨by rfl, fun wx hSw => by ((try dsimp only at hSw); go_simp)⟩) (by assumption) ?_
        simp only [Act.put, List.getElem_toArray, List.getElem_cons_succ, List.getElem_cons_zero, List.setIfInBounds_toArray, List.set_cons_zero, List.set_cons_succ]
        refine wpAnyH_ready (rs := [18]) (by kernel_rfl) (by simp) ?_
        refine AllReadyH.cons rfl (fun K hK => ?_) AllReadyH.nil
        go_simp
        refine (h5 _).mono ?_
        rintro e w' ⟨rfl, hw'⟩
        obtain rfl := hw'.symm
        go_wp2_with fail
        refine hK.out _ _ hHeld (fun hHeld => ?_)
        clear hK K hw' h5
        try simp only [Act.put, List.getElem_toArray, List.getElem_cons_succ, List.getElem_cons_zero, List.setIfInBounds_toArray, List.set_cons_zero, List.set_cons_succ]
        refine wpAnyH_take (i := 19) (v := (.int .i64 (1 + r5))) rfl (by kernel_rfl) (by kernel_rfl) (by kernel_rfl) (fun _ _ _ h => h) (Or.inl ⟨by rfl, fun wx hSw => by ((try dsimp only at hSw); go_simp)⟩) (by assumption) ?_
        simp only [Act.put, List.getElem_toArray, List.getElem_cons_succ, List.getElem_cons_zero, List.setIfInBounds_toArray, List.set_cons_zero, List.set_cons_succ]
        refine wpAnyH_take (i := 20) (v := (.agg (tml ⟨r0, r1, r2, r3, 1 + r4, 1 + r5⟩).toArray)) rfl (by kernel_rfl) (by kernel_rfl) (by kernel_rfl) (fun _ _ _ h => h) (Or.inl ⟨by rfl, fun wx hSw => by kernel_rfl⟩) (by assumption) ?_
        simp only [Act.put, List.getElem_toArray, List.getElem_cons_succ, List.getElem_cons_zero, List.setIfInBounds_toArray, List.set_cons_zero, List.set_cons_succ]
        refine wpAnyH_ready (rs := [21]) (by kernel_rfl) (by simp) ?_
        refine AllReadyH.cons rfl (fun K hK => ?_) AllReadyH.nil
        rw [if_pos (by rfl)]
        obtain ⟨t0, ht0⟩ := hHeld.2.1
        refine wp_store_mid 23 (.tmp 2) (.tmp 41) rfl _ 0 _ rfl rfl (ht0.there 6 rfl) (by kernel_rfl) (by kernel_rfl) ?_
        rw [List.toList_toArray]
        have hT1 : At (V1.setCells w.heap.size 0 (tml ⟨r0, r1, r2, r3, 1 + r4, 1 + r5⟩)) w.heap.size (tml ⟨r0, r1, r2, r3, 1 + r4, 1 + r5⟩) := At.setCells_same ht0 rfl
        have kT : Keep (fun x => x = w.heap.size) V1 (V1.setCells w.heap.size 0 (tml ⟨r0, r1, r2, r3, 1 + r4, 1 + r5⟩)) := Keep.setCells (S := fun x => x = w.heap.size) rfl _ _ _ (Keep.refl _ _)
        have hB : Below w.heap.size w (V1.setCells w.heap.size 0 (tml ⟨r0, r1, r2, r3, 1 + r4, 1 + r5⟩)) := ⟨kT.os.trans hHeld.2.2.os, kT.tape.trans hHeld.2.2.tape, kT.output.trans hHeld.2.2.output, Nat.le_trans hHeld.2.2.size kT.size, fun x hx => (kT.block x (Nat.lt_of_lt_of_le hx hHeld.2.2.size) (by omega)).trans (hHeld.2.2.block x hx)⟩
        refine hK.out _ _ ⟨hHeld.1.block (kT.block _ (At.lt (v := .int .i64 (f 0)) hHeld.1) (by omega)), ⟨_, hT1⟩, hB⟩ (fun _ => ?_)
        clear hK K ht0 kT hHeld
        generalize V1.setCells w.heap.size 0 (tml ⟨r0, r1, r2, r3, 1 + r4, 1 + r5⟩) = V2 at *
        refine wpAnyH_done (by kernel_rfl) ?_ _
        have d0 : V2.cell? ⟨w.heap.size, 0, none⟩ = some (.int .i64 r0) := hT1.cell 0 rfl
        have d1 : V2.cell? ⟨w.heap.size, 1, none⟩ = some (.int .i64 r1) := hT1.cell 1 rfl
        have d2 : V2.cell? ⟨w.heap.size, 2, none⟩ = some (.int .i64 r2) := hT1.cell 2 rfl
        have d3 : V2.cell? ⟨w.heap.size, 3, none⟩ = some (.int .i64 r3) := hT1.cell 3 rfl
        have d4 : V2.cell? ⟨w.heap.size, 4, none⟩ = some (.int .i64 (1 + r4)) := hT1.cell 4 rfl
        have d5 : V2.cell? ⟨w.heap.size, 5, none⟩ = some (.int .i64 (1 + r5)) := hT1.cell 5 rfl
        clear hT1
        go_wp2
        exact bodyPost_ret (v := .agg #[.int .i64 r0, .int .i64 r1, .int .i64 r2, .int .i64 r3, .int .i64 (1 + r4), .int .i64 (1 + r5)]) (by simp [results, Tryz.results13, go_sem, d0, d1, d2, d3, d4, d5]) rfl ⟨⟨_, HT.out, rfl⟩, hB⟩
end Go.Proofs.YtanndhoimpnhpaaGreatDoor
namespace Go.Proofs.YtanndhoimpnhpaaGreatDoor
open Go.ChangeShapes Go.WideShapes Go.RowKit Go.WideMaps Go.Maps Cal
theorem own_low {w : World} {base : Nat} {T : TypeId} {size : Nat} {v : Value} {n : Nat} {xs : List Value} (h : w.ownsRow base T size v n xs) : w.ownsRow 0 T size v n xs := by
  obtain ⟨h1, h2 | ⟨g, cap, cur, h3, _, h5⟩⟩ := h
  · exact ⟨h1, .inl h2⟩
  · exact ⟨h1, .inr ⟨g, cap, cur, h3, Nat.zero_le _, h5⟩⟩
def enl (e : En) : List Value := [.int .i64 e.d, .int .i64 e.k, .int .i64 e.a]
def EnV (w : World) (v : Value) (L : List En) : Prop :=
  ∃ p cap, v = .slice p L.length cap ∧ L.length ≤ cap ∧ ∀ k (hk : k < L.length), ∃ b o, p = some ⟨b, o, none⟩ ∧ b < w.heap.size ∧ w.rangeAt b (o + k * 3) (enl L[k])
theorem EnV.below {w w' : World} {v : Value} {L : List En} (h : EnV w v L) (hb : Below w.heap.size w w') : EnV w' v L := by
  obtain ⟨p, cap, h1, h2, h3⟩ := h
  refine ⟨p, cap, h1, h2, fun k hk => ?_⟩
  obtain ⟨b, o, h4, h5, h6⟩ := h3 k hk
  exact ⟨b, o, h4, Nat.lt_of_lt_of_le h5 hb.size, fun j u hu => (World.cell?_of_block (w := w) (a := ⟨b, o + k * 3 + j, none⟩) (hb.block b h5)).trans (h6 j u hu)⟩
theorem own_en {w : World} {base : Nat} {v : Value} {L : List En} (h : w.ownsRow base 114 3 v L.length (ens L)) : EnV w v L := by
  obtain ⟨hl, hn | ⟨g, cap, cur, rfl, hg⟩⟩ := id h
  · obtain ⟨rfl, hz⟩ := hn
    have hE : L = [] := List.length_eq_zero_iff.1 hz
    subst hE
    exact ⟨none, 0, rfl, Nat.le_refl _, fun k hk => absurd hk (Nat.not_lt_zero k)⟩
  · have hlt := (own_base h (b := g) rfl).2
    refine ⟨some ⟨g, 0, none⟩, cap, rfl, hg.2.2.1, fun k hk => ⟨g, 0, rfl, hlt, ?_⟩⟩
    obtain ⟨q0, q1, q2⟩ := en_range h rfl k hk
    intro j u hu
    rw [Nat.zero_add]
    match j, hu with
    | 0, hu => cases hu; exact q0
    | 1, hu => cases hu; exact q1
    | 2, hu => cases hu; exact q2
end Go.Proofs.YtanndhoimpnhpaaGreatDoor
namespace Go.Proofs.YtanndhoimpnhpaaGreatDoor
open Go.RowKit Cal
def posOf (q : Int) (l : List Ln.Ev) : Int := match l.findIdx? (fun e => e.s == q) with
  | some i => i
  | none => -1
theorem pos_none (q : Int) (l : List Ln.Ev) (h : ∀ j (hj : j < l.length), ¬ l[j].s = q) : posOf q l = -1 := by
  have : l.findIdx? (fun e => e.s == q) = none := by
    rw [List.findIdx?_eq_none_iff]
    intro x hx
    obtain ⟨j, hj, rfl⟩ := List.getElem_of_mem hx
    simpa using h j hj
  unfold posOf
  rw [this]
theorem pos_some (q : Int) (l : List Ln.Ev) (k : Nat) (hk : k < l.length) (h1 : l[k].s = q) (h : ∀ j (hj : j < l.length), j < k → ¬ l[j].s = q) : posOf q l = k := by
  have : l.findIdx? (fun e => e.s == q) = some k := by
    rw [List.findIdx?_eq_some_iff_getElem]
    exact ⟨hk, by simp [h1], fun j hj => by simpa using h j (by omega) hj⟩
  unfold posOf
  rw [this]
theorem EvAt.range {w : World} {E : Nat} {p : Option Addr} {l : List Ln.Ev} (h : EvAt w E p l) (k : Nat) (hk : k < l.length) : ∃ o, p = some ⟨E, o, none⟩ ∧ E < w.heap.size ∧ w.rangeAt E (o + k * 4) (evl l[k]) := by
  obtain ⟨o, h1, h2, c0, c1, c2, c3⟩ := h k hk
  refine ⟨o, h1, h2, fun j v hv => ?_⟩
  match j, hv with
  | 0, hv => cases hv; exact c0
  | 1, hv => cases hv; exact c1
  | 2, hv => cases hv; exact c2
  | 3, hv => cases hv; exact c3
theorem seqPred (W : World) (N : Nat) (q : Int) (hN : N < W.heap.size) (hc : W.cell? ⟨N, 0, none⟩ = some (.int .i64 q)) (x : Ln.Ev) :
    Calls Tryz.prog 84 #[evV x, .pointer (some ⟨N, 0, none⟩)] W fun e w' => e = .returned (.bool (x.s == q)) ∧ Below W.heap.size W w' := by
  have hne : N ≠ W.heap.size := by omega
  unfold evV evl
  go_enter Tryz.func84, Tryz.ntmps84
  go_wp2
  go_ret
  exact ⟨rfl, (Below.refl _ _).alloc (Nat.le_refl _) _⟩
set_option maxRecDepth 10000 in
set_option maxHeartbeats 4000000 in
theorem indexFunc_any (w : World) (E : Nat) (v : Value) (l : List Ln.Ev) (h : EvV w E v l) (hl : l.length ≤ 1000000) (N : Nat) (q : Int) (hN : N < w.heap.size) (hc : w.cell? ⟨N, 0, none⟩ = some (.int .i64 q)) :
    Calls Tryz.prog 83 #[v, .func (.func 84) #[] #[.pointer (some ⟨N, 0, none⟩)]] w fun e w' => e = .returned (.int .i64 (posOf q l)) ∧ Below w.heap.size w w' := by
  obtain ⟨p, cap, rfl, hcap, hat⟩ := h
  have HAt : Hid (EvAt w E p l) := hat
  have HC : Hid (w.cell? ⟨N, 0, none⟩ = some (.int .i64 q)) := hc
  clear hat hc
  go_enter Tryz.func83, Tryz.ntmps83
  go_wp2
  go_loopw [5, 8] (fun _ i wr => ∃ k : Nat, k ≤ l.length ∧ i = .int .i64 k ∧ Below w.heap.size w wr ∧ ∀ j (hj : j < l.length), j < k → ¬ l[j].s = q) (fun _ i _ => (l.length - intOf i).toNat)
  case atStart => exact ⟨0, Nat.zero_le _, rfl, Below.refl _ _, fun j _ h => absurd h (Nat.not_lt_zero j)⟩
  case round =>
    obtain ⟨k, hk, rfl, hbw, hlow⟩ := hrel
    have HB : Hid (Below w.heap.size w wr) := hbw
    have HL : Hid (∀ j (hj : j < l.length), j < k → ¬ l[j].s = q) := hlow
    clear hlow hbw
    by_cases hlt : k < l.length
    · obtain ⟨o, rfl, hEl, hr⟩ := HAt.out.range k hlt
      have hbk := HB.out.block E hEl
      have hr2 : wr.rangeAt E (o + k * 4) (evl l[k]) := fun j u hu => (World.cell?_of_block (w := w) (a := ⟨E, o + k * 4 + j, none⟩) hbk).trans (hr j u hu)
      have hcW : wr.cell? ⟨N, 0, none⟩ = some (.int .i64 q) := (HB.out.cell (p := ⟨N, 0, none⟩) hN).trans HC.out
      have hp := seqPred wr N q (Nat.lt_of_lt_of_le hN HB.out.size) hcW l[k]
      have HC1 : Hid (l[k].s = q → posOf q l = k) := fun he => pos_some q l k hlt he HL.out
      have HD : Hid (¬ l[k].s = q → ∀ j (hj : j < l.length), j < k + 1 → ¬ l[j].s = q) := fun he j hj hjk => by
        by_cases e : j = k
        · subst e; exact he
        · exact HL.out j hj (by omega)
      clear HL hr hcW
      unfold evV at hp
      generalize l[k] = x at *
      have hlt2 : (k : Int) < (l.length : Int) := by omega
      go_upto_region 4 with fail
      refine wp_region_lit ?_
      refine wpList_val (.func (.func 84) #[] #[.pointer (some ⟨N, 0, none⟩)]) wr rfl rfl ?_
      simp only [Act.put, List.setIfInBounds_toArray, List.set_cons_zero, List.set_cons_succ]
      refine wpList_val (.slice (some ⟨E, o, none⟩) l.length cap) wr rfl rfl ?_
      simp only [Act.put, List.setIfInBounds_toArray, List.set_cons_zero, List.set_cons_succ]
      refine wpList_val (.int .i64 k) wr rfl rfl ?_
      simp only [Act.put, List.setIfInBounds_toArray, List.set_cons_zero, List.set_cons_succ]
      refine wpList_val (.pointer (some ⟨E, o + k * 4, none⟩)) wr rfl (by go_simp) ?_
      simp only [Act.put, List.setIfInBounds_toArray, List.set_cons_zero, List.set_cons_succ]
      refine wpList_load_mid rfl 50 (.tmp 14) rfl _ _ rfl (evl x) _ hr2 Tryz.underlying50 rfl (by kernel_rfl) ?_
      simp only [Act.put, List.setIfInBounds_toArray, List.set_cons_zero, List.set_cons_succ]
      clear hr2 hbk
      cases hq : (x.s == q) with
      | true =>
        have hq2 : x.s = q := by simpa using hq
        rw [hq] at hp
        have HX : Hid (posOf q l = k) := HC1.out hq2
        clear HC1 HD hq hq2
        go_wp2_with fail
        refine hp.mono ?_
        rintro e w' ⟨rfl, hb'⟩
        go_wp2
        go_ret
        exact ⟨by rw [HX.out]; rfl, HB.out.trans (hb'.mono HB.out.size)⟩
      | false =>
        have hq2 : ¬ x.s = q := by simpa using hq
        rw [hq] at hp
        have HX := HD.out hq2
        have HX : Hid (∀ j (hj : j < l.length), j < k + 1 → ¬ l[j].s = q) := HX
        clear HC1 HD hq hq2
        go_wp2_with fail
        refine hp.mono ?_
        rintro e w' ⟨rfl, hb'⟩
        go_wp2
        exact ⟨⟨k + 1, hlt, rfl, HB.out.trans (hb'.mono HB.out.size), HX.out⟩, by simp [intOf]; omega⟩
    · obtain rfl : k = l.length := by omega
      have HX : Hid (posOf q l = -1) := pos_none q l (fun j hj => HL.out j hj hj)
      go_wp2
      go_ret
      exact ⟨by rw [HX.out]; rfl, HB.out⟩
set_option maxHeartbeats 1000000 in
theorem placeOfSeq_any (w : World) (E : Nat) (v : Value) (l : List Ln.Ev) (h : EvV w E v l) (hl : l.length ≤ 1000000) (q : Int) :
    Calls Tryz.prog 50 #[v, .int .i64 q] w fun e w' => e = .returned (.int .i64 (posOf q l)) ∧ Below w.heap.size w w' := by
  have b0 : Below w.heap.size w (w.alloc (.cells #[.int .i64 q] 3)) := (Below.refl _ _).alloc (Nat.le_refl _) _
  have hI := indexFunc_any (w.alloc (.cells #[.int .i64 q] 3)) E v l (h.keep (S := fun _ => False) (Keep.below b0) (fun _ x => x)) hl w.heap.size q (by simp) (by simp)
  obtain ⟨p, cap, rfl, _⟩ := h
  go_enter Tryz.func50, Tryz.ntmps50
  go_wp2_with fail
  refine hI.mono ?_
  rintro e w1 ⟨rfl, hb1⟩
  clear hI
  go_wp2
  go_ret
  exact ⟨rfl, b0.trans (hb1.mono b0.size)⟩
end Go.Proofs.YtanndhoimpnhpaaGreatDoor
namespace Go.Proofs.YtanndhoimpnhpaaGreatDoor
open Go.RowKit Cal
def cmpI (x y : Int) : Int := if x < y then -1 else if y < x then 1 else 0
def orI (a b c : Int) : Int := if ¬ a = 0 then a else if ¬ b = 0 then b else c
def cmpE (a b : Ln.Ev) : Int := orI (cmpI a.d b.d) (cmpI a.k b.k) (cmpI a.s b.s)
theorem cmpE_lt (a b : Ln.Ev) : cmpE a b < 0 ↔ So.Ah a b := by
  rw [So.ah_iff]
  unfold cmpE orI cmpI
  by_cases h1 : a.d < b.d
  · simp [h1]
  · by_cases h2 : b.d < a.d
    · simp [h1, h2]
      omega
    · have h3 : a.d = b.d := by omega
      simp [h3]
      by_cases h4 : a.k < b.k
      · simp [h4]
      · by_cases h5 : b.k < a.k
        · simp [h4, h5]
          omega
        · have h6 : a.k = b.k := by omega
          simp [h6]
          by_cases h7 : a.s < b.s
          · simp [h7]
          · simp [h7]
            split <;> omega
theorem cmp_any (x y : Int) (w : World) :
    Calls Tryz.prog 86 #[.int .i64 x, .int .i64 y] w fun e w' => e = .returned (.int .i64 (cmpI x y)) ∧ w' = w := by
  unfold cmpI
  by_cases h1 : x < y
  · rw [if_pos h1]
    go_enter Tryz.func86, Tryz.ntmps86
    go_wp2
    go_ret
    exact ⟨rfl, rfl⟩
  · by_cases h2 : y < x
    · rw [if_neg h1, if_pos h2]
      go_enter Tryz.func86, Tryz.ntmps86
      go_wp2
      go_ret
      exact ⟨rfl, rfl⟩
    · rw [if_neg h1, if_neg h2]
      go_enter Tryz.func86, Tryz.ntmps86
      go_wp2
      go_ret
      exact ⟨rfl, rfl⟩
set_option maxHeartbeats 1000000 in
theorem or_any (a b c : Int) (N cap : Nat) (w : World) (h0 : w.cell? ⟨N, 0, none⟩ = some (.int .i64 a)) (h1 : w.cell? ⟨N, 1, none⟩ = some (.int .i64 b)) (h2 : w.cell? ⟨N, 2, none⟩ = some (.int .i64 c)) :
    Calls Tryz.prog 85 #[.slice (some ⟨N, 0, none⟩) 3 cap] w fun e w' => e = .returned (.int .i64 (orI a b c)) ∧ w' = w := by
  have HR : Hid (orI a b c = if ¬ a = 0 then a else if ¬ b = 0 then b else c) := rfl
  generalize orI a b c = r at *
  go_enter Tryz.func85, Tryz.ntmps85
  go_wp2
  go_loop [5, 8] (fun _ i => ∃ k : Nat, k ≤ 3 ∧ i = .int .i64 k ∧ (1 ≤ k → a = 0) ∧ (2 ≤ k → b = 0) ∧ (3 ≤ k → c = 0)) (fun _ i => (3 - intOf i).toNat)
  case atStart => exact ⟨0, Nat.zero_le _, rfl, fun h => by omega, fun h => by omega, fun h => by omega⟩
  case round =>
    obtain ⟨k, hk, rfl, ha, hb, hc⟩ := hrel
    rcases (show k = 0 ∨ k = 1 ∨ k = 2 ∨ k = 3 by omega) with rfl | rfl | rfl | rfl
    · clear ha hb hc
      by_cases z : a = 0
      · have hz : (a != 0) = false := by simp [z]
        go_wp2
        exact ⟨⟨1, by omega, rfl, fun _ => z, fun h => by omega, fun h => by omega⟩, by simp [intOf]⟩
      · have hz : (a != 0) = true := by simp [z]
        go_wp2
        go_ret
        exact ⟨by rw [HR.out, if_pos z]; rfl, rfl⟩
    · have za := ha (by omega)
      have ZA : Hid (a = 0) := za
      clear ha hb hc za
      by_cases z : b = 0
      · have hz : (b != 0) = false := by simp [z]
        go_wp2
        exact ⟨⟨2, by omega, rfl, fun _ => ZA.out, fun _ => z, fun h => by omega⟩, by simp [intOf]⟩
      · have hz : (b != 0) = true := by simp [z]
        go_wp2
        go_ret
        exact ⟨by rw [HR.out, if_neg (by simp [ZA.out]), if_pos z]; rfl, rfl⟩
    · have ZA : Hid (a = 0) := ha (by omega)
      have ZB : Hid (b = 0) := hb (by omega)
      clear ha hb hc
      by_cases z : c = 0
      · have hz : (c != 0) = false := by simp [z]
        go_wp2
        exact ⟨⟨3, by omega, rfl, fun _ => ZA.out, fun _ => ZB.out, fun _ => z⟩, by simp [intOf]⟩
      · have hz : (c != 0) = true := by simp [z]
        go_wp2
        go_ret
        exact ⟨by rw [HR.out, if_neg (by simp [ZA.out]), if_neg (by simp [ZB.out])]; rfl, rfl⟩
    · have ZA : Hid (a = 0) := ha (by omega)
      have ZB : Hid (b = 0) := hb (by omega)
      have ZC : Hid (c = 0) := hc (by omega)
      clear ha hb hc
      go_wp2
      go_ret
      exact ⟨by rw [HR.out, if_neg (by simp [ZA.out]), if_neg (by simp [ZB.out]), ZC.out]; rfl, rfl⟩
end Go.Proofs.YtanndhoimpnhpaaGreatDoor
