import Derived.Test.YtanndhoimpnhpaaGreatDoorM26
import Derived.Test.YtanndhoimpnhpaaGreatDoorM6
import Derived.Test.YtanndhoimpnhpaaGreatDoorM17
namespace Go.Proofs.YtanndhoimpnhpaaGreatDoor
open Go.ChangeShapes Go.WideShapes Go.ChangeAt Go.RowKit Lg Cal
def RnPost (w : World) (B R b0 : Nat) (s : List UInt8) (sv : Sv) (F : Nat → Prop) (e : Ending) (w' : World) : Prop :=
  Below b0 w w' ∧ ((∃ s' sv', e = .returned (.bool true) ∧ tl 1 (some sv) s = tl 3 (some sv') s' ∧ At w' R [.string (bs s')] ∧ IsL w' B sv' (Wd F w w') ∧ Lq s' s ∧ sv'.L = sv.L ∧ sv'.t = sv.t ∧ sv.t.st ≤ sv'.day ∧ sv'.day ≤ sv.t.st + 3700) ∨ (e = .returned (.bool false) ∧ tl 1 (some sv) s = none))
theorem ll_tm (t : Ln.Terms) (evv : Value) (g : Ln.St) (day : Int) (bk : Value) : ∀ j v, (tml t)[j]? = some v → (ll t evv g day bk)[0 + j]? = some v := fun j v hj => by
  match j, hj with
  | 0, hj => exact hj
  | 1, hj => exact hj
  | 2, hj => exact hj
  | 3, hj => exact hj
  | 4, hj => exact hj
  | 5, hj => exact hj
theorem at_day {w w' : World} {B : Nat} {t : Ln.Terms} {evv evv' : Value} {g g' : Ln.St} {day day' : Int} {bk bk' : Value} (h : At w B (ll t evv g day bk)) (h' : At w' B (ll t evv g' day' bk)) {g1 : Ln.St} {d1 : Int} (k : At w B (ll t evv' g1 d1 bk')) : At w' B (ll t evv' g' day' bk') := by
  have e1 : evv = evv' := Option.some.inj ((h.cell 6 rfl).symm.trans (k.cell 6 rfl))
  have e2 : bk = bk' := Option.some.inj ((h.cell 15 rfl).symm.trans (k.cell 15 rfl))
  subst e1 e2
  exact h'
set_option maxRecDepth 10000 in
set_option maxHeartbeats 4000000 in
theorem readnow_any (w : World) (B R b0 : Nat) (s : List UInt8) (sv : Sv) (F : Nat → Prop) (hL : IsL w B sv F) (hR : At w R [.string (bs s)]) (hF : ∀ x, F x → b0 ≤ x ∧ x < w.heap.size ∧ ¬ x = R) (hb0 : b0 ≤ R) (hs : Sh s) (hne : ¬ ∃ ns r, Nx s wEvent 4 ns r) (hg : ∀ wx, Below b0 w wx → Gl wx) :
    Calls Tryz.prog 75 #[.pointer (some ⟨B, 0, none⟩), .pointer (some ⟨R, 0, none⟩)] w (RnPost w B R b0 s sv F) := by
  obtain ⟨evv, bk, hA, hFB⟩ := hL.at
  obtain ⟨hB0, hBl, hBR⟩ := hF B hFB
  have hRl : R < w.heap.size := At.lt hR
  obtain ⟨hst0, hst1⟩ : 0 ≤ sv.t.st ∧ sv.t.st ≤ 105872 := by obtain ⟨_, _, _, _, h1, _⟩ := id hL; exact ⟨h1.ot.st0, h1.ot.st1⟩
  have hB1 : Below w.heap.size w (w.drew.alloc (.cells #[.pointer (some ⟨B, 14, none⟩)] 110)) := (Below.refl _ _).drew.alloc (Nat.le_refl _) _
  have hPt : Pt (w.drew.alloc (.cells #[.pointer (some ⟨B, 14, none⟩)] 110)) R (.slice (some ⟨w.heap.size, 0, none⟩) 1 1) B 14 1 := by
    have := Pt.made w R B 14 1 hRl hBl
    exact this
  have hRd1 := read_any (w.drew.alloc (.cells #[.pointer (some ⟨B, 14, none⟩)] 110)) R s wAt B 14 1 (ll sv.t evv sv.g sv.day bk) _ (hR.lower hB1) hs hPt (hA.lower hB1) (show 14 + 1 ≤ 16 by decide) hBR (noB_wdk 2 (by omega)) (noL_wdk 2 (by omega)) (by decide) (by omega) (hg _ (hB1.mono (by omega)))
  have HT1 : Hid ((w.drew.alloc (.cells #[.pointer (some ⟨B, 14, none⟩)] 110)).rangeAt B 0 (tml sv.t)) := (hA.lower hB1).mid 0 _ (ll_tm sv.t evv sv.g sv.day bk)
  have HT0 : Hid (w.drew.rangeAt B 0 (tml sv.t)) := hA.drew.mid 0 _ (ll_tm sv.t evv sv.g sv.day bk)
  have HRd1 : Hid (Calls Tryz.prog 73 #[.pointer (some ⟨R, 0, none⟩), .string (bs wAt), .slice (some ⟨w.heap.size, 0, none⟩) 1 1] (w.drew.alloc (.cells #[.pointer (some ⟨B, 14, none⟩)] 110)) (RdPost (w.drew.alloc (.cells #[.pointer (some ⟨B, 14, none⟩)] 110)) R s wAt B 14 1 (ll sv.t evv sv.g sv.day bk))) := hRd1
  have HB1 : Hid (Below w.heap.size w (w.drew.alloc (.cells #[.pointer (some ⟨B, 14, none⟩)] 110))) := hB1
  have HA1 : Hid (At (w.drew.alloc (.cells #[.pointer (some ⟨B, 14, none⟩)] 110)) B (ll sv.t evv sv.g sv.day bk)) := hA.lower hB1
  have HL1 : Hid (IsL (w.drew.alloc (.cells #[.pointer (some ⟨B, 14, none⟩)] 110)) B sv F) := hL.keep (S := fun _ => False) (Keep.below hB1) (fun _ _ x => x)
  have HF : Hid (∀ x, F x → b0 ≤ x ∧ x < w.heap.size ∧ ¬ x = R) := hF
  have HG : Hid (∀ wx, Below b0 w wx → Gl wx) := hg
  have HNe : Hid (¬ ∃ ns r, Nx s wEvent 4 ns r) := hne
  clear hRd1 hB1 hL hA hR hF hg hne hPt hFB
  go_enter Tryz.func75, Tryz.ntmps75
  go_upto_region 1 with fail
  refine wp_region_held_drew (S := fun wx => wx.rangeAt B 0 (tml sv.t)) (by kernel_rfl) HT0.out (fun hHeld => ?_)
  refine wpAnyH_take (i := 0) (v := (.pointer (some ⟨R, 0, none⟩))) rfl (by kernel_rfl) (by kernel_rfl) (by kernel_rfl) (fun _ _ _ h => h) (Or.inl ⟨by rfl, fun wx hSw => by kernel_rfl⟩) (by assumption) ?_
  simp only [Act.put, List.getElem_toArray, List.getElem_cons_zero, List.setIfInBounds_toArray, List.set_cons_zero, List.set_cons_succ]
  refine wpAnyH_take (i := 1) (v := (.pointer (some ⟨B, 0, none⟩))) rfl (by kernel_rfl) (by kernel_rfl) (by kernel_rfl) (fun _ _ _ h => h) (Or.inl ⟨by rfl, fun wx hSw => by kernel_rfl⟩) (by assumption) ?_
  simp only [Act.put, List.getElem_toArray, List.getElem_cons_succ, List.getElem_cons_zero, List.setIfInBounds_toArray, List.set_cons_zero, List.set_cons_succ]
  refine wpAnyH_take (i := 2) (v := (.pointer (some ⟨B, 0, none⟩))) rfl (by kernel_rfl) (by kernel_rfl) (by kernel_rfl) (fun _ _ _ h => h) (Or.inl ⟨by rfl, fun wx hSw => by ((try dsimp only at hSw); go_simp)⟩) (by assumption) ?_
  simp only [Act.put, List.getElem_toArray, List.getElem_cons_succ, List.getElem_cons_zero, List.setIfInBounds_toArray, List.set_cons_zero, List.set_cons_succ]
  refine wpAnyH_take (i := 3) (v := (.pointer (some ⟨B, 7, none⟩))) rfl (by kernel_rfl) (by kernel_rfl) (by kernel_rfl) (fun _ _ _ h => h) (Or.inl ⟨by rfl, fun wx hSw => by ((try dsimp only at hSw); go_simp)⟩) (by assumption) ?_
  simp only [Act.put, List.getElem_toArray, List.getElem_cons_succ, List.getElem_cons_zero, List.setIfInBounds_toArray, List.set_cons_zero, List.set_cons_succ]
  refine wpAnyH_take (i := 4) (v := (.pointer (some ⟨B, 14, none⟩))) rfl (by kernel_rfl) (by kernel_rfl) (by kernel_rfl) (fun _ _ _ h => h) (Or.inl ⟨by rfl, fun wx hSw => by ((try dsimp only at hSw); go_simp)⟩) (by assumption) ?_
  simp only [Act.put, List.getElem_toArray, List.getElem_cons_succ, List.getElem_cons_zero, List.setIfInBounds_toArray, List.set_cons_zero, List.set_cons_succ]
  refine wpAnyH_ready (rs := [5]) (by kernel_rfl) (by simp) ?_
  refine AllReadyH.cons rfl (fun K hK => ?_) AllReadyH.nil
  rw [if_pos (by rfl)]
  refine wp_valD (.slice (some ⟨w.heap.size, 0, none⟩) 1 1) (w.drew.alloc (.cells #[.pointer (some ⟨B, 14, none⟩)] 110)) (by kernel_rfl) ?_
  refine hK.out _ _ HT1.out (fun hHeld => ?_)
  clear hK K HT0
  try simp only [Act.put, List.getElem_toArray, List.getElem_cons_succ, List.getElem_cons_zero, List.setIfInBounds_toArray, List.set_cons_zero, List.set_cons_succ]
  refine wpAnyH_ready (rs := [6]) (by kernel_rfl) (by simp) ?_
  refine AllReadyH.cons rfl (fun K hK => ?_) AllReadyH.nil
  generalize w.drew.alloc (.cells #[.pointer (some ⟨B, 14, none⟩)] 110) = U1 at *
  have hRd1 := HRd1.out
  go_simp
  refine hRd1.mono ?_
  rintro e w3 hx
  clear hRd1 HRd1
  rcases hx with ⟨ns, r, hnx, rfl, hR3, hA3, hk3⟩ | ⟨hno, rfl, hb3⟩
  · obtain ⟨n, rfl⟩ : ∃ n, ns = [n] := by
      match ns, hnx.2.1 with
      | [n], _ => exact ⟨n, rfl⟩
    have hA3 : At w3 B (ll sv.t evv sv.g n bk) := hA3
    have hRF : ¬ F R := fun h => (HF.out R h).2.2 rfl
    have HL3 : Hid (IsL w3 B { sv with day := n } F) := HL1.out.owe hRF sv.g n (fun evv' bk' h => by
      have := h
      exact at_day HA1.out hA3 h) hk3
    have HB3 : Hid (Below b0 w w3 ∧ w.heap.size ≤ w3.heap.size) := by
      refine ⟨⟨hk3.os.trans HB1.out.os, hk3.tape.trans HB1.out.tape, hk3.output.trans HB1.out.output, Nat.le_trans HB1.out.size hk3.size, fun b hb => (hk3.block b ?_ ?_).trans (HB1.out.block b (by omega))⟩, Nat.le_trans HB1.out.size hk3.size⟩
      · have := HB1.out.size; omega
      · intro h
        rcases h with h | h <;> omega
    have HNx : Hid (Nx s (wdk 2) (cnk 2) [n] r) := hnx
    have HR3 : Hid (At w3 R [.string (bs r)]) := hR3
    have HA3 : Hid (At w3 B (ll sv.t evv sv.g n bk)) := hA3
    have HSS : Hid (∀ wx, Below w3.heap.size w3 wx → wx.rangeAt B 0 (tml sv.t)) := fun wx hx => (HA3.out.lower hx).mid 0 _ (ll_tm sv.t evv sv.g n bk)
    have HDy : Hid (∀ wx, Below w3.heap.size w3 wx → wx.cell? ⟨B, 14, none⟩ = some (.int .i64 n)) := fun wx hx => (HA3.out.lower hx).cell 14 rfl
    have HNo : Hid (∀ wx, Below w3.heap.size w3 wx → ¬ (sv.t.st ≤ n ∧ n ≤ sv.t.st + 3700) → RnPost w B R b0 s sv F (.returned (.bool false)) wx) := fun wx hx hr => by
      refine ⟨HB3.out.1.trans (hx.mono (by have := HB3.out.2; omega)), .inr ⟨rfl, tl_fail (k := 2) (by omega) HNx.out ?_⟩⟩
      show sv.read 2 [n] = none
      simp only [Sv.read]
      rw [if_neg hr]
    have HRd2 : Hid (∀ wx, Below w3.heap.size w3 wx → (sv.t.st ≤ n ∧ n ≤ sv.t.st + 3700) → Calls Tryz.prog 73 #[.pointer (some ⟨R, 0, none⟩), .string (bs wNow), .slice (some ⟨wx.heap.size, 0, none⟩) 7 7] (wx.drew.alloc (.cells (ptrs B 7 7).toArray 110)) fun e w' => ∃ x, e = .returned (.bool x) ∧ w'.rangeAt B 0 (tml sv.t) ∧ RnPost w B R b0 s sv F (.returned (.bool x)) w') := fun wx hx hr => by
      have hy : Below wx.heap.size wx (wx.drew.alloc (.cells (ptrs B 7 7).toArray 110)) := (Below.refl _ _).drew.alloc (Nat.le_refl _) _
      have hz := hx.trans (hy.mono hx.size)
      have hw3 := HB3.out.2
      have hzs := hz.size
      have hbz : Below b0 w (wx.drew.alloc (.cells (ptrs B 7 7).toArray 110)) := HB3.out.1.trans (hz.mono (by omega))
      have hless := nx_less HNx.out
      have htl : tl 1 (some sv) s = tl 2 (some { sv with day := n }) r := tl_go (j := 1) (k := 2) (by omega) HNx.out (by decide) (by
        show sv.read 2 [n] = _
        simp only [Sv.read]
        rw [if_pos hr])
      refine (read_any _ R r wNow B 7 7 (ll sv.t evv sv.g n bk) _ (HR3.out.lower hz) ((Lq.nx (noL_wdk 2 (by omega)) HNx.out).2 hs) (Pt.made wx R B 7 7 (by have := hx.size; omega) (by have := hx.size; omega)) (HA3.out.lower hz) (show 7 + 7 ≤ 16 by decide) hBR (noB_wdk 3 (by omega)) (noL_wdk 3 (by omega)) (by decide) (by omega) (HG.out _ hbz)).mono ?_
      rintro e w8 hx8
      rcases hx8 with ⟨ms, q, hn8, rfl, hR8, hA8, hk8⟩ | ⟨hno8, rfl, hb8⟩
      · obtain ⟨a0, a1, a2, a3, a4, a5, a6, rfl⟩ : ∃ a0 a1 a2 a3 a4 a5 a6, ms = [a0, a1, a2, a3, a4, a5, a6] := by
          match ms, hn8.2.1 with
          | [a0, a1, a2, a3, a4, a5, a6], _ => exact ⟨a0, a1, a2, a3, a4, a5, a6, rfl⟩
        have hA8 : At w8 B (ll sv.t evv ⟨a0, a1, a2, a3, a4, a5, a6, 0, 0, 0⟩ n bk) := hA8
        refine ⟨true, rfl, hA8.mid 0 _ (ll_tm _ _ _ _ _), ?_, .inl ⟨q, { sv with g := ⟨a0, a1, a2, a3, a4, a5, a6, 0, 0, 0⟩, day := n }, rfl, ?_, hR8, ?_, ?_, rfl, rfl, hr.1, hr.2⟩⟩
        · refine ⟨hk8.os.trans hbz.os, hk8.tape.trans hbz.tape, hk8.output.trans hbz.output, Nat.le_trans hbz.size hk8.size, fun b hb => (hk8.block b (by omega) (fun h => ?_)).trans (hbz.block b hb)⟩
          rcases h with h | h <;> omega
        · rw [htl]
          exact tl_go (j := 2) (k := 3) (by omega) hn8 (by decide) rfl
        · refine Lo.mono ((HL3.out.keep (S := fun _ => False) (Keep.below hz) (fun _ _ x => x)).owe hRF ⟨a0, a1, a2, a3, a4, a5, a6, 0, 0, 0⟩ n (fun evv' bk' h => at_day (HA3.out.lower hz) hA8 h) hk8) (fun x _ hx => .inl hx)
        · exact (Lq.nx (noL_wdk 3 (by omega)) hn8).trans (Lq.nx (noL_wdk 2 (by omega)) HNx.out)
      · refine ⟨false, rfl, (HA3.out.lower (hz.trans (hb8.mono hzs))).mid 0 _ (ll_tm _ _ _ _ _), hbz.trans (hb8.mono (by omega)), .inr ⟨rfl, ?_⟩⟩
        rw [htl]
        refine tl_none (by decide) (fun k hk hn => ?_)
        match k, hk with
        | 0, _ => exact absurd hn (by decide)
        | 1, _ => exact absurd hn (by decide)
        | 2, _ => exact absurd hn (by decide)
        | 3, _ => exact hno8
        | 4, _ => exact absurd hn (by decide)
        | 5, _ => exact absurd hn (by decide)
    have hS3 := HSS.out w3 (Below.refl _ _)
    clear hnx hR3 hA3 hk3 hRF HL1 HA1 HB1 HT1
    go_wp2_with fail
    refine hK.out _ _ hS3 (fun hHeld => ?_)
    clear hK K hS3
    try simp only [Act.put, List.getElem_toArray, List.getElem_cons_succ, List.getElem_cons_zero, List.setIfInBounds_toArray, List.set_cons_zero, List.set_cons_succ]
    refine wpAnyH_take (i := 7) (v := (.bool true)) rfl (by kernel_rfl) (by kernel_rfl) (by kernel_rfl) (fun _ _ _ h => h) (Or.inl ⟨by rfl, fun wx hSw => by kernel_rfl⟩) (by assumption) ?_
    simp only [Act.put, List.getElem_toArray, List.getElem_cons_succ, List.getElem_cons_zero, List.setIfInBounds_toArray, List.set_cons_zero, List.set_cons_succ]
    refine wpAnyH_take (i := 8) (v := (.pointer (some ⟨B, 0, none⟩))) rfl (by kernel_rfl) (by kernel_rfl) (by kernel_rfl) (fun _ _ _ h => h) (Or.inl ⟨by rfl, fun wx hSw => by kernel_rfl⟩) (by assumption) ?_
    simp only [Act.put, List.getElem_toArray, List.getElem_cons_succ, List.getElem_cons_zero, List.setIfInBounds_toArray, List.set_cons_zero, List.set_cons_succ]
    refine wpAnyH_take (i := 9) (v := (.pointer (some ⟨B, 0, none⟩))) rfl (by kernel_rfl) (by kernel_rfl) (by kernel_rfl) (fun _ _ _ h => h) (Or.inl ⟨by rfl, fun wx hSw => by ((try dsimp only at hSw); go_simp)⟩) (by assumption) ?_
    simp only [Act.put, List.getElem_toArray, List.getElem_cons_succ, List.getElem_cons_zero, List.setIfInBounds_toArray, List.set_cons_zero, List.set_cons_succ]
    refine wpAnyH_take (i := 10) (v := (.pointer (some ⟨B, 0, none⟩))) rfl (by kernel_rfl) (by kernel_rfl) (by kernel_rfl) (fun _ _ _ h => h) (Or.inl ⟨by rfl, fun wx hSw => by ((try dsimp only at hSw); go_simp)⟩) (by assumption) ?_
    simp only [Act.put, List.getElem_toArray, List.getElem_cons_succ, List.getElem_cons_zero, List.setIfInBounds_toArray, List.set_cons_zero, List.set_cons_succ]
    refine wpAnyH_take (i := 11) (v := (.agg (tml sv.t).toArray)) rfl (by kernel_rfl) (by kernel_rfl) (by kernel_rfl) (fun _ _ _ h => h) (yieldsIf_load_mid (by rfl) 23 (.tmp 15) rfl _ _ rfl _ _ (fun _ h => h) Tryz.underlying23 rfl (by kernel_rfl)) (by assumption) ?_
    simp only [Act.put, List.getElem_toArray, List.getElem_cons_succ, List.getElem_cons_zero, List.setIfInBounds_toArray, List.set_cons_zero, List.set_cons_succ]
    refine wpAnyH_take (i := 13) (v := (.pointer (some ⟨B, 0, none⟩))) rfl (by kernel_rfl) (by kernel_rfl) (by kernel_rfl) (fun _ _ _ h => h) (Or.inl ⟨by rfl, fun wx hSw => by kernel_rfl⟩) (by assumption) ?_
    simp only [Act.put, List.getElem_toArray, List.getElem_cons_succ, List.getElem_cons_zero, List.setIfInBounds_toArray, List.set_cons_zero, List.set_cons_succ]
    refine wpAnyH_take (i := 14) (v := (.pointer (some ⟨B, 0, none⟩))) rfl (by kernel_rfl) (by kernel_rfl) (by kernel_rfl) (fun _ _ _ h => h) (Or.inl ⟨by rfl, fun wx hSw => by ((try dsimp only at hSw); go_simp)⟩) (by assumption) ?_
    simp only [Act.put, List.getElem_toArray, List.getElem_cons_succ, List.getElem_cons_zero, List.setIfInBounds_toArray, List.set_cons_zero, List.set_cons_succ]
    refine wpAnyH_take (i := 15) (v := (.pointer (some ⟨B, 7, none⟩))) rfl (by kernel_rfl) (by kernel_rfl) (by kernel_rfl) (fun _ _ _ h => h) (Or.inl ⟨by rfl, fun wx hSw => by ((try dsimp only at hSw); go_simp)⟩) (by assumption) ?_
    simp only [Act.put, List.getElem_toArray, List.getElem_cons_succ, List.getElem_cons_zero, List.setIfInBounds_toArray, List.set_cons_zero, List.set_cons_succ]
    refine wpAnyH_take (i := 16) (v := (.pointer (some ⟨B, 14, none⟩))) rfl (by kernel_rfl) (by kernel_rfl) (by kernel_rfl) (fun _ _ _ h => h) (Or.inl ⟨by rfl, fun wx hSw => by ((try dsimp only at hSw); go_simp)⟩) (by assumption) ?_
    simp only [Act.put, List.getElem_toArray, List.getElem_cons_succ, List.getElem_cons_zero, List.setIfInBounds_toArray, List.set_cons_zero, List.set_cons_succ]
    refine wpAnyH_ready (rs := [12, 17]) (by kernel_rfl) (by simp) ?_
    refine AllReadyH.cons rfl (fun K hK => ?_) (AllReadyH.cons rfl (fun K hK => ?_) AllReadyH.nil)
    · have hC := span_any sv.t w3 hst0 hst1
      unfold tmV at hC
      go_simp
      refine hC.mono ?_
      rintro e w5 ⟨rfl, hb5⟩
      go_wp2_with fail
      have HB5 : Hid (Below w3.heap.size w3 w5) := hb5
      clear hb5 hC
      have hS5 := HSS.out w5 HB5.out
      refine hK.out _ _ hS5 (fun hHeld => ?_)
      clear hK K hS5
      try simp only [Act.put, List.getElem_toArray, List.getElem_cons_succ, List.getElem_cons_zero, List.setIfInBounds_toArray, List.set_cons_zero, List.set_cons_succ]
      refine wpAnyH_ready (rs := [17]) (by kernel_rfl) (by simp) ?_
      refine AllReadyH.cons rfl (fun K hK => ?_) AllReadyH.nil
      rw [if_pos (by rfl)]
      refine wp_valD (.int .i64 n) w5 (by (have hc := HDy.out w5 HB5.out; go_simp)) ?_
      refine hK.out _ _ hHeld (fun hHeld => ?_)
      clear hK K
      try simp only [Act.put, List.getElem_toArray, List.getElem_cons_succ, List.getElem_cons_zero, List.setIfInBounds_toArray, List.set_cons_zero, List.set_cons_succ]
      refine wpAnyH_ready (rs := [18]) (by kernel_rfl) (by simp) ?_
      refine AllReadyH.cons rfl (fun K hK => ?_) AllReadyH.nil
      have hC := allow_any sv.t.st (sv.t.st + 3700) n w5
      obtain ⟨x, hx⟩ : ∃ b, decide (sv.t.st ≤ n ∧ n ≤ sv.t.st + 3700) = b := ⟨_, rfl⟩
      rw [hx] at hC
      have HX : Hid (decide (sv.t.st ≤ n ∧ n ≤ sv.t.st + 3700) = x) := hx
      clear hx
      go_simp
      refine hC.mono ?_
      rintro e w6 ⟨rfl, hb6⟩
      go_wp2_with fail
      have HB6 : Hid (Below w3.heap.size w3 w6) := HB5.out.trans (hb6.mono HB5.out.size)
      clear hC hb6
      have hS6 := HSS.out w6 HB6.out
      refine hK.out _ _ hS6 (fun hHeld => ?_)
      clear hK K hS6
      try simp only [Act.put, List.getElem_toArray, List.getElem_cons_succ, List.getElem_cons_zero, List.setIfInBounds_toArray, List.set_cons_zero, List.set_cons_succ]
      cases x with
      | false =>
        have HE : Hid (RnPost w B R b0 s sv F (.returned (.bool false)) w6) := HNo.out w6 HB6.out (of_decide_eq_false HX.out)
        clear HX
        refine wpAnyH_take (i := 19) (v := (.bool false)) rfl (by kernel_rfl) (by kernel_rfl) (by kernel_rfl) (fun _ _ _ h => h) (Or.inl ⟨by rfl, fun wx hSw => by ((try dsimp only at hSw); go_simp)⟩) (by assumption) ?_
        simp only [Act.put, List.getElem_toArray, List.getElem_cons_succ, List.getElem_cons_zero, List.setIfInBounds_toArray, List.set_cons_zero, List.set_cons_succ]
        refine wpAnyH_take (i := 20) (v := (.bool false)) rfl (by kernel_rfl) (by kernel_rfl) (by kernel_rfl) (fun _ _ _ h => h) (Or.inl ⟨by rfl, fun wx hSw => by kernel_rfl⟩) (by assumption) ?_
        simp only [Act.put, List.getElem_toArray, List.getElem_cons_succ, List.getElem_cons_zero, List.setIfInBounds_toArray, List.set_cons_zero, List.set_cons_succ]
        refine wpAnyH_take (i := 21) (v := undef) rfl (by kernel_rfl) (by kernel_rfl) (by kernel_rfl) (fun _ _ _ h => h) (Or.inr ⟨by rfl, rfl⟩) (by assumption) ?_
        simp only [Act.put, List.getElem_toArray, List.getElem_cons_succ, List.getElem_cons_zero, List.setIfInBounds_toArray, List.set_cons_zero, List.set_cons_succ]
        refine wpAnyH_take (i := 22) (v := undef) rfl (by kernel_rfl) (by kernel_rfl) (by kernel_rfl) (fun _ _ _ h => h) (Or.inr ⟨by rfl, rfl⟩) (by assumption) ?_
        simp only [Act.put, List.getElem_toArray, List.getElem_cons_succ, List.getElem_cons_zero, List.setIfInBounds_toArray, List.set_cons_zero, List.set_cons_succ]
        refine wpAnyH_take (i := 23) (v := undef) rfl (by kernel_rfl) (by kernel_rfl) (by kernel_rfl) (fun _ _ _ h => h) (Or.inr ⟨by rfl, rfl⟩) (by assumption) ?_
        simp only [Act.put, List.getElem_toArray, List.getElem_cons_succ, List.getElem_cons_zero, List.setIfInBounds_toArray, List.set_cons_zero, List.set_cons_succ]
        refine wpAnyH_take (i := 24) (v := undef) rfl (by kernel_rfl) (by kernel_rfl) (by kernel_rfl) (fun _ _ _ h => h) (Or.inr ⟨by rfl, rfl⟩) (by assumption) ?_
        simp only [Act.put, List.getElem_toArray, List.getElem_cons_succ, List.getElem_cons_zero, List.setIfInBounds_toArray, List.set_cons_zero, List.set_cons_succ]
        refine wpAnyH_take (i := 25) (v := undef) rfl (by kernel_rfl) (by kernel_rfl) (by kernel_rfl) (fun _ _ _ h => h) (Or.inr ⟨by rfl, rfl⟩) (by assumption) ?_
        simp only [Act.put, List.getElem_toArray, List.getElem_cons_succ, List.getElem_cons_zero, List.setIfInBounds_toArray, List.set_cons_zero, List.set_cons_succ]
        refine wpAnyH_take (i := 26) (v := undef) rfl (by kernel_rfl) (by kernel_rfl) (by kernel_rfl) (fun _ _ _ h => h) (Or.inr ⟨by rfl, rfl⟩) (by assumption) ?_
        simp only [Act.put, List.getElem_toArray, List.getElem_cons_succ, List.getElem_cons_zero, List.setIfInBounds_toArray, List.set_cons_zero, List.set_cons_succ]
        refine wpAnyH_take (i := 27) (v := (.bool false)) rfl (by kernel_rfl) (by kernel_rfl) (by kernel_rfl) (fun _ _ _ h => h) (Or.inl ⟨by rfl, fun wx hSw => by ((try dsimp only at hSw); go_simp)⟩) (by assumption) ?_
        simp only [Act.put, List.getElem_toArray, List.getElem_cons_succ, List.getElem_cons_zero, List.setIfInBounds_toArray, List.set_cons_zero, List.set_cons_succ]
        refine wpAnyH_take (i := 28) (v := (.bool false)) rfl (by kernel_rfl) (by kernel_rfl) (by kernel_rfl) (fun _ _ _ h => h) (Or.inl ⟨by rfl, fun wx hSw => by kernel_rfl⟩) (by assumption) ?_
        simp only [Act.put, List.getElem_toArray, List.getElem_cons_succ, List.getElem_cons_zero, List.setIfInBounds_toArray, List.set_cons_zero, List.set_cons_succ]
        refine wpAnyH_done (by kernel_rfl) ?_ _
        go_wp2
        go_ret
        exact HE.out
      | true =>
        have hIn : sv.t.st ≤ n ∧ n ≤ sv.t.st + 3700 := of_decide_eq_true HX.out
        have HIn : Hid (sv.t.st ≤ n ∧ n ≤ sv.t.st + 3700) := hIn
        clear HX hIn
        refine wpAnyH_take (i := 19) (v := (.bool true)) rfl (by kernel_rfl) (by kernel_rfl) (by kernel_rfl) (fun _ _ _ h => h) (Or.inl ⟨by rfl, fun wx hSw => by ((try dsimp only at hSw); go_simp)⟩) (by assumption) ?_
        simp only [Act.put, List.getElem_toArray, List.getElem_cons_succ, List.getElem_cons_zero, List.setIfInBounds_toArray, List.set_cons_zero, List.set_cons_succ]
        refine wpAnyH_take (i := 20) (v := (.bool true)) rfl (by kernel_rfl) (by kernel_rfl) (by kernel_rfl) (fun _ _ _ h => h) (Or.inl ⟨by rfl, fun wx hSw => by kernel_rfl⟩) (by assumption) ?_
        simp only [Act.put, List.getElem_toArray, List.getElem_cons_succ, List.getElem_cons_zero, List.setIfInBounds_toArray, List.set_cons_zero, List.set_cons_succ]
        refine wpAnyH_take (i := 21) (v := (.pointer (some ⟨R, 0, none⟩))) rfl (by kernel_rfl) (by kernel_rfl) (by kernel_rfl) (fun _ _ _ h => h) (Or.inl ⟨by rfl, fun wx hSw => by kernel_rfl⟩) (by assumption) ?_
        simp only [Act.put, List.getElem_toArray, List.getElem_cons_succ, List.getElem_cons_zero, List.setIfInBounds_toArray, List.set_cons_zero, List.set_cons_succ]
        refine wpAnyH_take (i := 22) (v := (.pointer (some ⟨B, 0, none⟩))) rfl (by kernel_rfl) (by kernel_rfl) (by kernel_rfl) (fun _ _ _ h => h) (Or.inl ⟨by rfl, fun wx hSw => by kernel_rfl⟩) (by assumption) ?_
        simp only [Act.put, List.getElem_toArray, List.getElem_cons_succ, List.getElem_cons_zero, List.setIfInBounds_toArray, List.set_cons_zero, List.set_cons_succ]
        refine wpAnyH_take (i := 23) (v := (.pointer (some ⟨B, 0, none⟩))) rfl (by kernel_rfl) (by kernel_rfl) (by kernel_rfl) (fun _ _ _ h => h) (Or.inl ⟨by rfl, fun wx hSw => by ((try dsimp only at hSw); go_simp)⟩) (by assumption) ?_
        simp only [Act.put, List.getElem_toArray, List.getElem_cons_succ, List.getElem_cons_zero, List.setIfInBounds_toArray, List.set_cons_zero, List.set_cons_succ]
        refine wpAnyH_take (i := 24) (v := (.pointer (some ⟨B, 7, none⟩))) rfl (by kernel_rfl) (by kernel_rfl) (by kernel_rfl) (fun _ _ _ h => h) (Or.inl ⟨by rfl, fun wx hSw => by ((try dsimp only at hSw); go_simp)⟩) (by assumption) ?_
        simp only [Act.put, List.getElem_toArray, List.getElem_cons_succ, List.getElem_cons_zero, List.setIfInBounds_toArray, List.set_cons_zero, List.set_cons_succ]
        refine wpAnyH_ready (rs := [25]) (by kernel_rfl) (by simp) ?_
        refine AllReadyH.cons rfl (fun K hK => ?_) AllReadyH.nil
        have hC := owedNumbers_any w6 B 7
        have hRd := HRd2.out w6 HB6.out HIn.out
        go_simp
        refine hC.mono ?_
        rintro e w7 ⟨rfl, hw7⟩
        rw [← hw7] at hRd
        have hS7 : w7.rangeAt B 0 (tml sv.t) := by rw [hw7]; exact HSS.out (w6.drew.alloc (.cells (ptrs B 7 7).toArray 110)) (HB6.out.trans (((Below.refl _ _).drew.alloc (Nat.le_refl _) _).mono HB6.out.size))
        clear hw7
        go_wp2_with fail
        refine hK.out _ _ hS7 (fun hHeld => ?_)
        clear hK K hS7 hC
        try simp only [Act.put, List.getElem_toArray, List.getElem_cons_succ, List.getElem_cons_zero, List.setIfInBounds_toArray, List.set_cons_zero, List.set_cons_succ]
        refine wpAnyH_ready (rs := [26]) (by kernel_rfl) (by simp) ?_
        refine AllReadyH.cons rfl (fun K hK => ?_) AllReadyH.nil
        go_simp
        refine hRd.mono ?_
        rintro e w8 ⟨x, rfl, hS8, hE8⟩
        have HE : Hid (RnPost w B R b0 s sv F (.returned (.bool x)) w8) := hE8
        clear hRd hE8
        go_wp2_with fail
        refine hK.out _ _ hS8 (fun hHeld => ?_)
        clear hK K hS8
        try simp only [Act.put, List.getElem_toArray, List.getElem_cons_succ, List.getElem_cons_zero, List.setIfInBounds_toArray, List.set_cons_zero, List.set_cons_succ]
        refine wpAnyH_take (i := 27) (v := (.bool x)) rfl (by kernel_rfl) (by kernel_rfl) (by kernel_rfl) (fun _ _ _ h => h) (Or.inl ⟨by rfl, fun wx hSw => by go_simp⟩) (by assumption) ?_
        simp only [Act.put, List.getElem_toArray, List.getElem_cons_succ, List.getElem_cons_zero, List.setIfInBounds_toArray, List.set_cons_zero, List.set_cons_succ]
        refine wpAnyH_take (i := 28) (v := (.bool x)) rfl (by kernel_rfl) (by kernel_rfl) (by kernel_rfl) (fun _ _ _ h => h) (Or.inl ⟨by rfl, fun wx hSw => by kernel_rfl⟩) (by assumption) ?_
        simp only [Act.put, List.getElem_toArray, List.getElem_cons_succ, List.getElem_cons_zero, List.setIfInBounds_toArray, List.set_cons_zero, List.set_cons_succ]
        refine wpAnyH_done (by kernel_rfl) ?_ _
        go_wp2
        go_ret
        exact HE.out
    · rw [if_pos (by rfl)]
      refine wp_valD (.int .i64 n) w3 (by (have hc := HDy.out w3 (Below.refl _ _); go_simp)) ?_
      refine hK.out _ _ hHeld (fun hHeld => ?_)
      clear hK K
      try simp only [Act.put, List.getElem_toArray, List.getElem_cons_succ, List.getElem_cons_zero, List.setIfInBounds_toArray, List.set_cons_zero, List.set_cons_succ]
      refine wpAnyH_ready (rs := [12]) (by kernel_rfl) (by simp) ?_
      refine AllReadyH.cons rfl (fun K hK => ?_) AllReadyH.nil
      have hC := span_any sv.t w3 hst0 hst1
      unfold tmV at hC
      go_simp
      refine hC.mono ?_
      rintro e w5 ⟨rfl, hb5⟩
      go_wp2_with fail
      have HB5 : Hid (Below w3.heap.size w3 w5) := hb5
      clear hb5 hC
      have hS5 := HSS.out w5 HB5.out
      refine hK.out _ _ hS5 (fun hHeld => ?_)
      clear hK K hS5
      try simp only [Act.put, List.getElem_toArray, List.getElem_cons_succ, List.getElem_cons_zero, List.setIfInBounds_toArray, List.set_cons_zero, List.set_cons_succ]
      refine wpAnyH_ready (rs := [18]) (by kernel_rfl) (by simp) ?_
      refine AllReadyH.cons rfl (fun K hK => ?_) AllReadyH.nil
      have hC := allow_any sv.t.st (sv.t.st + 3700) n w5
      obtain ⟨x, hx⟩ : ∃ b, decide (sv.t.st ≤ n ∧ n ≤ sv.t.st + 3700) = b := ⟨_, rfl⟩
      rw [hx] at hC
      have HX : Hid (decide (sv.t.st ≤ n ∧ n ≤ sv.t.st + 3700) = x) := hx
      clear hx
      go_simp
      refine hC.mono ?_
      rintro e w6 ⟨rfl, hb6⟩
      go_wp2_with fail
      have HB6 : Hid (Below w3.heap.size w3 w6) := HB5.out.trans (hb6.mono HB5.out.size)
      clear hC hb6
      have hS6 := HSS.out w6 HB6.out
      refine hK.out _ _ hS6 (fun hHeld => ?_)
      clear hK K hS6
      try simp only [Act.put, List.getElem_toArray, List.getElem_cons_succ, List.getElem_cons_zero, List.setIfInBounds_toArray, List.set_cons_zero, List.set_cons_succ]
      cases x with
      | false =>
        have HE : Hid (RnPost w B R b0 s sv F (.returned (.bool false)) w6) := HNo.out w6 HB6.out (of_decide_eq_false HX.out)
        clear HX
        refine wpAnyH_take (i := 19) (v := (.bool false)) rfl (by kernel_rfl) (by kernel_rfl) (by kernel_rfl) (fun _ _ _ h => h) (Or.inl ⟨by rfl, fun wx hSw => by ((try dsimp only at hSw); go_simp)⟩) (by assumption) ?_
        simp only [Act.put, List.getElem_toArray, List.getElem_cons_succ, List.getElem_cons_zero, List.setIfInBounds_toArray, List.set_cons_zero, List.set_cons_succ]
        refine wpAnyH_take (i := 20) (v := (.bool false)) rfl (by kernel_rfl) (by kernel_rfl) (by kernel_rfl) (fun _ _ _ h => h) (Or.inl ⟨by rfl, fun wx hSw => by kernel_rfl⟩) (by assumption) ?_
        simp only [Act.put, List.getElem_toArray, List.getElem_cons_succ, List.getElem_cons_zero, List.setIfInBounds_toArray, List.set_cons_zero, List.set_cons_succ]
        refine wpAnyH_take (i := 21) (v := undef) rfl (by kernel_rfl) (by kernel_rfl) (by kernel_rfl) (fun _ _ _ h => h) (Or.inr ⟨by rfl, rfl⟩) (by assumption) ?_
        simp only [Act.put, List.getElem_toArray, List.getElem_cons_succ, List.getElem_cons_zero, List.setIfInBounds_toArray, List.set_cons_zero, List.set_cons_succ]
        refine wpAnyH_take (i := 22) (v := undef) rfl (by kernel_rfl) (by kernel_rfl) (by kernel_rfl) (fun _ _ _ h => h) (Or.inr ⟨by rfl, rfl⟩) (by assumption) ?_
        simp only [Act.put, List.getElem_toArray, List.getElem_cons_succ, List.getElem_cons_zero, List.setIfInBounds_toArray, List.set_cons_zero, List.set_cons_succ]
        refine wpAnyH_take (i := 23) (v := undef) rfl (by kernel_rfl) (by kernel_rfl) (by kernel_rfl) (fun _ _ _ h => h) (Or.inr ⟨by rfl, rfl⟩) (by assumption) ?_
        simp only [Act.put, List.getElem_toArray, List.getElem_cons_succ, List.getElem_cons_zero, List.setIfInBounds_toArray, List.set_cons_zero, List.set_cons_succ]
        refine wpAnyH_take (i := 24) (v := undef) rfl (by kernel_rfl) (by kernel_rfl) (by kernel_rfl) (fun _ _ _ h => h) (Or.inr ⟨by rfl, rfl⟩) (by assumption) ?_
        simp only [Act.put, List.getElem_toArray, List.getElem_cons_succ, List.getElem_cons_zero, List.setIfInBounds_toArray, List.set_cons_zero, List.set_cons_succ]
        refine wpAnyH_take (i := 25) (v := undef) rfl (by kernel_rfl) (by kernel_rfl) (by kernel_rfl) (fun _ _ _ h => h) (Or.inr ⟨by rfl, rfl⟩) (by assumption) ?_
        simp only [Act.put, List.getElem_toArray, List.getElem_cons_succ, List.getElem_cons_zero, List.setIfInBounds_toArray, List.set_cons_zero, List.set_cons_succ]
        refine wpAnyH_take (i := 26) (v := undef) rfl (by kernel_rfl) (by kernel_rfl) (by kernel_rfl) (fun _ _ _ h => h) (Or.inr ⟨by rfl, rfl⟩) (by assumption) ?_
        simp only [Act.put, List.getElem_toArray, List.getElem_cons_succ, List.getElem_cons_zero, List.setIfInBounds_toArray, List.set_cons_zero, List.set_cons_succ]
        refine wpAnyH_take (i := 27) (v := (.bool false)) rfl (by kernel_rfl) (by kernel_rfl) (by kernel_rfl) (fun _ _ _ h => h) (Or.inl ⟨by rfl, fun wx hSw => by ((try dsimp only at hSw); go_simp)⟩) (by assumption) ?_
        simp only [Act.put, List.getElem_toArray, List.getElem_cons_succ, List.getElem_cons_zero, List.setIfInBounds_toArray, List.set_cons_zero, List.set_cons_succ]
        refine wpAnyH_take (i := 28) (v := (.bool false)) rfl (by kernel_rfl) (by kernel_rfl) (by kernel_rfl) (fun _ _ _ h => h) (Or.inl ⟨by rfl, fun wx hSw => by kernel_rfl⟩) (by assumption) ?_
        simp only [Act.put, List.getElem_toArray, List.getElem_cons_succ, List.getElem_cons_zero, List.setIfInBounds_toArray, List.set_cons_zero, List.set_cons_succ]
        refine wpAnyH_done (by kernel_rfl) ?_ _
        go_wp2
        go_ret
        exact HE.out
      | true =>
        have hIn : sv.t.st ≤ n ∧ n ≤ sv.t.st + 3700 := of_decide_eq_true HX.out
        have HIn : Hid (sv.t.st ≤ n ∧ n ≤ sv.t.st + 3700) := hIn
        clear HX hIn
        refine wpAnyH_take (i := 19) (v := (.bool true)) rfl (by kernel_rfl) (by kernel_rfl) (by kernel_rfl) (fun _ _ _ h => h) (Or.inl ⟨by rfl, fun wx hSw => by ((try dsimp only at hSw); go_simp)⟩) (by assumption) ?_
        simp only [Act.put, List.getElem_toArray, List.getElem_cons_succ, List.getElem_cons_zero, List.setIfInBounds_toArray, List.set_cons_zero, List.set_cons_succ]
        refine wpAnyH_take (i := 20) (v := (.bool true)) rfl (by kernel_rfl) (by kernel_rfl) (by kernel_rfl) (fun _ _ _ h => h) (Or.inl ⟨by rfl, fun wx hSw => by kernel_rfl⟩) (by assumption) ?_
        simp only [Act.put, List.getElem_toArray, List.getElem_cons_succ, List.getElem_cons_zero, List.setIfInBounds_toArray, List.set_cons_zero, List.set_cons_succ]
        refine wpAnyH_take (i := 21) (v := (.pointer (some ⟨R, 0, none⟩))) rfl (by kernel_rfl) (by kernel_rfl) (by kernel_rfl) (fun _ _ _ h => h) (Or.inl ⟨by rfl, fun wx hSw => by kernel_rfl⟩) (by assumption) ?_
        simp only [Act.put, List.getElem_toArray, List.getElem_cons_succ, List.getElem_cons_zero, List.setIfInBounds_toArray, List.set_cons_zero, List.set_cons_succ]
        refine wpAnyH_take (i := 22) (v := (.pointer (some ⟨B, 0, none⟩))) rfl (by kernel_rfl) (by kernel_rfl) (by kernel_rfl) (fun _ _ _ h => h) (Or.inl ⟨by rfl, fun wx hSw => by kernel_rfl⟩) (by assumption) ?_
        simp only [Act.put, List.getElem_toArray, List.getElem_cons_succ, List.getElem_cons_zero, List.setIfInBounds_toArray, List.set_cons_zero, List.set_cons_succ]
        refine wpAnyH_take (i := 23) (v := (.pointer (some ⟨B, 0, none⟩))) rfl (by kernel_rfl) (by kernel_rfl) (by kernel_rfl) (fun _ _ _ h => h) (Or.inl ⟨by rfl, fun wx hSw => by ((try dsimp only at hSw); go_simp)⟩) (by assumption) ?_
        simp only [Act.put, List.getElem_toArray, List.getElem_cons_succ, List.getElem_cons_zero, List.setIfInBounds_toArray, List.set_cons_zero, List.set_cons_succ]
        refine wpAnyH_take (i := 24) (v := (.pointer (some ⟨B, 7, none⟩))) rfl (by kernel_rfl) (by kernel_rfl) (by kernel_rfl) (fun _ _ _ h => h) (Or.inl ⟨by rfl, fun wx hSw => by ((try dsimp only at hSw); go_simp)⟩) (by assumption) ?_
        simp only [Act.put, List.getElem_toArray, List.getElem_cons_succ, List.getElem_cons_zero, List.setIfInBounds_toArray, List.set_cons_zero, List.set_cons_succ]
        refine wpAnyH_ready (rs := [25]) (by kernel_rfl) (by simp) ?_
        refine AllReadyH.cons rfl (fun K hK => ?_) AllReadyH.nil
        have hC := owedNumbers_any w6 B 7
        have hRd := HRd2.out w6 HB6.out HIn.out
        go_simp
        refine hC.mono ?_
        rintro e w7 ⟨rfl, hw7⟩
        rw [← hw7] at hRd
        have hS7 : w7.rangeAt B 0 (tml sv.t) := by rw [hw7]; exact HSS.out (w6.drew.alloc (.cells (ptrs B 7 7).toArray 110)) (HB6.out.trans (((Below.refl _ _).drew.alloc (Nat.le_refl _) _).mono HB6.out.size))
        clear hw7
        go_wp2_with fail
        refine hK.out _ _ hS7 (fun hHeld => ?_)
        clear hK K hS7 hC
        try simp only [Act.put, List.getElem_toArray, List.getElem_cons_succ, List.getElem_cons_zero, List.setIfInBounds_toArray, List.set_cons_zero, List.set_cons_succ]
        refine wpAnyH_ready (rs := [26]) (by kernel_rfl) (by simp) ?_
        refine AllReadyH.cons rfl (fun K hK => ?_) AllReadyH.nil
        go_simp
        refine hRd.mono ?_
        rintro e w8 ⟨x, rfl, hS8, hE8⟩
        have HE : Hid (RnPost w B R b0 s sv F (.returned (.bool x)) w8) := hE8
        clear hRd hE8
        go_wp2_with fail
        refine hK.out _ _ hS8 (fun hHeld => ?_)
        clear hK K hS8
        try simp only [Act.put, List.getElem_toArray, List.getElem_cons_succ, List.getElem_cons_zero, List.setIfInBounds_toArray, List.set_cons_zero, List.set_cons_succ]
        refine wpAnyH_take (i := 27) (v := (.bool x)) rfl (by kernel_rfl) (by kernel_rfl) (by kernel_rfl) (fun _ _ _ h => h) (Or.inl ⟨by rfl, fun wx hSw => by go_simp⟩) (by assumption) ?_
        simp only [Act.put, List.getElem_toArray, List.getElem_cons_succ, List.getElem_cons_zero, List.setIfInBounds_toArray, List.set_cons_zero, List.set_cons_succ]
        refine wpAnyH_take (i := 28) (v := (.bool x)) rfl (by kernel_rfl) (by kernel_rfl) (by kernel_rfl) (fun _ _ _ h => h) (Or.inl ⟨by rfl, fun wx hSw => by kernel_rfl⟩) (by assumption) ?_
        simp only [Act.put, List.getElem_toArray, List.getElem_cons_succ, List.getElem_cons_zero, List.setIfInBounds_toArray, List.set_cons_zero, List.set_cons_succ]
        refine wpAnyH_done (by kernel_rfl) ?_ _
        go_wp2
        go_ret
        exact HE.out
  · have HE : Hid (RnPost w B R b0 s sv F (.returned (.bool false)) w3) := by
      refine ⟨(HB1.out.mono (by omega)).trans (hb3.mono (by have := HB1.out.size; omega)), .inr ⟨rfl, tl_none (by decide) (fun k hk hn => ?_)⟩⟩
      match k, hk with
      | 0, _ => exact absurd hn (by decide)
      | 1, _ => exact HNe.out
      | 2, _ => exact hno
      | 3, _ => exact absurd hn (by decide)
      | 4, _ => exact absurd hn (by decide)
      | 5, _ => exact absurd hn (by decide)
    have hS3 : w3.rangeAt B 0 (tml sv.t) := (HA1.out.lower hb3).mid 0 _ (ll_tm sv.t evv sv.g sv.day bk)
    clear hno hb3
    go_wp2_with fail
    refine hK.out _ _ hS3 (fun hHeld => ?_)
    clear hK K hS3
    try simp only [Act.put, List.getElem_toArray, List.getElem_cons_succ, List.getElem_cons_zero, List.setIfInBounds_toArray, List.set_cons_zero, List.set_cons_succ]
    refine wpAnyH_take (i := 7) (v := (.bool false)) rfl (by kernel_rfl) (by kernel_rfl) (by kernel_rfl) (fun _ _ _ h => h) (Or.inl ⟨by rfl, fun wx hSw => by kernel_rfl⟩) (by assumption) ?_
    simp only [Act.put, List.getElem_toArray, List.getElem_cons_succ, List.getElem_cons_zero, List.setIfInBounds_toArray, List.set_cons_zero, List.set_cons_succ]
    refine wpAnyH_take (i := 8) (v := undef) rfl (by kernel_rfl) (by kernel_rfl) (by kernel_rfl) (fun _ _ _ h => h) (Or.inr ⟨by rfl, rfl⟩) (by assumption) ?_
    simp only [Act.put, List.getElem_toArray, List.getElem_cons_succ, List.getElem_cons_zero, List.setIfInBounds_toArray, List.set_cons_zero, List.set_cons_succ]
    refine wpAnyH_take (i := 9) (v := undef) rfl (by kernel_rfl) (by kernel_rfl) (by kernel_rfl) (fun _ _ _ h => h) (Or.inr ⟨by rfl, rfl⟩) (by assumption) ?_
    simp only [Act.put, List.getElem_toArray, List.getElem_cons_succ, List.getElem_cons_zero, List.setIfInBounds_toArray, List.set_cons_zero, List.set_cons_succ]
    refine wpAnyH_take (i := 10) (v := undef) rfl (by kernel_rfl) (by kernel_rfl) (by kernel_rfl) (fun _ _ _ h => h) (Or.inr ⟨by rfl, rfl⟩) (by assumption) ?_
    simp only [Act.put, List.getElem_toArray, List.getElem_cons_succ, List.getElem_cons_zero, List.setIfInBounds_toArray, List.set_cons_zero, List.set_cons_succ]
    refine wpAnyH_take (i := 11) (v := undef) rfl (by kernel_rfl) (by kernel_rfl) (by kernel_rfl) (fun _ _ _ h => h) (Or.inr ⟨by rfl, rfl⟩) (by assumption) ?_
    simp only [Act.put, List.getElem_toArray, List.getElem_cons_succ, List.getElem_cons_zero, List.setIfInBounds_toArray, List.set_cons_zero, List.set_cons_succ]
    refine wpAnyH_take (i := 12) (v := undef) rfl (by kernel_rfl) (by kernel_rfl) (by kernel_rfl) (fun _ _ _ h => h) (Or.inr ⟨by rfl, rfl⟩) (by assumption) ?_
    simp only [Act.put, List.getElem_toArray, List.getElem_cons_succ, List.getElem_cons_zero, List.setIfInBounds_toArray, List.set_cons_zero, List.set_cons_succ]
    refine wpAnyH_take (i := 13) (v := undef) rfl (by kernel_rfl) (by kernel_rfl) (by kernel_rfl) (fun _ _ _ h => h) (Or.inr ⟨by rfl, rfl⟩) (by assumption) ?_
    simp only [Act.put, List.getElem_toArray, List.getElem_cons_succ, List.getElem_cons_zero, List.setIfInBounds_toArray, List.set_cons_zero, List.set_cons_succ]
    refine wpAnyH_take (i := 14) (v := undef) rfl (by kernel_rfl) (by kernel_rfl) (by kernel_rfl) (fun _ _ _ h => h) (Or.inr ⟨by rfl, rfl⟩) (by assumption) ?_
    simp only [Act.put, List.getElem_toArray, List.getElem_cons_succ, List.getElem_cons_zero, List.setIfInBounds_toArray, List.set_cons_zero, List.set_cons_succ]
    refine wpAnyH_take (i := 15) (v := undef) rfl (by kernel_rfl) (by kernel_rfl) (by kernel_rfl) (fun _ _ _ h => h) (Or.inr ⟨by rfl, rfl⟩) (by assumption) ?_
    simp only [Act.put, List.getElem_toArray, List.getElem_cons_succ, List.getElem_cons_zero, List.setIfInBounds_toArray, List.set_cons_zero, List.set_cons_succ]
    refine wpAnyH_take (i := 16) (v := undef) rfl (by kernel_rfl) (by kernel_rfl) (by kernel_rfl) (fun _ _ _ h => h) (Or.inr ⟨by rfl, rfl⟩) (by assumption) ?_
    simp only [Act.put, List.getElem_toArray, List.getElem_cons_succ, List.getElem_cons_zero, List.setIfInBounds_toArray, List.set_cons_zero, List.set_cons_succ]
    refine wpAnyH_take (i := 17) (v := undef) rfl (by kernel_rfl) (by kernel_rfl) (by kernel_rfl) (fun _ _ _ h => h) (Or.inr ⟨by rfl, rfl⟩) (by assumption) ?_
    simp only [Act.put, List.getElem_toArray, List.getElem_cons_succ, List.getElem_cons_zero, List.setIfInBounds_toArray, List.set_cons_zero, List.set_cons_succ]
    refine wpAnyH_take (i := 18) (v := undef) rfl (by kernel_rfl) (by kernel_rfl) (by kernel_rfl) (fun _ _ _ h => h) (Or.inr ⟨by rfl, rfl⟩) (by assumption) ?_
    simp only [Act.put, List.getElem_toArray, List.getElem_cons_succ, List.getElem_cons_zero, List.setIfInBounds_toArray, List.set_cons_zero, List.set_cons_succ]
    refine wpAnyH_take (i := 19) (v := (.bool false)) rfl (by kernel_rfl) (by kernel_rfl) (by kernel_rfl) (fun _ _ _ h => h) (Or.inl ⟨by rfl, fun wx hSw => by ((try dsimp only at hSw); go_simp)⟩) (by assumption) ?_
    simp only [Act.put, List.getElem_toArray, List.getElem_cons_succ, List.getElem_cons_zero, List.setIfInBounds_toArray, List.set_cons_zero, List.set_cons_succ]
    refine wpAnyH_take (i := 20) (v := (.bool false)) rfl (by kernel_rfl) (by kernel_rfl) (by kernel_rfl) (fun _ _ _ h => h) (Or.inl ⟨by rfl, fun wx hSw => by kernel_rfl⟩) (by assumption) ?_
    simp only [Act.put, List.getElem_toArray, List.getElem_cons_succ, List.getElem_cons_zero, List.setIfInBounds_toArray, List.set_cons_zero, List.set_cons_succ]
    refine wpAnyH_take (i := 21) (v := undef) rfl (by kernel_rfl) (by kernel_rfl) (by kernel_rfl) (fun _ _ _ h => h) (Or.inr ⟨by rfl, rfl⟩) (by assumption) ?_
    simp only [Act.put, List.getElem_toArray, List.getElem_cons_succ, List.getElem_cons_zero, List.setIfInBounds_toArray, List.set_cons_zero, List.set_cons_succ]
    refine wpAnyH_take (i := 22) (v := undef) rfl (by kernel_rfl) (by kernel_rfl) (by kernel_rfl) (fun _ _ _ h => h) (Or.inr ⟨by rfl, rfl⟩) (by assumption) ?_
    simp only [Act.put, List.getElem_toArray, List.getElem_cons_succ, List.getElem_cons_zero, List.setIfInBounds_toArray, List.set_cons_zero, List.set_cons_succ]
    refine wpAnyH_take (i := 23) (v := undef) rfl (by kernel_rfl) (by kernel_rfl) (by kernel_rfl) (fun _ _ _ h => h) (Or.inr ⟨by rfl, rfl⟩) (by assumption) ?_
    simp only [Act.put, List.getElem_toArray, List.getElem_cons_succ, List.getElem_cons_zero, List.setIfInBounds_toArray, List.set_cons_zero, List.set_cons_succ]
    refine wpAnyH_take (i := 24) (v := undef) rfl (by kernel_rfl) (by kernel_rfl) (by kernel_rfl) (fun _ _ _ h => h) (Or.inr ⟨by rfl, rfl⟩) (by assumption) ?_
    simp only [Act.put, List.getElem_toArray, List.getElem_cons_succ, List.getElem_cons_zero, List.setIfInBounds_toArray, List.set_cons_zero, List.set_cons_succ]
    refine wpAnyH_take (i := 25) (v := undef) rfl (by kernel_rfl) (by kernel_rfl) (by kernel_rfl) (fun _ _ _ h => h) (Or.inr ⟨by rfl, rfl⟩) (by assumption) ?_
    simp only [Act.put, List.getElem_toArray, List.getElem_cons_succ, List.getElem_cons_zero, List.setIfInBounds_toArray, List.set_cons_zero, List.set_cons_succ]
    refine wpAnyH_take (i := 26) (v := undef) rfl (by kernel_rfl) (by kernel_rfl) (by kernel_rfl) (fun _ _ _ h => h) (Or.inr ⟨by rfl, rfl⟩) (by assumption) ?_
    simp only [Act.put, List.getElem_toArray, List.getElem_cons_succ, List.getElem_cons_zero, List.setIfInBounds_toArray, List.set_cons_zero, List.set_cons_succ]
    refine wpAnyH_take (i := 27) (v := (.bool false)) rfl (by kernel_rfl) (by kernel_rfl) (by kernel_rfl) (fun _ _ _ h => h) (Or.inl ⟨by rfl, fun wx hSw => by ((try dsimp only at hSw); go_simp)⟩) (by assumption) ?_
    simp only [Act.put, List.getElem_toArray, List.getElem_cons_succ, List.getElem_cons_zero, List.setIfInBounds_toArray, List.set_cons_zero, List.set_cons_succ]
    refine wpAnyH_take (i := 28) (v := (.bool false)) rfl (by kernel_rfl) (by kernel_rfl) (by kernel_rfl) (fun _ _ _ h => h) (Or.inl ⟨by rfl, fun wx hSw => by kernel_rfl⟩) (by assumption) ?_
    simp only [Act.put, List.getElem_toArray, List.getElem_cons_succ, List.getElem_cons_zero, List.setIfInBounds_toArray, List.set_cons_zero, List.set_cons_succ]
    refine wpAnyH_done (by kernel_rfl) ?_ _
    go_wp2
    go_ret
    exact HE.out
end Go.Proofs.YtanndhoimpnhpaaGreatDoor
