/- Joined by program: TyC, TyD. -/
import Derived.Test.YtanndhoimpnhpaaGreatDoorM25
import Derived.Test.YtanndhoimpnhpaaGreatDoorM20
import Derived.Test.YtanndhoimpnhpaaGreatDoorM8
import Derived.Deep.RegionHeld3
import Derived.Deep.CutRange
namespace Go.Proofs.YtanndhoimpnhpaaGreatDoor
open Go.ChangeShapes Go.WideShapes Go.ChangeAt Go.RowKit Lg Cal
def RePost (w : World) (B R b0 : Nat) (s : List UInt8) (sv : Sv) (F : Nat → Prop) (e : Ending) (w' : World) : Prop :=
  Below b0 w w' ∧ ((∃ s' sv', e = .returned (.bool true) ∧ tl 1 (some sv) s = tl 1 (some sv') s' ∧ (¬ ∃ ns r, Nx s' wEvent 4 ns r) ∧ At w' R [.string (bs s')] ∧ IsL w' B sv' (Wd F w w') ∧ Lq s' s ∧ sv'.L.length + s'.length ≤ sv.L.length + s.length ∧ sv'.t = sv.t ∧ sv'.day = sv.day) ∨ (e = .returned (.bool false) ∧ tl 1 (some sv) s = none))
def ReI (w w1 : World) (B R N b0 : Nat) (s : List UInt8) (sv : Sv) (F : Nat → Prop) (wr : World) : Prop :=
  ∃ s1 sv1 x0 x1 x2 x3, tl 1 (some sv) s = tl 1 (some sv1) s1 ∧ At wr R [.string (bs s1)] ∧ At wr N [.int .i64 x0, .int .i64 x1, .int .i64 x2, .int .i64 x3] ∧ IsL wr B sv1 (Wd F w1 wr) ∧ Lq s1 s ∧ sv1.L.length + s1.length ≤ sv.L.length + s.length ∧ sv1.t = sv.t ∧ sv1.day = sv.day ∧ Below b0 w wr ∧ w1.heap.size ≤ wr.heap.size
theorem four_of {l : List Int} (h : l.length = 4) : ∃ e : Ln.Ev, l = evN e := by
  match l, h with
  | [a0, a1, a2, a3], _ => exact ⟨⟨a0, a1, a2, a3⟩, rfl⟩
set_option maxRecDepth 10000 in
set_option maxHeartbeats 4000000 in
theorem readevents_any (w : World) (B R b0 : Nat) (s : List UInt8) (sv : Sv) (F : Nat → Prop) (hL : IsL w B sv F) (hR : At w R [.string (bs s)]) (hF : ∀ x, F x → b0 ≤ x ∧ x < w.heap.size ∧ ¬ x = R) (hb0 : b0 ≤ R) (hs : Sh s) (hg : ∀ wx, Below b0 w wx → Gl wx ∧ Lim wx) :
    Calls Tryz.prog 74 #[.pointer (some ⟨B, 0, none⟩), .pointer (some ⟨R, 0, none⟩)] w (RePost w B R b0 s sv F) := by
  have hRl : R < w.heap.size := At.lt hR
  have hB1 : Below w.heap.size w (w.alloc (.cells #[.int .i64 0, .int .i64 0, .int .i64 0, .int .i64 0] 50)) := (Below.refl _ _).alloc (Nat.le_refl _) _
  have hA1 : At (w.alloc (.cells #[.int .i64 0, .int .i64 0, .int .i64 0, .int .i64 0] 50)) w.heap.size [.int .i64 0, .int .i64 0, .int .i64 0, .int .i64 0] := At.alloc w [.int .i64 0, .int .i64 0, .int .i64 0, .int .i64 0] _
  have HI0 : Hid (ReI w (w.alloc (.cells #[.int .i64 0, .int .i64 0, .int .i64 0, .int .i64 0] 50)) B R w.heap.size b0 s sv F (w.alloc (.cells #[.int .i64 0, .int .i64 0, .int .i64 0, .int .i64 0] 50))) :=
    ⟨s, sv, 0, 0, 0, 0, rfl, hR.lower hB1, hA1, (hL.keep (S := fun _ => False) (Keep.below hB1) (fun _ _ x => x)).mono (fun _ _ h => .inl h), Lq.refl _, Nat.le_refl _, rfl, rfl, hB1.mono (Nat.le_trans hb0 (Nat.le_of_lt hRl)), Nat.le_refl _⟩
  have hsz : (w.alloc (.cells #[.int .i64 0, .int .i64 0, .int .i64 0, .int .i64 0] 50)).heap.size = w.heap.size + 1 := by simp
  obtain ⟨N, hN⟩ : ∃ N, N = w.heap.size := ⟨_, rfl⟩
  have HN : Hid (N = w.heap.size) := hN
  have HG : Hid (∀ wx, Below b0 w wx → Gl wx ∧ Lim wx) := hg
  have HF : Hid (∀ x, F x → b0 ≤ x ∧ x < w.heap.size ∧ ¬ x = R) := hF
  have HW1 : Hid ((w.alloc (.cells #[.int .i64 0, .int .i64 0, .int .i64 0, .int .i64 0] 50)).heap.size = w.heap.size + 1) := hsz
  rw [← hN] at HI0
  clear hL hR hF hg hB1 hA1 hsz
  go_enter Tryz.func74, Tryz.ntmps74
  go_wp2
  rw [← hN]
  clear hN
  generalize w.alloc (.cells #[.int .i64 0, .int .i64 0, .int .i64 0, .int .i64 0] 50) = w1 at *
  go_loopw [4] (fun _ wr => ReI w w1 B R N b0 s sv F wr) (fun _ wr => rdLen R wr)
  case atStart => exact HI0.out
  case round =>
    clear HI0
    obtain ⟨s1, sv1, x0, x1, x2, x3, htl, hR1, hN1, hL1, hs1, hl1, ht1, hdy1, hb1, hsz1⟩ := hrel
    have hRl1 : R < wr.heap.size := At.lt hR1
    have hNl1 : N < wr.heap.size := At.lt hN1
    have hNR : ¬ N = R := by have := HN.out; omega
    have hB2 : Below wr.heap.size wr (wr.drew.alloc (.cells (ptrs N 0 4).toArray 110)) := (Below.refl _ _).drew.alloc (Nat.le_refl _) _
    have hb2 : Below b0 w (wr.drew.alloc (.cells (ptrs N 0 4).toArray 110)) := hb1.trans (hB2.mono (by omega))
    have hCn := eventNumbers_any wr N 0
    have hRd := read_any (wr.drew.alloc (.cells (ptrs N 0 4).toArray 110)) R s1 wEvent N 0 4 [.int .i64 x0, .int .i64 x1, .int .i64 x2, .int .i64 x3] _ (hR1.lower hB2) (hs1.2 hs) (Pt.made wr R N 0 4 hRl1 hNl1) (hN1.lower hB2) (show 0 + 4 ≤ 4 by decide) hNR (noB_wdk 1 (by omega)) (noL_wdk 1 (by omega)) (by decide) (by omega) (HG.out _ hb2).1
    have HR1 : Hid (rdLen R wr = s1.length) := rdLen_at hR1
    have HL2 : Hid (IsL (wr.drew.alloc (.cells (ptrs N 0 4).toArray 110)) B sv1 (Wd F w1 wr)) := hL1.keep (S := fun _ => False) (Keep.below hB2) (fun _ _ x => x)
    have HB2 : Hid (Below b0 w (wr.drew.alloc (.cells (ptrs N 0 4).toArray 110)) ∧ wr.heap.size ≤ (wr.drew.alloc (.cells (ptrs N 0 4).toArray 110)).heap.size) := ⟨hb2, hB2.size⟩
    have HRa : Hid (At (wr.drew.alloc (.cells (ptrs N 0 4).toArray 110)) R [.string (bs s1)]) := hR1.lower hB2
    have HTl : Hid (tl 1 (some sv) s = tl 1 (some sv1) s1) := htl
    have HWd : Hid (∀ x, Wd F w1 wr x → b0 ≤ x ∧ ¬ x = R ∧ ¬ x = N ∧ x < wr.heap.size ∧ (F x ∨ w.heap.size ≤ x)) := fun x hx => by
      have h1 := HN.out
      have h2 := HW1.out
      rcases hx with h | ⟨h3, h4⟩
      · have := HF.out x h
        exact ⟨this.1, this.2.2, by omega, by omega, .inl h⟩
      · exact ⟨by omega, by omega, by omega, h4, .inr (by omega)⟩
    have HEq : Hid (sv1.t = sv.t ∧ sv1.day = sv.day ∧ w1.heap.size ≤ wr.heap.size) := ⟨ht1, hdy1, hsz1⟩
    clear hR1 hN1 hL1 hb1 hB2 hb2 htl ht1 hdy1 hsz1
    go_wp2_with fail
    refine hCn.mono ?_
    rintro e w6 ⟨rfl, rfl⟩
    clear hCn
    generalize wr.drew.alloc (.cells (ptrs N 0 4).toArray 110) = w2 at *
    go_wp2_with fail
    refine hRd.mono ?_
    rintro e w3 hx
    clear hRd
    rcases hx with ⟨ns, r, hnx, rfl, hR3, hN3, hk3⟩ | ⟨hno, rfl, hb3⟩
    · obtain ⟨ev, rfl⟩ := four_of hnx.2.1
      have HNx : Hid (Nx s1 (wdk 1) (cnk 1) (evN ev) r) := hnx
      have HR3 : Hid (At w3 R [.string (bs r)]) := hR3
      have HN3 : Hid (At w3 N (evl ev)) := hN3
      have HL3 : Hid (IsL w3 B sv1 (Wd F w1 wr)) := HL2.out.keep hk3 (fun b hb h => by
        have := HWd.out b hb
        rcases h with h | h
        · exact this.2.1 h
        · exact this.2.2.1 h)
      have HB3 : Hid (Below b0 w w3 ∧ wr.heap.size ≤ w3.heap.size) := by
        refine ⟨⟨hk3.os.trans HB2.out.1.os, hk3.tape.trans HB2.out.1.tape, hk3.output.trans HB2.out.1.output, Nat.le_trans HB2.out.1.size hk3.size, fun b hb => (hk3.block b ?_ ?_).trans (HB2.out.1.block b hb)⟩, Nat.le_trans HB2.out.2 hk3.size⟩
        · have := HB2.out.2; omega
        · intro h
          have := HN.out
          rcases h with h | h <;> omega
      have hAd := addL w3 B sv1.t sv1.l sv1.g sv1.day sv1.L (Wd F w1 wr) HL3.out ev (HG.out _ HB3.out.1).2
      have hr3 : w3.rangeAt N 0 (evl ev) := HN3.out.range
      clear hnx hR3 hN3 hk3 HL2 HB2
      go_upto_region 3 with fail
      refine wp_region_lit ?_
      refine wpList_val (.pointer (some ⟨B, 0, none⟩)) w3 rfl rfl ?_
      simp only [Act.put, List.setIfInBounds_toArray, List.set_cons_zero, List.set_cons_succ]
      refine wpList_load_mid rfl 50 (.tmp 5) rfl N 0 rfl (evl ev) _ hr3 Tryz.underlying50 rfl (by kernel_rfl) ?_
      simp only [Act.put, List.setIfInBounds_toArray, List.set_cons_zero, List.set_cons_succ]
      clear hr3
      go_wp2_with fail
      refine hAd.mono ?_
      rintro e w4 ⟨rfl, hk4, hx⟩
      clear hAd
      have HB4 : Hid (Below b0 w w4 ∧ wr.heap.size ≤ w4.heap.size) := by
        refine ⟨⟨hk4.os.trans HB3.out.1.os, hk4.tape.trans HB3.out.1.tape, hk4.output.trans HB3.out.1.output, Nat.le_trans HB3.out.1.size hk4.size, fun b hb => (hk4.block b ?_ ?_).trans (HB3.out.1.block b hb)⟩, Nat.le_trans HB3.out.2 hk4.size⟩
        · have := HB3.out.2; omega
        · intro h
          have := (HWd.out b h).1
          omega
      have hNw : ¬ Wd F w1 wr N := fun h => (HWd.out N h).2.2.1 rfl
      have hRw : ¬ Wd F w1 wr R := fun h => (HWd.out R h).2.1 rfl
      have HN4 : Hid (At w4 N (evl ev)) := HN3.out.block (hk4.block N (At.lt (v := .int .i64 ev.d) HN3.out) hNw)
      have HR4 : Hid (At w4 R [.string (bs r)]) := HR3.out.block (hk4.block R (At.lt HR3.out) hRw)
      clear hNw hRw hk4
      rcases hx with ⟨h0, _⟩ | ⟨h0, E', hperm, hL4⟩
      · have HE : Hid (RePost w B R b0 s sv F (.returned (.bool false)) w4) := by
          refine ⟨HB4.out.1, .inr ⟨rfl, ?_⟩⟩
          rw [HTl.out]
          refine tl_fail (k := 1) (by omega) HNx.out ?_
          show sv1.read 1 (evN ev) = none
          simp only [Sv.read, evN]
          rw [if_neg (fun h => h0 h.2)]
        have zc : (addC sv1.t sv1.l ev != (0 : Int)) = true := by rw [bne_iff_ne]; exact h0
        clear h0
        go_wp2
        go_ret
        exact HE.out
      · rw [h0]
        have hE1 : sv1.l.Pairwise So.Ah := by obtain ⟨_, _, _, _, h1, _⟩ := HL3.out; exact h1.so
        obtain ⟨P, Mb, evv, bkv, hX4, hF4⟩ := id hL4
        have hli := last_iff hperm hX4.so hE1
        have c6 : w4.cell? ⟨B, 6, none⟩ = some evv := hX4.ln.cell 6 rfl
        have hpos : 0 < E'.length := by rw [hperm.length_eq]; simp
        obtain ⟨n1, hn1⟩ : ∃ n1, E'.length = n1 + 1 := ⟨E'.length - 1, by omega⟩
        obtain ⟨ge, cape, rfl, _, _⟩ := hX4.ev.form hpos
        have hlt1 : n1 < E'.length := by omega
        have hre : w4.rangeAt ge (n1 * 4) (evl E'[n1]) := (own_range hX4.ev rfl n1 E'[n1] (List.getElem?_eq_getElem hlt1)).1
        have HLast : Hid (E'.getLast? = some E'[n1]) := by
          show _ = _
          rw [List.getLast?_eq_getElem?, show E'.length - 1 = n1 by omega, List.getElem?_eq_getElem hlt1]
        have hle := hX4.le
        rw [hn1] at c6
        have HL4 : Hid (IsL w4 B { sv1 with l := E' } (Wd (Wd F w1 wr) w3 w4)) := hL4
        have HLi : Hid ((E'.getLast? = some ev ∧ E' = sv1.l ++ [ev] ∧ ∀ x, sv1.l.getLast? = some x → So.Ah x ev) ∨ (¬ E'.getLast? = some ev ∧ ¬ ∀ x, sv1.l.getLast? = some x → So.Ah x ev)) := hli
        have H0 : Hid (addC sv1.t sv1.l ev = 0) := h0
        have hn40 : n1 ≤ 40 := by omega
        have hrN : w4.rangeAt N 0 (evl ev) := HN4.out.range
        clear hE1 hX4 hF4 hli hpos hL4 hperm hle h0 hn1
        generalize E'[n1] = lst at *
        clear hlt1
        go_upto_region 5 with fail
        refine wp_region_held_drew (S := fun wx => wx.cell? ⟨B, 6, none⟩ = some (.slice (some ⟨ge, 0, none⟩) (n1 + 1) cape) ∧ wx.rangeAt ge (n1 * 4) (evl lst) ∧ wx.rangeAt N 0 (evl ev)) (by kernel_rfl) ⟨c6, hre, hrN⟩ (fun hHeld => ?_)
        have z1 : IntKind.i64.wrap (n1 : Int) = (n1 : Int) := by rw [IntKind.wrap_i64]; omega
        have z2 : ¬ (n1 : Int) + 1 ≤ (n1 : Int) := by omega
        have z3 : (n1 : Int) < (n1 : Int) + 1 := by omega
        refine wpAnyH_take (i := 0) (v := (.pointer (some ⟨B, 0, none⟩))) rfl (by kernel_rfl) (by kernel_rfl) (by kernel_rfl) (fun _ _ _ h => h) (Or.inl ⟨by rfl, fun wx hSw => by kernel_rfl⟩) (by assumption) ?_
        simp only [Act.put, List.getElem_toArray, List.getElem_cons_zero, List.setIfInBounds_toArray, List.set_cons_zero, List.set_cons_succ]
        refine wpAnyH_take (i := 1) (v := (.pointer (some ⟨B, 0, none⟩))) rfl (by kernel_rfl) (by kernel_rfl) (by kernel_rfl) (fun _ _ _ h => h) (Or.inl ⟨by rfl, fun wx hSw => by ((try dsimp only at hSw); go_simp)⟩) (by assumption) ?_
        simp only [Act.put, List.getElem_toArray, List.getElem_cons_succ, List.getElem_cons_zero, List.setIfInBounds_toArray, List.set_cons_zero, List.set_cons_succ]
        refine wpAnyH_take (i := 2) (v := (.pointer (some ⟨B, 6, none⟩))) rfl (by kernel_rfl) (by kernel_rfl) (by kernel_rfl) (fun _ _ _ h => h) (Or.inl ⟨by rfl, fun wx hSw => by ((try dsimp only at hSw); go_simp)⟩) (by assumption) ?_
        simp only [Act.put, List.getElem_toArray, List.getElem_cons_succ, List.getElem_cons_zero, List.setIfInBounds_toArray, List.set_cons_zero, List.set_cons_succ]
        refine wpAnyH_take (i := 3) (v := (.slice (some ⟨ge, 0, none⟩) (n1 + 1) cape)) rfl (by kernel_rfl) (by kernel_rfl) (by kernel_rfl) (fun _ _ _ h => h) (Or.inl ⟨by rfl, fun wx hSw => by (have hc := hSw.1; go_simp)⟩) (by assumption) ?_
        simp only [Act.put, List.getElem_toArray, List.getElem_cons_succ, List.getElem_cons_zero, List.setIfInBounds_toArray, List.set_cons_zero, List.set_cons_succ]
        refine wpAnyH_take (i := 4) (v := (.pointer (some ⟨B, 0, none⟩))) rfl (by kernel_rfl) (by kernel_rfl) (by kernel_rfl) (fun _ _ _ h => h) (Or.inl ⟨by rfl, fun wx hSw => by kernel_rfl⟩) (by assumption) ?_
        simp only [Act.put, List.getElem_toArray, List.getElem_cons_succ, List.getElem_cons_zero, List.setIfInBounds_toArray, List.set_cons_zero, List.set_cons_succ]
        refine wpAnyH_take (i := 5) (v := (.pointer (some ⟨B, 0, none⟩))) rfl (by kernel_rfl) (by kernel_rfl) (by kernel_rfl) (fun _ _ _ h => h) (Or.inl ⟨by rfl, fun wx hSw => by ((try dsimp only at hSw); go_simp)⟩) (by assumption) ?_
        simp only [Act.put, List.getElem_toArray, List.getElem_cons_succ, List.getElem_cons_zero, List.setIfInBounds_toArray, List.set_cons_zero, List.set_cons_succ]
        refine wpAnyH_take (i := 6) (v := (.pointer (some ⟨B, 6, none⟩))) rfl (by kernel_rfl) (by kernel_rfl) (by kernel_rfl) (fun _ _ _ h => h) (Or.inl ⟨by rfl, fun wx hSw => by ((try dsimp only at hSw); go_simp)⟩) (by assumption) ?_
        simp only [Act.put, List.getElem_toArray, List.getElem_cons_succ, List.getElem_cons_zero, List.setIfInBounds_toArray, List.set_cons_zero, List.set_cons_succ]
        refine wpAnyH_take (i := 7) (v := (.slice (some ⟨ge, 0, none⟩) (n1 + 1) cape)) rfl (by kernel_rfl) (by kernel_rfl) (by kernel_rfl) (fun _ _ _ h => h) (Or.inl ⟨by rfl, fun wx hSw => by (have hc := hSw.1; go_simp)⟩) (by assumption) ?_
        simp only [Act.put, List.getElem_toArray, List.getElem_cons_succ, List.getElem_cons_zero, List.setIfInBounds_toArray, List.set_cons_zero, List.set_cons_succ]
        refine wpAnyH_take (i := 8) (v := (.int .i64 ((n1 : Int) + 1))) rfl (by kernel_rfl) (by kernel_rfl) (by kernel_rfl) (fun _ _ _ h => h) (Or.inl ⟨by rfl, fun wx hSw => by go_simp⟩) (by assumption) ?_
        simp only [Act.put, List.getElem_toArray, List.getElem_cons_succ, List.getElem_cons_zero, List.setIfInBounds_toArray, List.set_cons_zero, List.set_cons_succ]
        refine wpAnyH_take (i := 9) (v := (.int .i64 (n1 : Int))) rfl (by kernel_rfl) (by kernel_rfl) (by kernel_rfl) (fun _ _ _ h => h) (Or.inl ⟨by rfl, fun wx hSw => by go_simp⟩) (by assumption) ?_
        simp only [Act.put, List.getElem_toArray, List.getElem_cons_succ, List.getElem_cons_zero, List.setIfInBounds_toArray, List.set_cons_zero, List.set_cons_succ]
        refine wpAnyH_take (i := 10) (v := (.pointer (some ⟨ge, n1 * 4, none⟩))) rfl (by kernel_rfl) (by kernel_rfl) (by kernel_rfl) (fun _ _ _ h => h) (Or.inl ⟨by rfl, fun wx hSw => by go_simp⟩) (by assumption) ?_
        simp only [Act.put, List.getElem_toArray, List.getElem_cons_succ, List.getElem_cons_zero, List.setIfInBounds_toArray, List.set_cons_zero, List.set_cons_succ]
        refine wpAnyH_take (i := 11) (v := (.agg (evl lst).toArray)) rfl (by kernel_rfl) (by kernel_rfl) (by kernel_rfl) (fun _ _ _ h => h) (yieldsIf_load_mid (by rfl) 50 (.tmp 23) rfl _ _ rfl _ _ (fun _ h => h.2.1) Tryz.underlying50 rfl (by kernel_rfl)) (by assumption) ?_
        simp only [Act.put, List.getElem_toArray, List.getElem_cons_succ, List.getElem_cons_zero, List.setIfInBounds_toArray, List.set_cons_zero, List.set_cons_succ]
        refine wpAnyH_take (i := 12) (v := (.agg (evl ev).toArray)) rfl (by kernel_rfl) (by kernel_rfl) (by kernel_rfl) (fun _ _ _ h => h) (yieldsIf_load_mid (by rfl) 50 (.tmp 5) rfl _ _ rfl _ _ (fun _ h => h.2.2) Tryz.underlying50 rfl (by kernel_rfl)) (by assumption) ?_
        simp only [Act.put, List.getElem_toArray, List.getElem_cons_succ, List.getElem_cons_zero, List.setIfInBounds_toArray, List.set_cons_zero, List.set_cons_succ]
        rcases HLi.out with ⟨hla, hE', hah⟩ | ⟨hla, hah⟩
        · obtain rfl : lst = ev := by rw [HLast.out] at hla; exact Option.some.inj hla
          have HI5 : Hid (ReI w w1 B R N b0 s sv F w4.drew) := by
            refine ⟨r, { sv1 with l := sv1.l ++ [lst] }, lst.d, lst.k, lst.s, lst.a, ?_, HR4.out.drew, HN4.out.drew, Lo.mono (Lo.drew (by rw [← hE']; exact HL4.out)) (fun x _ hx => ?_), ?_, ?_, HEq.out.1, HEq.out.2.1, HB4.out.1.drew, ?_⟩
            · rw [HTl.out]
              refine tl_go (j := 1) (k := 1) (by omega) HNx.out (by decide) ?_
              show sv1.read 1 (evN lst) = _
              simp only [Sv.read, evN]
              rw [if_pos ⟨hah, H0.out⟩]
            · rcases hx with (h | ⟨h1, h2⟩) | ⟨h1, h2⟩
              · exact .inl h
              · exact .inr ⟨h1, by show x < w4.heap.size; have := HB4.out.2; omega⟩
              · exact .inr ⟨by have := HEq.out.2.2; have := HB3.out.2; omega, h2⟩
            · exact (Lq.nx (noL_wdk 1 (by omega)) HNx.out).trans hs1
            · have := nx_less HNx.out
              show sv1.L.length + _ ≤ _
              omega
            · have := HEq.out.2.2; have := HB4.out.2; show _ ≤ w4.heap.size; omega
          have HM5 : Hid (rdLen R w4.drew < rdLen R wr) := by
            show _ < _
            rw [rdLen_at HR4.out.drew, HR1.out]
            exact nx_less HNx.out
          clear hla hE' hah
          refine wpAnyH_take (i := 13) (v := (.bool false)) rfl (by kernel_rfl) (by kernel_rfl) (by kernel_rfl) (fun _ _ _ h => h) (Or.inl ⟨by rfl, fun wx hSw => by (unfold evl; go_simp)⟩) (by assumption) ?_
          simp only [Act.put, List.getElem_toArray, List.getElem_cons_succ, List.getElem_cons_zero, List.setIfInBounds_toArray, List.set_cons_zero, List.set_cons_succ]
          clear hHeld c6 hre hrN
          refine wpAnyH_done (by kernel_rfl) ?_ _
          go_wp2
          exact ⟨HI5.out, HM5.out⟩
        · have hneq : lst.d = ev.d → lst.k = ev.k → lst.s = ev.s → ¬ lst.a = ev.a := fun h1 h2 h3 h4 => hla (by
            rw [HLast.out]
            obtain ⟨a0, a1, a2, a3⟩ := lst
            obtain ⟨c0, c1, c2, c3⟩ := ev
            dsimp only at h1 h2 h3 h4
            rw [h1, h2, h3, h4])
          have HE : Hid (RePost w B R b0 s sv F (.returned (.bool false)) w4.drew) := by
            refine ⟨HB4.out.1.drew, .inr ⟨rfl, ?_⟩⟩
            rw [HTl.out]
            refine tl_fail (k := 1) (by omega) HNx.out ?_
            show sv1.read 1 (evN ev) = none
            simp only [Sv.read, evN]
            rw [if_neg (fun h => hah h.1)]
          have HNq : Hid (lst.d = ev.d → lst.k = ev.k → lst.s = ev.s → ¬ lst.a = ev.a) := hneq
          clear hla hah hneq
          refine wpAnyH_take (i := 13) (v := (.bool true)) rfl (by kernel_rfl) (by kernel_rfl) (by kernel_rfl) (fun _ _ _ h => h) (Or.inl ⟨by rfl, fun wx hSw => by (unfold evl; go_simp; exact HNq.out)⟩) (by assumption) ?_
          simp only [Act.put, List.getElem_toArray, List.getElem_cons_succ, List.getElem_cons_zero, List.setIfInBounds_toArray, List.set_cons_zero, List.set_cons_succ]
          clear hHeld c6 hre hrN
          refine wpAnyH_done (by kernel_rfl) ?_ _
          go_wp2
          go_ret
          exact HE.out
    · have HE : Hid (RePost w B R b0 s sv F (.returned (.bool true)) w3) := by
        refine ⟨HB2.out.1.trans (hb3.mono (by have := HB2.out.2; omega)), .inl ⟨s1, sv1, rfl, HTl.out, hno, ?_, ?_, hs1, hl1, HEq.out.1, HEq.out.2.1⟩⟩
        · exact HRa.out.lower hb3
        · refine Lo.mono (HL2.out.keep (S := fun _ => False) (Keep.below hb3) (fun _ _ x => x)) (fun x _ hx => ?_)
          have h1 := HWd.out x hx
          rcases h1.2.2.2.2 with h | h
          · exact .inl h
          · exact .inr ⟨h, by have := HB2.out.2; have := hb3.size; omega⟩
      clear hno hb3
      go_wp2
      go_ret
      exact HE.out
end Go.Proofs.YtanndhoimpnhpaaGreatDoor
namespace Go.Proofs.YtanndhoimpnhpaaGreatDoor
open Go.RowKit
theorem IsL.owe {w w' : World} {B R : Nat} {sv : Sv} {F : Nat → Prop} (h : IsL w B sv F) (hR : ¬ F R) (g : Ln.St) (day : Int) (hA : ∀ evv bk, At w B (ll sv.t evv sv.g sv.day bk) → At w' B (ll sv.t evv g day bk)) (hk : Keep (fun x => x = R ∨ x = B) w w') : IsL w' B { sv with g := g, day := day } F := by
  obtain ⟨P, Mb, evv, bkv, h1, h2⟩ := h
  have hn : ∀ b, Fo B P Mb evv bkv b → ¬ b = R := fun b hb e => hR (by rw [← e]; exact h2 b hb)
  refine ⟨P, Mb, evv, bkv, ⟨hA _ _ h1.ln, h1.bk.keep hk (fun b hb hx => ?_), own_keep h1.ev hk (fun b hb hx => ?_), h1.nb, h1.ne, h1.so, h1.ok, h1.le, h1.ot⟩, h2⟩
  · rcases hx with hx | hx
    · exact hn b (.inr (.inl hb)) hx
    · rw [hx] at hb; exact h1.nb hb
  · rcases hx with hx | hx
    · exact hn b (.inr (.inr hb)) hx
    · exact (h1.ne b hb).1 hx
end Go.Proofs.YtanndhoimpnhpaaGreatDoor
