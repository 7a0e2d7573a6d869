/- Joined by program: KpK, Opn. -/
import Derived.Test.YtanndhoimpnhpaaDoorM20
import Derived.Deep.CutRange
import Derived.Test.YtanndhoimpnhpaaDoorM13
import Derived.Deep.Slices
import Derived.ChangeSame
/- Events that come late leave the sums as if they had come in time: the statement Late, walked. -/
namespace Go.Proofs.YtanndhoimpnhpaaDoor
open Go.ChangeShapes Go.WideShapes Go.RowKit Go.WideMaps Go.Maps Cal

/-- What the loop of Late keeps. -/
def LtR (w : World) (NT B : Nat) (t : Ln.Terms) (O : List Ln.Ev) (s13 s14 s15 : Value) (wr : World) : Prop :=
  ∃ (k p : Nat) (E K : List Ln.Ev) (g : Ln.St) (d : Int) (L : List En) (F : Nat → Prop), k ≤ O.length ∧ p ≤ 900 ∧ s15 = .int .i64 k ∧ s13 = .int .i64 (t.st + p) ∧ LtS w NT B t p k E g d L F s14 K wr ∧ E.Perm K ∧ K.Sublist (O.take k)
/-- What is known behind the day's run. -/
def LtD (w : World) (NT B : Nat) (t : Ln.Terms) (E : List Ln.Ev) (k : Nat) (vK : Value) (K : List Ln.Ev) (s13 : Value) (wx : World) : Prop :=
  ∃ (p : Nat) (g : Ln.St) (d : Int) (L : List En) (F : Nat → Prop), p ≤ 900 ∧ s13 = .int .i64 (t.st + p) ∧ LtS w NT B t p (k + 1) E g d L F vK K wx

set_option maxRecDepth 10000 in
set_option maxHeartbeats 8000000 in
theorem late_any (w : World) (v0 v1 v2 v3 : Value) (zs cs us : List Int) (Eb : Nat) (rs : List Ln.Ev) (h0 : IntsV w v0 zs) (h1 : EvV w Eb v1 rs) (hrl : rs.length ≤ 9223372036854775807)
    (hwf : ∀ r ∈ rs, (Lit.int .i64 r.d).wf = true ∧ (Lit.int .i64 r.k).wf = true ∧ (Lit.int .i64 r.s).wf = true ∧ (Lit.int .i64 r.a).wf = true) (h2 : IntsV w v2 cs) (hcl : cs.length ≤ 9223372036854775807) (h3 : IntsV w v3 us) (hmv : Mv w) (hlim : Lim w) :
    Calls Tryd.prog 7 #[v0, v1, v2, v3] w fun e w' => e = .returned (.bool true) ∧ Below w.heap.size w w' := by
  obtain ⟨i0, hi0, hz0, hz1, hz2⟩ := info_parts infoEvp
  have HI : Hid (Tryd.prog.info? 53 = some i0 ∧ i0.zero = some (.agg #[.int .i64 0, .int .i64 0, .int .i64 0, .int .i64 0]) ∧ i0.size = 4 ∧ i0.bytes = 32) := ⟨hi0, hz0, hz1, hz2⟩
  clear hi0 hz0 hz1 hz2
  have HMv : Hid (Mv w) := hmv
  have HLim : Hid (Lim w) := hlim
  have HI0 : Hid (IntsV w v0 zs) := h0
  have HE1 : Hid (EvV w Eb v1 rs) := h1
  have HI2 : Hid (IntsV w v2 cs) := h2
  have HI3 : Hid (IntsV w v3 us) := h3
  have HWf : Hid (∀ r ∈ rs, (Lit.int .i64 r.d).wf = true ∧ (Lit.int .i64 r.k).wf = true ∧ (Lit.int .i64 r.s).wf = true ∧ (Lit.int .i64 r.a).wf = true) := hwf
  obtain ⟨_, p0, cap0, rfl, _, _⟩ := h0
  obtain ⟨p1, cap1, rfl, _, _⟩ := h1
  obtain ⟨_, p2, cap2, rfl, _, _⟩ := h2
  obtain ⟨_, p3, cap3, rfl, _, _⟩ := h3
  have hA := awake_any w hmv
  clear hmv hlim hwf
  go_enter Tryd.func7, Tryd.ntmps7
  go_wp2_with fail
  refine hA.mono ?_
  rintro e w1 ⟨rfl, hb1⟩
  have hT := terms_any w1 _ zs (HI0.out.below hb1)
  clear hA
  go_wp2_with fail
  refine hT.mono ?_
  rintro e w2 ⟨⟨t, ht, rfl⟩, hb2⟩
  have hbw2 : Below w.heap.size w w2 := hb1.trans (hb2.mono hb1.size)
  have HRt : Hid (rtB t = true) := ht
  clear hT hb1 hb2 ht
  have hNT0 : At (w2.alloc (.cells (tml t).toArray 41)) w2.heap.size (tml t) := At.alloc w2 _ _
  have hb3 : Below w.heap.size w (w2.alloc (.cells (tml t).toArray 41)) := hbw2.alloc hbw2.size _
  have hNT1 : w.heap.size ≤ w2.heap.size := hbw2.size
  have hEv := events_any (w2.alloc (.cells (tml t).toArray 41)) t (rt_ok HRt.out) _ Eb rs (HE1.out.keep (S := fun _ => False) (Keep.below hb3) (fun _ x => x)) hrl HWf.out
  have q0 : (w2.alloc (.cells (tml t).toArray 41)).cell? ⟨w2.heap.size, 0, none⟩ = some (.int .i64 t.st) := hNT0.cell 0 rfl
  have q1 : (w2.alloc (.cells (tml t).toArray 41)).cell? ⟨w2.heap.size, 1, none⟩ = some (.int .i64 t.pr) := hNT0.cell 1 rfl
  have q2 : (w2.alloc (.cells (tml t).toArray 41)).cell? ⟨w2.heap.size, 2, none⟩ = some (.int .i64 t.rt) := hNT0.cell 2 rfl
  have q3 : (w2.alloc (.cells (tml t).toArray 41)).cell? ⟨w2.heap.size, 3, none⟩ = some (.int .i64 t.fi) := hNT0.cell 3 rfl
  have q4 : (w2.alloc (.cells (tml t).toArray 41)).cell? ⟨w2.heap.size, 4, none⟩ = some (.int .i64 t.ba) := hNT0.cell 4 rfl
  have q5 : (w2.alloc (.cells (tml t).toArray 41)).cell? ⟨w2.heap.size, 5, none⟩ = some (.int .i64 t.du) := hNT0.cell 5 rfl
  unfold tmV at *
  go_wp2_with (first | (refine wpList_store_new rfl 41 (.tmp 10) (.tmp 35) rfl (tml t).toArray _ rfl rfl (by kernel_rfl) rfl (by kernel_rfl) ?_) | fail)
  clear hbw2 q0 q1 q2 q3 q4 q5
  refine hEv.mono ?_
  have HB2 : Hid (Below w.heap.size w (w2.alloc (.cells (tml t).toArray 41))) := hb3
  clear hEv
  generalize w2.alloc (.cells (tml t).toArray 41) = V2 at *
  generalize w2.heap.size = NT at *
  clear hb3 HE1 HWf
  rintro e w3 ⟨vv, O, rfl, hOut⟩
  obtain ⟨op, ocap, rfl⟩ := own_slice hOut.ow
  have HB3 : Hid (Below w.heap.size w w3) := HB2.out.trans (hOut.bl.mono HB2.out.size)
  have HT3 : Hid (At w3 NT (tml t)) := At.keep (S := fun _ => False) (v := .int .i64 t.st) hNT0 (Keep.below hOut.bl) (fun x => x)
  have HO : Hid (w3.ownsRow 0 53 4 (.slice op O.length ocap) O.length (evs O)) := own_low hOut.ow
  have hO40 : O.length ≤ 40 := hOut.le
  have HOk : Hid (∀ e ∈ O, evF t e = 0) := fun e he => (hOut.ok e he).1
  have HOd : Hid (O.Pairwise (fun a b => ¬ a.s = b.s)) := hOut.ds
  clear hOut hNT0 HB2
  have hNTl : NT < w3.heap.size := At.lt (v := .int .i64 t.st) HT3.out
  have HMv3 : Hid (Mv w3) := HMv.out.below HB3.out
  have HLim3 : Hid (Lim w3) := HLim.out.below HB3.out
  have hOt := rt_ok HRt.out
  have s0 := hOt.st0
  have s1 := hOt.st1
  clear hOt
  have HN0 : Hid (∀ wx, Below w3.heap.size w3 wx → At wx NT (tml t)) := fun wx hx => At.keep (S := fun _ => False) (v := .int .i64 t.st) HT3.out (Keep.below hx) (fun x => x)
  have hTo := told_any w3 t HRt.out 0 (.slice none 0 0) [] ⟨none, 0, rfl, Nat.le_refl _, fun k hk => absurd hk (Nat.not_lt_zero k)⟩ (by simp) (fun e he => by simp at he) List.Pairwise.nil HLim3.out
  unfold tmV at hTo
  go_upto_region 4 with fail
  refine wp_region_lit ?_
  refine wpList_load_mid rfl 41 (.tmp 10) rfl _ 0 rfl (tml t) _ HT3.out.range Tryd.underlying41 rfl (by kernel_rfl) ?_
  simp only [Act.put, List.setIfInBounds_toArray, List.set_cons_zero, List.set_cons_succ]
  go_wp2_with fail
  refine hTo.mono ?_
  rintro e w4 ⟨B, E1, rfl, hp1, hLo1, hb4⟩
  clear hTo
  obtain rfl : E1 = [] := List.Perm.eq_nil hp1
  have HS0 : Hid (LtS w3 NT B t 0 0 [] (Ln.start t) t.st [] (Wd (fun _ => False) w3 w4) (.slice none 0 0) [] w4) := by
    refine ⟨⟨hLo1, fun x => ?_, fun b x => Wd.fresh x, ?_⟩, hb4, World.ownsRow_nil _ _ _ _, fun b hb => (by cases hb), (by simp), fun e he => (by simp at he), (by simp)⟩
    · have := Wd.fresh x
      omega
    · rintro b (x | x)
      · exact x.elim
      · exact x.2
  have d0 : w4.cell? ⟨NT, 0, none⟩ = some (.int .i64 t.st) := (HN0.out w4 hb4).cell 0 rfl
  clear hLo1 hb4 hp1
  generalize hF1 : Wd (fun _ => False) w3 w4 = F1 at *
  clear hF1
  go_wp2
  clear d0
  go_loopw [13, 14, 15, 16, 17, 18, 19, 20, 21, 22] (fun s13 s14 s15 _ _ _ _ _ _ _ wr => LtR w3 NT B t O s13 s14 s15 wr) (fun _ _ s15 _ _ _ _ _ _ _ _ => (O.length - intOf s15).toNat)
  case atStart => exact ⟨0, 0, [], [], _, _, [], F1, Nat.zero_le _, Nat.zero_le _, rfl, by simp, HS0.out, List.Perm.refl _, List.nil_sublist _⟩
  case round =>
    obtain ⟨k, p, E, K, g, d, L, F, hk, hp, rfl, rfl, hS, hpe, hsu⟩ := hrel
    clear HS0
    obtain ⟨kp, kcap, rfl⟩ := own_slice hS.ow
    have HS : Hid (LtS w3 NT B t p k E g d L F (.slice kp K.length kcap) K wr) := hS
    have HPE : Hid (E.Perm K) := hpe
    have HSU : Hid (K.Sublist (O.take k)) := hsu
    have hKl : K.length ≤ 40 := by
      have := hsu.length_le
      rw [List.length_take] at this
      omega
    clear hS hpe hsu
    by_cases hlt : k < O.length
    · obtain ⟨Ob, ⟨p2', cap2', hv2, _, hat2⟩, _⟩ := evs_evv HO.out
      injection hv2 with e1 _ e3
      subst e1 e3
      obtain ⟨o2, rfl, hOl, hr2⟩ := hat2.range k hlt
      have HRW : Hid (∀ wx, Below w3.heap.size w3 wx → wx.rangeAt Ob (o2 + k * 4) (evl O[k])) := fun wx hx q u hu => (World.cell?_of_block (w := w3) (a := ⟨Ob, o2 + k * 4 + q, none⟩) (hx.block Ob hOl)).trans (hr2 q u hu)
      have hla := late_add k hlt HPE.out HSU.out hO40 (HOk.out _ (List.getElem_mem hlt)) HOd.out
      have hA := HS.out.add hNTl HLim3.out O[k] hla.1
      have HND : Hid (∀ x ∈ E, ¬ x.s = O[k].s) := hla.2
      have HTk : Hid (O.take (k + 1) = O.take k ++ [O[k]]) := List.take_succ_eq_append_getElem hlt
      have hrW := HRW.out wr HS.out.bl
      clear hat2 hr2 hla
      generalize O[k] = e at *
      unfold evV at hA
      have zk : (k : Int) < (O.length : Int) := by omega
      go_upto_region 12 with fail
      refine wp_region_lit ?_
      refine wpList_val (.pointer (some ⟨B, 0, none⟩)) wr rfl rfl ?_
      simp only [Act.put, List.setIfInBounds_toArray, List.set_cons_zero, List.set_cons_succ]
      refine wpList_val (.slice (some ⟨Ob, o2, none⟩) O.length ocap) wr rfl rfl ?_
      simp only [Act.put, List.setIfInBounds_toArray, List.set_cons_zero, List.set_cons_succ]
      refine wpList_val (.int .i64 k) wr rfl rfl ?_
      simp only [Act.put, List.setIfInBounds_toArray, List.set_cons_zero, List.set_cons_succ]
      refine wpList_val (.pointer (some ⟨Ob, o2 + k * 4, none⟩)) wr rfl (by go_simp) ?_
      simp only [Act.put, List.setIfInBounds_toArray, List.set_cons_zero, List.set_cons_succ]
      refine wpList_load_mid rfl 53 (.tmp 58) rfl _ _ rfl (evl e) _ hrW Tryd.underlying53 rfl (by kernel_rfl) ?_
      simp only [Act.put, List.setIfInBounds_toArray, List.set_cons_zero, List.set_cons_succ]
      clear hrW
      go_wp2_with fail
      refine hA.mono ?_
      rintro x w5 ⟨rfl, E', F', hE', hS5⟩
      have HS5 : Hid (LtS w3 NT B t p k E' g d L F' (.slice kp K.length kcap) K w5) := hS5
      have HE' : Hid (E'.Perm (e :: E)) := hE'
      clear hA hS5 hE' HS
      have hbW : Below w.heap.size w w5 := HB3.out.trans (HS5.out.bl.mono HB3.out.size)
      go_upto_region 15 with fail
      go_cut [17] from 63 to 74 (fun s17 wx => ∃ b : Bool, s17 = .bool b ∧ wx = w5)
      case first =>
        by_cases hu : k < us.length
        · obtain ⟨huw, q3, qcap3, hq3, _, hcell3⟩ := HI3.out
          injection hq3 with e1 _ e3
          subst e1 e3
          obtain ⟨ub, uo, rfl, hub, huc⟩ := hcell3 k hu
          have hcW : w5.cell? ⟨ub, uo + k, none⟩ = some (.int .i64 us[k]) := (World.cell?_of_block (w := w) (a := ⟨ub, uo + k, none⟩) (hbW.block ub hub)).trans huc
          obtain ⟨r, hr, hpk⟩ := pick_nat us[k] 3 (huw _ (List.getElem_mem hu)) (by omega) (by omega)
          have hpW := hpk w5
          clear hcell3 huc hpk huw hbW
          generalize us[k] = c at *
          have zu : (k : Int) < (us.length : Int) := by omega
          go_wp2_with fail
          refine hpW.mono ?_
          rintro x w' ⟨rfl, hw'⟩
          obtain rfl := hw'.symm
          go_wp2_with fail
          go_meet
          case rel => exact ⟨_, rfl, rfl⟩
        · have zu : ¬ (k : Int) < (us.length : Int) := by omega
          clear hbW
          go_wp2_with fail
          go_meet
          case rel => exact ⟨false, rfl, rfl⟩
      case rest =>
        obtain ⟨gone, rfl, hwc⟩ := hcut
        obtain rfl := hwc.symm
        clear hwc
        go_upto_if 78 with fail
        go_cut [13, 18, 19, 20, 21] from 78 to 115 (fun s13 _ _ _ _ wx => LtD w3 NT B t E' k (.slice kp K.length kcap) K s13 wx)
        case first =>
          by_cases hdl : k < cs.length
          · obtain ⟨hcw, q2, qcap, hq2, _, hcell⟩ := HI2.out
            injection hq2 with e1 _ e3
            subst e1 e3
            obtain ⟨cb, co, rfl, hcb, hcc⟩ := hcell k hdl
            have HCd : Hid (∀ wx, Below w3.heap.size w3 wx → wx.cell? ⟨cb, co + k, none⟩ = some (.int .i64 cs[k])) := fun wx hx => (World.cell?_of_block (w := w) (a := ⟨cb, co + k, none⟩) ((HB3.out.trans (hx.mono HB3.out.size)).block cb hcb)).trans hcc
            obtain ⟨r1, hr1, hpk1⟩ := pick_nat cs[k] (900 - p + 1) (hcw _ (List.getElem_mem hdl)) (by omega) (by omega)
            clear hcell hcc hcw hbW
            generalize cs[k] = c at *
            have zd : (k : Int) < (cs.length : Int) := by omega
            have y0 : IntKind.i64.wrap (t.st + 900) = t.st + 900 := by rw [IntKind.wrap_i64]; omega
            have y1 : IntKind.i64.wrap (t.st + 900 - (t.st + (p : Int))) = ((900 - p : Nat) : Int) := by rw [IntKind.wrap_i64]; omega
            have y2 : IntKind.i64.wrap (((900 - p : Nat) : Int) + 1) = ((900 - p + 1 : Nat) : Int) := by rw [IntKind.wrap_i64]; omega
            have y3 : IntKind.i64.wrap (t.st + (p : Int) + (r1 : Int)) = t.st + (p : Int) + (r1 : Int) := by rw [IntKind.wrap_i64]; omega
            go_upto_region 17 with fail
            refine wp_region_held_drew (S := fun wx => LtS w3 NT B t p k E' g d L F' (.slice kp K.length kcap) K wx) (by kernel_rfl) HS5.out.drew (fun hHeld => ?_)
            clear HS5
            generalize w5.drew = V5 at *
            refine wpAnyH_take (i := 0) (v := (.int .i64 (t.st + p))) rfl (by kernel_rfl) (by kernel_rfl) (by kernel_rfl) (fun _ _ _ h => h) (Or.inl ⟨by rfl, fun wx hSw => by kernel_rfl⟩) (by assumption) ?_
            simp only [Act.put, List.getElem_toArray, List.getElem_cons_zero, List.setIfInBounds_toArray, List.set_cons_zero, List.set_cons_succ]
            refine wpAnyH_take (i := 1) (v := (.slice (some ⟨cb, co, none⟩) cs.length cap2)) rfl (by kernel_rfl) (by kernel_rfl) (by kernel_rfl) (fun _ _ _ h => h) (Or.inl ⟨by rfl, fun wx hSw => by kernel_rfl⟩) (by assumption) ?_
            simp only [Act.put, List.getElem_toArray, List.getElem_cons_succ, List.getElem_cons_zero, List.setIfInBounds_toArray, List.set_cons_zero, List.set_cons_succ]
            refine wpAnyH_take (i := 2) (v := (.int .i64 k)) rfl (by kernel_rfl) (by kernel_rfl) (by kernel_rfl) (fun _ _ _ h => h) (Or.inl ⟨by rfl, fun wx hSw => by kernel_rfl⟩) (by assumption) ?_
            simp only [Act.put, List.getElem_toArray, List.getElem_cons_succ, List.getElem_cons_zero, List.setIfInBounds_toArray, List.set_cons_zero, List.set_cons_succ]
            refine wpAnyH_take (i := 3) (v := (.pointer (some ⟨cb, co + k, none⟩))) rfl (by kernel_rfl) (by kernel_rfl) (by kernel_rfl) (fun _ _ _ h => h) (Or.inl ⟨by rfl, fun wx hSw => by ((try dsimp only at hSw); go_simp)⟩) (by assumption) ?_
            simp only [Act.put, List.getElem_toArray, List.getElem_cons_succ, List.getElem_cons_zero, List.setIfInBounds_toArray, List.set_cons_zero, List.set_cons_succ]
            refine wpAnyH_take (i := 4) (v := (.int .i64 c)) rfl (by kernel_rfl) (by kernel_rfl) (by kernel_rfl) (fun _ _ _ h => h) (Or.inl ⟨by rfl, fun wx hSw => by (have hc : wx.cell? ⟨cb, co + k, none⟩ = some (.int .i64 c) := HCd.out wx hSw.bl; go_simp)⟩) (by assumption) ?_
            simp only [Act.put, List.getElem_toArray, List.getElem_cons_succ, List.getElem_cons_zero, List.setIfInBounds_toArray, List.set_cons_zero, List.set_cons_succ]
            refine wpAnyH_take (i := 5) (v := (.pointer (some ⟨NT, 0, none⟩))) rfl (by kernel_rfl) (by kernel_rfl) (by kernel_rfl) (fun _ _ _ h => h) (Or.inl ⟨by rfl, fun wx hSw => by ((try dsimp only at hSw); go_simp)⟩) (by assumption) ?_
            simp only [Act.put, List.getElem_toArray, List.getElem_cons_succ, List.getElem_cons_zero, List.setIfInBounds_toArray, List.set_cons_zero, List.set_cons_succ]
            refine wpAnyH_take (i := 6) (v := (.int .i64 t.st)) rfl (by kernel_rfl) (by kernel_rfl) (by kernel_rfl) (fun _ _ _ h => h) (Or.inl ⟨by rfl, fun wx hSw => by (have hc : wx.cell? ⟨NT, 0, none⟩ = some (.int .i64 t.st) := (HN0.out wx hSw.bl).cell 0 rfl; go_simp)⟩) (by assumption) ?_
            simp only [Act.put, List.getElem_toArray, List.getElem_cons_succ, List.getElem_cons_zero, List.setIfInBounds_toArray, List.set_cons_zero, List.set_cons_succ]
            refine wpAnyH_take (i := 7) (v := (.int .i64 (t.st + 900))) rfl (by kernel_rfl) (by kernel_rfl) (by kernel_rfl) (fun _ _ _ h => h) (Or.inl ⟨by rfl, fun wx hSw => by ((try dsimp only at hSw); go_simp)⟩) (by assumption) ?_
            simp only [Act.put, List.getElem_toArray, List.getElem_cons_succ, List.getElem_cons_zero, List.setIfInBounds_toArray, List.set_cons_zero, List.set_cons_succ]
            refine wpAnyH_take (i := 8) (v := (.int .i64 (t.st + p))) rfl (by kernel_rfl) (by kernel_rfl) (by kernel_rfl) (fun _ _ _ h => h) (Or.inl ⟨by rfl, fun wx hSw => by kernel_rfl⟩) (by assumption) ?_
            simp only [Act.put, List.getElem_toArray, List.getElem_cons_succ, List.getElem_cons_zero, List.setIfInBounds_toArray, List.set_cons_zero, List.set_cons_succ]
            refine wpAnyH_take (i := 9) (v := (.int .i64 ((900 - p : Nat) : Int))) rfl (by kernel_rfl) (by kernel_rfl) (by kernel_rfl) (fun _ _ _ h => h) (Or.inl ⟨by rfl, fun wx hSw => by ((try dsimp only at hSw); go_simp)⟩) (by assumption) ?_
            simp only [Act.put, List.getElem_toArray, List.getElem_cons_succ, List.getElem_cons_zero, List.setIfInBounds_toArray, List.set_cons_zero, List.set_cons_succ]
            refine wpAnyH_take (i := 10) (v := (.int .i64 ((900 - p + 1 : Nat) : Int))) rfl (by kernel_rfl) (by kernel_rfl) (by kernel_rfl) (fun _ _ _ h => h) (Or.inl ⟨by rfl, fun wx hSw => by ((try dsimp only at hSw); go_simp)⟩) (by assumption) ?_
            simp only [Act.put, List.getElem_toArray, List.getElem_cons_succ, List.getElem_cons_zero, List.setIfInBounds_toArray, List.set_cons_zero, List.set_cons_succ]
            clear y0 y1 y2
            refine wpAnyH_ready (rs := [11]) (by kernel_rfl) (by simp) ?_
            refine AllReadyH.cons rfl (fun K2 hK => ?_) AllReadyH.nil
            go_simp
            refine (hpk1 _).mono ?_
            rintro x w' ⟨rfl, hw'⟩
            obtain rfl := hw'.symm
            go_wp2_with fail
            refine hK.out _ _ hHeld (fun hHeld => ?_)
            clear hK K2 hw' hpk1
            try simp only [Act.put, List.getElem_toArray, List.getElem_cons_succ, List.getElem_cons_zero, List.setIfInBounds_toArray, List.set_cons_zero, List.set_cons_succ]
            refine wpAnyH_take (i := 12) (v := (.int .i64 (t.st + p + r1))) rfl (by kernel_rfl) (by kernel_rfl) (by kernel_rfl) (fun _ _ _ h => h) (Or.inl ⟨by rfl, fun wx hSw => by ((try dsimp only at hSw); go_simp)⟩) (by assumption) ?_
            simp only [Act.put, List.getElem_toArray, List.getElem_cons_succ, List.getElem_cons_zero, List.setIfInBounds_toArray, List.set_cons_zero, List.set_cons_succ]
            refine wpAnyH_take (i := 13) (v := (.int .i64 (t.st + p + r1))) rfl (by kernel_rfl) (by kernel_rfl) (by kernel_rfl) (fun _ _ _ h => h) (Or.inl ⟨by rfl, fun wx hSw => by kernel_rfl⟩) (by assumption) ?_
            simp only [Act.put, List.getElem_toArray, List.getElem_cons_succ, List.getElem_cons_zero, List.setIfInBounds_toArray, List.set_cons_zero, List.set_cons_succ]
            refine wpAnyH_done (by kernel_rfl) ?_ _
            clear y3
            have hL4 : L.length ≤ 4000000000000 := by have := hHeld.len; omega
            have hBk := bookL V5 B _ _ _ _ _ _ hHeld.one.lo hL4 0
            rw [show kf 0 L.length = 0 from by unfold kf; simp, List.drop_zero, Nat.sub_zero] at hBk
            have HS5 : Hid (LtS w3 NT B t p k E' g d L F' (.slice kp K.length kcap) K V5) := hHeld
            clear hHeld
            go_wp2_with fail
            refine hBk.mono ?_
            rintro x w6 ⟨b1, rfl, ho1, hb6⟩
            clear hBk
            obtain ⟨bp1, bc1, rfl⟩ := own_slice ho1
            have hS6 := HS5.out.below hb6
            have hR := hS6.run hNTl HMv3.out (by omega) (p + r1) (by omega) (by omega)
            rw [show t.st + ((p + r1 : Nat) : Int) = t.st + (p : Int) + (r1 : Int) by omega] at hR
            have HO1 : Hid (w6.ownsRow V5.heap.size 98 3 (.slice bp1 L.length bc1) L.length (ens L)) := ho1
            clear ho1 hb6 hS6
            go_wp2_with fail
            refine hR.mono ?_
            rintro x w7 ⟨rfl, hS7, hk7⟩
            clear hR
            have ho1 := own_keep HO1.out hk7 (fun b hb x => by have h1 := (own_base HO1.out hb).1; have h2 := HS5.out.one.lt b x; omega)
            obtain ⟨M, hM⟩ := bkP_pre t.st (amOf t E') L (p + r1)
            generalize hL2 : bkP t.st (amOf t E') L (p + r1) = L2 at *
            clear hL2
            have hL24 : L2.length ≤ 4000000000000 := by have := hS7.len; omega
            have hBk2 := bookL w7 B _ _ _ _ _ _ hS7.one.lo hL24 0
            rw [show kf 0 L2.length = 0 from by unfold kf; simp, List.drop_zero, Nat.sub_zero] at hBk2
            have HO1' : Hid (w7.ownsRow V5.heap.size 98 3 (.slice bp1 L.length bc1) L.length (ens L)) := ho1
            generalize hF7 : Wd F' w6 w7 = F7 at *
            generalize hG7 : Ln.run t cdOf (wtOf t.ba) E' (p + r1) = G7 at *
            have HS7 : Hid (LtS w3 NT B t (p + r1) (k + 1) E' G7 (t.st + (p : Int) + (r1 : Int)) L2 F7 (.slice kp K.length kcap) K w7) := hS7
            clear HO1 ho1 hk7 hS7 HS5 hF7 hG7
            go_wp2_with fail
            refine hBk2.mono ?_
            rintro x w8 ⟨b2, rfl, ho2, hb8⟩
            clear hBk2
            obtain ⟨bp2, bc2, rfl⟩ := own_slice ho2
            have hEn1 : EnV w8 (.slice bp1 L.length bc1) L := (own_en HO1'.out).below hb8
            have hEn2 : EnV w8 (.slice bp2 L2.length bc2) L2 := own_en ho2
            have zl : ¬ (L2.length : Int) < (L.length : Int) := by rw [hM, List.length_append]; omega
            have hEn3 : EnV w8 (.slice bp2 L.length bc2) L := by rw [hM] at hEn2; exact hEn2.pre
            have hcap : L.length ≤ bc2 := by
              obtain ⟨_, c', hv, h2, _⟩ := id hEn3
              injection hv with _ _ e3
              omega
            have hsl := fun W => bslice_to bp2 L2.length bc2 L.length hcap W
            have hSa := same_true w8 _ _ L hEn1 hEn3 hL4
            have HS8 : Hid (LtS w3 NT B t (p + r1) (k + 1) E' G7 (t.st + (p : Int) + (r1 : Int)) L2 F7 (.slice kp K.length kcap) K w8) := HS7.out.below hb8
            clear hM hEn1 hEn2 hEn3 ho2 hb8 HS7 HO1' hcap
            go_wp2_with fail
            refine hSa.mono ?_
            rintro x w9 ⟨rfl, hb9⟩
            have HS9 : Hid (LtS w3 NT B t (p + r1) (k + 1) E' G7 (t.st + (p : Int) + (r1 : Int)) L2 F7 (.slice kp K.length kcap) K w9) := HS8.out.below hb9
            clear hSa hsl zl HS8 hb9
            go_wp2_with fail
            go_meet
            case rel => exact ⟨p + r1, _, _, _, _, by omega, by congr 1; omega, HS9.out⟩
          · have zd : ¬ (k : Int) < (cs.length : Int) := by omega
            clear hbW
            go_wp2_with fail
            go_meet
            case rel => exact ⟨p, _, _, _, _, hp, rfl, HS5.out.more⟩
        case rest =>
          obtain ⟨p', g', d', L', F2, hp', rfl, hS9⟩ := hcut
          have HS9 : Hid (LtS w3 NT B t p' (k + 1) E' g' d' L' F2 (.slice kp K.length kcap) K wc) := hS9
          clear hS9 HS5 hbW
          cases gone with
          | true =>
            have c2 : wc.cell? ⟨Ob, o2 + k * 4 + 2, none⟩ = some (.int .i64 e.s) := HRW.out wc HS9.out.bl 2 _ rfl
            have hC := HS9.out.cancel hNTl e HE'.out HND.out
            go_wp2_with fail
            refine hC.mono ?_
            rintro x w10 ⟨rfl, E2, F3, hE2, hS10⟩
            have HE : Hid (LtR w3 NT B t O (.int .i64 (t.st + p')) (.slice kp K.length kcap) (.int .i64 ((k + 1 : Nat) : Int)) w10) := ⟨k + 1, p', E2, K, g', d', L', F3, hlt, hp', rfl, rfl, hS10, hE2.trans HPE.out, by rw [HTk.out]; exact HSU.out.trans (List.sublist_append_left _ _)⟩
            clear hC c2 hE2 hS10 HS9 HE' HND HPE HSU HTk HRW
            go_wp2
            exact ⟨HE.out, by simp [intOf]; omega⟩
          | false =>
            have hrW := HRW.out wc HS9.out.bl
            go_upto_region 30 with fail
            refine wp_region_lit ?_
            refine wpList_val (.slice kp K.length kcap) wc rfl rfl ?_
            simp only [Act.put, List.setIfInBounds_toArray, List.set_cons_zero, List.set_cons_succ]
            refine wpList_val (.slice (some ⟨Ob, o2, none⟩) O.length ocap) wc rfl rfl ?_
            simp only [Act.put, List.setIfInBounds_toArray, List.set_cons_zero, List.set_cons_succ]
            refine wpList_val (.int .i64 k) wc rfl rfl ?_
            simp only [Act.put, List.setIfInBounds_toArray, List.set_cons_zero, List.set_cons_succ]
            refine wpList_val (.pointer (some ⟨Ob, o2 + k * 4, none⟩)) wc rfl (by go_simp) ?_
            simp only [Act.put, List.setIfInBounds_toArray, List.set_cons_zero, List.set_cons_succ]
            refine wpList_load_mid rfl 53 (.tmp 129) rfl _ _ rfl (evl e) _ hrW Tryd.underlying53 rfl (by kernel_rfl) ?_
            simp only [Act.put, List.setIfInBounds_toArray, List.set_cons_zero, List.set_cons_succ]
            have hx : At (wc.alloc (.cells (evl e).toArray 53)) wc.heap.size (evl e) := At.alloc wc _ _
            have hS5 : LtS w3 NT B t p' (k + 1) E' g' d' L' F2 (.slice kp K.length kcap) K (wc.alloc (.cells (evl e).toArray 53)) := HS9.out.below ((Below.refl _ _).alloc (Nat.le_refl _) _)
            refine wpList_val (.slice (some ⟨wc.heap.size, 0, none⟩) 1 1) (wc.alloc (.cells (evl e).toArray 53)) rfl (by kernel_rfl) ?_
            simp only [Act.put, List.setIfInBounds_toArray, List.set_cons_zero, List.set_cons_succ]
            clear hrW HS9 HND HRW
            generalize wc.alloc (.cells (evl e).toArray 53) = V5 at *
            generalize wc.heap.size = N5 at *
            obtain ⟨hi0, hz0, hz1, hz2⟩ := HI.out
            refine wpList_plain rfl fun K2 hK => ?_
            refine wp_append_at V5 (.tmp 126) (.tmp 131) 50 rfl w3.heap.size 53 i0 _ 4 32 Tryd.underlying50 hi0 hz0 hz1 hz2 (by rfl) (by omega) (.slice kp K.length kcap) K.length (evs K) rfl hS5.ow ⟨N5, 0, none⟩ 1 1 (evl e) rfl rfl (fun q u hu => ?_) (fun u hu => evs_cell1 [e] u hu) (by unfold maxLen; omega) (by omega) hS5.bl.size ?_
            · have := (hx q u hu).1
              rw [Addr.add_lit, Nat.zero_add]
              exact this
            · intro v' w' h1 h2 h3
              refine hK _ _ ?_
              obtain ⟨g2, cap', rfl, _, _⟩ := h1.form (by omega)
              have hkk : Keep (fun b => (Value.slice kp K.length kcap).ownBlock = some b) V5 w' := ⟨h2.os, h2.tape, h2.output, h2.size, fun b hb hx => h2.block b hb (fun x => hx x.symm)⟩
              have HE : Hid (LtR w3 NT B t O (.int .i64 (t.st + p')) (.slice (some ⟨g2, 0, none⟩) (K.length + 1) cap') (.int .i64 ((k + 1 : Nat) : Int)) w') := by
                refine ⟨k + 1, p', E', K ++ [e], g', d', L', F2, hlt, hp', rfl, rfl, ⟨hS5.one.keep hkk (fun b hb hx => hS5.ap b hx hb), Keep.fresh hS5.bl hkk (fun b hb => (own_base hS5.ow hb).1), ?_, ?_, hS5.dp, hS5.inl, hS5.len⟩, ?_, ?_⟩
                · rw [So.evs_append, List.length_append]
                  exact h1
                · intro b hb hF
                  rcases h3 with h3 | h3
                  · exact hS5.ap b (h3.symm.trans hb) hF
                  · rw [h3] at hb
                    have hb2 := Option.some.inj hb
                    have := hS5.one.lt b hF
                    omega
                · exact HE'.out.trans ((List.Perm.cons e HPE.out).trans (List.perm_append_singleton e K).symm)
                · rw [HTk.out]
                  exact HSU.out.append (List.Sublist.refl _)
              clear h1 h2 h3 hS5 hx hkk HE' HPE HSU HTk
              simp only [Act.put, List.setIfInBounds_toArray, List.set_cons_zero, List.set_cons_succ]
              go_wp2
              exact ⟨HE.out, by simp [intOf]; omega⟩
    · obtain rfl : k = O.length := by omega
      have zk : ¬ (O.length : Int) < (O.length : Int) := by omega
      rw [List.take_length] at HSU
      have hTw := HN0.out wr HS.out.bl
      obtain ⟨Kb, hKv, _⟩ := evs_evv (own_low HS.out.ow)
      have hTo := told_any wr t HRt.out Kb _ K hKv hKl (fun e he => HOk.out e (HSU.out.subset he)) (HOd.out.sublist HSU.out) (HLim3.out.below HS.out.bl)
      unfold tmV at hTo
      clear hKv
      go_upto_region 31 with fail
      refine wp_region_lit ?_
      refine wpList_load_mid rfl 41 (.tmp 10) rfl _ 0 rfl (tml t) _ hTw.range Tryd.underlying41 rfl (by kernel_rfl) ?_
      simp only [Act.put, List.setIfInBounds_toArray, List.set_cons_zero, List.set_cons_succ]
      clear hTw
      go_wp2_with fail
      refine hTo.mono ?_
      rintro x w5 ⟨B2, E2, rfl, hp2, hLo2, hb5⟩
      clear hTo
      have hE : E2 = E := So.sorted_one (hp2.trans HPE.out.symm) hLo2.facts.1 HS.out.one.lo.facts.1
      subst hE
      have hS5 := HS.out.below hb5
      have hws := HS.out.bl.size
      have HTwo : Hid (Two w3 NT t E2 B B2 g d L (Ln.start t) t.st [] F (Wd (fun _ => False) wr w5) w5) := by
        refine ⟨hS5.one, ⟨hLo2, ?_, ?_, ?_⟩, ?_, hS5.bl⟩
        · intro x; have := Wd.fresh x; omega
        · intro b x; have := Wd.fresh x; omega
        · rintro b (x | x)
          · exact x.elim
          · exact x.2
        · intro b x y
          have h1 := Wd.fresh y
          have h2 := HS.out.one.lt b x
          omega
      obtain ⟨_, hEo, hEl, hOt⟩ := hLo2.facts
      have hlen := hS5.len
      have HLa : Hid (∀ j, InL t.st (bkP t.st (amOf t E2) L p) ∧ InL t.st (cleanB t.st (amOf t E2) p) ∧ smF t.st (bkP t.st (amOf t E2) L p) j = smF t.st (cleanB t.st (amOf t E2) p) j) := late_same hEo hEl hOt p hp L hS5.inl
      have hR1 := HTwo.out.runX HMv3.out (by omega) p hS5.dp (by omega) (HN0.out w5 hS5.bl)
      have HCl : Hid (bkP t.st (fun k => (yOf t E2 k).am) [] p = cleanB t.st (amOf t E2) p) := clean_on hEo hEl hOt 0 p (Nat.zero_le _) (by omega)
      have hl1 := bkP_len t.st (amOf t E2) L p
      have hl2 := cleanB_len t.st (amOf t E2) p
      clear hS5 hLo2 hp2 hb5 HS HPE HSU hEo hEl hOt HTwo hws
      go_wp2_with fail
      refine hR1.mono ?_
      rintro x w6 ⟨rfl, ⟨F1', hTwo6⟩, hT6⟩
      clear hR1
      have hR2 := hTwo6.runY HMv3.out (by simp) p (by omega) (by omega) hT6
      rw [HCl.out] at hR2
      clear hTwo6 hT6
      go_wp2_with fail
      refine hR2.mono ?_
      rintro x w8 ⟨rfl, ⟨F2', hTwo8⟩, hT8⟩
      clear hR2 HCl
      change Two w3 NT t E2 B B2 (Ln.run t cdOf (wtOf t.ba) E2 p) (t.st + p) (bkP t.st (amOf t E2) L p) (Ln.run t cdOf (wtOf t.ba) E2 p) (t.st + p) (cleanB t.st (amOf t E2) p) F1' F2' w8 at hTwo8
      generalize hGr : Ln.run t cdOf (wtOf t.ba) E2 p = Gr at *
      clear hGr
      generalize hC1 : bkP t.st (amOf t E2) L p = C1 at *
      clear hC1
      generalize hC2 : cleanB t.st (amOf t E2) p = C2 at *
      clear hC2
      have hl14 : C1.length ≤ 4000000000000 := by omega
      have hl24 : C2.length ≤ 4000000000000 := by omega
      clear hl1 hl2 hlen
      have hBx := balanceL w8 B _ _ _ _ _ _ hTwo8.x.lo
      go_wp2_with fail
      refine hBx.mono ?_
      rintro x w9 ⟨rfl, hb9⟩
      clear hBx
      have hTwo9 := hTwo8.below (hb9.alloc hb9.size (.cells (bll Gr (t.st + p)).toArray 44))
      have hN1 : At (w9.alloc (.cells (bll Gr (t.st + p)).toArray 44)) w9.heap.size (bll Gr (t.st + p)) := At.alloc w9 _ _
      have hBy := balanceL _ B2 _ _ _ _ _ _ hTwo9.y.lo
      clear hTwo8 hb9 hT8
      go_wp2_with (first | (refine wpList_store_new rfl 44 (.tmp 26) (.tmp 145) rfl (bll Gr (t.st + p)).toArray _ rfl rfl (by kernel_rfl) rfl (by kernel_rfl) ?_) | fail)
      generalize w9.alloc (.cells (bll Gr (t.st + p)).toArray 44) = V9 at *
      generalize w9.heap.size = N1 at *
      refine hBy.mono ?_
      rintro x w10 ⟨rfl, hb10⟩
      clear hBy
      have hTwo10 := hTwo9.below (hb10.alloc hb10.size (.cells (bll Gr (t.st + p)).toArray 44))
      have hN2 : At (w10.alloc (.cells (bll Gr (t.st + p)).toArray 44)) w10.heap.size (bll Gr (t.st + p)) := At.alloc w10 _ _
      have hN1 : At (w10.alloc (.cells (bll Gr (t.st + p)).toArray 44)) N1 (bll Gr (t.st + p)) := At.keep (S := fun _ => False) (v := .int .i64 Gr.pr) hN1 (Keep.below (hb10.alloc hb10.size _)) (fun x => x)
      have hBk := bookL _ B _ _ _ _ _ _ hTwo10.x.lo hl14 0
      rw [show kf 0 C1.length = 0 from by unfold kf; simp, List.drop_zero, Nat.sub_zero] at hBk
      clear hTwo9 hb10
      go_wp2_with (first | (refine wpList_store_new rfl 44 (.tmp 27) (.tmp 147) rfl (bll Gr (t.st + p)).toArray _ rfl rfl (by kernel_rfl) rfl (by kernel_rfl) ?_) | fail)
      generalize w10.alloc (.cells (bll Gr (t.st + p)).toArray 44) = V10 at *
      generalize w10.heap.size = N2 at *
      refine hBk.mono ?_
      rintro x w11 ⟨b1, rfl, ho1, hb11⟩
      clear hBk
      have hTwo11 := hTwo10.below hb11
      have hEn1 : EnV w11 b1 C1 := own_en ho1
      have hBk2 := bookL _ B2 _ _ _ _ _ _ hTwo11.y.lo hl24 0
      rw [show kf 0 C2.length = 0 from by unfold kf; simp, List.drop_zero, Nat.sub_zero] at hBk2
      obtain ⟨bp1, bc1, rfl⟩ := own_slice ho1
      have HN1 : Hid (At V10 N1 (bll Gr (t.st + p)) ∧ At V10 N2 (bll Gr (t.st + p)) ∧ Below V10.heap.size V10 w11) := ⟨hN1, hN2, hb11⟩
      clear hTwo10 ho1 hb11 hN1 hN2
      go_wp2_with fail
      refine hBk2.mono ?_
      rintro x w12 ⟨b2, rfl, ho2, hb12⟩
      clear hBk2
      have hEn2 : EnV w12 b2 C2 := own_en ho2
      obtain ⟨bp2, bc2, rfl⟩ := own_slice ho2
      have hEn1 := hEn1.below hb12
      have HB12 : Hid (Below w3.heap.size w3 w12) := hTwo11.bl.trans (hb12.mono hTwo11.bl.size)
      have hbV : Below V10.heap.size V10 w12 := HN1.out.2.2.trans (hb12.mono HN1.out.2.2.size)
      have m1 : At w12 N1 (bll Gr (t.st + p)) := At.keep (S := fun _ => False) (v := .int .i64 Gr.pr) HN1.out.1 (Keep.below hbV) (fun x => x)
      have m2 : At w12 N2 (bll Gr (t.st + p)) := At.keep (S := fun _ => False) (v := .int .i64 Gr.pr) HN1.out.2.1 (Keep.below hbV) (fun x => x)
      have hSu1 := sums_any w12 _ C1 hEn1 hl14 t.st (HLa.out 0).1
      have HEn2 : Hid (EnV w12 (.slice bp2 C2.length bc2) C2) := hEn2
      have c10 : w12.cell? ⟨N1, 0, none⟩ = some (.int .i64 Gr.pr) := m1.cell 0 rfl
      have c11 : w12.cell? ⟨N1, 1, none⟩ = some (.int .i64 Gr.it) := m1.cell 1 rfl
      have c12 : w12.cell? ⟨N1, 2, none⟩ = some (.int .i64 Gr.du) := m1.cell 2 rfl
      have c13 : w12.cell? ⟨N1, 3, none⟩ = some (.int .i64 Gr.la) := m1.cell 3 rfl
      have c14 : w12.cell? ⟨N1, 4, none⟩ = some (.int .i64 Gr.fi) := m1.cell 4 rfl
      have c15 : w12.cell? ⟨N1, 5, none⟩ = some (.int .i64 Gr.cr) := m1.cell 5 rfl
      have c16 : w12.cell? ⟨N1, 6, none⟩ = some (.int .i64 Gr.rt) := m1.cell 6 rfl
      have c17 : w12.cell? ⟨N1, 7, none⟩ = some (.int .i64 (t.st + p)) := m1.cell 7 rfl
      have c20 : w12.cell? ⟨N2, 0, none⟩ = some (.int .i64 Gr.pr) := m2.cell 0 rfl
      have c21 : w12.cell? ⟨N2, 1, none⟩ = some (.int .i64 Gr.it) := m2.cell 1 rfl
      have c22 : w12.cell? ⟨N2, 2, none⟩ = some (.int .i64 Gr.du) := m2.cell 2 rfl
      have c23 : w12.cell? ⟨N2, 3, none⟩ = some (.int .i64 Gr.la) := m2.cell 3 rfl
      have c24 : w12.cell? ⟨N2, 4, none⟩ = some (.int .i64 Gr.fi) := m2.cell 4 rfl
      have c25 : w12.cell? ⟨N2, 5, none⟩ = some (.int .i64 Gr.cr) := m2.cell 5 rfl
      have c26 : w12.cell? ⟨N2, 6, none⟩ = some (.int .i64 Gr.rt) := m2.cell 6 rfl
      have c27 : w12.cell? ⟨N2, 7, none⟩ = some (.int .i64 (t.st + p)) := m2.cell 7 rfl
      have c0 : w12.cell? ⟨NT, 0, none⟩ = some (.int .i64 t.st) := (HN0.out w12 HB12.out).cell 0 rfl
      clear m1 m2 hbV hb12 HN1 hTwo11 ho2 hEn1 hEn2
      go_wp2_with fail
      refine hSu1.mono ?_
      rintro x w13 ⟨rfl, hs1, hb13⟩
      clear hSu1 c0 c10 c11 c12 c13 c14 c15 c16 c17 c20 c21 c22 c23 c24 c25 c26 c27
      have HB13 : Hid (Below w3.heap.size w3 w13) := HB12.out.trans (hb13.mono HB12.out.size)
      have hSu2 := sums_any w13 _ C2 (HEn2.out.below hb13) hl24 t.st (HLa.out 0).2.1
      have c0 : w13.cell? ⟨NT, 0, none⟩ = some (.int .i64 t.st) := (HN0.out w13 HB13.out).cell 0 rfl
      have HS1 : Hid (At w13 w12.heap.size (hc 11713 (smF t.st C1))) := hs1
      clear hs1 HB12 hb13 HEn2
      go_wp2_with fail
      refine hSu2.mono ?_
      rintro x w14 ⟨rfl, hs2, hb14⟩
      have HS2 : Hid (At w14 w13.heap.size (hc 11713 (smF t.st C1))) := by
        rw [show smF t.st C1 = smF t.st C2 from funext fun j => (HLa.out j).2.2]
        exact hs2
      have HS3 : Hid (At w14 w12.heap.size (hc 11713 (smF t.st C1))) := HS1.out.block (hb14.block _ (World.block_lt_of_cell? _ _ (HS1.out.cell 0 (hc_at 11713 _ 0 (by decide)))))
      have HB14 : Hid (Below w3.heap.size w3 w14) := HB13.out.trans (hb14.mono HB13.out.size)
      clear hSu2 c0 hs2 hb14 HS1 HB13 HLa
      generalize w12.heap.size = Q1 at *
      generalize w13.heap.size = Q2 at *
      generalize smF t.st C1 = f at *
      go_wp2
      go_loopw [32] (fun s32 wr => ∃ j : Nat, j ≤ 11713 ∧ s32 = .int .i64 j ∧ At wr Q1 (hc 11713 f) ∧ At wr Q2 (hc 11713 f) ∧ Below w3.heap.size w3 wr) (fun s32 _ => (11713 - intOf s32).toNat)
      case atStart => exact ⟨0, Nat.zero_le _, rfl, HS3.out, HS2.out, HB14.out⟩
      case round =>
        obtain ⟨j, hj, rfl, hq1, hq2, hb⟩ := hrel
        clear HS2 HS3 HB14
        have HQ : Hid (At wr Q1 (hc 11713 f) ∧ At wr Q2 (hc 11713 f) ∧ Below w3.heap.size w3 wr) := ⟨hq1, hq2, hb⟩
        by_cases hjl : j < 11713
        · have c1 := hq1.cell j (hc_at 11713 f j hjl)
          have c2 := hq2.cell j (hc_at 11713 f j hjl)
          have zj : (j : Int) < 11713 := by omega
          clear hq1 hq2 hb
          generalize f j = x at *
          go_wp2
          go_region
          clear c1 c2
          go_wp2
          exact ⟨⟨j + 1, hjl, rfl, HQ.out.1.drew, HQ.out.2.1.drew, HQ.out.2.2.drew⟩, by simp [intOf]; omega⟩
        · obtain rfl : j = 11713 := by omega
          have zj : ¬ ((11713 : Nat) : Int) < 11713 := by omega
          clear hq1 hq2 hb
          go_wp2
          go_ret
          exact ⟨rfl, HB3.out.trans (HQ.out.2.2.mono HB3.out.size)⟩
end Go.Proofs.YtanndhoimpnhpaaDoor

/- Arguments opened: lists of whole numbers, lists of raw events. -/
namespace Go.Proofs.YtanndhoimpnhpaaDoor
open Go.ChangeShapes Go.WideShapes Go.RowKit Go.Deep Cal

instance : Inhabited Ln.Ev := ⟨⟨0, 0, 0, 0⟩⟩
section
variable {H : Type} {enc : TypeId × Value → H}

set_option maxRecDepth 100000 in
theorem open_IntsV {W : World} {b0 : Nat} {v : Value} {d : DataW H} {ps : List MemPlace} (hok : Value.okWide Tryd.prog W .any b0 47 v) (h : DataW.Trod enc Tryd.prog W 0 (fun _ => true) true 47 v d ps) : ∃ zs, IntsV W v zs ∧ zs.length ≤ 9223372036854775807 := by
  obtain ⟨a0, len, cap, rfl⟩ := okWide_slice Tryd.underlying47 hok
  obtain ⟨n, hn⟩ := h
  have hn2 : DataW.trod enc Tryd.prog W 0 (fun _ => true) true n 47 [.slice a0 len cap] = some (d, ps) := hn
  rcases open_ints Tryd.underlying47 Tryd.underlying3 (by kernel_rfl) hn2 with ⟨hc, _⟩ | ⟨a, len', cap', zs, hc, _, hl, hm, hzl, _, hcell, hwf⟩
  · simp only [List.cons.injEq, Value.slice.injEq, and_true] at hc
    obtain ⟨rfl, rfl, rfl⟩ := hc
    exact ⟨[], ⟨fun z hz => by simp at hz, none, 0, rfl, Nat.le_refl _, fun k hk => absurd hk (Nat.not_lt_zero k)⟩, by simp⟩
  · simp only [List.cons.injEq, Value.slice.injEq, and_true] at hc
    obtain ⟨rfl, rfl, rfl⟩ := hc
    simp only [if_true] at hzl
    have hlen : (zs.take len).length = len := by rw [List.length_take]; omega
    have hm2 : cap ≤ 9223372036854775807 := hm
    refine ⟨zs.take len, ⟨fun z hz => hwf z (List.mem_of_mem_take hz), some a, cap, by rw [hlen], by omega, fun k hk => ?_⟩, by omega⟩
    have hk2 : k < zs.length := by omega
    have hc := hcell k hk2
    obtain ⟨ab, ao, asp⟩ := a
    have hsp : asp = none := by
      have := World.cell?_spot (hcell 0 (by omega))
      simpa [Addr.add] using this
    subst hsp
    rw [Addr.add_lit] at hc
    refine ⟨ab, ao, rfl, World.block_lt_of_cell? _ _ hc, ?_⟩
    rw [hc, List.getElem_take]
    simp [List.getD, List.getElem?_eq_getElem hk2]
set_option maxRecDepth 100000 in
theorem open_RawV {W : World} {b0 : Nat} {v : Value} {d : DataW H} {ps : List MemPlace} (hok : Value.okWide Tryd.prog W .any b0 48 v) (h : DataW.Trod enc Tryd.prog W 0 (fun _ => true) true 48 v d ps) :
    ∃ (Eb : Nat) (rs : List Ln.Ev), EvV W Eb v rs ∧ rs.length ≤ 9223372036854775807 ∧ ∀ r ∈ rs, (Lit.int .i64 r.d).wf = true ∧ (Lit.int .i64 r.k).wf = true ∧ (Lit.int .i64 r.s).wf = true ∧ (Lit.int .i64 r.a).wf = true := by
  obtain ⟨a0, len, cap, rfl⟩ := okWide_slice Tryd.underlying48 hok
  obtain ⟨n, hn⟩ := h
  have hn2 : DataW.trod enc Tryd.prog W 0 (fun _ => true) true n 48 [.slice a0 len cap] = some (d, ps) := hn
  rcases open_slice Tryd.underlying48 hn2 with ⟨hc, _⟩ | ⟨a, len', cap', m, n', D, Pl, hc, _, hl, hm, hmm, _, hx⟩
  · simp only [List.cons.injEq, Value.slice.injEq, and_true] at hc
    obtain ⟨rfl, rfl, rfl⟩ := hc
    exact ⟨0, [], ⟨none, 0, rfl, Nat.le_refl _, fun k hk => absurd hk (Nat.not_lt_zero k)⟩, by simp, fun r hr => by simp at hr⟩
  · simp only [List.cons.injEq, Value.slice.injEq, and_true] at hc
    obtain ⟨rfl, rfl, rfl⟩ := hc
    simp only [if_true] at hmm
    subst hmm
    have ce : Tryd.prog.cellsOf 96 = 4 := by kernel_rfl
    have each : ∀ i, i < len → ∃ r : Ln.Ev, (∀ j u, (evl r)[j]? = some u → W.cell? (a.add (i * 4 + j)) = some u) ∧ (Lit.int .i64 r.d).wf = true ∧ (Lit.int .i64 r.k).wf = true ∧ (Lit.int .i64 r.s).wf = true ∧ (Lit.int .i64 r.a).wf = true := fun i hi => by
      obtain ⟨cs', h1, h2⟩ := hx i (by omega)
      rw [ce] at h1
      obtain ⟨_, hlen, hcell⟩ := World.cells?_some h1
      obtain ⟨xs, k, hk, hxy, _, hxl, hf⟩ := DataW.trod_struct Tryd.underlying96 h2
      match xs, hxl, cs', hlen with
      | [y0, y1, y2, y3], _, [u0, u1, u2, u3], _ =>
        have g0 := hf 0 _ rfl
        have g1 := hf 1 _ rfl
        have g2 := hf 2 _ rfl
        have g3 := hf 3 _ rfl
        have c1 : Tryd.prog.cellsOf 3 = 1 := by kernel_rfl
        simp [c1] at g0 g1 g2 g3
        obtain ⟨z0, e0, _, w0⟩ := DataW.trod_int Tryd.underlying3 g0
        obtain ⟨z1, e1, _, w1⟩ := DataW.trod_int Tryd.underlying3 g1
        obtain ⟨z2, e2, _, w2⟩ := DataW.trod_int Tryd.underlying3 g2
        obtain ⟨z3, e3, _, w3⟩ := DataW.trod_int Tryd.underlying3 g3
        simp only [List.cons.injEq, and_true] at e0 e1 e2 e3
        subst e0 e1 e2 e3
        refine ⟨⟨z0, z1, z2, z3⟩, fun j u hu => ?_, w0, w1, w2, w3⟩
        have hj : j < 4 := (List.getElem?_eq_some_iff.1 hu).1
        have hc := hcell j (by simpa using hj)
        rw [add_add] at hc
        rw [hc]
        exact hu
    obtain ⟨R, hR⟩ := choose_lt each
    have hrl : ((List.range len).map R).length = len := by simp
    have hm2 : m ≤ 9223372036854775807 := hm
    refine ⟨a.block, (List.range len).map R, ⟨some a, m, by rw [hrl], by omega, fun k hk => ?_⟩, by omega, fun r hr => ?_⟩
    · have hk2 : k < len := by omega
      have hRk := (hR k hk2).1
      have e : ((List.range len).map R)[k] = R k := by simp
      rw [e]
      obtain ⟨ab, ao, asp⟩ := a
      have h0 := hRk 0 _ rfl
      have hsp : asp = none := by
        have := World.cell?_spot ((hR 0 (by omega)).1 0 _ rfl)
        simpa [Addr.add] using this
      subst hsp
      have h1 := hRk 1 _ rfl
      have h2 := hRk 2 _ rfl
      have h3 := hRk 3 _ rfl
      rw [Addr.add_lit] at h0 h1 h2 h3
      exact ⟨ao, rfl, World.block_lt_of_cell? W ⟨ab, ao + (k * 4 + 0), none⟩ h0, h0, by rw [Nat.add_assoc]; exact h1, by rw [Nat.add_assoc]; exact h2, by rw [Nat.add_assoc]; exact h3⟩
    · obtain ⟨k, hk, rfl⟩ := List.mem_map.1 hr
      exact (hR k (List.mem_range.1 hk)).2
end
end Go.Proofs.YtanndhoimpnhpaaDoor
