/- Joined by program: TyM, Opn, Mvl, Liml. -/
import Derived.Test.YtanndhoimpnhpaaGreatDoorM25
import Derived.Test.YtanndhoimpnhpaaGreatDoorM13
import Derived.Test.YtanndhoimpnhpaaGreatDoorM14
import Derived.Deep.Slices
import Derived.ChangeSame
import Derived.Test.YtanndhoimpnhpaaGreatDoorM3
import Derived.Lib.LaidU8
import Derived.Test.YtanndhoimpnhpaaGreatDoorM11
namespace Go.Proofs.YtanndhoimpnhpaaGreatDoor
open Go.ChangeShapes Go.WideShapes Go.RowKit Go.WideMaps Go.Maps Cal
theorem wf_in {n : Int} (h : (Lit.int .i64 n).wf = true) : InR n := by
  have h1 : IntKind.i64.min ≤ n ∧ n ≤ 9223372036854775807 := by simpa [Lit.wf] using h
  have h2 : IntKind.i64.min = -9223372036854775808 := by decide
  unfold InR
  omega
theorem pick_n (c : Int) (n : Nat) (hc : (Lit.int .i64 c).wf = true) (n0 : 1 ≤ n) (n1 : n ≤ 1000000) :
    ∃ r : Nat, r < n ∧ ∀ w : World, Calls Tryz.prog 16 #[.int .i64 c, .int .i64 (n : Int)] w fun e w' => e = .returned (.int .i64 (r : Int)) ∧ w' = w := by
  obtain ⟨r, h0, h1, h2⟩ := pick_all c n hc (by omega) (by omega)
  obtain ⟨m, rfl⟩ := Int.eq_ofNat_of_zero_le h0
  exact ⟨m, by omega, h2⟩
set_option maxRecDepth 10000 in
set_option maxHeartbeats 8000000 in
theorem kept_any (w : World) (v0 v1 v2 : Value) (zs : List Int) (Eb Mb : Nat) (rs ms : List Ln.Ev) (first more : Int) (h0 : IntsV w v0 zs) (h1 : EvV w Eb v1 rs) (hrl : rs.length ≤ 9223372036854775807)
    (hwf : ∀ r ∈ rs, (Lit.int .i64 r.d).wf = true ∧ (Lit.int .i64 r.k).wf = true ∧ (Lit.int .i64 r.s).wf = true ∧ (Lit.int .i64 r.a).wf = true) (h2 : EvV w Mb v2 ms) (hml : ms.length ≤ 9223372036854775807)
    (hwm : ∀ r ∈ ms, (Lit.int .i64 r.d).wf = true ∧ (Lit.int .i64 r.k).wf = true ∧ (Lit.int .i64 r.s).wf = true ∧ (Lit.int .i64 r.a).wf = true) (hfi : (Lit.int .i64 first).wf = true) (hmo : (Lit.int .i64 more).wf = true) (hmv : Mv w) (hlim : Lim w) (hgl : Gl w) :
    Calls Tryz.prog 6 #[v0, v1, v2, .int .i64 first, .int .i64 more] w fun e w' => e = .returned (.bool true) ∧ Below w.heap.size w w' := by
  have HMv : Hid (Mv w) := hmv
  have HLim : Hid (Lim w) := hlim
  have HGl : Hid (Gl w) := hgl
  have HI0 : Hid (IntsV w v0 zs) := h0
  have HE1 : Hid (EvV w Eb v1 rs) := h1
  have HE2 : Hid (EvV w Mb v2 ms) := h2
  have HWf : Hid (∀ r ∈ rs, (Lit.int .i64 r.d).wf = true ∧ (Lit.int .i64 r.k).wf = true ∧ (Lit.int .i64 r.s).wf = true ∧ (Lit.int .i64 r.a).wf = true) := hwf
  have HWm : Hid (∀ r ∈ ms, (Lit.int .i64 r.d).wf = true ∧ (Lit.int .i64 r.k).wf = true ∧ (Lit.int .i64 r.s).wf = true ∧ (Lit.int .i64 r.a).wf = true) := hwm
  have HFi : Hid ((Lit.int .i64 first).wf = true) := hfi
  have HMo : Hid ((Lit.int .i64 more).wf = true) := hmo
  obtain ⟨_, p0, cap0, rfl, _, _⟩ := h0
  obtain ⟨p1, cap1, rfl, _, _⟩ := h1
  obtain ⟨p2, cap2, rfl, _, _⟩ := h2
  have hA := awake_any w hmv
  clear hmv hlim hwf hwm hgl hfi hmo
  go_enter Tryz.func6, Tryz.ntmps6
  go_wp2_with fail
  refine hA.mono ?_
  rintro e w1 ⟨rfl, hb1⟩
  have hT := terms_any w1 _ zs (HI0.out.below hb1)
  clear hA
  go_wp2_with fail
  refine hT.mono ?_
  rintro e w2 ⟨⟨t, ht, rfl⟩, hb2⟩
  have hbw2 : Below w.heap.size w w2 := hb1.trans (hb2.mono hb1.size)
  have HRt : Hid (rtB t = true) := ht
  clear hT hb1 hb2 ht
  have hNT0 : At (w2.alloc (.cells (tml t).toArray 23)) w2.heap.size (tml t) := At.alloc w2 _ _
  have hb3 : Below w.heap.size w (w2.alloc (.cells (tml t).toArray 23)) := hbw2.alloc hbw2.size _
  have hNT1 : w.heap.size ≤ w2.heap.size := hbw2.size
  have hEv := events_any (w2.alloc (.cells (tml t).toArray 23)) t (rt_ok HRt.out) _ Eb rs (HE1.out.keep (S := fun _ => False) (Keep.below hb3) (fun _ x => x)) hrl HWf.out
  have q0 : (w2.alloc (.cells (tml t).toArray 23)).cell? ⟨w2.heap.size, 0, none⟩ = some (.int .i64 t.st) := hNT0.cell 0 rfl
  have q1 : (w2.alloc (.cells (tml t).toArray 23)).cell? ⟨w2.heap.size, 1, none⟩ = some (.int .i64 t.pr) := hNT0.cell 1 rfl
  have q2 : (w2.alloc (.cells (tml t).toArray 23)).cell? ⟨w2.heap.size, 2, none⟩ = some (.int .i64 t.rt) := hNT0.cell 2 rfl
  have q3 : (w2.alloc (.cells (tml t).toArray 23)).cell? ⟨w2.heap.size, 3, none⟩ = some (.int .i64 t.fi) := hNT0.cell 3 rfl
  have q4 : (w2.alloc (.cells (tml t).toArray 23)).cell? ⟨w2.heap.size, 4, none⟩ = some (.int .i64 t.ba) := hNT0.cell 4 rfl
  have q5 : (w2.alloc (.cells (tml t).toArray 23)).cell? ⟨w2.heap.size, 5, none⟩ = some (.int .i64 t.du) := hNT0.cell 5 rfl
  unfold tmV at *
  go_wp2_with (first | (refine wpList_store_new rfl 23 (.tmp 12) (.tmp 34) rfl (tml t).toArray _ rfl rfl (by kernel_rfl) rfl (by kernel_rfl) ?_) | fail)
  clear hbw2 q0 q1 q2 q3 q4 q5
  refine hEv.mono ?_
  have HB2 : Hid (Below w.heap.size w (w2.alloc (.cells (tml t).toArray 23))) := hb3
  clear hEv
  generalize w2.alloc (.cells (tml t).toArray 23) = V2 at *
  generalize w2.heap.size = NT at *
  clear hb3 HE1 HWf
  rintro e w3 ⟨vv, O, rfl, hOut⟩
  obtain ⟨op, ocap, rfl⟩ := own_slice hOut.ow
  have HB3 : Hid (Below w.heap.size w w3) := HB2.out.trans (hOut.bl.mono HB2.out.size)
  have hT3 : At w3 NT (tml t) := At.keep (S := fun _ => False) (v := .int .i64 t.st) hNT0 (Keep.below hOut.bl) (fun x => x)
  obtain ⟨Ob, hOv, _⟩ := evs_evv (own_low hOut.ow)
  have HOk : Hid (∀ e ∈ O, evF t e = 0 ∧ InR e.s) := fun e he => ⟨(hOut.ok e he).1, wf_in (hOut.ok e he).2.2⟩
  have HOd : Hid (O.Pairwise (fun a b => ¬ a.s = b.s)) := hOut.ds
  have hTo := told_any w3 t HRt.out Ob _ O hOv hOut.le (fun e he => (HOk.out e he).1) HOd.out (HLim.out.below HB3.out)
  unfold tmV at hTo
  clear hOut hNT0 HB2 hOv
  go_upto_region 4 with fail
  refine wp_region_lit ?_
  refine wpList_load_mid rfl 23 (.tmp 12) rfl _ 0 rfl (tml t) _ hT3.range Tryz.underlying23 rfl (by kernel_rfl) ?_
  simp only [Act.put, List.setIfInBounds_toArray, List.set_cons_zero, List.set_cons_succ]
  go_wp2_with fail
  refine hTo.mono ?_
  rintro e w4 ⟨B1, E, rfl, hp1, hLo1, hb4⟩
  clear hTo
  have hNTl : NT < w3.heap.size := At.lt (v := .int .i64 t.st) hT3
  have HB4 : Hid (Below w.heap.size w w4) := HB3.out.trans (hb4.mono HB3.out.size)
  have HT4 : Hid (At w4 NT (tml t)) := At.keep (S := fun _ => False) (v := .int .i64 t.st) hT3 (Keep.below hb4) (fun x => x)
  obtain ⟨hso, hEo, hEl, hOt⟩ := hLo1.facts
  have HOne : Hid (One w NT B1 t E (Ln.start t) t.st [] (Wd (fun _ => False) w3 w4) w4) := by
    have := HB3.out.size
    refine ⟨hLo1, ?_, ?_, ?_⟩
    · rintro (x | x)
      · exact x
      · omega
    · rintro b (x | x)
      · exact x.elim
      · omega
    · rintro b (x | x)
      · exact x.elim
      · exact x.2
  have HSv0 : Hid (Sav t E (Ln.start t) t.st []) := (Sav.start HRt.out).evs hso (ah_distinct hp1 HOd.out) (fun e he => HOk.out e (hp1.mem_iff.1 he)) hEl
  have HEo : Hid (∀ e ∈ E, Ln.OkE t e) := hEo
  have s0 := hOt.st0
  have s1 := hOt.st1
  clear hLo1 hp1 hb4 hso hEo hEl hOt HOk HOd hT3 HB3 hNTl
  generalize hF1 : Wd (fun _ => False) w3 w4 = F1 at *
  clear hF1
  obtain ⟨r0, hr0, hpk⟩ := pick_n first 900 HFi.out (by omega) (by omega)
  have e0 : IntKind.i64.wrap (t.st + (r0 : Int)) = t.st + (r0 : Int) := by rw [IntKind.wrap_i64]; omega
  go_upto_region 7 with fail
  refine wp_region_held_drew (S := fun wx => At wx NT (tml t) ∧ One w NT B1 t E (Ln.start t) t.st [] F1 wx ∧ Below w.heap.size w wx) (by kernel_rfl) ⟨HT4.out.drew, HOne.out.below (Below.refl _ _).drew, HB4.out.drew⟩ (fun hHeld => ?_)
  clear HT4 HOne HB4
  generalize w4.drew = V4 at *
  refine wpAnyH_take (i := 0) (v := (.pointer (some ⟨NT, 0, none⟩))) rfl (by kernel_rfl) (by kernel_rfl) (by kernel_rfl) (fun _ _ _ h => h) (Or.inl ⟨by rfl, fun wx hSw => by ((try dsimp only at hSw); go_simp)⟩) (by assumption) ?_
  simp only [Act.put, List.getElem_toArray, List.getElem_cons_zero, List.setIfInBounds_toArray, List.set_cons_zero, List.set_cons_succ]
  refine wpAnyH_take (i := 1) (v := (.int .i64 t.st)) rfl (by kernel_rfl) (by kernel_rfl) (by kernel_rfl) (fun _ _ _ h => h) (Or.inl ⟨by rfl, fun wx hSw => by (have hc : wx.cell? ⟨NT, 0, none⟩ = some (.int .i64 t.st) := hSw.1.cell 0 rfl; go_simp)⟩) (by assumption) ?_
  simp only [Act.put, List.getElem_toArray, List.getElem_cons_succ, List.getElem_cons_zero, List.setIfInBounds_toArray, List.set_cons_zero, List.set_cons_succ]
  refine wpAnyH_take (i := 2) (v := (.int .i64 first)) rfl (by kernel_rfl) (by kernel_rfl) (by kernel_rfl) (fun _ _ _ h => h) (Or.inl ⟨by rfl, fun wx hSw => by kernel_rfl⟩) (by assumption) ?_
  simp only [Act.put, List.getElem_toArray, List.getElem_cons_succ, List.getElem_cons_zero, List.setIfInBounds_toArray, List.set_cons_zero, List.set_cons_succ]
  refine wpAnyH_ready (rs := [3]) (by kernel_rfl) (by simp) ?_
  refine AllReadyH.cons rfl (fun K hK => ?_) AllReadyH.nil
  go_simp
  refine (hpk _).mono ?_
  rintro e w' ⟨rfl, hw'⟩
  obtain rfl := hw'.symm
  go_wp2_with fail
  refine hK.out _ _ hHeld (fun hHeld => ?_)
  clear hK K hw' hpk
  try simp only [Act.put, List.getElem_toArray, List.getElem_cons_succ, List.getElem_cons_zero, List.setIfInBounds_toArray, List.set_cons_zero, List.set_cons_succ]
  refine wpAnyH_take (i := 4) (v := (.int .i64 (t.st + r0))) rfl (by kernel_rfl) (by kernel_rfl) (by kernel_rfl) (fun _ _ _ h => h) (Or.inl ⟨by rfl, fun wx hSw => by ((try dsimp only at hSw); go_simp)⟩) (by assumption) ?_
  simp only [Act.put, List.getElem_toArray, List.getElem_cons_succ, List.getElem_cons_zero, List.setIfInBounds_toArray, List.set_cons_zero, List.set_cons_succ]
  refine wpAnyH_take (i := 5) (v := (.int .i64 (t.st + r0))) rfl (by kernel_rfl) (by kernel_rfl) (by kernel_rfl) (fun _ _ _ h => h) (Or.inl ⟨by rfl, fun wx hSw => by kernel_rfl⟩) (by assumption) ?_
  simp only [Act.put, List.getElem_toArray, List.getElem_cons_succ, List.getElem_cons_zero, List.setIfInBounds_toArray, List.set_cons_zero, List.set_cons_succ]
  refine wpAnyH_done (by kernel_rfl) ?_ _
  obtain ⟨hT4, hOne4, hB4⟩ := hHeld
  have hNTl := At.lt (v := .int .i64 t.st) hT4
  have hR := hOne4.run hB4 HMv.out (by simp) r0 (by omega) (by omega) hNTl
  have HSv1 : Hid (Sav t E (Ln.run t cdOf (wtOf t.ba) E r0) (t.st + r0) (bkP t.st (fun k => (yOf t E k).am) [] r0)) := HSv0.out.run HEo.out r0 (by omega) (by omega)
  have HLn1 : Hid ((bkP t.st (fun k => (yOf t E k).am) [] r0).length ≤ 100000) := by
    have h := bkP_len t.st (fun k => (yOf t E k).am) [] r0
    show _ ≤ 100000
    simp only [List.length_nil] at h
    omega
  have HT4 : Hid (At V4 NT (tml t) ∧ (∀ b, F1 b → w.heap.size ≤ b) ∧ ¬ F1 NT ∧ Below w.heap.size w V4) := ⟨hT4, hOne4.ge, hOne4.nt, hB4⟩
  clear hT4 hOne4 hB4 hNTl HSv0 HEo
  generalize Ln.run t cdOf (wtOf t.ba) E r0 = g1 at *
  generalize bkP t.st (fun k => (yOf t E k).am) [] r0 = L1 at *
  go_wp2_with fail
  refine hR.mono ?_
  rintro e w5 ⟨rfl, hOne5, hk5⟩
  clear hR
  have hB5 : Below w.heap.size w w5 := Keep.fresh HT4.out.2.2.2 hk5 HT4.out.2.1
  have hT5 : At w5 NT (tml t) := At.keep (v := .int .i64 t.st) HT4.out.1 hk5 HT4.out.2.2.1
  have hln := HLn1.out
  have hS := saveL w5 B1 t E g1 _ L1 _ hOne5.lo HSv1.out (by omega) (HGl.out.below hB5)
  have HSy : Hid (∀ (wx : World) (B : Nat) (F : Nat → Prop), Lo wx B t E (cents g1) (t.st + r0) L1 F → Below w.heap.size w wx → Calls Tryz.prog 18 #[.pointer (some ⟨B, 0, none⟩)] wx fun e w' => e = .returned (.string (bs (txtB t E g1 (t.st + r0) L1))) ∧ Below wx.heap.size wx w') := fun wx B F h1 h2 =>
    saveL wx B t E (cents g1) _ L1 F h1 HSv1.out.cents (by omega) (HGl.out.below h2)
  have HLd : Hid (∀ wx : World, Below w.heap.size w wx → Calls Tryz.prog 11 #[.string (bs (txtB t E g1 (t.st + r0) L1))] wx fun e w' => ∃ B F, e = .returned (.tuple #[.pointer (some ⟨B, 0, none⟩), .int .i64 0]) ∧ Lo w' B t E (cents g1) (t.st + r0) L1 F ∧ (∀ x, F x → wx.heap.size ≤ x ∧ x < w'.heap.size) ∧ Below wx.heap.size wx w') := fun wx h2 =>
    loadL wx t E g1 _ L1 HSv1.out (by omega) (HGl.out.below h2) (HLim.out.below h2)
  have HOne5 : Hid (One w NT B1 t E g1 (t.st + r0) L1 (Wd F1 V4 w5) w5 ∧ Below w.heap.size w w5 ∧ At w5 NT (tml t)) := ⟨hOne5, hB5, hT5⟩
  generalize hF2 : Wd F1 V4 w5 = F2 at *
  generalize bs (txtB t E g1 (t.st + r0) L1) = S at *
  clear hOne5 hk5 HT4 hB5 hT5 hF2 hln
  go_wp2_with fail
  refine hS.mono ?_
  rintro e w6 ⟨rfl, hb6⟩
  clear hS
  have hB6 : Below w.heap.size w w6 := HOne5.out.2.1.trans (hb6.mono HOne5.out.2.1.size)
  have hLd := HLd.out w6 hB6
  go_wp2_with fail
  refine hLd.mono ?_
  rintro e w7 ⟨B2, F3, rfl, hLo2, hF3, hb7⟩
  clear hLd HLd
  have hB7 : Below w.heap.size w w7 := hB6.trans (hb7.mono hB6.size)
  have hT7 : At w7 NT (tml t) := At.keep (S := fun _ => False) (v := .int .i64 t.st) HOne5.out.2.2 (Keep.below (hb6.trans (hb7.mono hb6.size))) (fun x => x)
  have HTwo7 : Hid (Two w NT t E B1 B2 g1 (t.st + r0) L1 (cents g1) (t.st + r0) L1 F2 F3 w7 ∧ At w7 NT (tml t)) := by
    have hx := HOne5.out.1
    have hntl := At.lt (v := .int .i64 t.st) HOne5.out.2.2
    have hz6 := hb6.size
    have hz5 := HOne5.out.2.1.size
    refine ⟨⟨(hx.below hb6).below hb7, ⟨hLo2, fun x => ?_, fun b x => ?_, fun b x => (hF3 b x).2⟩, fun b x y => ?_, hB7⟩, hT7⟩
    · have := hF3 _ x; omega
    · have := hF3 _ x; omega
    · have := hF3 _ y; have := hx.lt b x; omega
  have hSy := HSy.out w7 B2 F3 hLo2 hB7
  clear hLo2 hF3 hb7 hB7 hT7 hB6 hb6 HOne5 HSy
  go_wp2_with fail
  refine hSy.mono ?_
  rintro e w8 ⟨rfl, hb8⟩
  clear hSy
  have hT8 : At w8 NT (tml t) := At.keep (S := fun _ => False) (v := .int .i64 t.st) HTwo7.out.2 (Keep.below hb8) (fun x => x)
  have HTwo8 : Hid (Two w NT t E B1 B2 g1 (t.st + r0) L1 (cents g1) (t.st + r0) L1 F2 F3 w8) := HTwo7.out.1.below hb8
  have hEv := events_any w8 t (rt_ok HRt.out) _ Mb ms (HE2.out.keep (S := fun _ => False) (Keep.below HTwo8.out.bl) (fun _ x => x)) hml HWm.out
  unfold tmV at hEv
  clear hb8 HTwo7 HE2 HWm
  go_upto_region 13 with fail
  refine wp_region_lit ?_
  refine wpList_load_mid rfl 23 (.tmp 12) rfl _ 0 rfl (tml t) _ hT8.range Tryz.underlying23 rfl (by kernel_rfl) ?_
  simp only [Act.put, List.setIfInBounds_toArray, List.set_cons_zero, List.set_cons_succ]
  go_wp2_with fail
  refine hEv.mono ?_
  rintro e w9 ⟨vv, O, rfl, hOut⟩
  clear hEv
  obtain ⟨op, ocap, rfl⟩ := own_slice hOut.ow
  obtain ⟨Ob, hOv, hObk⟩ := evs_evv (own_low hOut.ow)
  have HOs : Hid (∀ e ∈ O, InR e.s) := fun e he => wf_in (hOut.ok e he).2.2
  have hO40 : O.length ≤ 40 := hOut.le
  have HI9 : Hid (Two w NT t E B1 B2 g1 (t.st + r0) L1 (cents g1) (t.st + r0) L1 F2 F3 w9 ∧ At w9 NT (tml t) ∧ Sav t E g1 (t.st + r0) L1 ∧ EvV w9 Ob (.slice op O.length ocap) O ∧ (O ≠ [] → ¬ F2 Ob ∧ ¬ F3 Ob)) := by
    refine ⟨HTwo8.out.below hOut.bl, At.keep (S := fun _ => False) (v := .int .i64 t.st) hT8 (Keep.below hOut.bl) (fun x => x), HSv1.out, hOv, fun hne => ?_⟩
    have h1 := (own_base hOut.ow (hObk hne)).1
    refine ⟨fun x => ?_, fun x => ?_⟩
    · have := HTwo8.out.x.lt _ x; omega
    · have := HTwo8.out.y.lt _ x; omega
  clear hOut hOv hObk HTwo8 hT8 HSv1
  generalize cents g1 = g2 at *
  go_wp2
  go_loopw [21, 22, 23] (fun s21 _ _ wr => ∃ (k : Nat) (E' : List Ln.Ev) (G1 G2 : Nat → Prop), k ≤ O.length ∧ s21 = .int .i64 k ∧ Two w NT t E' B1 B2 g1 (t.st + r0) L1 g2 (t.st + r0) L1 G1 G2 wr ∧ At wr NT (tml t) ∧ Sav t E' g1 (t.st + r0) L1 ∧ EvV wr Ob (.slice op O.length ocap) O ∧ (O ≠ [] → ¬ G1 Ob ∧ ¬ G2 Ob)) (fun s21 _ _ _ => (O.length - intOf s21).toNat)
  case atStart => exact ⟨0, E, F2, F3, Nat.zero_le _, rfl, HI9.out⟩
  case round =>
    obtain ⟨k, E', G1, G2, hk, rfl, hTwo, hT, hSv, hEvv, hGb⟩ := hrel
    have HI : Hid (Two w NT t E' B1 B2 g1 (t.st + r0) L1 g2 (t.st + r0) L1 G1 G2 wr ∧ At wr NT (tml t) ∧ Sav t E' g1 (t.st + r0) L1) := ⟨hTwo, hT, hSv⟩
    have HEv : Hid (EvV wr Ob (.slice op O.length ocap) O ∧ (O ≠ [] → ¬ G1 Ob ∧ ¬ G2 Ob)) := ⟨hEvv, hGb⟩
    clear hTwo hT hSv hEvv hGb HI9
    by_cases hlt : k < O.length
    · have hne : O ≠ [] := fun h => by rw [h] at hlt; simp at hlt
      obtain ⟨p2', cap2', hv2, hcc, hat2⟩ := id HEv.out.1
      injection hv2 with e1 e2 e3
      subst e1 e3
      obtain ⟨o2, rfl, hOl, hr2⟩ := hat2.range k hlt
      have hntl := At.lt (v := .int .i64 t.st) HI.out.2.1
      have hAx := HI.out.1.addX HLim.out hntl O[k]
      have HOe : Hid (InR O[k].s) := HOs.out _ (List.getElem_mem hlt)
      clear hat2
      generalize O[k] = e at *
      unfold evV at hAx
      have zk : (k : Int) < (O.length : Int) := by omega
      go_upto_region 17 with fail
      refine wp_region_lit ?_
      refine wpList_val (.pointer (some ⟨B1, 0, none⟩)) wr rfl rfl ?_
      simp only [Act.put, List.setIfInBounds_toArray, List.set_cons_zero, List.set_cons_succ]
      refine wpList_val (.slice (some ⟨Ob, o2, none⟩) O.length ocap) wr rfl rfl ?_
      simp only [Act.put, List.setIfInBounds_toArray, List.set_cons_zero, List.set_cons_succ]
      refine wpList_val (.int .i64 k) wr rfl rfl ?_
      simp only [Act.put, List.setIfInBounds_toArray, List.set_cons_zero, List.set_cons_succ]
      refine wpList_val (.pointer (some ⟨Ob, o2 + k * 4, none⟩)) wr rfl (by go_simp) ?_
      simp only [Act.put, List.setIfInBounds_toArray, List.set_cons_zero, List.set_cons_succ]
      refine wpList_load_mid rfl 50 (.tmp 90) rfl _ _ rfl (evl e) _ hr2 Tryz.underlying50 rfl (by kernel_rfl) ?_
      simp only [Act.put, List.setIfInBounds_toArray, List.set_cons_zero, List.set_cons_succ]
      go_wp2_with fail
      refine hAx.mono ?_
      rintro r wa ⟨rfl, hka, E1, ha, hHalf⟩
      clear hAx
      have hr3 : wa.rangeAt Ob (o2 + k * 4) (evl e) := fun q u hu => (World.cell?_of_block (w := wr) (a := ⟨Ob, o2 + k * 4 + q, none⟩) (hka.block Ob hOl (HEv.out.2 hne).1)).trans (hr2 q u hu)
      have hTa : At wa NT (tml t) := At.keep (v := .int .i64 t.st) HI.out.2.1 hka HI.out.1.x.nt
      have hAy := hHalf.addY ha HLim.out (At.lt (v := .int .i64 t.st) hTa)
      unfold evV at hAy
      have HHa : Hid (EA t E' e E1 ∧ Keep G1 wr wa ∧ At wa NT (tml t) ∧ ¬ G2 NT ∧ Wd G1 wr wa = Wd G1 wr wa) := ⟨ha, hka, hTa, hHalf.y.nt, rfl⟩
      clear hr2 hTa ha hka hHalf
      go_upto_region 18 with fail
      refine wp_region_lit ?_
      refine wpList_val (.pointer (some ⟨B2, 0, none⟩)) wa rfl rfl ?_
      simp only [Act.put, List.setIfInBounds_toArray, List.set_cons_zero, List.set_cons_succ]
      refine wpList_val (.slice (some ⟨Ob, o2, none⟩) O.length ocap) wa rfl rfl ?_
      simp only [Act.put, List.setIfInBounds_toArray, List.set_cons_zero, List.set_cons_succ]
      refine wpList_val (.int .i64 k) wa rfl rfl ?_
      simp only [Act.put, List.setIfInBounds_toArray, List.set_cons_zero, List.set_cons_succ]
      refine wpList_val (.pointer (some ⟨Ob, o2 + k * 4, none⟩)) wa rfl (by go_simp) ?_
      simp only [Act.put, List.setIfInBounds_toArray, List.set_cons_zero, List.set_cons_succ]
      refine wpList_load_mid rfl 50 (.tmp 96) rfl _ _ rfl (evl e) _ hr3 Tryz.underlying50 rfl (by kernel_rfl) ?_
      simp only [Act.put, List.setIfInBounds_toArray, List.set_cons_zero, List.set_cons_succ]
      clear hr3
      go_wp2_with fail
      refine hAy.mono ?_
      rintro r wb ⟨rfl, hkb, hTwob⟩
      clear hAy
      have HEn : Hid (Two w NT t E1 B1 B2 g1 (t.st + r0) L1 g2 (t.st + r0) L1 (Wd G1 wr wa) (Wd G2 wa wb) wb ∧ At wb NT (tml t) ∧ Sav t E1 g1 (t.st + r0) L1 ∧ EvV wb Ob (.slice (some ⟨Ob, o2, none⟩) O.length ocap) O ∧ (O ≠ [] → ¬ Wd G1 wr wa Ob ∧ ¬ Wd G2 wa wb Ob)) := by
        obtain ⟨ha, hka, hTa, hn2, _⟩ := HHa.out
        have hf := hTwob.x.lo.facts
        have hz := hka.size
        refine ⟨hTwob, At.keep (v := .int .i64 t.st) hTa hkb hn2, HI.out.2.2.add ha hf.1 hf.2.2.1 HOe.out, (HEv.out.1.keep hka (fun h => (HEv.out.2 h).1)).keep hkb (fun h => (HEv.out.2 h).2), fun h => ⟨?_, ?_⟩⟩
        · rintro (x | x)
          · exact (HEv.out.2 h).1 x
          · omega
        · rintro (x | x)
          · exact (HEv.out.2 h).2 x
          · omega
      clear hkb hTwob HHa HI HEv hntl HOe
      generalize addC t E' e = c at *
      go_wp2
      exact ⟨⟨k + 1, E1, _, _, hlt, rfl, HEn.out⟩, by simp [intOf]; omega⟩
    · obtain rfl : k = O.length := by omega
      have zk : ¬ (O.length : Int) < (O.length : Int) := by omega
      obtain ⟨hTwo, hT, hSv⟩ := HI.out
      have c0 : wr.cell? ⟨NT, 0, none⟩ = some (.int .i64 t.st) := hT.cell 0 rfl
      obtain ⟨r1, hr1, hpk1⟩ := pick_n more (900 - r0 + 1) HMo.out (by omega) (by omega)
      have y0 : IntKind.i64.wrap (t.st + 900) = t.st + 900 := by rw [IntKind.wrap_i64]; omega
      have y1 : IntKind.i64.wrap (t.st + 900 - (t.st + (r0 : Int))) = ((900 - r0 : Nat) : Int) := by rw [IntKind.wrap_i64]; omega
      have y2 : IntKind.i64.wrap (((900 - r0 : Nat) : Int) + 1) = ((900 - r0 + 1 : Nat) : Int) := by rw [IntKind.wrap_i64]; omega
      have y3 : IntKind.i64.wrap (t.st + (r0 : Int) + (r1 : Int)) = t.st + (r0 : Int) + (r1 : Int) := by rw [IntKind.wrap_i64]; omega
      have hpW := hpk1 wr
      have hln := HLn1.out
      have hR := hTwo.runX HMv.out (by omega) (r0 + r1) (by omega) (by omega) hT
      have HSv2 : Hid (Sav t E' (Ln.run t cdOf (wtOf t.ba) E' (r0 + r1)) (t.st + ((r0 + r1 : Nat) : Int)) (bkP t.st (fun k => (yOf t E' k).am) L1 (r0 + r1))) := hSv.run hTwo.x.lo.facts.2.1 (r0 + r1) (by omega) (by omega)
      have HLn2 : Hid ((bkP t.st (fun k => (yOf t E' k).am) L1 (r0 + r1)).length ≤ 200000) := by
        have h := bkP_len t.st (fun k => (yOf t E' k).am) L1 (r0 + r1)
        show _ ≤ 200000
        omega
      clear hTwo hT hSv HI HEv hpk1
      go_upto_region 21 with fail
      refine wp_region_lit ?_
      refine wpList_val (.int .i64 (t.st + r0)) wr rfl rfl ?_
      simp only [Act.put, List.setIfInBounds_toArray, List.set_cons_zero, List.set_cons_succ]
      refine wpList_val (.int .i64 more) wr rfl rfl ?_
      simp only [Act.put, List.setIfInBounds_toArray, List.set_cons_zero, List.set_cons_succ]
      refine wpList_val (.pointer (some ⟨NT, 0, none⟩)) wr rfl (by go_simp) ?_
      simp only [Act.put, List.setIfInBounds_toArray, List.set_cons_zero, List.set_cons_succ]
      refine wpList_val (.int .i64 t.st) wr rfl (by go_simp) ?_
      simp only [Act.put, List.setIfInBounds_toArray, List.set_cons_zero, List.set_cons_succ]
      refine wpList_val (.int .i64 (t.st + 900)) wr rfl (by go_simp) ?_
      simp only [Act.put, List.setIfInBounds_toArray, List.set_cons_zero, List.set_cons_succ]
      refine wpList_val (.int .i64 (t.st + r0)) wr rfl rfl ?_
      simp only [Act.put, List.setIfInBounds_toArray, List.set_cons_zero, List.set_cons_succ]
      refine wpList_val (.int .i64 ((900 - r0 : Nat) : Int)) wr rfl (by go_simp) ?_
      simp only [Act.put, List.setIfInBounds_toArray, List.set_cons_zero, List.set_cons_succ]
      refine wpList_val (.int .i64 ((900 - r0 + 1 : Nat) : Int)) wr rfl (by go_simp) ?_
      simp only [Act.put, List.setIfInBounds_toArray, List.set_cons_zero, List.set_cons_succ]
      clear y0 y1 y2 c0
      go_wp2_with fail
      refine hpW.mono ?_
      rintro e w' ⟨rfl, hw'⟩
      obtain rfl := hw'.symm
      clear hpW hw'
      rw [show t.st + ((r0 + r1 : Nat) : Int) = t.st + (r0 : Int) + (r1 : Int) by omega] at hR HSv2
      go_wp2_with fail
      clear y3
      refine hR.mono ?_
      rintro e wa ⟨rfl, ⟨F', hTwoa⟩, hTa⟩
      clear hR
      have hR := hTwoa.runY HMv.out (by omega) (r0 + r1) (by omega) (by omega) hTa
      rw [show t.st + ((r0 + r1 : Nat) : Int) = t.st + (r0 : Int) + (r1 : Int) by omega] at hR
      clear hTwoa hTa
      generalize Ln.run t cdOf (wtOf t.ba) E' (r0 + r1) = Gr at *
      generalize bkP t.st (fun k => (yOf t E' k).am) L1 (r0 + r1) = Cl at *
      go_wp2_with fail
      refine hR.mono ?_
      rintro e w8 ⟨rfl, ⟨F'', hTwo8⟩, _⟩
      clear hR
      generalize t.st + (r0 : Int) + (r1 : Int) = D at *
      have hBx := balanceL w8 B1 _ _ _ _ _ _ hTwo8.x.lo
      go_wp2_with fail
      refine hBx.mono ?_
      rintro e w9 ⟨rfl, hb9⟩
      clear hBx
      have hTwo9 := hTwo8.below (hb9.alloc hb9.size (.cells (bll Gr D).toArray 52))
      have hN1 : At (w9.alloc (.cells (bll Gr D).toArray 52)) w9.heap.size (bll Gr D) := At.alloc w9 _ _
      have hBy := balanceL _ B2 _ _ _ _ _ _ hTwo9.y.lo
      clear hTwo8 hb9
      go_wp2_with (first | (refine wpList_store_new rfl 52 (.tmp 27) (.tmp 119) rfl (bll Gr D).toArray _ rfl rfl (by kernel_rfl) rfl (by kernel_rfl) ?_) | fail)
      generalize w9.alloc (.cells (bll Gr D).toArray 52) = V9 at *
      generalize w9.heap.size = N1 at *
      refine hBy.mono ?_
      rintro e w10 ⟨rfl, hb10⟩
      clear hBy
      have hTwo10 := hTwo9.below (hb10.alloc hb10.size (.cells (bll Gr D).toArray 52))
      have hN2 : At (w10.alloc (.cells (bll Gr D).toArray 52)) w10.heap.size (bll Gr D) := At.alloc w10 _ _
      have hN1 : At (w10.alloc (.cells (bll Gr D).toArray 52)) N1 (bll Gr D) := At.keep (S := fun _ => False) (v := .int .i64 Gr.pr) hN1 (Keep.below (hb10.alloc hb10.size _)) (fun x => x)
      have hCl4 : Cl.length ≤ 4000000000000 := Nat.le_trans HLn2.out (by omega)
      have hBk := bookL _ B1 _ _ _ _ _ _ hTwo10.x.lo hCl4 0
      rw [show kf 0 Cl.length = 0 from by unfold kf; simp, List.drop_zero, Nat.sub_zero] at hBk
      clear hTwo9 hb10
      go_wp2_with (first | (refine wpList_store_new rfl 52 (.tmp 28) (.tmp 121) rfl (bll Gr D).toArray _ rfl rfl (by kernel_rfl) rfl (by kernel_rfl) ?_) | fail)
      generalize w10.alloc (.cells (bll Gr D).toArray 52) = V10 at *
      generalize w10.heap.size = N2 at *
      refine hBk.mono ?_
      rintro e w11 ⟨b1, rfl, ho1, hb11⟩
      clear hBk
      have hTwo11 := hTwo10.below hb11
      have hEn1 : EnV w11 b1 Cl := own_en ho1
      have hBk2 := bookL _ B2 _ _ _ _ _ _ hTwo11.y.lo hCl4 0
      rw [show kf 0 Cl.length = 0 from by unfold kf; simp, List.drop_zero, Nat.sub_zero] at hBk2
      obtain ⟨bp1, bc1, rfl⟩ := own_slice ho1
      have HN1 : Hid (At V10 N1 (bll Gr D) ∧ At V10 N2 (bll Gr D) ∧ Below V10.heap.size V10 w11) := ⟨hN1, hN2, hb11⟩
      clear hTwo10 ho1 hb11 hN1 hN2
      go_wp2_with fail
      refine hBk2.mono ?_
      rintro e w12 ⟨b2, rfl, ho2, hb12⟩
      clear hBk2
      have hEn2 : EnV w12 b2 Cl := own_en ho2
      obtain ⟨bp2, bc2, rfl⟩ := own_slice ho2
      have hSa := same_true w12 _ _ Cl (hEn1.below hb12) hEn2 hCl4
      have HTwo12 : Hid (Two w NT t E' B1 B2 Gr D Cl Gr D Cl F' F'' w12) := hTwo11.below hb12
      have HV12 : Hid (Below V10.heap.size V10 w12) := HN1.out.2.2.trans (hb12.mono HN1.out.2.2.size)
      clear hTwo11 ho2 hb12 hEn1 hEn2
      go_wp2_with fail
      refine hSa.mono ?_
      rintro e w13 ⟨rfl, hb13⟩
      clear hSa
      have HTwo13 : Hid (Two w NT t E' B1 B2 Gr D Cl Gr D Cl F' F'' w13) := HTwo12.out.below hb13
      have hbV : Below V10.heap.size V10 w13 := HV12.out.trans (hb13.mono HV12.out.size)
      have m1 : At w13 N1 (bll Gr D) := At.keep (S := fun _ => False) (v := .int .i64 Gr.pr) HN1.out.1 (Keep.below hbV) (fun x => x)
      have m2 : At w13 N2 (bll Gr D) := At.keep (S := fun _ => False) (v := .int .i64 Gr.pr) HN1.out.2.1 (Keep.below hbV) (fun x => x)
      have c10 : w13.cell? ⟨N1, 0, none⟩ = some (.int .i64 Gr.pr) := m1.cell 0 rfl
      have c11 : w13.cell? ⟨N1, 1, none⟩ = some (.int .i64 Gr.it) := m1.cell 1 rfl
      have c12 : w13.cell? ⟨N1, 2, none⟩ = some (.int .i64 Gr.du) := m1.cell 2 rfl
      have c13 : w13.cell? ⟨N1, 3, none⟩ = some (.int .i64 Gr.la) := m1.cell 3 rfl
      have c14 : w13.cell? ⟨N1, 4, none⟩ = some (.int .i64 Gr.fi) := m1.cell 4 rfl
      have c15 : w13.cell? ⟨N1, 5, none⟩ = some (.int .i64 Gr.cr) := m1.cell 5 rfl
      have c16 : w13.cell? ⟨N1, 6, none⟩ = some (.int .i64 Gr.rt) := m1.cell 6 rfl
      have c17 : w13.cell? ⟨N1, 7, none⟩ = some (.int .i64 D) := m1.cell 7 rfl
      have c20 : w13.cell? ⟨N2, 0, none⟩ = some (.int .i64 Gr.pr) := m2.cell 0 rfl
      have c21 : w13.cell? ⟨N2, 1, none⟩ = some (.int .i64 Gr.it) := m2.cell 1 rfl
      have c22 : w13.cell? ⟨N2, 2, none⟩ = some (.int .i64 Gr.du) := m2.cell 2 rfl
      have c23 : w13.cell? ⟨N2, 3, none⟩ = some (.int .i64 Gr.la) := m2.cell 3 rfl
      have c24 : w13.cell? ⟨N2, 4, none⟩ = some (.int .i64 Gr.fi) := m2.cell 4 rfl
      have c25 : w13.cell? ⟨N2, 5, none⟩ = some (.int .i64 Gr.cr) := m2.cell 5 rfl
      have c26 : w13.cell? ⟨N2, 6, none⟩ = some (.int .i64 Gr.rt) := m2.cell 6 rfl
      have c27 : w13.cell? ⟨N2, 7, none⟩ = some (.int .i64 D) := m2.cell 7 rfl
      have hln2 := HLn2.out
      have HSx : Hid (∀ (wx : World), Below w13.heap.size w13 wx → Calls Tryz.prog 18 #[.pointer (some ⟨B1, 0, none⟩)] wx fun e w' => e = .returned (.string (bs (txtB t E' Gr D Cl))) ∧ Below wx.heap.size wx w') := fun wx h2 =>
        saveL wx B1 t E' Gr D Cl F' (HTwo13.out.below h2).x.lo HSv2.out (by omega) (HGl.out.below (HTwo13.out.below h2).bl)
      have HSy : Hid (∀ (wx : World), Below w13.heap.size w13 wx → Calls Tryz.prog 18 #[.pointer (some ⟨B2, 0, none⟩)] wx fun e w' => e = .returned (.string (bs (txtB t E' Gr D Cl))) ∧ Below wx.heap.size wx w') := fun wx h2 =>
        saveL wx B2 t E' Gr D Cl F'' (HTwo13.out.below h2).y.lo HSv2.out (by omega) (HGl.out.below (HTwo13.out.below h2).bl)
      generalize bs (txtB t E' Gr D Cl) = S2 at *
      clear m1 m2 hbV hb13 HN1 HTwo12 HV12 hln2
      go_wp2_with fail
      refine (HSx.out w13 (Below.refl _ _)).mono ?_
      rintro e w14 ⟨rfl, hb14⟩
      clear c10 c11 c12 c13 c14 c15 c16 c17 c20 c21 c22 c23 c24 c25 c26 c27
      go_wp2_with fail
      refine (HSy.out w14 hb14).mono ?_
      rintro e w15 ⟨rfl, hb15⟩
      have HBe : Hid (Below w.heap.size w w15) := (HTwo13.out.below (hb14.trans (hb15.mono hb14.size))).bl
      clear hb14 hb15 HSx HSy
      go_wp2
      go_ret
      exact ⟨rfl, HBe.out⟩
end Go.Proofs.YtanndhoimpnhpaaGreatDoor
namespace Go.Proofs.YtanndhoimpnhpaaGreatDoor
open Go.ChangeShapes Go.WideShapes Go.RowKit Go.Deep Cal
instance : Inhabited Ln.Ev := ⟨⟨0, 0, 0, 0⟩⟩
section
variable {H : Type} {enc : TypeId × Value → H}
set_option maxRecDepth 100000 in
theorem open_IntsV {W : World} {b0 : Nat} {v : Value} {d : DataW H} {ps : List MemPlace} (hok : Value.okWide Tryz.prog W .any b0 38 v) (h : DataW.Trod enc Tryz.prog W 0 (fun _ => true) true 38 v d ps) : ∃ zs, IntsV W v zs ∧ zs.length ≤ 9223372036854775807 := by
  obtain ⟨a0, len, cap, rfl⟩ := okWide_slice Tryz.underlying38 hok
  obtain ⟨n, hn⟩ := h
  have hn2 : DataW.trod enc Tryz.prog W 0 (fun _ => true) true n 38 [.slice a0 len cap] = some (d, ps) := hn
  rcases open_ints Tryz.underlying38 Tryz.underlying3 (by kernel_rfl) hn2 with ⟨hc, _⟩ | ⟨a, len', cap', zs, hc, _, hl, hm, hzl, _, hcell, hwf⟩
  · simp only [List.cons.injEq, Value.slice.injEq, and_true] at hc
    obtain ⟨rfl, rfl, rfl⟩ := hc
    exact ⟨[], ⟨fun z hz => by simp at hz, none, 0, rfl, Nat.le_refl _, fun k hk => absurd hk (Nat.not_lt_zero k)⟩, by simp⟩
  · simp only [List.cons.injEq, Value.slice.injEq, and_true] at hc
    obtain ⟨rfl, rfl, rfl⟩ := hc
    simp only [if_true] at hzl
    have hlen : (zs.take len).length = len := by rw [List.length_take]; omega
    have hm2 : cap ≤ 9223372036854775807 := hm
    refine ⟨zs.take len, ⟨fun z hz => hwf z (List.mem_of_mem_take hz), some a, cap, by rw [hlen], by omega, fun k hk => ?_⟩, by omega⟩
    have hk2 : k < zs.length := by omega
    have hc := hcell k hk2
    obtain ⟨ab, ao, asp⟩ := a
    have hsp : asp = none := by
      have := World.cell?_spot (hcell 0 (by omega))
      simpa [Addr.add] using this
    subst hsp
    rw [Addr.add_lit] at hc
    refine ⟨ab, ao, rfl, World.block_lt_of_cell? _ _ hc, ?_⟩
    rw [hc, List.getElem_take]
    simp [List.getD, List.getElem?_eq_getElem hk2]
set_option maxRecDepth 100000 in
theorem open_RawV {W : World} {b0 : Nat} {v : Value} {d : DataW H} {ps : List MemPlace} (hok : Value.okWide Tryz.prog W .any b0 39 v) (h : DataW.Trod enc Tryz.prog W 0 (fun _ => true) true 39 v d ps) :
    ∃ (Eb : Nat) (rs : List Ln.Ev), EvV W Eb v rs ∧ rs.length ≤ 9223372036854775807 ∧ ∀ r ∈ rs, (Lit.int .i64 r.d).wf = true ∧ (Lit.int .i64 r.k).wf = true ∧ (Lit.int .i64 r.s).wf = true ∧ (Lit.int .i64 r.a).wf = true := by
  obtain ⟨a0, len, cap, rfl⟩ := okWide_slice Tryz.underlying39 hok
  obtain ⟨n, hn⟩ := h
  have hn2 : DataW.trod enc Tryz.prog W 0 (fun _ => true) true n 39 [.slice a0 len cap] = some (d, ps) := hn
  rcases open_slice Tryz.underlying39 hn2 with ⟨hc, _⟩ | ⟨a, len', cap', m, n', D, Pl, hc, _, hl, hm, hmm, _, hx⟩
  · simp only [List.cons.injEq, Value.slice.injEq, and_true] at hc
    obtain ⟨rfl, rfl, rfl⟩ := hc
    exact ⟨0, [], ⟨none, 0, rfl, Nat.le_refl _, fun k hk => absurd hk (Nat.not_lt_zero k)⟩, by simp, fun r hr => by simp at hr⟩
  · simp only [List.cons.injEq, Value.slice.injEq, and_true] at hc
    obtain ⟨rfl, rfl, rfl⟩ := hc
    simp only [if_true] at hmm
    subst hmm
    have ce : Tryz.prog.cellsOf 81 = 4 := by kernel_rfl
    have each : ∀ i, i < len → ∃ r : Ln.Ev, (∀ j u, (evl r)[j]? = some u → W.cell? (a.add (i * 4 + j)) = some u) ∧ (Lit.int .i64 r.d).wf = true ∧ (Lit.int .i64 r.k).wf = true ∧ (Lit.int .i64 r.s).wf = true ∧ (Lit.int .i64 r.a).wf = true := fun i hi => by
      obtain ⟨cs', h1, h2⟩ := hx i (by omega)
      rw [ce] at h1
      obtain ⟨_, hlen, hcell⟩ := World.cells?_some h1
      obtain ⟨xs, k, hk, hxy, _, hxl, hf⟩ := DataW.trod_struct Tryz.underlying81 h2
      match xs, hxl, cs', hlen with
      | [y0, y1, y2, y3], _, [u0, u1, u2, u3], _ =>
        have g0 := hf 0 _ rfl
        have g1 := hf 1 _ rfl
        have g2 := hf 2 _ rfl
        have g3 := hf 3 _ rfl
        have c1 : Tryz.prog.cellsOf 3 = 1 := by kernel_rfl
        simp [c1] at g0 g1 g2 g3
        obtain ⟨z0, e0, _, w0⟩ := DataW.trod_int Tryz.underlying3 g0
        obtain ⟨z1, e1, _, w1⟩ := DataW.trod_int Tryz.underlying3 g1
        obtain ⟨z2, e2, _, w2⟩ := DataW.trod_int Tryz.underlying3 g2
        obtain ⟨z3, e3, _, w3⟩ := DataW.trod_int Tryz.underlying3 g3
        simp only [List.cons.injEq, and_true] at e0 e1 e2 e3
        subst e0 e1 e2 e3
        refine ⟨⟨z0, z1, z2, z3⟩, fun j u hu => ?_, w0, w1, w2, w3⟩
        have hj : j < 4 := (List.getElem?_eq_some_iff.1 hu).1
        have hc := hcell j (by simpa using hj)
        rw [add_add] at hc
        rw [hc]
        exact hu
    obtain ⟨R, hR⟩ := choose_lt each
    have hrl : ((List.range len).map R).length = len := by simp
    have hm2 : m ≤ 9223372036854775807 := hm
    refine ⟨a.block, (List.range len).map R, ⟨some a, m, by rw [hrl], by omega, fun k hk => ?_⟩, by omega, fun r hr => ?_⟩
    · have hk2 : k < len := by omega
      have hRk := (hR k hk2).1
      have e : ((List.range len).map R)[k] = R k := by simp
      rw [e]
      obtain ⟨ab, ao, asp⟩ := a
      have h0 := hRk 0 _ rfl
      have hsp : asp = none := by
        have := World.cell?_spot ((hR 0 (by omega)).1 0 _ rfl)
        simpa [Addr.add] using this
      subst hsp
      have h1 := hRk 1 _ rfl
      have h2 := hRk 2 _ rfl
      have h3 := hRk 3 _ rfl
      rw [Addr.add_lit] at h0 h1 h2 h3
      exact ⟨ao, rfl, World.block_lt_of_cell? W ⟨ab, ao + (k * 4 + 0), none⟩ h0, h0, by rw [Nat.add_assoc]; exact h1, by rw [Nat.add_assoc]; exact h2, by rw [Nat.add_assoc]; exact h3⟩
    · obtain ⟨k, hk, rfl⟩ := List.mem_map.1 hr
      exact (hR k (List.mem_range.1 hk)).2
end
end Go.Proofs.YtanndhoimpnhpaaGreatDoor
namespace Go.Proofs.YtanndhoimpnhpaaGreatDoor
open Go.RowKit
def mvz : List (List Int) := [[0, 0], [1, 0], [4, 3], [3, 2], [1, 2], [0, 5], [0, 4], [0, 3], [0, 2], [0, 1], [0, 6], [2, 7], [5, 8]]
def mvData {H : Type} : DataW H := .agg (mvz.map fun zs => .agg (zs.map fun z => .lit (.int .i64 z)))
theorem gMoves : Tryz.prog.globalNamed "accrue/owed.moves" = some 1 := by kernel_rfl
theorem mvl_at : ∀ j, j < 26 → mvl[j]? = ((mvz.getD (j / 2) []).map fun z => Value.int .i64 z)[j % 2]? := by
  intro j hj
  match j, hj with
  | 0, _ => rfl
  | 1, _ => rfl
  | 2, _ => rfl
  | 3, _ => rfl
  | 4, _ => rfl
  | 5, _ => rfl
  | 6, _ => rfl
  | 7, _ => rfl
  | 8, _ => rfl
  | 9, _ => rfl
  | 10, _ => rfl
  | 11, _ => rfl
  | 12, _ => rfl
  | 13, _ => rfl
  | 14, _ => rfl
  | 15, _ => rfl
  | 16, _ => rfl
  | 17, _ => rfl
  | 18, _ => rfl
  | 19, _ => rfl
  | 20, _ => rfl
  | 21, _ => rfl
  | 22, _ => rfl
  | 23, _ => rfl
  | 24, _ => rfl
  | 25, _ => rfl
  | j + 26, h => exact absurd h (by omega)
theorem mv_of_reads {W : World} (h : Lib.VarReads Tryz.prog W "accrue/owed.moves" mvData) : Mv W ∧ 1 < W.heap.size := by
  obtain ⟨g, t, cs, fuel, p, hg, hty, hvar, hd⟩ := h
  obtain rfl := Option.some.inj (gMoves.symm.trans hg)
  obtain rfl := Option.some.inj ((show (Tryz.prog.globals[1]?).map (·.type) = some 203 by kernel_rfl).symm.trans hty)
  have c2 : Tryz.prog.cellsOf 202 = 2 := by kernel_rfl
  have key : ∀ i, i < 13 → (cs.toList.drop (i * 2)).take 2 = (mvz.getD i []).map fun z => Value.int .i64 z := by
    intro i hi
    obtain ⟨fuel', d, q, hds, htr⟩ := Lib.array_elem Tryz.underlying203 hd i hi
    rw [c2] at htr
    have hz : mvz[i]? = some (mvz.getD i []) := by
      rw [List.getD_eq_getElem?_getD, List.getElem?_eq_getElem (show i < mvz.length from hi)]
      rfl
    rw [List.getElem?_map, hz] at hds
    obtain rfl := Option.some.inj hds
    refine Lib.ints_of_struct Tryz.underlying202 ?_ c2 htr
    intro j f hf
    match j, hf with
    | 0, hf =>
      obtain rfl := Option.some.inj hf
      exact ⟨Tryz.underlying3, rfl, by kernel_rfl⟩
    | 1, hf =>
      obtain rfl := Option.some.inj hf
      exact ⟨Tryz.underlying3, rfl, by kernel_rfl⟩
    | j + 2, hf => exact absurd hf (by simp)
  have hcell : ∀ j, j < 26 → W.cell? ⟨1, j, none⟩ = mvl[j]? := by
    intro j hj
    have hv := World.var?_cell hg hvar j
    have hk := congrArg (fun l => l[j % 2]?) (key (j / 2) (by omega))
    simp only [List.getElem?_take, List.getElem?_drop, show j % 2 < 2 by omega, if_true] at hk
    rw [show j / 2 * 2 + j % 2 = j by omega] at hk
    rw [hv, mvl_at j hj, ← hk, Array.getElem?_toList]
  have hall : Mv W := by
    intro j v hj
    have hlt : j < 26 := by
      have := (List.getElem?_eq_some_iff.1 hj).1
      exact this
    rw [hcell j hlt, hj]
  exact ⟨hall, World.block_lt_of_cell? _ _ (hall 0 _ rfl)⟩
end Go.Proofs.YtanndhoimpnhpaaGreatDoor
namespace Go.Proofs.YtanndhoimpnhpaaGreatDoor
open Go.RowKit
def lmz : List (List Int) := [[0, 0], [1, 100000000000], [0, 1000000], [1, 400], [0, 0], [1, 100000000000]]
def lmData {H : Type} : DataW H := .agg (lmz.map fun zs => .agg (zs.map fun z => .lit (.int .i64 z)))
theorem gLimits : Tryz.prog.globalNamed "accrue/accrue.amountLimits" = some 0 := by kernel_rfl
theorem liml_at : ∀ j, j < 12 → liml[j]? = ((lmz.getD (j / 2) []).map fun z => Value.int .i64 z)[j % 2]? := by
  intro j hj
  match j, hj with
  | 0, _ => rfl
  | 1, _ => rfl
  | 2, _ => rfl
  | 3, _ => rfl
  | 4, _ => rfl
  | 5, _ => rfl
  | 6, _ => rfl
  | 7, _ => rfl
  | 8, _ => rfl
  | 9, _ => rfl
  | 10, _ => rfl
  | 11, _ => rfl
  | j + 12, h => exact absurd h (by omega)
theorem lim_of_reads {W : World} (h : Lib.VarReads Tryz.prog W "accrue/accrue.amountLimits" lmData) : Lim W := by
  obtain ⟨g, t, cs, fuel, p, hg, hty, hvar, hd⟩ := h
  obtain rfl := Option.some.inj (gLimits.symm.trans hg)
  obtain rfl := Option.some.inj ((show (Tryz.prog.globals[0]?).map (·.type) = some 154 by kernel_rfl).symm.trans hty)
  have c2 : Tryz.prog.cellsOf 86 = 2 := by kernel_rfl
  have key : ∀ i, i < 6 → (cs.toList.drop (i * 2)).take 2 = (lmz.getD i []).map fun z => Value.int .i64 z := by
    intro i hi
    obtain ⟨fuel', d, q, hds, htr⟩ := Lib.array_elem Tryz.underlying154 hd i hi
    rw [c2] at htr
    have hz : lmz[i]? = some (lmz.getD i []) := by
      rw [List.getD_eq_getElem?_getD, List.getElem?_eq_getElem (show i < lmz.length from hi)]
      rfl
    rw [List.getElem?_map, hz] at hds
    obtain rfl := Option.some.inj hds
    refine Lib.ints_of_struct Tryz.underlying86 ?_ c2 htr
    intro j f hf
    match j, hf with
    | 0, hf =>
      obtain rfl := Option.some.inj hf
      exact ⟨Tryz.underlying3, rfl, by kernel_rfl⟩
    | 1, hf =>
      obtain rfl := Option.some.inj hf
      exact ⟨Tryz.underlying3, rfl, by kernel_rfl⟩
    | j + 2, hf => exact absurd hf (by simp)
  have hcell : ∀ j, j < 12 → W.cell? ⟨0, j, none⟩ = liml[j]? := by
    intro j hj
    have hv := World.var?_cell hg hvar j
    have hk := congrArg (fun l => l[j % 2]?) (key (j / 2) (by omega))
    simp only [List.getElem?_take, List.getElem?_drop, show j % 2 < 2 by omega, if_true] at hk
    rw [show j / 2 * 2 + j % 2 = j by omega] at hk
    rw [hv, liml_at j hj, ← hk, Array.getElem?_toList]
  intro j v hj
  have hlt : j < 12 := by
    have := (List.getElem?_eq_some_iff.1 hj).1
    exact this
  rw [hcell j hlt, hj]
end Go.Proofs.YtanndhoimpnhpaaGreatDoor
