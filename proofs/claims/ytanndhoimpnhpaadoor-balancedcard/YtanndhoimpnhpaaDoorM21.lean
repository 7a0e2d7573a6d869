/- The accounts are balanced, and are what the balance tells: the statement Balanced, walked. -/
import Derived.Test.YtanndhoimpnhpaaDoorM19
import Derived.Test.YtanndhoimpnhpaaDoorM20
import Derived.Deep.CutRange
namespace Go.Proofs.YtanndhoimpnhpaaDoor
open Go.ChangeShapes Go.WideShapes Go.RowKit Go.WideMaps Go.Maps Cal

set_option maxRecDepth 10000 in
set_option maxHeartbeats 8000000 in
theorem balanced_any (w : World) (v0 v1 v2 : Value) (zs cs : List Int) (Eb : Nat) (rs : List Ln.Ev) (h0 : IntsV w v0 zs) (h1 : EvV w Eb v1 rs) (hrl : rs.length ≤ 9223372036854775807)
    (hwf : ∀ r ∈ rs, (Lit.int .i64 r.d).wf = true ∧ (Lit.int .i64 r.k).wf = true ∧ (Lit.int .i64 r.s).wf = true ∧ (Lit.int .i64 r.a).wf = true) (h2 : IntsV w v2 cs) (hcl : cs.length < 9223372036854775807) (hmv : Mv w) (hlim : Lim w) :
    Calls Tryd.prog 8 #[v0, v1, v2] w fun e w' => e = .returned (.bool true) ∧ Below w.heap.size w w' := by
  have HMv : Hid (Mv w) := hmv
  have HLim : Hid (Lim w) := hlim
  have HI0 : Hid (IntsV w v0 zs) := h0
  have HE1 : Hid (EvV w Eb v1 rs) := h1
  have HI2 : Hid (IntsV w v2 cs) := h2
  have HWf : Hid (∀ r ∈ rs, (Lit.int .i64 r.d).wf = true ∧ (Lit.int .i64 r.k).wf = true ∧ (Lit.int .i64 r.s).wf = true ∧ (Lit.int .i64 r.a).wf = true) := hwf
  obtain ⟨_, p0, cap0, rfl, _, _⟩ := h0
  obtain ⟨p1, cap1, rfl, _, _⟩ := h1
  obtain ⟨_, p2, cap2, rfl, _, _⟩ := h2
  have hA := awake_any w hmv
  clear hmv hlim hwf
  go_enter Tryd.func8, Tryd.ntmps8
  go_wp2_with fail
  refine hA.mono ?_
  rintro e w1 ⟨rfl, hb1⟩
  have hT := terms_any w1 _ zs (HI0.out.below hb1)
  clear hA
  go_wp2_with fail
  refine hT.mono ?_
  rintro e w2 ⟨⟨t, ht, rfl⟩, hb2⟩
  have hbw2 : Below w.heap.size w w2 := hb1.trans (hb2.mono hb1.size)
  have HRt : Hid (rtB t = true) := ht
  clear hT hb1 hb2 ht
  have hNT0 : At (w2.alloc (.cells (tml t).toArray 41)) w2.heap.size (tml t) := At.alloc w2 _ _
  have hb3 : Below w.heap.size w (w2.alloc (.cells (tml t).toArray 41)) := hbw2.alloc hbw2.size _
  have hNT1 : w.heap.size ≤ w2.heap.size := hbw2.size
  have hEv := events_any (w2.alloc (.cells (tml t).toArray 41)) t (rt_ok HRt.out) _ Eb rs (HE1.out.keep (S := fun _ => False) (Keep.below hb3) (fun _ x => x)) hrl HWf.out
  have q0 : (w2.alloc (.cells (tml t).toArray 41)).cell? ⟨w2.heap.size, 0, none⟩ = some (.int .i64 t.st) := hNT0.cell 0 rfl
  have q1 : (w2.alloc (.cells (tml t).toArray 41)).cell? ⟨w2.heap.size, 1, none⟩ = some (.int .i64 t.pr) := hNT0.cell 1 rfl
  have q2 : (w2.alloc (.cells (tml t).toArray 41)).cell? ⟨w2.heap.size, 2, none⟩ = some (.int .i64 t.rt) := hNT0.cell 2 rfl
  have q3 : (w2.alloc (.cells (tml t).toArray 41)).cell? ⟨w2.heap.size, 3, none⟩ = some (.int .i64 t.fi) := hNT0.cell 3 rfl
  have q4 : (w2.alloc (.cells (tml t).toArray 41)).cell? ⟨w2.heap.size, 4, none⟩ = some (.int .i64 t.ba) := hNT0.cell 4 rfl
  have q5 : (w2.alloc (.cells (tml t).toArray 41)).cell? ⟨w2.heap.size, 5, none⟩ = some (.int .i64 t.du) := hNT0.cell 5 rfl
  unfold tmV at *
  go_wp2_with (first | (refine wpList_store_new rfl 41 (.tmp 8) (.tmp 24) rfl (tml t).toArray _ rfl rfl (by kernel_rfl) rfl (by kernel_rfl) ?_) | fail)
  clear hbw2 q0 q1 q2 q3 q4 q5
  refine hEv.mono ?_
  have HB2 : Hid (Below w.heap.size w (w2.alloc (.cells (tml t).toArray 41))) := hb3
  clear hEv
  generalize w2.alloc (.cells (tml t).toArray 41) = V2 at *
  generalize w2.heap.size = NT at *
  clear hb3 HE1 HWf
  rintro e w3 ⟨vv, O, rfl, hOut⟩
  obtain ⟨op, ocap, rfl⟩ := own_slice hOut.ow
  have HB3 : Hid (Below w.heap.size w w3) := HB2.out.trans (hOut.bl.mono HB2.out.size)
  have HT3 : Hid (At w3 NT (tml t)) := At.keep (S := fun _ => False) (v := .int .i64 t.st) hNT0 (Keep.below hOut.bl) (fun x => x)
  have HO : Hid (w3.ownsRow 0 53 4 (.slice op O.length ocap) O.length (evs O)) := own_low hOut.ow
  have hO40 : O.length ≤ 40 := hOut.le
  have HOk : Hid (∀ e ∈ O, evF t e = 0) := fun e he => (hOut.ok e he).1
  have HOd : Hid (O.Pairwise (fun a b => ¬ a.s = b.s)) := hOut.ds
  clear hOut hNT0 HB2
  have hTo := told_any w3 t HRt.out _ _ O (evs_evv HO.out).choose_spec.1 hO40 HOk.out HOd.out (HLim.out.below HB3.out)
  have c0 : w3.cell? ⟨NT, 0, none⟩ = some (.int .i64 t.st) := HT3.out.cell 0 rfl
  have c1 : w3.cell? ⟨NT, 1, none⟩ = some (.int .i64 t.pr) := HT3.out.cell 1 rfl
  have c2 : w3.cell? ⟨NT, 2, none⟩ = some (.int .i64 t.rt) := HT3.out.cell 2 rfl
  have c3 : w3.cell? ⟨NT, 3, none⟩ = some (.int .i64 t.fi) := HT3.out.cell 3 rfl
  have c4 : w3.cell? ⟨NT, 4, none⟩ = some (.int .i64 t.ba) := HT3.out.cell 4 rfl
  have c5 : w3.cell? ⟨NT, 5, none⟩ = some (.int .i64 t.du) := HT3.out.cell 5 rfl
  unfold tmV at hTo
  go_wp2_with fail
  refine hTo.mono ?_
  rintro e w4 ⟨B, E, rfl, hpE, hLo, hb4⟩
  clear hTo c0 c1 c2 c3 c4 c5
  have hgl := HMv.out.lt
  obtain ⟨_, hEo, hEl, hOt⟩ := hLo.facts
  have HF : Hid ((∀ e ∈ E, Ln.OkE t e) ∧ E.length ≤ 40 ∧ Ln.OkT t ∧ E.Perm O) := ⟨hEo, hEl, hOt, hpE⟩
  have s0 := hOt.st0
  have s1 := hOt.st1
  have tp0 := hOt.pr0
  have tp1 := hOt.pr1
  have hNTl : NT < w3.heap.size := At.lt (v := .int .i64 t.st) HT3.out
  have HOne : Hid (One w3 NT B t E (Ln.start t) t.st [] (Wd (fun _ => False) w3 w4) w4) := by
    refine ⟨hLo, fun x => by have := Wd.fresh x; omega, fun b x => Wd.fresh x, ?_⟩
    rintro b (x | x)
    · exact x.elim
    · exact x.2
  have HB4 : Hid (Below w3.heap.size w3 w4) := hb4
  have HMv3 : Hid (Mv w3) := HMv.out.below HB3.out
  have d0 : w4.cell? ⟨NT, 0, none⟩ = some (.int .i64 t.st) := (At.keep (S := fun _ => False) (v := .int .i64 t.st) HT3.out (Keep.below hb4) (fun x => x)).cell 0 rfl
  clear hLo hb4 hEo hEl hOt hpE HOk HOd HLim
  generalize hF1 : Wd (fun _ => False) w3 w4 = F1 at *
  clear hF1
  go_wp2
  clear d0
  go_loopw [11, 12, 13, 14, 15, 16, 17, 18, 19, 20, 21] (fun s11 s12 _ _ _ _ _ _ _ _ _ wr => ∃ (k p : Nat) (F : Nat → Prop), k ≤ cs.length + 1 ∧ p ≤ 900 ∧ s12 = .int .i64 k ∧ s11 = .int .i64 (t.st + p) ∧ One w3 NT B t E (Ln.run t cdOf (wtOf t.ba) E p) (t.st + p) (cleanB t.st (amOf t E) p) F wr ∧ Below w3.heap.size w3 wr) (fun _ s12 _ _ _ _ _ _ _ _ _ _ => (cs.length + 1 - intOf s12).toNat)
  case atStart => exact ⟨0, 0, F1, Nat.zero_le _, Nat.zero_le _, rfl, by simp, by simpa [Ln.run, cleanB] using HOne.out, HB4.out⟩
  case round =>
    obtain ⟨k, p, F, hk, hp, rfl, rfl, hOne, hb⟩ := hrel
    clear HOne HB4
    have HOn : Hid (One w3 NT B t E (Ln.run t cdOf (wtOf t.ba) E p) (t.st + p) (cleanB t.st (amOf t E) p) F wr) := hOne
    have HBr : Hid (Below w3.heap.size w3 wr) := hb
    clear hOne hb
    by_cases hle : k ≤ cs.length
    · have zk : (k : Int) ≤ (cs.length : Int) := by omega
      go_upto_if 48 with fail
      go_cut [13] from 48 to 53 (fun s13 wx => ∃ r : Nat, r ≤ 900 ∧ s13 = .int .i64 r ∧ wx = wr)
      case first =>
        by_cases hlt : k < cs.length
        · obtain ⟨hcw, q2, qcap, hq2, _, hcell⟩ := HI2.out
          injection hq2 with e1 _ e3
          subst e1 e3
          obtain ⟨cb, co, rfl, hcb, hcc⟩ := hcell k hlt
          have hbW : Below w.heap.size w wr := HB3.out.trans (HBr.out.mono HB3.out.size)
          have hcW : wr.cell? ⟨cb, co + k, none⟩ = some (.int .i64 cs[k]) := (World.cell?_of_block (w := w) (a := ⟨cb, co + k, none⟩) (hbW.block cb hcb)).trans hcc
          obtain ⟨r, hr, hpk⟩ := pick_nat cs[k] 900 (hcw _ (List.getElem_mem hlt)) (by omega) (by omega)
          have hpW := hpk wr
          clear hcell hcc hpk hcw hbW
          generalize cs[k] = c at *
          have zl : (k : Int) < (cs.length : Int) := by omega
          go_wp2_with fail
          refine hpW.mono ?_
          rintro e w' ⟨rfl, hw'⟩
          obtain rfl := hw'.symm
          go_wp2_with fail
          go_meet
          case rel => exact ⟨r, by omega, rfl, rfl⟩
        · have zl : ¬ (k : Int) < (cs.length : Int) := by omega
          go_wp2_with fail
          go_meet
          case rel => exact ⟨900, Nat.le_refl _, rfl, rfl⟩
      case rest =>
        obtain ⟨r, hr, rfl, hwc⟩ := hcut
        obtain rfl := hwc.symm
        clear hwc
        obtain ⟨hEo, hEl, hOt, hpE⟩ := HF.out
        obtain ⟨r1, hr1, hpk1⟩ := pick_nat (r : Int) (900 - p + 1) (wf64 _ (by omega)) (by omega) (by omega)
        have hcle : (cleanB t.st (amOf t E) p).length ≤ 4000000000000 := Nat.le_trans (cleanB_len t.st (amOf t E) p) (by omega)
        have hNTw : At wr NT (tml t) := At.keep (S := fun _ => False) (v := .int .i64 t.st) HT3.out (Keep.below HBr.out) (fun x => x)
        have hR := HOn.out.run HBr.out HMv3.out hcle (p + r1) (by omega) (by omega) (Nat.lt_of_lt_of_le hNTl HBr.out.size)
        rw [show bkP t.st (fun k => (yOf t E k).am) (cleanB t.st (amOf t E) p) (p + r1) = cleanB t.st (amOf t E) (p + r1) from clean_on hEo hEl hOt p (p + r1) (by omega) (by omega)] at hR
        have HBF0 : Hid (BF (wacc (cleanB t.st (amOf t E) (p + r1))) (Ln.run t cdOf (wtOf t.ba) E (p + r1)) (paidTo (t.st + ((p + r1 : Nat) : Int)) E - ((if 0 < p + r1 then t.pr else 0) + lentTo (t.st + ((p + r1 : Nat) : Int)) E))) := bal_facts hOt hEo hEl (p + r1) (by omega)
        have hcle2 : (cleanB t.st (amOf t E) (p + r1)).length ≤ 4000000000000 := Nat.le_trans (cleanB_len t.st (amOf t E) (p + r1)) (by omega)
        have hkin : ∀ e ∈ cleanB t.st (amOf t E) (p + r1), 1 ≤ e.k ∧ e.k ≤ 12 := fun e he => by have := cleanB_mem he; omega
        have hpW := hpk1 wr
        have c0 : wr.cell? ⟨NT, 0, none⟩ = some (.int .i64 t.st) := hNTw.cell 0 rfl
        have y0 : IntKind.i64.wrap (t.st + 900) = t.st + 900 := by rw [IntKind.wrap_i64]; omega
        have y1 : IntKind.i64.wrap (t.st + 900 - (t.st + (p : Int))) = ((900 - p : Nat) : Int) := by rw [IntKind.wrap_i64]; omega
        have y2 : IntKind.i64.wrap (((900 - p : Nat) : Int) + 1) = ((900 - p + 1 : Nat) : Int) := by rw [IntKind.wrap_i64]; omega
        have y3 : IntKind.i64.wrap (t.st + (p : Int) + (r1 : Int)) = t.st + (p : Int) + (r1 : Int) := by rw [IntKind.wrap_i64]; omega
        clear hpk1 hEo hEl hOt hpE hcle
        go_upto_region 14 with fail
        refine wp_region_lit ?_
        refine wpList_val (.int .i64 (t.st + p)) wr rfl rfl ?_
        simp only [Act.put, List.setIfInBounds_toArray, List.set_cons_zero, List.set_cons_succ]
        refine wpList_val (.int .i64 r) wr rfl rfl ?_
        simp only [Act.put, List.setIfInBounds_toArray, List.set_cons_zero, List.set_cons_succ]
        refine wpList_val (.pointer (some ⟨NT, 0, none⟩)) wr rfl (by go_simp) ?_
        simp only [Act.put, List.setIfInBounds_toArray, List.set_cons_zero, List.set_cons_succ]
        refine wpList_val (.int .i64 t.st) wr rfl (by go_simp) ?_
        simp only [Act.put, List.setIfInBounds_toArray, List.set_cons_zero, List.set_cons_succ]
        refine wpList_val (.int .i64 (t.st + 900)) wr rfl (by go_simp) ?_
        simp only [Act.put, List.setIfInBounds_toArray, List.set_cons_zero, List.set_cons_succ]
        refine wpList_val (.int .i64 (t.st + p)) wr rfl rfl ?_
        simp only [Act.put, List.setIfInBounds_toArray, List.set_cons_zero, List.set_cons_succ]
        refine wpList_val (.int .i64 ((900 - p : Nat) : Int)) wr rfl (by go_simp) ?_
        simp only [Act.put, List.setIfInBounds_toArray, List.set_cons_zero, List.set_cons_succ]
        refine wpList_val (.int .i64 ((900 - p + 1 : Nat) : Int)) wr rfl (by go_simp) ?_
        simp only [Act.put, List.setIfInBounds_toArray, List.set_cons_zero, List.set_cons_succ]
        clear y0 y1 y2 c0 hNTw
        go_wp2_with fail
        refine hpW.mono ?_
        rintro e w' ⟨rfl, hw'⟩
        obtain rfl := hw'.symm
        clear hpW hw'
        rw [show t.st + ((p + r1 : Nat) : Int) = t.st + (p : Int) + (r1 : Int) by omega] at hR
        go_wp2_with fail
        clear y3
        refine hR.mono ?_
        rintro e w5 ⟨rfl, hOne5, hk5⟩
        clear hR
        have HB5 : Hid (Below w3.heap.size w3 w5) := Keep.fresh HBr.out hk5 HOn.out.ge
        have hBl := balanceL w5 B _ _ _ _ _ _ hOne5.lo
        have HOn5 : Hid (One w3 NT B t E (Ln.run t cdOf (wtOf t.ba) E (p + r1)) (t.st + (p : Int) + (r1 : Int)) (cleanB t.st (amOf t E) (p + r1)) (Wd F wr w5) w5) := hOne5
        clear hk5 hOne5 HOn HBr
        go_wp2_with fail
        refine hBl.mono ?_
        rintro e w6 ⟨rfl, hb6⟩
        clear hBl
        generalize hG : Ln.run t cdOf (wtOf t.ba) E (p + r1) = G at *
        have HG : Hid (Ln.run t cdOf (wtOf t.ba) E (p + r1) = G) := hG
        clear hG
        generalize hC : cleanB t.st (amOf t E) (p + r1) = C at *
        have HC : Hid (cleanB t.st (amOf t E) (p + r1) = C) := hC
        clear hC
        generalize hat : t.st + (p : Int) + (r1 : Int) = at1 at *
        have HAT : Hid (t.st + (p : Int) + (r1 : Int) = at1) := hat
        have hat2 : t.st ≤ at1 ∧ at1 ≤ t.st + 900 := by omega
        clear hat
        have HOn6 : Hid (One w3 NT B t E G at1 C (Wd F wr w5) (w6.alloc (.cells (bll G at1).toArray 44))) := HOn5.out.below (hb6.alloc hb6.size _)
        have HB6 : Hid (Below w3.heap.size w3 (w6.alloc (.cells (bll G at1).toArray 44))) := HB5.out.trans ((hb6.alloc hb6.size (.cells (bll G at1).toArray 44)).mono HB5.out.size)
        have hNb : At (w6.alloc (.cells (bll G at1).toArray 44)) w6.heap.size (bll G at1) := At.alloc w6 _ _
        have hAc := accountsL _ B _ _ _ _ _ _ HOn6.out.lo hcle2 hkin (HMv3.out.below HB6.out)
        clear HOn5 HB5 hb6
        go_wp2_with (first | (refine wpList_store_new rfl 44 (.tmp 15) (.tmp 68) rfl (bll G at1).toArray _ rfl rfl (by kernel_rfl) rfl (by kernel_rfl) ?_) | fail)
        refine hAc.mono ?_
        generalize w6.alloc (.cells (bll G at1).toArray 44) = V6 at *
        generalize w6.heap.size = Nb at *
        rintro e w7 ⟨Na, rfl, hNa1, hNa, hb7⟩
        clear hAc hkin hcle2
        have HOn7 : Hid (One w3 NT B t E G at1 C (Wd F wr w5) w7) := HOn6.out.below hb7
        have HB7 : Hid (Below w3.heap.size w3 w7) := HB6.out.trans (hb7.mono HB6.out.size)
        have HNb : Hid (At w7 Nb (bll G at1)) := At.keep (S := fun _ => False) (v := .int .i64 G.pr) hNb (Keep.below hb7) (fun x => x)
        generalize hf : wacc C = f at *
        clear hf
        have HNa : Hid (At w7 Na (hc 9 f)) := hNa
        clear HOn6 HB6 hNb hNa hb7 hNa1
        have acl : ∀ j (hj : j < 9), w7.cell? ⟨Na, j, none⟩ = some (.int .i64 (f j)) := fun j hj => HNa.out.cell j (hc_at 9 f j hj)
        have HAcl : Hid (∀ j (hj : j < 9), w7.cell? ⟨Na, j, none⟩ = some (.int .i64 (f j))) := acl
        clear acl
        have HBF : Hid (BF f G (paidTo (t.st + ((p + r1 : Nat) : Int)) E - ((if 0 < p + r1 then t.pr else 0) + lentTo (t.st + ((p + r1 : Nat) : Int)) E))) := HBF0.out
        clear HBF0
        go_wp2
        go_loop [17, 18] (fun s17 s18 => ∃ j : Nat, j ≤ 9 ∧ s18 = .int .i64 j ∧ s17 = .int .i64 (wrap64 (sumTo f j))) (fun _ s18 => (9 - intOf s18).toNat)
        case atStart => exact ⟨0, Nat.zero_le _, rfl, by show _ = Value.int .i64 (wrap64 0); rw [show wrap64 0 = 0 by unfold wrap64; omega]⟩
        case round =>
          obtain ⟨j, hj, rfl, rfl⟩ := hrel
          by_cases hjl : j < 9
          · have hcj := HAcl.out j hjl
            have zj : (j : Int) < 9 := by omega
            have hww := wrap_wrap_add (sumTo f j) (f j)
            have HSu : Hid (sumTo f (j + 1) = sumTo f j + f j) := rfl
            generalize sumTo f j = x at *
            generalize f j = y at *
            go_wp2
            exact ⟨⟨j + 1, hjl, rfl, by rw [HSu.out, ← hww]⟩, by simp [intOf]; omega⟩
          · obtain rfl : j = 9 := by omega
            have e9 : wrap64 (sumTo f 9) = 0 := by rw [HBF.out.sm]; unfold wrap64; omega
            rw [e9]
            clear e9
            have zj : ¬ ((9 : Nat) : Int) < 9 := by omega
            go_upto_region 25 with fail
            refine wp_region_held_drew (S := fun wx => At wx Na (hc 9 f) ∧ At wx Nb (bll G at1) ∧ One w3 NT B t E G at1 C (Wd F wr w5) wx ∧ Below w3.heap.size w3 wx) (by kernel_rfl) ⟨HNa.out.drew, HNb.out.drew, HOn7.out.below (Below.refl _ _).drew, HB7.out.drew⟩ (fun hHeld => ?_)
            clear HNa HNb HOn7 HB7 HAcl
            generalize w7.drew = V8 at *
            refine wpAnyH_take (i := 0) (v := (.int .i64 0)) rfl (by kernel_rfl) (by kernel_rfl) (by kernel_rfl) (fun _ _ _ h => h) (Or.inl ⟨by rfl, fun wx hSw => by kernel_rfl⟩) (by assumption) ?_
            simp only [Act.put, List.getElem_toArray, List.getElem_cons_zero, List.setIfInBounds_toArray, List.set_cons_zero, List.set_cons_succ]
            refine wpAnyH_take (i := 1) (v := (.bool false)) rfl (by kernel_rfl) (by kernel_rfl) (by kernel_rfl) (fun _ _ _ h => h) (Or.inl ⟨by rfl, fun wx hSw => by ((try dsimp only at hSw); go_simp)⟩) (by assumption) ?_
            simp only [Act.put, List.getElem_toArray, List.getElem_cons_succ, List.getElem_cons_zero, List.setIfInBounds_toArray, List.set_cons_zero, List.set_cons_succ]
            refine wpAnyH_take (i := 2) (v := (.bool false)) rfl (by kernel_rfl) (by kernel_rfl) (by kernel_rfl) (fun _ _ _ h => h) (Or.inl ⟨by rfl, fun wx hSw => by kernel_rfl⟩) (by assumption) ?_
            simp only [Act.put, List.getElem_toArray, List.getElem_cons_succ, List.getElem_cons_zero, List.setIfInBounds_toArray, List.set_cons_zero, List.set_cons_succ]
            refine wpAnyH_take (i := 3) (v := (.slice (some ⟨Na, 0, none⟩) 9 9)) rfl (by kernel_rfl) (by kernel_rfl) (by kernel_rfl) (fun _ _ _ h => h) (Or.inl ⟨by rfl, fun wx hSw => by kernel_rfl⟩) (by assumption) ?_
            simp only [Act.put, List.getElem_toArray, List.getElem_cons_succ, List.getElem_cons_zero, List.setIfInBounds_toArray, List.set_cons_zero, List.set_cons_succ]
            refine wpAnyH_take (i := 4) (v := (.pointer (some ⟨Na, 1, none⟩))) rfl (by kernel_rfl) (by kernel_rfl) (by kernel_rfl) (fun _ _ _ h => h) (Or.inl ⟨by rfl, fun wx hSw => by ((try dsimp only at hSw); go_simp)⟩) (by assumption) ?_
            simp only [Act.put, List.getElem_toArray, List.getElem_cons_succ, List.getElem_cons_zero, List.setIfInBounds_toArray, List.set_cons_zero, List.set_cons_succ]
            refine wpAnyH_take (i := 5) (v := (.int .i64 G.pr)) rfl (by kernel_rfl) (by kernel_rfl) (by kernel_rfl) (fun _ _ _ h => h) (Or.inl ⟨by rfl, fun wx hSw => by (have hc : wx.cell? ⟨Na, 1, none⟩ = some (.int .i64 G.pr) := (by rw [← HBF.out.f1]; exact hSw.1.cell 1 (hc_at 9 f 1 (by decide))); go_simp)⟩) (by assumption) ?_
            simp only [Act.put, List.getElem_toArray, List.getElem_cons_succ, List.getElem_cons_zero, List.setIfInBounds_toArray, List.set_cons_zero, List.set_cons_succ]
            refine wpAnyH_take (i := 6) (v := (.pointer (some ⟨Nb, 0, none⟩))) rfl (by kernel_rfl) (by kernel_rfl) (by kernel_rfl) (fun _ _ _ h => h) (Or.inl ⟨by rfl, fun wx hSw => by ((try dsimp only at hSw); go_simp)⟩) (by assumption) ?_
            simp only [Act.put, List.getElem_toArray, List.getElem_cons_succ, List.getElem_cons_zero, List.setIfInBounds_toArray, List.set_cons_zero, List.set_cons_succ]
            refine wpAnyH_take (i := 7) (v := (.int .i64 G.pr)) rfl (by kernel_rfl) (by kernel_rfl) (by kernel_rfl) (fun _ _ _ h => h) (Or.inl ⟨by rfl, fun wx hSw => by (have hc : wx.cell? ⟨Nb, 0, none⟩ = some (.int .i64 G.pr) := hSw.2.1.cell 0 rfl; go_simp)⟩) (by assumption) ?_
            simp only [Act.put, List.getElem_toArray, List.getElem_cons_succ, List.getElem_cons_zero, List.setIfInBounds_toArray, List.set_cons_zero, List.set_cons_succ]
            refine wpAnyH_take (i := 8) (v := (.bool false)) rfl (by kernel_rfl) (by kernel_rfl) (by kernel_rfl) (fun _ _ _ h => h) (Or.inl ⟨by rfl, fun wx hSw => by ((try dsimp only at hSw); go_simp)⟩) (by assumption) ?_
            simp only [Act.put, List.getElem_toArray, List.getElem_cons_succ, List.getElem_cons_zero, List.setIfInBounds_toArray, List.set_cons_zero, List.set_cons_succ]
            refine wpAnyH_take (i := 9) (v := (.bool false)) rfl (by kernel_rfl) (by kernel_rfl) (by kernel_rfl) (fun _ _ _ h => h) (Or.inl ⟨by rfl, fun wx hSw => by ((try dsimp only at hSw); go_simp)⟩) (by assumption) ?_
            simp only [Act.put, List.getElem_toArray, List.getElem_cons_succ, List.getElem_cons_zero, List.setIfInBounds_toArray, List.set_cons_zero, List.set_cons_succ]
            refine wpAnyH_take (i := 10) (v := (.bool false)) rfl (by kernel_rfl) (by kernel_rfl) (by kernel_rfl) (fun _ _ _ h => h) (Or.inl ⟨by rfl, fun wx hSw => by kernel_rfl⟩) (by assumption) ?_
            simp only [Act.put, List.getElem_toArray, List.getElem_cons_succ, List.getElem_cons_zero, List.setIfInBounds_toArray, List.set_cons_zero, List.set_cons_succ]
            refine wpAnyH_take (i := 11) (v := (.slice (some ⟨Na, 0, none⟩) 9 9)) rfl (by kernel_rfl) (by kernel_rfl) (by kernel_rfl) (fun _ _ _ h => h) (Or.inl ⟨by rfl, fun wx hSw => by kernel_rfl⟩) (by assumption) ?_
            simp only [Act.put, List.getElem_toArray, List.getElem_cons_succ, List.getElem_cons_zero, List.setIfInBounds_toArray, List.set_cons_zero, List.set_cons_succ]
            refine wpAnyH_take (i := 12) (v := (.pointer (some ⟨Na, 2, none⟩))) rfl (by kernel_rfl) (by kernel_rfl) (by kernel_rfl) (fun _ _ _ h => h) (Or.inl ⟨by rfl, fun wx hSw => by ((try dsimp only at hSw); go_simp)⟩) (by assumption) ?_
            simp only [Act.put, List.getElem_toArray, List.getElem_cons_succ, List.getElem_cons_zero, List.setIfInBounds_toArray, List.set_cons_zero, List.set_cons_succ]
            refine wpAnyH_take (i := 13) (v := (.int .i64 G.it)) rfl (by kernel_rfl) (by kernel_rfl) (by kernel_rfl) (fun _ _ _ h => h) (Or.inl ⟨by rfl, fun wx hSw => by (have hc : wx.cell? ⟨Na, 2, none⟩ = some (.int .i64 G.it) := (by rw [← HBF.out.f2]; exact hSw.1.cell 2 (hc_at 9 f 2 (by decide))); go_simp)⟩) (by assumption) ?_
            simp only [Act.put, List.getElem_toArray, List.getElem_cons_succ, List.getElem_cons_zero, List.setIfInBounds_toArray, List.set_cons_zero, List.set_cons_succ]
            refine wpAnyH_take (i := 14) (v := (.pointer (some ⟨Nb, 1, none⟩))) rfl (by kernel_rfl) (by kernel_rfl) (by kernel_rfl) (fun _ _ _ h => h) (Or.inl ⟨by rfl, fun wx hSw => by ((try dsimp only at hSw); go_simp)⟩) (by assumption) ?_
            simp only [Act.put, List.getElem_toArray, List.getElem_cons_succ, List.getElem_cons_zero, List.setIfInBounds_toArray, List.set_cons_zero, List.set_cons_succ]
            refine wpAnyH_take (i := 15) (v := (.int .i64 G.it)) rfl (by kernel_rfl) (by kernel_rfl) (by kernel_rfl) (fun _ _ _ h => h) (Or.inl ⟨by rfl, fun wx hSw => by (have hc : wx.cell? ⟨Nb, 1, none⟩ = some (.int .i64 G.it) := hSw.2.1.cell 1 rfl; go_simp)⟩) (by assumption) ?_
            simp only [Act.put, List.getElem_toArray, List.getElem_cons_succ, List.getElem_cons_zero, List.setIfInBounds_toArray, List.set_cons_zero, List.set_cons_succ]
            refine wpAnyH_take (i := 16) (v := (.bool false)) rfl (by kernel_rfl) (by kernel_rfl) (by kernel_rfl) (fun _ _ _ h => h) (Or.inl ⟨by rfl, fun wx hSw => by ((try dsimp only at hSw); go_simp)⟩) (by assumption) ?_
            simp only [Act.put, List.getElem_toArray, List.getElem_cons_succ, List.getElem_cons_zero, List.setIfInBounds_toArray, List.set_cons_zero, List.set_cons_succ]
            refine wpAnyH_take (i := 17) (v := (.bool false)) rfl (by kernel_rfl) (by kernel_rfl) (by kernel_rfl) (fun _ _ _ h => h) (Or.inl ⟨by rfl, fun wx hSw => by ((try dsimp only at hSw); go_simp)⟩) (by assumption) ?_
            simp only [Act.put, List.getElem_toArray, List.getElem_cons_succ, List.getElem_cons_zero, List.setIfInBounds_toArray, List.set_cons_zero, List.set_cons_succ]
            refine wpAnyH_take (i := 18) (v := (.bool false)) rfl (by kernel_rfl) (by kernel_rfl) (by kernel_rfl) (fun _ _ _ h => h) (Or.inl ⟨by rfl, fun wx hSw => by kernel_rfl⟩) (by assumption) ?_
            simp only [Act.put, List.getElem_toArray, List.getElem_cons_succ, List.getElem_cons_zero, List.setIfInBounds_toArray, List.set_cons_zero, List.set_cons_succ]
            refine wpAnyH_take (i := 19) (v := (.slice (some ⟨Na, 0, none⟩) 9 9)) rfl (by kernel_rfl) (by kernel_rfl) (by kernel_rfl) (fun _ _ _ h => h) (Or.inl ⟨by rfl, fun wx hSw => by kernel_rfl⟩) (by assumption) ?_
            simp only [Act.put, List.getElem_toArray, List.getElem_cons_succ, List.getElem_cons_zero, List.setIfInBounds_toArray, List.set_cons_zero, List.set_cons_succ]
            refine wpAnyH_take (i := 20) (v := (.pointer (some ⟨Na, 3, none⟩))) rfl (by kernel_rfl) (by kernel_rfl) (by kernel_rfl) (fun _ _ _ h => h) (Or.inl ⟨by rfl, fun wx hSw => by ((try dsimp only at hSw); go_simp)⟩) (by assumption) ?_
            simp only [Act.put, List.getElem_toArray, List.getElem_cons_succ, List.getElem_cons_zero, List.setIfInBounds_toArray, List.set_cons_zero, List.set_cons_succ]
            refine wpAnyH_take (i := 21) (v := (.int .i64 G.du)) rfl (by kernel_rfl) (by kernel_rfl) (by kernel_rfl) (fun _ _ _ h => h) (Or.inl ⟨by rfl, fun wx hSw => by (have hc : wx.cell? ⟨Na, 3, none⟩ = some (.int .i64 G.du) := (by rw [← HBF.out.f3]; exact hSw.1.cell 3 (hc_at 9 f 3 (by decide))); go_simp)⟩) (by assumption) ?_
            simp only [Act.put, List.getElem_toArray, List.getElem_cons_succ, List.getElem_cons_zero, List.setIfInBounds_toArray, List.set_cons_zero, List.set_cons_succ]
            refine wpAnyH_take (i := 22) (v := (.pointer (some ⟨Nb, 2, none⟩))) rfl (by kernel_rfl) (by kernel_rfl) (by kernel_rfl) (fun _ _ _ h => h) (Or.inl ⟨by rfl, fun wx hSw => by ((try dsimp only at hSw); go_simp)⟩) (by assumption) ?_
            simp only [Act.put, List.getElem_toArray, List.getElem_cons_succ, List.getElem_cons_zero, List.setIfInBounds_toArray, List.set_cons_zero, List.set_cons_succ]
            refine wpAnyH_take (i := 23) (v := (.int .i64 G.du)) rfl (by kernel_rfl) (by kernel_rfl) (by kernel_rfl) (fun _ _ _ h => h) (Or.inl ⟨by rfl, fun wx hSw => by (have hc : wx.cell? ⟨Nb, 2, none⟩ = some (.int .i64 G.du) := hSw.2.1.cell 2 rfl; go_simp)⟩) (by assumption) ?_
            simp only [Act.put, List.getElem_toArray, List.getElem_cons_succ, List.getElem_cons_zero, List.setIfInBounds_toArray, List.set_cons_zero, List.set_cons_succ]
            refine wpAnyH_take (i := 24) (v := (.bool false)) rfl (by kernel_rfl) (by kernel_rfl) (by kernel_rfl) (fun _ _ _ h => h) (Or.inl ⟨by rfl, fun wx hSw => by ((try dsimp only at hSw); go_simp)⟩) (by assumption) ?_
            simp only [Act.put, List.getElem_toArray, List.getElem_cons_succ, List.getElem_cons_zero, List.setIfInBounds_toArray, List.set_cons_zero, List.set_cons_succ]
            refine wpAnyH_take (i := 25) (v := (.bool false)) rfl (by kernel_rfl) (by kernel_rfl) (by kernel_rfl) (fun _ _ _ h => h) (Or.inl ⟨by rfl, fun wx hSw => by ((try dsimp only at hSw); go_simp)⟩) (by assumption) ?_
            simp only [Act.put, List.getElem_toArray, List.getElem_cons_succ, List.getElem_cons_zero, List.setIfInBounds_toArray, List.set_cons_zero, List.set_cons_succ]
            refine wpAnyH_take (i := 26) (v := (.bool false)) rfl (by kernel_rfl) (by kernel_rfl) (by kernel_rfl) (fun _ _ _ h => h) (Or.inl ⟨by rfl, fun wx hSw => by kernel_rfl⟩) (by assumption) ?_
            simp only [Act.put, List.getElem_toArray, List.getElem_cons_succ, List.getElem_cons_zero, List.setIfInBounds_toArray, List.set_cons_zero, List.set_cons_succ]
            refine wpAnyH_take (i := 27) (v := (.slice (some ⟨Na, 0, none⟩) 9 9)) rfl (by kernel_rfl) (by kernel_rfl) (by kernel_rfl) (fun _ _ _ h => h) (Or.inl ⟨by rfl, fun wx hSw => by kernel_rfl⟩) (by assumption) ?_
            simp only [Act.put, List.getElem_toArray, List.getElem_cons_succ, List.getElem_cons_zero, List.setIfInBounds_toArray, List.set_cons_zero, List.set_cons_succ]
            refine wpAnyH_take (i := 28) (v := (.pointer (some ⟨Na, 4, none⟩))) rfl (by kernel_rfl) (by kernel_rfl) (by kernel_rfl) (fun _ _ _ h => h) (Or.inl ⟨by rfl, fun wx hSw => by ((try dsimp only at hSw); go_simp)⟩) (by assumption) ?_
            simp only [Act.put, List.getElem_toArray, List.getElem_cons_succ, List.getElem_cons_zero, List.setIfInBounds_toArray, List.set_cons_zero, List.set_cons_succ]
            refine wpAnyH_take (i := 29) (v := (.int .i64 G.la)) rfl (by kernel_rfl) (by kernel_rfl) (by kernel_rfl) (fun _ _ _ h => h) (Or.inl ⟨by rfl, fun wx hSw => by (have hc : wx.cell? ⟨Na, 4, none⟩ = some (.int .i64 G.la) := (by rw [← HBF.out.f4]; exact hSw.1.cell 4 (hc_at 9 f 4 (by decide))); go_simp)⟩) (by assumption) ?_
            simp only [Act.put, List.getElem_toArray, List.getElem_cons_succ, List.getElem_cons_zero, List.setIfInBounds_toArray, List.set_cons_zero, List.set_cons_succ]
            refine wpAnyH_take (i := 30) (v := (.pointer (some ⟨Nb, 3, none⟩))) rfl (by kernel_rfl) (by kernel_rfl) (by kernel_rfl) (fun _ _ _ h => h) (Or.inl ⟨by rfl, fun wx hSw => by ((try dsimp only at hSw); go_simp)⟩) (by assumption) ?_
            simp only [Act.put, List.getElem_toArray, List.getElem_cons_succ, List.getElem_cons_zero, List.setIfInBounds_toArray, List.set_cons_zero, List.set_cons_succ]
            refine wpAnyH_take (i := 31) (v := (.int .i64 G.la)) rfl (by kernel_rfl) (by kernel_rfl) (by kernel_rfl) (fun _ _ _ h => h) (Or.inl ⟨by rfl, fun wx hSw => by (have hc : wx.cell? ⟨Nb, 3, none⟩ = some (.int .i64 G.la) := hSw.2.1.cell 3 rfl; go_simp)⟩) (by assumption) ?_
            simp only [Act.put, List.getElem_toArray, List.getElem_cons_succ, List.getElem_cons_zero, List.setIfInBounds_toArray, List.set_cons_zero, List.set_cons_succ]
            refine wpAnyH_take (i := 32) (v := (.bool false)) rfl (by kernel_rfl) (by kernel_rfl) (by kernel_rfl) (fun _ _ _ h => h) (Or.inl ⟨by rfl, fun wx hSw => by ((try dsimp only at hSw); go_simp)⟩) (by assumption) ?_
            simp only [Act.put, List.getElem_toArray, List.getElem_cons_succ, List.getElem_cons_zero, List.setIfInBounds_toArray, List.set_cons_zero, List.set_cons_succ]
            refine wpAnyH_take (i := 33) (v := (.bool false)) rfl (by kernel_rfl) (by kernel_rfl) (by kernel_rfl) (fun _ _ _ h => h) (Or.inl ⟨by rfl, fun wx hSw => by ((try dsimp only at hSw); go_simp)⟩) (by assumption) ?_
            simp only [Act.put, List.getElem_toArray, List.getElem_cons_succ, List.getElem_cons_zero, List.setIfInBounds_toArray, List.set_cons_zero, List.set_cons_succ]
            refine wpAnyH_take (i := 34) (v := (.bool false)) rfl (by kernel_rfl) (by kernel_rfl) (by kernel_rfl) (fun _ _ _ h => h) (Or.inl ⟨by rfl, fun wx hSw => by kernel_rfl⟩) (by assumption) ?_
            simp only [Act.put, List.getElem_toArray, List.getElem_cons_succ, List.getElem_cons_zero, List.setIfInBounds_toArray, List.set_cons_zero, List.set_cons_succ]
            refine wpAnyH_take (i := 35) (v := (.slice (some ⟨Na, 0, none⟩) 9 9)) rfl (by kernel_rfl) (by kernel_rfl) (by kernel_rfl) (fun _ _ _ h => h) (Or.inl ⟨by rfl, fun wx hSw => by kernel_rfl⟩) (by assumption) ?_
            simp only [Act.put, List.getElem_toArray, List.getElem_cons_succ, List.getElem_cons_zero, List.setIfInBounds_toArray, List.set_cons_zero, List.set_cons_succ]
            refine wpAnyH_take (i := 36) (v := (.pointer (some ⟨Na, 5, none⟩))) rfl (by kernel_rfl) (by kernel_rfl) (by kernel_rfl) (fun _ _ _ h => h) (Or.inl ⟨by rfl, fun wx hSw => by ((try dsimp only at hSw); go_simp)⟩) (by assumption) ?_
            simp only [Act.put, List.getElem_toArray, List.getElem_cons_succ, List.getElem_cons_zero, List.setIfInBounds_toArray, List.set_cons_zero, List.set_cons_succ]
            refine wpAnyH_take (i := 37) (v := (.int .i64 G.fi)) rfl (by kernel_rfl) (by kernel_rfl) (by kernel_rfl) (fun _ _ _ h => h) (Or.inl ⟨by rfl, fun wx hSw => by (have hc : wx.cell? ⟨Na, 5, none⟩ = some (.int .i64 G.fi) := (by rw [← HBF.out.f5]; exact hSw.1.cell 5 (hc_at 9 f 5 (by decide))); go_simp)⟩) (by assumption) ?_
            simp only [Act.put, List.getElem_toArray, List.getElem_cons_succ, List.getElem_cons_zero, List.setIfInBounds_toArray, List.set_cons_zero, List.set_cons_succ]
            refine wpAnyH_take (i := 38) (v := (.pointer (some ⟨Nb, 4, none⟩))) rfl (by kernel_rfl) (by kernel_rfl) (by kernel_rfl) (fun _ _ _ h => h) (Or.inl ⟨by rfl, fun wx hSw => by ((try dsimp only at hSw); go_simp)⟩) (by assumption) ?_
            simp only [Act.put, List.getElem_toArray, List.getElem_cons_succ, List.getElem_cons_zero, List.setIfInBounds_toArray, List.set_cons_zero, List.set_cons_succ]
            refine wpAnyH_take (i := 39) (v := (.int .i64 G.fi)) rfl (by kernel_rfl) (by kernel_rfl) (by kernel_rfl) (fun _ _ _ h => h) (Or.inl ⟨by rfl, fun wx hSw => by (have hc : wx.cell? ⟨Nb, 4, none⟩ = some (.int .i64 G.fi) := hSw.2.1.cell 4 rfl; go_simp)⟩) (by assumption) ?_
            simp only [Act.put, List.getElem_toArray, List.getElem_cons_succ, List.getElem_cons_zero, List.setIfInBounds_toArray, List.set_cons_zero, List.set_cons_succ]
            refine wpAnyH_take (i := 40) (v := (.bool false)) rfl (by kernel_rfl) (by kernel_rfl) (by kernel_rfl) (fun _ _ _ h => h) (Or.inl ⟨by rfl, fun wx hSw => by ((try dsimp only at hSw); go_simp)⟩) (by assumption) ?_
            simp only [Act.put, List.getElem_toArray, List.getElem_cons_succ, List.getElem_cons_zero, List.setIfInBounds_toArray, List.set_cons_zero, List.set_cons_succ]
            refine wpAnyH_take (i := 41) (v := (.bool false)) rfl (by kernel_rfl) (by kernel_rfl) (by kernel_rfl) (fun _ _ _ h => h) (Or.inl ⟨by rfl, fun wx hSw => by ((try dsimp only at hSw); go_simp)⟩) (by assumption) ?_
            simp only [Act.put, List.getElem_toArray, List.getElem_cons_succ, List.getElem_cons_zero, List.setIfInBounds_toArray, List.set_cons_zero, List.set_cons_succ]
            refine wpAnyH_take (i := 42) (v := (.bool false)) rfl (by kernel_rfl) (by kernel_rfl) (by kernel_rfl) (fun _ _ _ h => h) (Or.inl ⟨by rfl, fun wx hSw => by kernel_rfl⟩) (by assumption) ?_
            simp only [Act.put, List.getElem_toArray, List.getElem_cons_succ, List.getElem_cons_zero, List.setIfInBounds_toArray, List.set_cons_zero, List.set_cons_succ]
            have ycr : IntKind.i64.wrap (- G.cr) = - G.cr := by have := HBF.out.bd.cr; rw [IntKind.wrap_i64]; omega
            refine wpAnyH_take (i := 43) (v := (.slice (some ⟨Na, 0, none⟩) 9 9)) rfl (by kernel_rfl) (by kernel_rfl) (by kernel_rfl) (fun _ _ _ h => h) (Or.inl ⟨by rfl, fun wx hSw => by kernel_rfl⟩) (by assumption) ?_
            simp only [Act.put, List.getElem_toArray, List.getElem_cons_succ, List.getElem_cons_zero, List.setIfInBounds_toArray, List.set_cons_zero, List.set_cons_succ]
            refine wpAnyH_take (i := 44) (v := (.pointer (some ⟨Na, 6, none⟩))) rfl (by kernel_rfl) (by kernel_rfl) (by kernel_rfl) (fun _ _ _ h => h) (Or.inl ⟨by rfl, fun wx hSw => by ((try dsimp only at hSw); go_simp)⟩) (by assumption) ?_
            simp only [Act.put, List.getElem_toArray, List.getElem_cons_succ, List.getElem_cons_zero, List.setIfInBounds_toArray, List.set_cons_zero, List.set_cons_succ]
            refine wpAnyH_take (i := 45) (v := (.int .i64 (- G.cr))) rfl (by kernel_rfl) (by kernel_rfl) (by kernel_rfl) (fun _ _ _ h => h) (Or.inl ⟨by rfl, fun wx hSw => by (have hc : wx.cell? ⟨Na, 6, none⟩ = some (.int .i64 (- G.cr)) := (by rw [← HBF.out.f6]; exact hSw.1.cell 6 (hc_at 9 f 6 (by decide))); go_simp)⟩) (by assumption) ?_
            simp only [Act.put, List.getElem_toArray, List.getElem_cons_succ, List.getElem_cons_zero, List.setIfInBounds_toArray, List.set_cons_zero, List.set_cons_succ]
            refine wpAnyH_take (i := 46) (v := (.pointer (some ⟨Nb, 5, none⟩))) rfl (by kernel_rfl) (by kernel_rfl) (by kernel_rfl) (fun _ _ _ h => h) (Or.inl ⟨by rfl, fun wx hSw => by ((try dsimp only at hSw); go_simp)⟩) (by assumption) ?_
            simp only [Act.put, List.getElem_toArray, List.getElem_cons_succ, List.getElem_cons_zero, List.setIfInBounds_toArray, List.set_cons_zero, List.set_cons_succ]
            refine wpAnyH_take (i := 47) (v := (.int .i64 G.cr)) rfl (by kernel_rfl) (by kernel_rfl) (by kernel_rfl) (fun _ _ _ h => h) (Or.inl ⟨by rfl, fun wx hSw => by (have hc : wx.cell? ⟨Nb, 5, none⟩ = some (.int .i64 G.cr) := hSw.2.1.cell 5 rfl; go_simp)⟩) (by assumption) ?_
            simp only [Act.put, List.getElem_toArray, List.getElem_cons_succ, List.getElem_cons_zero, List.setIfInBounds_toArray, List.set_cons_zero, List.set_cons_succ]
            refine wpAnyH_take (i := 48) (v := (.int .i64 (- G.cr))) rfl (by kernel_rfl) (by kernel_rfl) (by kernel_rfl) (fun _ _ _ h => h) (Or.inl ⟨by rfl, fun wx hSw => by ((try dsimp only at hSw); go_simp)⟩) (by assumption) ?_
            simp only [Act.put, List.getElem_toArray, List.getElem_cons_succ, List.getElem_cons_zero, List.setIfInBounds_toArray, List.set_cons_zero, List.set_cons_succ]
            refine wpAnyH_take (i := 49) (v := (.bool false)) rfl (by kernel_rfl) (by kernel_rfl) (by kernel_rfl) (fun _ _ _ h => h) (Or.inl ⟨by rfl, fun wx hSw => by ((try dsimp only at hSw); go_simp)⟩) (by assumption) ?_
            simp only [Act.put, List.getElem_toArray, List.getElem_cons_succ, List.getElem_cons_zero, List.setIfInBounds_toArray, List.set_cons_zero, List.set_cons_succ]
            refine wpAnyH_take (i := 50) (v := (.bool false)) rfl (by kernel_rfl) (by kernel_rfl) (by kernel_rfl) (fun _ _ _ h => h) (Or.inl ⟨by rfl, fun wx hSw => by ((try dsimp only at hSw); go_simp)⟩) (by assumption) ?_
            simp only [Act.put, List.getElem_toArray, List.getElem_cons_succ, List.getElem_cons_zero, List.setIfInBounds_toArray, List.set_cons_zero, List.set_cons_succ]
            refine wpAnyH_done (by kernel_rfl) ?_ _
            obtain ⟨hNa8, hNb8, hOn8, hB8⟩ := hHeld
            have n0 : V8.cell? ⟨Nb, 0, none⟩ = some (.int .i64 G.pr) := hNb8.cell 0 rfl
            have n1 : V8.cell? ⟨Nb, 1, none⟩ = some (.int .i64 G.it) := hNb8.cell 1 rfl
            have n2 : V8.cell? ⟨Nb, 2, none⟩ = some (.int .i64 G.du) := hNb8.cell 2 rfl
            have n3 : V8.cell? ⟨Nb, 3, none⟩ = some (.int .i64 G.la) := hNb8.cell 3 rfl
            have n4 : V8.cell? ⟨Nb, 4, none⟩ = some (.int .i64 G.fi) := hNb8.cell 4 rfl
            have n5 : V8.cell? ⟨Nb, 5, none⟩ = some (.int .i64 G.cr) := hNb8.cell 5 rfl
            have n6 : V8.cell? ⟨Nb, 6, none⟩ = some (.int .i64 G.rt) := hNb8.cell 6 rfl
            have b0 : ¬ G.pr < 0 := by have := HBF.out.bd.pr; omega
            have b1 : ¬ G.it < 0 := by have := HBF.out.bd.it; omega
            have b2 : ¬ G.du < 0 := by have := HBF.out.bd.du; omega
            have b3 : ¬ G.la < 0 := by have := HBF.out.bd.la; omega
            have b4 : ¬ G.fi < 0 := by have := HBF.out.bd.fi; omega
            have b5 : ¬ G.cr < 0 := by have := HBF.out.bd.cr; omega
            have b6 : ¬ G.rt < 0 := by have := HBF.out.bd.rt; omega
            have b7 : ¬ 1000000 < G.rt := by have := HBF.out.bd.rt; omega
            have hT8 : At V8 NT (tml t) := At.keep (S := fun _ => False) (v := .int .i64 t.st) HT3.out (Keep.below hB8) (fun x => x)
            have t0 : V8.cell? ⟨NT, 0, none⟩ = some (.int .i64 t.st) := hT8.cell 0 rfl
            have t1 : V8.cell? ⟨NT, 1, none⟩ = some (.int .i64 t.pr) := hT8.cell 1 rfl
            have f0c : V8.cell? ⟨Na, 0, none⟩ = some (.int .i64 (f 0)) := hNa8.cell 0 (hc_at 9 f 0 (by decide))
            have f7c : V8.cell? ⟨Na, 7, none⟩ = some (.int .i64 (f 7)) := hNa8.cell 7 (hc_at 9 f 7 (by decide))
            have f8c : V8.cell? ⟨Na, 8, none⟩ = some (.int .i64 (f 8)) := hNa8.cell 8 (hc_at 9 f 8 (by decide))
            have HOn8 : Hid (One w3 NT B t E G at1 C (Wd F wr w5) V8) := hOn8
            have HB8 : Hid (Below w3.heap.size w3 V8) := hB8
            clear hNa8 hNb8 hOn8 hB8 hT8 ycr
            go_upto_if 180 with fail
            clear n0 n1 n2 n3 n4 n5 n6 b0 b1 b2 b3 b4 b5 b6 b7
            go_cut [19] from 180 to 182 (fun s19 wx => s19 = .int .i64 (if 0 < p + r1 then t.pr else 0) ∧ wx = V8)
            case first =>
              by_cases hpos : 0 < p + r1
              · have zz : t.st < at1 := by have := HAT.out; omega
                have HX : Hid ((if 0 < p + r1 then t.pr else 0) = t.pr) := if_pos hpos
                go_wp2_with fail
                go_meet
                case rel => exact ⟨by rw [HX.out], rfl⟩
              · have zz : ¬ t.st < at1 := by have := HAT.out; omega
                have HX : Hid ((if 0 < p + r1 then t.pr else 0) = 0) := if_neg hpos
                go_wp2_with fail
                go_meet
                case rel => exact ⟨by rw [HX.out], rfl⟩
            case rest =>
              obtain ⟨rfl, hwc⟩ := hcut
              obtain rfl := hwc.symm
              clear hwc t0 t1
              have HL0 : Hid (0 ≤ (if 0 < p + r1 then t.pr else 0) ∧ (if 0 < p + r1 then t.pr else 0) ≤ 100000000000) := by show _ ∧ _; split <;> omega
              obtain ⟨hEo, hEl, hOt, hpE⟩ := HF.out
              have HOk2 : Hid (∀ e ∈ O, Ln.OkE t e) := fun e he => hEo e (hpE.mem_iff.2 he)
              have hat3 : t.st + ((p + r1 : Nat) : Int) = at1 := by have := HAT.out; omega
              have HF0 : Hid (f 0 = paidTo at1 O - ((if 0 < p + r1 then t.pr else 0) + lentTo at1 O) ∧ f 7 ≤ 0 ∧ f 8 ≤ 0) := by
                have h := HBF.out.f0
                rw [hat3, paidTo_perm at1 hpE, lentTo_perm at1 hpE] at h
                exact ⟨h, HBF.out.f7, HBF.out.f8⟩
              have HOn9 : Hid (One w3 NT B t E (Ln.run t cdOf (wtOf t.ba) E (p + r1)) (t.st + ((p + r1 : Nat) : Int)) (cleanB t.st (amOf t E) (p + r1)) (Wd F wr w5) V8) := by rw [HG.out, HC.out, hat3]; exact HOn8.out
              clear hEo hEl hOt hpE hat3 HOn8 HBF
              generalize hL0 : (if 0 < p + r1 then t.pr else 0) = L0 at *
              clear hL0
              go_wp2
              go_loop [19, 20, 21] (fun s19 s20 s21 => ∃ j : Nat, j ≤ O.length ∧ s21 = .int .i64 j ∧ s19 = .int .i64 (L0 + lentTo at1 (O.take j)) ∧ s20 = .int .i64 (paidTo at1 (O.take j))) (fun _ _ s21 => (O.length - intOf s21).toNat)
              case atStart => exact ⟨0, Nat.zero_le _, rfl, by simp [lentTo], by simp [paidTo]⟩
              case round =>
                obtain ⟨j, hj, rfl, rfl, rfl⟩ := hrel
                have lb := lentTo_bd t at1 (O.take j) (fun e he => HOk2.out e (List.mem_of_mem_take he))
                have pb := paidTo_bd t at1 (O.take j) (fun e he => HOk2.out e (List.mem_of_mem_take he))
                have hjt : (O.take j).length ≤ 40 := by rw [List.length_take]; omega
                have L0b := HL0.out
                by_cases hjl : j < O.length
                · obtain ⟨Ob, ⟨p2', cap2', hv2, _, hat2⟩, _⟩ := evs_evv HO.out
                  injection hv2 with e1 _ e3
                  subst e1 e3
                  obtain ⟨o2, rfl, hOl, hr2⟩ := hat2.range j hjl
                  have g0 : V8.cell? ⟨Ob, o2 + j * 4, none⟩ = some (.int .i64 O[j].d) := (World.cell?_of_block (w := w3) (a := ⟨Ob, o2 + j * 4, none⟩) (HB8.out.block Ob hOl)).trans (hr2 0 _ rfl)
                  have g1 : V8.cell? ⟨Ob, o2 + j * 4 + 1, none⟩ = some (.int .i64 O[j].k) := (World.cell?_of_block (w := w3) (a := ⟨Ob, o2 + j * 4 + 1, none⟩) (HB8.out.block Ob hOl)).trans (hr2 1 _ rfl)
                  have g3 : V8.cell? ⟨Ob, o2 + j * 4 + 3, none⟩ = some (.int .i64 O[j].a) := (World.cell?_of_block (w := w3) (a := ⟨Ob, o2 + j * 4 + 3, none⟩) (HB8.out.block Ob hOl)).trans (hr2 3 _ rfl)
                  have HLt : Hid (lentTo at1 (O.take (j + 1)) = lentTo at1 (O.take j) + (if O[j].d < at1 ∧ O[j].k = 1 then O[j].a else 0)) := lentTo_take at1 O j hjl
                  have HPt : Hid (paidTo at1 (O.take (j + 1)) = paidTo at1 (O.take j) + (if O[j].d < at1 ∧ O[j].k = 5 then O[j].a else 0)) := paidTo_take at1 O j hjl
                  have ea0 := (HOk2.out _ (List.getElem_mem hjl)).a0
                  have ea1 := (HOk2.out _ (List.getElem_mem hjl)).a1
                  have zj : (j : Int) < (O.length : Int) := by omega
                  clear hat2 hr2
                  generalize O[j] = en at *
                  obtain ⟨ed, ek, es, ea⟩ := en
                  simp only at ea0 ea1 g0 g1 g3
                  generalize lentTo at1 (O.take j) = lx at *
                  generalize paidTo at1 (O.take j) = px at *
                  by_cases hda : ed < at1
                  · by_cases hk1 : ek = 1
                    · have k1 : (ek == 1) = true := by simp [hk1]
                      have k5 : (ek == 5) = false := by simp [hk1]
                      have HL2 : Hid (lentTo at1 (O.take (j + 1)) = lx + ea) := by show _ = _; rw [HLt.out]; simp [hda, hk1]
                      have HP2 : Hid (paidTo at1 (O.take (j + 1)) = px + 0) := by show _ = _; rw [HPt.out]; simp [hda, hk1]
                      clear HLt HPt
                      go_wp2
                      exact ⟨⟨j + 1, hjl, rfl, congrArg (Value.int .i64) (by have := HL2.out; omega), congrArg (Value.int .i64) (by have := HP2.out; omega)⟩, by simp [intOf]; omega⟩
                    · by_cases hk5 : ek = 5
                      · have k1 : (ek == 1) = false := by simp [hk5]
                        have k5 : (ek == 5) = true := by simp [hk5]
                        have HL2 : Hid (lentTo at1 (O.take (j + 1)) = lx + 0) := by show _ = _; rw [HLt.out]; simp [hda, hk5]
                        have HP2 : Hid (paidTo at1 (O.take (j + 1)) = px + ea) := by show _ = _; rw [HPt.out]; simp [hda, hk5]
                        clear HLt HPt
                        go_wp2
                        exact ⟨⟨j + 1, hjl, rfl, congrArg (Value.int .i64) (by have := HL2.out; omega), congrArg (Value.int .i64) (by have := HP2.out; omega)⟩, by simp [intOf]; omega⟩
                      · have k1 : (ek == 1) = false := by simp [hk1]
                        have k5 : (ek == 5) = false := by simp [hk5]
                        have HL2 : Hid (lentTo at1 (O.take (j + 1)) = lx + 0) := by show _ = _; rw [HLt.out]; simp [hda, hk1]
                        have HP2 : Hid (paidTo at1 (O.take (j + 1)) = px + 0) := by show _ = _; rw [HPt.out]; simp [hda, hk5]
                        clear HLt HPt
                        go_wp2
                        exact ⟨⟨j + 1, hjl, rfl, congrArg (Value.int .i64) (by have := HL2.out; omega), congrArg (Value.int .i64) (by have := HP2.out; omega)⟩, by simp [intOf]; omega⟩
                  · have HL2 : Hid (lentTo at1 (O.take (j + 1)) = lx + 0) := by show _ = _; rw [HLt.out]; simp [hda]
                    have HP2 : Hid (paidTo at1 (O.take (j + 1)) = px + 0) := by show _ = _; rw [HPt.out]; simp [hda]
                    clear HLt HPt
                    go_wp2
                    exact ⟨⟨j + 1, hjl, rfl, congrArg (Value.int .i64) (by have := HL2.out; omega), congrArg (Value.int .i64) (by have := HP2.out; omega)⟩, by simp [intOf]; omega⟩
                · obtain rfl : j = O.length := by omega
                  rw [List.take_length]
                  rw [List.take_length] at lb pb
                  obtain ⟨hf0, hf7, hf8⟩ := HF0.out
                  have zj : ¬ (O.length : Int) < (O.length : Int) := by omega
                  have q7 : ¬ 0 < f 7 := by omega
                  have q8 : ¬ 0 < f 8 := by omega
                  rw [hf0] at f0c
                  generalize lentTo at1 O = lx at *
                  generalize paidTo at1 O = px at *
                  generalize f 7 = y7 at *
                  generalize f 8 = y8 at *
                  clear hf0 hf7 hf8 HF0
                  have yw : IntKind.i64.wrap (px - (L0 + lx)) = px - (L0 + lx) := by rw [IntKind.wrap_i64]; omega
                  have kw : (k : Int) + 1 ≤ 9223372036854775807 := by omega
                  go_wp2
                  exact ⟨⟨k + 1, p + r1, _, by omega, by omega, rfl, by congr 1; have := HAT.out; omega, HOn9.out, HB8.out⟩, by simp [intOf]; omega⟩
    · obtain rfl : k = cs.length + 1 := by omega
      have zk : ¬ ((cs.length + 1 : Nat) : Int) ≤ (cs.length : Int) := by omega
      have HBe : Hid (Below w.heap.size w wr) := HB3.out.trans (HBr.out.mono HB3.out.size)
      clear HOn
      go_wp2
      go_ret
      exact ⟨rfl, HBe.out⟩
end Go.Proofs.YtanndhoimpnhpaaDoor
