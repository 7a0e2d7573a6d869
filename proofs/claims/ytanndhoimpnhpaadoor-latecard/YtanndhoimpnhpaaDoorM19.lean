/- Joined by program: KpG, AdJ. -/
import Derived.Test.YtanndhoimpnhpaaDoorM18
import Derived.Test.YtanndhoimpnhpaaDoorM16
/- However the way to a day is cut, the balance and the book are the same: the statement Cut, walked. -/
namespace Go.Proofs.YtanndhoimpnhpaaDoor
open Go.ChangeShapes Go.WideShapes Go.RowKit Go.WideMaps Go.Maps Cal

theorem pick_nat (c : Int) (n : Nat) (hc : (Lit.int .i64 c).wf = true) (n0 : 1 ≤ n) (n1 : n ≤ 1000000) :
    ∃ r : Nat, r < n ∧ ∀ w : World, Calls Tryd.prog 13 #[.int .i64 c, .int .i64 (n : Int)] w fun e w' => e = .returned (.int .i64 (r : Int)) ∧ w' = w := by
  obtain ⟨r, h0, h1, h2⟩ := pick_all c n hc (by omega) (by omega)
  obtain ⟨m, rfl⟩ := Int.eq_ofNat_of_zero_le h0
  exact ⟨m, by omega, h2⟩
theorem rev_snoc (O : List Ln.Ev) (j : Nat) (hj : j < O.length) : (O.drop (j + 1)).reverse ++ [O[j]] = (O.drop j).reverse := by
  rw [List.drop_eq_getElem_cons hj, List.reverse_cons]

set_option maxRecDepth 10000 in
set_option maxHeartbeats 8000000 in
theorem cut_any (w : World) (v0 v1 v2 : Value) (zs cs : List Int) (Eb : Nat) (rs : List Ln.Ev) (day : Int) (h0 : IntsV w v0 zs) (h1 : EvV w Eb v1 rs) (hrl : rs.length ≤ 9223372036854775807)
    (hwf : ∀ r ∈ rs, (Lit.int .i64 r.d).wf = true ∧ (Lit.int .i64 r.k).wf = true ∧ (Lit.int .i64 r.s).wf = true ∧ (Lit.int .i64 r.a).wf = true) (h2 : IntsV w v2 cs) (hcl : cs.length ≤ 9223372036854775807) (hday : (Lit.int .i64 day).wf = true) (hmv : Mv w) (hlim : Lim w) :
    Calls Tryd.prog 6 #[v0, v1, v2, .int .i64 day] w fun e w' => e = .returned (.bool true) ∧ Below w.heap.size w w' := by
  obtain ⟨i0, hi0, hz0, hz1, hz2⟩ := info_parts infoEvp
  have HI : Hid (Tryd.prog.info? 53 = some i0 ∧ i0.zero = some (.agg #[.int .i64 0, .int .i64 0, .int .i64 0, .int .i64 0]) ∧ i0.size = 4 ∧ i0.bytes = 32) := ⟨hi0, hz0, hz1, hz2⟩
  clear hi0 hz0 hz1 hz2
  have HMv : Hid (Mv w) := hmv
  have HLim : Hid (Lim w) := hlim
  have HI0 : Hid (IntsV w v0 zs) := h0
  have HE1 : Hid (EvV w Eb v1 rs) := h1
  have HI2 : Hid (IntsV w v2 cs) := h2
  have HWf : Hid (∀ r ∈ rs, (Lit.int .i64 r.d).wf = true ∧ (Lit.int .i64 r.k).wf = true ∧ (Lit.int .i64 r.s).wf = true ∧ (Lit.int .i64 r.a).wf = true) := hwf
  obtain ⟨_, p0, cap0, rfl, _, _⟩ := h0
  obtain ⟨p1, cap1, rfl, _, _⟩ := h1
  obtain ⟨_, p2, cap2, rfl, _, _⟩ := h2
  have hA := awake_any w hmv
  clear hmv hlim hwf
  go_enter Tryd.func6, Tryd.ntmps6
  go_wp2_with fail
  refine hA.mono ?_
  rintro e w1 ⟨rfl, hb1⟩
  have hT := terms_any w1 _ zs (HI0.out.below hb1)
  clear hA
  go_wp2_with fail
  refine hT.mono ?_
  rintro e w2 ⟨⟨t, ht, rfl⟩, hb2⟩
  have hbw2 : Below w.heap.size w w2 := hb1.trans (hb2.mono hb1.size)
  have HRt : Hid (rtB t = true) := ht
  clear hT hb1 hb2 ht
  have hNT0 : At (w2.alloc (.cells (tml t).toArray 41)) w2.heap.size (tml t) := At.alloc w2 _ _
  have hb3 : Below w.heap.size w (w2.alloc (.cells (tml t).toArray 41)) := hbw2.alloc hbw2.size _
  have hNT1 : w.heap.size ≤ w2.heap.size := hbw2.size
  have hEv := events_any (w2.alloc (.cells (tml t).toArray 41)) t (rt_ok HRt.out) _ Eb rs (HE1.out.keep (S := fun _ => False) (Keep.below hb3) (fun _ x => x)) hrl HWf.out
  have q0 : (w2.alloc (.cells (tml t).toArray 41)).cell? ⟨w2.heap.size, 0, none⟩ = some (.int .i64 t.st) := hNT0.cell 0 rfl
  have q1 : (w2.alloc (.cells (tml t).toArray 41)).cell? ⟨w2.heap.size, 1, none⟩ = some (.int .i64 t.pr) := hNT0.cell 1 rfl
  have q2 : (w2.alloc (.cells (tml t).toArray 41)).cell? ⟨w2.heap.size, 2, none⟩ = some (.int .i64 t.rt) := hNT0.cell 2 rfl
  have q3 : (w2.alloc (.cells (tml t).toArray 41)).cell? ⟨w2.heap.size, 3, none⟩ = some (.int .i64 t.fi) := hNT0.cell 3 rfl
  have q4 : (w2.alloc (.cells (tml t).toArray 41)).cell? ⟨w2.heap.size, 4, none⟩ = some (.int .i64 t.ba) := hNT0.cell 4 rfl
  have q5 : (w2.alloc (.cells (tml t).toArray 41)).cell? ⟨w2.heap.size, 5, none⟩ = some (.int .i64 t.du) := hNT0.cell 5 rfl
  unfold tmV at *
  go_wp2_with (first | (refine wpList_store_new rfl 41 (.tmp 10) (.tmp 29) rfl (tml t).toArray _ rfl rfl (by kernel_rfl) rfl (by kernel_rfl) ?_) | fail)
  clear hbw2 q0 q1 q2 q3 q4 q5
  refine hEv.mono ?_
  have HB2 : Hid (Below w.heap.size w (w2.alloc (.cells (tml t).toArray 41))) := hb3
  clear hEv
  generalize w2.alloc (.cells (tml t).toArray 41) = V2 at *
  generalize w2.heap.size = NT at *
  clear hb3 HE1 HWf
  rintro e w3 ⟨vv, O, rfl, hOut⟩
  obtain ⟨op, ocap, rfl⟩ := own_slice hOut.ow
  have HB3 : Hid (Below w.heap.size w w3) := HB2.out.trans (hOut.bl.mono HB2.out.size)
  have HT3 : Hid (At w3 NT (tml t)) := At.keep (S := fun _ => False) (v := .int .i64 t.st) hNT0 (Keep.below hOut.bl) (fun x => x)
  have HO : Hid (w3.ownsRow 0 53 4 (.slice op O.length ocap) O.length (evs O)) := own_low hOut.ow
  have hO40 : O.length ≤ 40 := hOut.le
  have HOk : Hid (∀ e ∈ O, evF t e = 0) := fun e he => (hOut.ok e he).1
  have HOd : Hid (O.Pairwise (fun a b => ¬ a.s = b.s)) := hOut.ds
  clear hOut hNT0 HB2
  go_wp2
  go_loopw [12, 13] (fun s12 s13 wr => ∃ j : Nat, j ≤ O.length ∧ s13 = .int .i64 ((j : Int) - 1) ∧ wr.ownsRow w3.heap.size 53 4 s12 (O.length - j) (evs (O.drop j).reverse) ∧ Below w3.heap.size w3 wr) (fun _ s13 _ => (intOf s13 + 1).toNat)
  case atStart => exact ⟨O.length, Nat.le_refl _, rfl, by rw [Nat.sub_self, List.drop_length]; exact World.ownsRow_nil _ _ _ _, Below.refl _ _⟩
  case round =>
    obtain ⟨j, hj, rfl, hown, hb⟩ := hrel
    obtain ⟨kp, kcap, rfl⟩ := own_slice hown
    have HOw : Hid (wr.ownsRow w3.heap.size 53 4 (.slice kp (O.length - j) kcap) (O.length - j) (evs (O.drop j).reverse)) := hown
    have HBr : Hid (Below w3.heap.size w3 wr) := hb
    clear hown hb
    cases j with
    | succ i =>
      obtain ⟨Ob, ⟨p2', cap2', hv2, _, hat2⟩, _⟩ := evs_evv HO.out
      injection hv2 with e1 _ e3
      subst e1 e3
      obtain ⟨o2, rfl, hOl, hr2⟩ := hat2.range i (by omega)
      have hrW : wr.rangeAt Ob (o2 + i * 4) (evl O[i]) := fun q u hu => (World.cell?_of_block (w := w3) (a := ⟨Ob, o2 + i * 4 + q, none⟩) (HBr.out.block Ob hOl)).trans (hr2 q u hu)
      have HRev : Hid ((O.drop (i + 1)).reverse ++ [O[i]] = (O.drop i).reverse) := rev_snoc O i (by omega)
      clear hat2 hr2
      generalize O[i] = e at *
      rw [show ((i + 1 : Nat) : Int) - 1 = (i : Int) by omega]
      have zi : (0 : Int) ≤ (i : Int) := by omega
      go_upto_region 8 with fail
      refine wp_region_lit ?_
      refine wpList_val (.slice kp (O.length - (i + 1)) kcap) wr rfl rfl ?_
      simp only [Act.put, List.setIfInBounds_toArray, List.set_cons_zero, List.set_cons_succ]
      refine wpList_val (.slice (some ⟨Ob, o2, none⟩) O.length ocap) wr rfl rfl ?_
      simp only [Act.put, List.setIfInBounds_toArray, List.set_cons_zero, List.set_cons_succ]
      refine wpList_val (.int .i64 i) wr rfl rfl ?_
      simp only [Act.put, List.setIfInBounds_toArray, List.set_cons_zero, List.set_cons_succ]
      have zo : (i : Int) < (O.length : Int) := by omega
      refine wpList_val (.pointer (some ⟨Ob, o2 + i * 4, none⟩)) wr rfl (by go_simp) ?_
      simp only [Act.put, List.setIfInBounds_toArray, List.set_cons_zero, List.set_cons_succ]
      refine wpList_load_mid rfl 53 (.tmp 43) rfl _ _ rfl (evl e) _ hrW Tryd.underlying53 rfl (by kernel_rfl) ?_
      simp only [Act.put, List.setIfInBounds_toArray, List.set_cons_zero, List.set_cons_succ]
      have hx : At (wr.alloc (.cells (evl e).toArray 53)) wr.heap.size (evl e) := At.alloc wr _ _
      have ho5 := HOw.out.alloc (.cells (evl e).toArray 53)
      have hb5 : Below w3.heap.size w3 (wr.alloc (.cells (evl e).toArray 53)) := HBr.out.alloc HBr.out.size _
      refine wpList_val (.slice (some ⟨wr.heap.size, 0, none⟩) 1 1) (wr.alloc (.cells (evl e).toArray 53)) rfl (by kernel_rfl) ?_
      simp only [Act.put, List.setIfInBounds_toArray, List.set_cons_zero, List.set_cons_succ]
      clear hrW HOw HBr
      generalize wr.alloc (.cells (evl e).toArray 53) = V5 at *
      generalize wr.heap.size = N5 at *
      obtain ⟨hi0, hz0, hz1, hz2⟩ := HI.out
      refine wpList_plain rfl fun K hK => ?_
      refine wp_append_at V5 (.tmp 40) (.tmp 45) 50 rfl w3.heap.size 53 i0 _ 4 32 Tryd.underlying50 hi0 hz0 hz1 hz2 (by rfl) (by omega) (.slice kp (O.length - (i + 1)) kcap) (O.length - (i + 1)) (evs (O.drop (i + 1)).reverse) rfl ho5 ⟨N5, 0, none⟩ 1 1 (evl e) rfl rfl (fun q u hu => ?_) (fun u hu => evs_cell1 [e] u hu) (by unfold maxLen; omega) (by omega) hb5.size ?_
      · have := (hx q u hu).1
        rw [Addr.add_lit, Nat.zero_add]
        exact this
      · intro v' w' h1 h2 h3
        refine hK _ _ ?_
        obtain ⟨g', cap', rfl, _, _⟩ := h1.form (by omega)
        have HE : Hid (w'.ownsRow w3.heap.size 53 4 (.slice (some ⟨g', 0, none⟩) (O.length - (i + 1) + 1) cap') (O.length - i) (evs (O.drop i).reverse) ∧ Below w3.heap.size w3 w') := by
          refine ⟨?_, ?_⟩
          · rw [← HRev.out, So.evs_append, show O.length - i = O.length - (i + 1) + 1 by omega]
            exact h1
          · have hgt : ∀ b, (Value.slice kp (O.length - (i + 1)) kcap).ownBlock = some b → w3.heap.size ≤ b := fun b hb => (own_base ho5 hb).1
            exact ⟨h2.os.trans hb5.os, h2.tape.trans hb5.tape, h2.output.trans hb5.output, Nat.le_trans hb5.size h2.size, fun b hb => (h2.block b (Nat.lt_of_lt_of_le hb hb5.size) (fun x => by have := hgt b x.symm; omega)).trans (hb5.block b hb)⟩
        clear h1 h2 h3 ho5 hb5 hx HRev
        simp only [Act.put, List.setIfInBounds_toArray, List.set_cons_zero, List.set_cons_succ]
        go_wp2
        exact ⟨⟨i, by omega, rfl, HE.out⟩, by simp [intOf]⟩
    | zero =>
      have z0 : ¬ (0 : Int) ≤ ((0 : Nat) : Int) - 1 := by omega
      have HBw : Hid (Below w.heap.size w wr) := HB3.out.trans (HBr.out.mono HB3.out.size)
      have hTw : At wr NT (tml t) := At.keep (S := fun _ => False) (v := .int .i64 t.st) HT3.out (Keep.below HBr.out) (fun x => x)
      obtain ⟨Ob, hOv, _⟩ := evs_evv (own_keep HO.out (S := fun _ => False) (Keep.below HBr.out) (fun _ _ x => x))
      have HBk : Hid (wr.ownsRow 0 53 4 (.slice kp O.length kcap) O.reverse.length (evs O.reverse)) := by
        have h := own_low HOw.out
        rw [List.drop_zero, Nat.sub_zero] at h
        rw [List.length_reverse]
        exact h
      have hTo := told_any wr t HRt.out Ob _ O hOv hO40 HOk.out HOd.out (HLim.out.below HBw.out)
      unfold tmV at hTo
      clear HOw HB3 HT3 HO hOv
      rw [Nat.sub_zero]
      go_upto_region 9 with fail
      refine wp_region_lit ?_
      refine wpList_load_mid rfl 41 (.tmp 10) rfl _ 0 rfl (tml t) _ hTw.range Tryd.underlying41 rfl (by kernel_rfl) ?_
      simp only [Act.put, List.setIfInBounds_toArray, List.set_cons_zero, List.set_cons_succ]
      go_wp2_with fail
      refine hTo.mono ?_
      rintro e w5 ⟨B1, E1, rfl, hp1, hLo1, hb5⟩
      clear hTo
      have HBw5 : Hid (Below w.heap.size w w5) := HBw.out.trans (hb5.mono HBw.out.size)
      have hTw5 : At w5 NT (tml t) := At.keep (S := fun _ => False) (v := .int .i64 t.st) hTw (Keep.below hb5) (fun x => x)
      obtain ⟨Ob2, hOv2, _⟩ := evs_evv (own_keep HBk.out (S := fun _ => False) (Keep.below hb5) (fun _ _ x => x))
      have hTo2 := told_any w5 t HRt.out Ob2 _ O.reverse hOv2 (by simpa using hO40) (fun e he => HOk.out e (by simpa using he)) (List.pairwise_reverse.2 (HOd.out.imp (fun h x => h x.symm))) (HLim.out.below HBw5.out)
      unfold tmV at hTo2
      have HTwo1 : Hid (Lo w5 B1 t E1 (Ln.start t) t.st [] (Wd (fun _ => False) wr w5) ∧ E1.Perm O) := ⟨hLo1, hp1⟩
      have hs1 : wr.heap.size ≤ w5.heap.size := hb5.size
      have hs0 : w.heap.size ≤ wr.heap.size := HBw.out.size
      have hntl : NT < wr.heap.size := At.lt (v := .int .i64 t.st) hTw
      clear hLo1 hp1 hb5 HBk hOv2 hTw
      go_upto_region 10 with fail
      refine wp_region_lit ?_
      refine wpList_load_mid rfl 41 (.tmp 10) rfl _ 0 rfl (tml t) _ hTw5.range Tryd.underlying41 rfl (by kernel_rfl) ?_
      simp only [Act.put, List.setIfInBounds_toArray, List.set_cons_zero, List.set_cons_succ]
      go_wp2_with fail
      refine hTo2.mono ?_
      rintro e w6 ⟨B2, E2, rfl, hp2, hLo2, hb6⟩
      clear hTo2
      have hTw6 : At w6 NT (tml t) := At.keep (S := fun _ => False) (v := .int .i64 t.st) hTw5 (Keep.below hb6) (fun x => x)
      have hE : E2 = E1 := So.sorted_one (hp2.trans ((List.reverse_perm O).trans HTwo1.out.2.symm)) hLo2.facts.1 HTwo1.out.1.facts.1
      subst hE
      have HTwo : Hid (Two w NT t E2 B1 B2 (Ln.start t) t.st [] (Ln.start t) t.st [] (Wd (fun _ => False) wr w5) (Wd (fun _ => False) w5 w6) w6) := by
        refine ⟨⟨HTwo1.out.1.below hb6, ?_, ?_, ?_⟩, ⟨hLo2, ?_, ?_, ?_⟩, ?_, HBw5.out.trans (hb6.mono HBw5.out.size)⟩
        · intro x; have := Wd.fresh x; omega
        · intro b x; have := Wd.fresh x; omega
        · rintro b (x | x)
          · exact x.elim
          · have := hb6.size; omega
        · intro x; have := Wd.fresh x; omega
        · intro b x; have := Wd.fresh x; omega
        · rintro b (x | x)
          · exact x.elim
          · exact x.2
        · rintro b (x | x) y
          · exact x.elim
          · have := Wd.fresh y; omega
      obtain ⟨_, hEo, hEl, hOt⟩ := hLo2.facts
      have HF : Hid ((∀ e ∈ E2, Ln.OkE t e) ∧ E2.length ≤ 40 ∧ Ln.OkT t) := ⟨hEo, hEl, hOt⟩
      have s0 := hOt.st0
      have s1 := hOt.st1
      clear hLo2 hp2 hb6 HTwo1 HBw5 HBw hTw5 hEo hEl hOt HOk HOd HLim hs1 hs0 hntl
      generalize hF1 : Wd (fun _ => False) wr w5 = F1 at *
      clear hF1
      generalize hF2 : Wd (fun _ => False) w5 w6 = F2 at *
      clear hF2
      obtain ⟨r0, hr0, hpk⟩ := pick_nat day 901 hday (by omega) (by omega)
      have e0 : IntKind.i64.wrap (t.st + (r0 : Int)) = t.st + (r0 : Int) := by rw [IntKind.wrap_i64]; omega
      have HTw6 : Hid (At w6 NT (tml t)) := hTw6
      clear hTw6
      go_upto_region 13 with fail
      refine wp_region_held_drew (S := fun wx => At wx NT (tml t) ∧ Two w NT t E2 B1 B2 (Ln.start t) t.st [] (Ln.start t) t.st [] F1 F2 wx) (by kernel_rfl) ⟨HTw6.out.drew, HTwo.out.drew⟩ (fun hHeld => ?_)
      clear HTw6 HTwo
      generalize w6.drew = V6 at *
      refine wpAnyH_take (i := 0) (v := (.pointer (some ⟨NT, 0, none⟩))) rfl (by kernel_rfl) (by kernel_rfl) (by kernel_rfl) (fun _ _ _ h => h) (Or.inl ⟨by rfl, fun wx hSw => by ((try dsimp only at hSw); go_simp)⟩) (by assumption) ?_
      simp only [Act.put, List.getElem_toArray, List.getElem_cons_zero, List.setIfInBounds_toArray, List.set_cons_zero, List.set_cons_succ]
      refine wpAnyH_take (i := 1) (v := (.int .i64 t.st)) rfl (by kernel_rfl) (by kernel_rfl) (by kernel_rfl) (fun _ _ _ h => h) (Or.inl ⟨by rfl, fun wx hSw => by (have hc : wx.cell? ⟨NT, 0, none⟩ = some (.int .i64 t.st) := hSw.1.cell 0 rfl; go_simp)⟩) (by assumption) ?_
      simp only [Act.put, List.getElem_toArray, List.getElem_cons_succ, List.getElem_cons_zero, List.setIfInBounds_toArray, List.set_cons_zero, List.set_cons_succ]
      refine wpAnyH_take (i := 2) (v := (.int .i64 day)) rfl (by kernel_rfl) (by kernel_rfl) (by kernel_rfl) (fun _ _ _ h => h) (Or.inl ⟨by rfl, fun wx hSw => by kernel_rfl⟩) (by assumption) ?_
      simp only [Act.put, List.getElem_toArray, List.getElem_cons_succ, List.getElem_cons_zero, List.setIfInBounds_toArray, List.set_cons_zero, List.set_cons_succ]
      refine wpAnyH_ready (rs := [3]) (by kernel_rfl) (by simp) ?_
      refine AllReadyH.cons rfl (fun K hK => ?_) AllReadyH.nil
      go_simp
      refine (hpk _).mono ?_
      rintro e w' ⟨rfl, hw'⟩
      obtain rfl := hw'.symm
      go_wp2_with fail
      refine hK.out _ _ hHeld (fun hHeld => ?_)
      clear hK K hw' hpk
      try simp only [Act.put, List.getElem_toArray, List.getElem_cons_succ, List.getElem_cons_zero, List.setIfInBounds_toArray, List.set_cons_zero, List.set_cons_succ]
      refine wpAnyH_take (i := 4) (v := (.int .i64 (t.st + r0))) rfl (by kernel_rfl) (by kernel_rfl) (by kernel_rfl) (fun _ _ _ h => h) (Or.inl ⟨by rfl, fun wx hSw => by ((try dsimp only at hSw); go_simp)⟩) (by assumption) ?_
      simp only [Act.put, List.getElem_toArray, List.getElem_cons_succ, List.getElem_cons_zero, List.setIfInBounds_toArray, List.set_cons_zero, List.set_cons_succ]
      refine wpAnyH_take (i := 5) (v := (.int .i64 (t.st + r0))) rfl (by kernel_rfl) (by kernel_rfl) (by kernel_rfl) (fun _ _ _ h => h) (Or.inl ⟨by rfl, fun wx hSw => by kernel_rfl⟩) (by assumption) ?_
      simp only [Act.put, List.getElem_toArray, List.getElem_cons_succ, List.getElem_cons_zero, List.setIfInBounds_toArray, List.set_cons_zero, List.set_cons_succ]
      refine wpAnyH_done (by kernel_rfl) ?_ _
      obtain ⟨hT6, hTwo6⟩ := hHeld
      obtain ⟨hEo, hEl, hOt⟩ := HF.out
      have hR1 := hTwo6.runX HMv.out (by simp) r0 (by omega) (by omega) hT6
      rw [show bkP t.st (fun k => (yOf t E2 k).am) [] r0 = cleanB t.st (amOf t E2) r0 from clean_on hEo hEl hOt 0 r0 (Nat.zero_le _) (by omega)] at hR1
      clear hT6 hTwo6
      go_wp2_with fail
      refine hR1.mono ?_
      rintro e w7 ⟨rfl, ⟨F1', hTwo7⟩, hT7⟩
      clear hR1
      have c0 : w7.cell? ⟨NT, 0, none⟩ = some (.int .i64 t.st) := hT7.cell 0 rfl
      have HTwo7 : Hid (Two w NT t E2 B1 B2 (Ln.run t cdOf (wtOf t.ba) E2 r0) (t.st + r0) (cleanB t.st (amOf t E2) r0) (Ln.start t) t.st [] F1' F2 w7) := hTwo7
      have HT7 : Hid (At w7 NT (tml t)) := hT7
      clear hTwo7 hT7
      generalize hGr : Ln.run t cdOf (wtOf t.ba) E2 r0 = Gr at *
      have HGr : Hid (Ln.run t cdOf (wtOf t.ba) E2 r0 = Gr) := hGr
      clear hGr
      generalize hCl : cleanB t.st (amOf t E2) r0 = Cl at *
      have HCl : Hid (cleanB t.st (amOf t E2) r0 = Cl) := hCl
      have HCle : Hid (Cl.length ≤ 100000) := by have := cleanB_len t.st (amOf t E2) r0; rw [hCl] at this; exact Nat.le_trans this (by omega)
      clear hCl
      go_wp2
      clear c0
      go_loopw [18, 19, 20] (fun s18 s19 _ wr => ∃ (k p : Nat) (F : Nat → Prop), k ≤ cs.length ∧ p ≤ r0 ∧ s19 = .int .i64 k ∧ s18 = .int .i64 (t.st + p) ∧ Two w NT t E2 B1 B2 Gr (t.st + r0) Cl (Ln.run t cdOf (wtOf t.ba) E2 p) (t.st + p) (cleanB t.st (amOf t E2) p) F1' F wr ∧ At wr NT (tml t)) (fun _ s19 _ _ => (cs.length - intOf s19).toNat)
      case atStart => exact ⟨0, 0, F2, Nat.zero_le _, Nat.zero_le _, rfl, by simp, by simpa [Ln.run, cleanB] using HTwo7.out, HT7.out⟩
      case round =>
        obtain ⟨k, p, F, hk, hp, rfl, rfl, hTwo, hT⟩ := hrel
        clear HTwo7 HT7
        have HTw : Hid (Two w NT t E2 B1 B2 Gr (t.st + r0) Cl (Ln.run t cdOf (wtOf t.ba) E2 p) (t.st + p) (cleanB t.st (amOf t E2) p) F1' F wr) := hTwo
        have HT : Hid (At wr NT (tml t)) := hT
        clear hTwo hT
        obtain ⟨hEo, hEl, hOt⟩ := HF.out
        have hcle : (cleanB t.st (amOf t E2) p).length ≤ 4000000000000 := Nat.le_trans (cleanB_len t.st (amOf t E2) p) (by omega)
        by_cases hlt : k < cs.length
        · obtain ⟨hcw, q2, qcap, hq2, _, hcell⟩ := HI2.out
          injection hq2 with e1 _ e3
          subst e1 e3
          obtain ⟨cb, co, rfl, hcb, hcc⟩ := hcell k hlt
          have hcW : wr.cell? ⟨cb, co + k, none⟩ = some (.int .i64 cs[k]) := (World.cell?_of_block (w := w) (a := ⟨cb, co + k, none⟩) (HTw.out.bl.block cb hcb)).trans hcc
          obtain ⟨r1, hr1, hpk1⟩ := pick_nat cs[k] (r0 - p + 1) (hcw _ (List.getElem_mem hlt)) (by omega) (by omega)
          have hR := HTw.out.runY HMv.out hcle (p + r1) (by omega) (by omega) HT.out
          rw [show bkP t.st (fun k => (yOf t E2 k).am) (cleanB t.st (amOf t E2) p) (p + r1) = cleanB t.st (amOf t E2) (p + r1) from clean_on hEo hEl hOt p (p + r1) (by omega) (by omega)] at hR
          have hpW := hpk1 wr
          clear hcell hcc hpk1 hcw hcle hEo hEl hOt
          generalize cs[k] = c at *
          have zk : (k : Int) < (cs.length : Int) := by omega
          have y1 : IntKind.i64.wrap (t.st + (r0 : Int) - (t.st + (p : Int))) = ((r0 - p : Nat) : Int) := by rw [IntKind.wrap_i64]; omega
          have y2 : IntKind.i64.wrap (((r0 - p : Nat) : Int) + 1) = ((r0 - p + 1 : Nat) : Int) := by rw [IntKind.wrap_i64]; omega
          have y3 : IntKind.i64.wrap (t.st + (p : Int) + (r1 : Int)) = t.st + (p : Int) + (r1 : Int) := by rw [IntKind.wrap_i64]; omega
          go_upto_region 19 with fail
          refine wp_region_lit ?_
          refine wpList_val (.int .i64 (t.st + p)) wr rfl rfl ?_
          simp only [Act.put, List.setIfInBounds_toArray, List.set_cons_zero, List.set_cons_succ]
          refine wpList_val (.slice (some ⟨cb, co, none⟩) cs.length cap2) wr rfl rfl ?_
          simp only [Act.put, List.setIfInBounds_toArray, List.set_cons_zero, List.set_cons_succ]
          refine wpList_val (.int .i64 k) wr rfl rfl ?_
          simp only [Act.put, List.setIfInBounds_toArray, List.set_cons_zero, List.set_cons_succ]
          refine wpList_val (.pointer (some ⟨cb, co + k, none⟩)) wr rfl (by go_simp) ?_
          simp only [Act.put, List.setIfInBounds_toArray, List.set_cons_zero, List.set_cons_succ]
          refine wpList_val (.int .i64 c) wr rfl (by go_simp) ?_
          simp only [Act.put, List.setIfInBounds_toArray, List.set_cons_zero, List.set_cons_succ]
          refine wpList_val (.int .i64 (t.st + r0)) wr rfl rfl ?_
          simp only [Act.put, List.setIfInBounds_toArray, List.set_cons_zero, List.set_cons_succ]
          refine wpList_val (.int .i64 (t.st + p)) wr rfl rfl ?_
          simp only [Act.put, List.setIfInBounds_toArray, List.set_cons_zero, List.set_cons_succ]
          refine wpList_val (.int .i64 ((r0 - p : Nat) : Int)) wr rfl (by go_simp) ?_
          simp only [Act.put, List.setIfInBounds_toArray, List.set_cons_zero, List.set_cons_succ]
          refine wpList_val (.int .i64 ((r0 - p + 1 : Nat) : Int)) wr rfl (by go_simp) ?_
          simp only [Act.put, List.setIfInBounds_toArray, List.set_cons_zero, List.set_cons_succ]
          clear y1 y2 hcW
          go_wp2_with fail
          refine hpW.mono ?_
          rintro e w' ⟨rfl, hw'⟩
          obtain rfl := hw'.symm
          clear hpW hw'
          rw [show t.st + ((p + r1 : Nat) : Int) = t.st + (p : Int) + (r1 : Int) by omega] at hR
          go_wp2_with fail
          clear y3
          refine hR.mono ?_
          rintro e w8 ⟨rfl, ⟨F', hTwo8⟩, hT8⟩
          have HTwo8 : Hid (Two w NT t E2 B1 B2 Gr (t.st + r0) Cl (Ln.run t cdOf (wtOf t.ba) E2 (p + r1)) (t.st + ((p + r1 : Nat) : Int)) (cleanB t.st (amOf t E2) (p + r1)) F1' F' w8) := by rw [show t.st + ((p + r1 : Nat) : Int) = t.st + (p : Int) + (r1 : Int) by omega]; exact hTwo8
          have HT8 : Hid (At w8 NT (tml t)) := hT8
          clear hR hTwo8 hT8 HTw HT
          go_wp2
          exact ⟨⟨k + 1, p + r1, F', hlt, by omega, rfl, by congr 1; omega, HTwo8.out, HT8.out⟩, by simp [intOf]; omega⟩
        · obtain rfl : k = cs.length := by omega
          have hR := HTw.out.runY HMv.out hcle r0 (by omega) (by omega) HT.out
          rw [show bkP t.st (fun k => (yOf t E2 k).am) (cleanB t.st (amOf t E2) p) r0 = Cl from (clean_on hEo hEl hOt p r0 (by omega) (by omega)).trans HCl.out, HGr.out] at hR
          have zk : ¬ (cs.length : Int) < (cs.length : Int) := by omega
          clear hEo hEl hOt hcle HTw HT
          go_wp2_with fail
          refine hR.mono ?_
          rintro e w8 ⟨rfl, ⟨F', hTwo8⟩, _⟩
          clear hR
          have hBx := balanceL w8 B1 _ _ _ _ _ _ hTwo8.x.lo
          go_wp2_with fail
          refine hBx.mono ?_
          rintro e w9 ⟨rfl, hb9⟩
          clear hBx
          have hTwo9 := hTwo8.below (hb9.alloc hb9.size (.cells (bll Gr (t.st + r0)).toArray 44))
          have hN1 : At (w9.alloc (.cells (bll Gr (t.st + r0)).toArray 44)) w9.heap.size (bll Gr (t.st + r0)) := At.alloc w9 _ _
          have hBy := balanceL _ B2 _ _ _ _ _ _ hTwo9.y.lo
          clear hTwo8 hb9
          go_wp2_with (first | (refine wpList_store_new rfl 44 (.tmp 22) (.tmp 99) rfl (bll Gr (t.st + r0)).toArray _ rfl rfl (by kernel_rfl) rfl (by kernel_rfl) ?_) | fail)
          generalize w9.alloc (.cells (bll Gr (t.st + r0)).toArray 44) = V9 at *
          generalize w9.heap.size = N1 at *
          refine hBy.mono ?_
          rintro e w10 ⟨rfl, hb10⟩
          clear hBy
          have hTwo10 := hTwo9.below (hb10.alloc hb10.size (.cells (bll Gr (t.st + r0)).toArray 44))
          have hN2 : At (w10.alloc (.cells (bll Gr (t.st + r0)).toArray 44)) w10.heap.size (bll Gr (t.st + r0)) := At.alloc w10 _ _
          have hN1 : At (w10.alloc (.cells (bll Gr (t.st + r0)).toArray 44)) N1 (bll Gr (t.st + r0)) := At.keep (S := fun _ => False) (v := .int .i64 Gr.pr) hN1 (Keep.below (hb10.alloc hb10.size _)) (fun x => x)
          have hCl4 : Cl.length ≤ 4000000000000 := Nat.le_trans HCle.out (by omega)
          have hBk := bookL _ B1 _ _ _ _ _ _ hTwo10.x.lo hCl4 0
          rw [show kf 0 Cl.length = 0 from by unfold kf; simp, List.drop_zero, Nat.sub_zero] at hBk
          clear hTwo9 hb10
          go_wp2_with (first | (refine wpList_store_new rfl 44 (.tmp 23) (.tmp 101) rfl (bll Gr (t.st + r0)).toArray _ rfl rfl (by kernel_rfl) rfl (by kernel_rfl) ?_) | fail)
          generalize w10.alloc (.cells (bll Gr (t.st + r0)).toArray 44) = V10 at *
          generalize w10.heap.size = N2 at *
          refine hBk.mono ?_
          rintro e w11 ⟨b1, rfl, ho1, hb11⟩
          clear hBk
          have hTwo11 := hTwo10.below hb11
          have hEn1 : EnV w11 b1 Cl := own_en ho1
          have hBk2 := bookL _ B2 _ _ _ _ _ _ hTwo11.y.lo hCl4 0
          rw [show kf 0 Cl.length = 0 from by unfold kf; simp, List.drop_zero, Nat.sub_zero] at hBk2
          obtain ⟨bp1, bc1, rfl⟩ := own_slice ho1
          have HN1 : Hid (At V10 N1 (bll Gr (t.st + r0)) ∧ At V10 N2 (bll Gr (t.st + r0)) ∧ Below V10.heap.size V10 w11) := ⟨hN1, hN2, hb11⟩
          clear hTwo10 ho1 hb11 hN1 hN2
          go_wp2_with fail
          refine hBk2.mono ?_
          rintro e w12 ⟨b2, rfl, ho2, hb12⟩
          clear hBk2
          have hEn2 : EnV w12 b2 Cl := own_en ho2
          obtain ⟨bp2, bc2, rfl⟩ := own_slice ho2
          have hSa := same_true w12 _ _ Cl (hEn1.below hb12) hEn2 hCl4
          have HB12 : Hid (Below w.heap.size w w12) := hTwo11.bl.trans (hb12.mono hTwo11.bl.size)
          have HV12 : Hid (Below V10.heap.size V10 w12) := HN1.out.2.2.trans (hb12.mono HN1.out.2.2.size)
          clear hTwo11 ho2 hb12 hEn1 hEn2
          go_wp2_with fail
          refine hSa.mono ?_
          rintro e w13 ⟨rfl, hb13⟩
          clear hSa
          have HBe : Hid (Below w.heap.size w w13) := HB12.out.trans (hb13.mono HB12.out.size)
          have hbV : Below V10.heap.size V10 w13 := HV12.out.trans (hb13.mono HV12.out.size)
          have m1 : At w13 N1 (bll Gr (t.st + r0)) := At.keep (S := fun _ => False) (v := .int .i64 Gr.pr) HN1.out.1 (Keep.below hbV) (fun x => x)
          have m2 : At w13 N2 (bll Gr (t.st + r0)) := At.keep (S := fun _ => False) (v := .int .i64 Gr.pr) HN1.out.2.1 (Keep.below hbV) (fun x => x)
          have c10 : w13.cell? ⟨N1, 0, none⟩ = some (.int .i64 Gr.pr) := m1.cell 0 rfl
          have c11 : w13.cell? ⟨N1, 1, none⟩ = some (.int .i64 Gr.it) := m1.cell 1 rfl
          have c12 : w13.cell? ⟨N1, 2, none⟩ = some (.int .i64 Gr.du) := m1.cell 2 rfl
          have c13 : w13.cell? ⟨N1, 3, none⟩ = some (.int .i64 Gr.la) := m1.cell 3 rfl
          have c14 : w13.cell? ⟨N1, 4, none⟩ = some (.int .i64 Gr.fi) := m1.cell 4 rfl
          have c15 : w13.cell? ⟨N1, 5, none⟩ = some (.int .i64 Gr.cr) := m1.cell 5 rfl
          have c16 : w13.cell? ⟨N1, 6, none⟩ = some (.int .i64 Gr.rt) := m1.cell 6 rfl
          have c17 : w13.cell? ⟨N1, 7, none⟩ = some (.int .i64 (t.st + r0)) := m1.cell 7 rfl
          have c20 : w13.cell? ⟨N2, 0, none⟩ = some (.int .i64 Gr.pr) := m2.cell 0 rfl
          have c21 : w13.cell? ⟨N2, 1, none⟩ = some (.int .i64 Gr.it) := m2.cell 1 rfl
          have c22 : w13.cell? ⟨N2, 2, none⟩ = some (.int .i64 Gr.du) := m2.cell 2 rfl
          have c23 : w13.cell? ⟨N2, 3, none⟩ = some (.int .i64 Gr.la) := m2.cell 3 rfl
          have c24 : w13.cell? ⟨N2, 4, none⟩ = some (.int .i64 Gr.fi) := m2.cell 4 rfl
          have c25 : w13.cell? ⟨N2, 5, none⟩ = some (.int .i64 Gr.cr) := m2.cell 5 rfl
          have c26 : w13.cell? ⟨N2, 6, none⟩ = some (.int .i64 Gr.rt) := m2.cell 6 rfl
          have c27 : w13.cell? ⟨N2, 7, none⟩ = some (.int .i64 (t.st + r0)) := m2.cell 7 rfl
          clear m1 m2 hbV hb13 HN1 HB12 HV12
          go_wp2
          go_ret
          exact ⟨rfl, HBe.out⟩
end Go.Proofs.YtanndhoimpnhpaaDoor

/- An event is taken out: the program's slices.Delete, Cancel. -/
namespace Go.Proofs.YtanndhoimpnhpaaDoor
open Go.ChangeShapes Go.WideShapes Go.RowKit Go.WideMaps Go.Maps Cal

theorem zeroEvp (w : World) : (zeroValue 53).run Tryd.prog w = .ok (.agg #[.int .i64 0, .int .i64 0, .int .i64 0, .int .i64 0]) w := by kernel_rfl
theorem zcells1 : (Builtin.zeroCells (Value.agg #[.int .i64 0, .int .i64 0, .int .i64 0, .int .i64 0]).cells 1).toList = evl ⟨0, 0, 0, 0⟩ := by kernel_rfl
theorem del_list (cur : List Value) (l : List Ln.Ev) (i : Nat) (hi : i < l.length) (hx : cur.take (l.length * 4) = evs l) (hc : l.length * 4 ≤ cur.length) (z : List Value) :
    (laid (laid cur (i * 4) (evs (l.drop (i + 1)))) ((l.length - 1) * 4) z).take ((l.length - 1) * 4) = evs (l.eraseIdx i) := by
  have hd : (evs (l.drop (i + 1))).length = (l.length - 1 - i) * 4 := by rw [So.evs_len, List.length_drop]; omega
  have e0 : cur.take (i * 4) = evs (l.take i) := by
    have := congrArg (List.take (i * 4)) hx
    rw [List.take_take, Nat.min_eq_left (by omega), evs_take] at this
    exact this
  have ht : (evs (l.take i)).length = i * 4 := by rw [So.evs_len, List.length_take]; omega
  have h1 : (laid cur (i * 4) (evs (l.drop (i + 1)))).take ((l.length - 1) * 4) = evs (l.eraseIdx i) := by
    unfold laid
    rw [e0, List.eraseIdx_eq_take_drop_succ, So.evs_append]
    have hl : (evs (l.take i) ++ evs (l.drop (i + 1))).length = (l.length - 1) * 4 := by rw [List.length_append, hd, ht]; omega
    rw [← hl, List.take_left]
  have hll : ((laid cur (i * 4) (evs (l.drop (i + 1)))).take ((l.length - 1) * 4)).length = (l.length - 1) * 4 := by
    rw [List.length_take, laid_len _ _ _ (by rw [hd]; omega)]
    omega
  generalize laid cur (i * 4) (evs (l.drop (i + 1))) = R at *
  unfold laid
  rw [List.append_assoc, List.take_append_of_le_length (by omega), List.take_of_length_le (by omega), h1]

set_option maxRecDepth 10000 in
set_option maxHeartbeats 4000000 in
theorem delete_any (w : World) (g cap : Nat) (cur : Array Value) (l : List Ln.Ev) (i : Nat) (hg : w.heap[g]? = some (.cells cur 53 (0, 0))) (hsz : cur.size = cap * 4) (hxs : cur.toList.take (l.length * 4) = evs l) (hnc : l.length ≤ cap) (hm : cap ≤ maxLen) (hi : i < l.length) (hl : l.length ≤ 1000000) :
    Calls Tryd.prog 52 #[.slice (some ⟨g, 0, none⟩) l.length cap, .int .i64 i, .int .i64 ((i : Int) + 1)] w fun e w' => e = .returned (.slice (some ⟨g, 0, none⟩) (l.length - 1) cap) ∧ w'.ownsRow 0 53 4 (.slice (some ⟨g, 0, none⟩) (l.length - 1) cap) (l.length - 1) (evs (l.eraseIdx i)) ∧ Keep (fun b => b = g) w w' := by
  obtain ⟨i0, hi0, hz0, hz1, hz2⟩ := info_parts infoEvp
  have hcl : cur.toList.length = cap * 4 := by rw [Array.length_toList]; exact hsz
  obtain ⟨R1, hR1⟩ : ∃ R1, R1 = (laid cur.toList (i * 4) (evs (l.drop (i + 1)))).toArray := ⟨_, rfl⟩
  obtain ⟨R2, hR2⟩ : ∃ R2, R2 = (laid R1.toList ((l.length - 1) * 4) (evl ⟨0, 0, 0, 0⟩)).toArray := ⟨_, rfl⟩
  have hdl : (evs (l.drop (i + 1))).length = (l.length - (i + 1)) * 4 := by rw [So.evs_len, List.length_drop]
  have l1 : R1.toList.length = cap * 4 := by rw [hR1]; show (laid _ _ _).length = _; rw [laid_len _ _ _ (by omega), hcl]
  have l2 : R2.size = cap * 4 := by rw [← Array.length_toList, hR2]; show (laid _ _ _).length = _; rw [laid_len _ _ _ (by rw [l1]; show (l.length - 1) * 4 + 4 ≤ _; omega), l1]
  have hfin : R2.toList.take ((l.length - 1) * 4) = evs (l.eraseIdx i) := by
    rw [hR2, hR1]
    exact del_list cur.toList l i hi hxs (by omega) _
  obtain ⟨A, hA⟩ : ∃ A : Addr, A = (if cap = i + 1 then (⟨g, 0, none⟩ : Addr) else ⟨g, (i + 1) * 4, none⟩) := ⟨_, rfl⟩
  have hcell : ∀ j v, (evs (l.drop (i + 1)))[j]? = some v → w.cell? (A.add j) = some v := fun j v hj => by
    have hjl := (List.getElem?_eq_some_iff.1 hj).1
    rw [hdl] at hjl
    rw [hA, if_neg (by omega), Addr.add_lit]
    rw [← evs_drop, List.getElem?_drop] at hj
    have hj2 : (evs l)[(i + 1) * 4 + j]? = cur.toList[(i + 1) * 4 + j]? := by
      rw [← hxs, List.getElem?_take_of_lt (by omega)]
    rw [hj2, Array.getElem?_toList] at hj
    simp [World.cell?, hg, hj]
  have hap : ∀ ty c, (Builtin.append_ #[50, 50] ty #[.slice (some ⟨g, 0, none⟩) i cap, .slice (some A) (l.length - (i + 1)) c]).run Tryd.prog w.drew = .ok (.slice (some ⟨g, 0, none⟩) (i + (l.length - (i + 1))) cap) (w.drew.setRow g R1) := fun ty c => by
    have h := run_append_room (P := Tryd.prog) w.drew 50 ty 53 i0 Tryd.underlying50 hi0 g i cap cur hg A (l.length - (i + 1)) c (evs (l.drop (i + 1))) (by rw [hz1, hdl]) hcell (fun u hu => evs_cell1 _ u hu) (by omega) (by rw [hz1, hdl]; omega)
    rw [hz1] at h
    rw [hR1]
    exact h
  have hrow1 : (w.drew.setRow g R1).heap[g]? = some (.cells R1 53 (0, 0)) := setRow_row (w := w.drew) hg R1
  have hclr : ∀ ty c, (Builtin.clear_ #[50] ty #[.slice (some ⟨g, (l.length - 1) * 4, none⟩) 1 c]).run Tryd.prog (w.drew.setRow g R1) = .ok (.tuple #[]) ((w.drew.setRow g R1).setRow g R2) := fun ty c => by
    have h := run_clear_rowK (P := Tryd.prog) (w.drew.setRow g R1) 50 53 ty _ Tryd.underlying50 zeroEvp g ((l.length - 1) * 4) 1 c (by omega) R1 53 hrow1 (by rw [zcells1, ← Array.length_toList, l1]; show (l.length - 1) * 4 + 4 ≤ _; omega) (by rw [zcells1]; exact fun v hv => evs_cell1 [⟨0, 0, 0, 0⟩] v hv)
    rw [zcells1] at h
    rw [hR2]
    exact h
  have HEnd : Hid (((w.drew.setRow g R1).setRow g R2).ownsRow 0 53 4 (.slice (some ⟨g, 0, none⟩) (l.length - 1) cap) (l.length - 1) (evs (l.eraseIdx i)) ∧ Keep (fun b => b = g) w ((w.drew.setRow g R1).setRow g R2)) := by
    refine ⟨⟨by rw [So.evs_len, List.length_eraseIdx_of_lt hi], .inr ⟨g, cap, R2, rfl, Nat.zero_le _, setRow_row hrow1 R2, by omega, hm, l2, hfin⟩⟩, ?_⟩
    exact ((Keep.refl _ _).drew.trans (keep_setRow w.drew g R1)).trans (keep_setRow _ g R2)
  obtain ⟨vx, s0⟩ : ∃ vx, ∀ W : World, (Instr.sliceAt 50 (.slice (some ⟨g, 0, none⟩) l.length cap) (some (.int .i64 (i : Int))) (some (.int .i64 ((i : Int) + 1))) (some (.int .i64 (l.length : Int)))).run Tryd.prog W = .ok vx W := by
    obtain ⟨q, hq⟩ : ∃ q, q = i + 1 := ⟨_, rfl⟩
    have hx1 : (i : Int) + 1 = (q : Int) := by omega
    have hql : q ≤ l.length := by omega
    have hiq : i ≤ q := by omega
    refine ⟨.slice (if l.length = i then some ⟨g, 0, none⟩ else some (if i * 4 = 0 then ⟨g, 0, none⟩ else ⟨g, i * 4, none⟩)) (q - i) (l.length - i), fun W => ?_⟩
    rw [hx1]
    simp [Instr.sliceAt, run_underlying Tryd.underlying50, Instr.slice, Instr.sliceBounds, Instr.sliceBound, asIntOf, Result.andThen, hnc, hql, hiq, Addr.add]
  have s1 := fun W => slice_to (some ⟨g, 0, none⟩) l.length cap (i : Int) i rfl (by omega) W
  have s2 : ∀ W : World, (Instr.sliceAt 50 (.slice (some ⟨g, 0, none⟩) l.length cap) (some (.int .i64 ((i : Int) + 1))) none none).run Tryd.prog W = .ok (.slice (some A) (l.length - (i + 1)) (cap - (i + 1))) W := fun W => by
    obtain ⟨q, hq⟩ : ∃ q, q = i + 1 := ⟨_, rfl⟩
    have hx1 : (i : Int) + 1 = (q : Int) := by omega
    have hql : q ≤ l.length := by omega
    have hA2 : (if cap = q then some (⟨g, 0, none⟩ : Addr) else some (if q * 4 = 0 then ⟨g, 0, none⟩ else ⟨g, q * 4, none⟩)) = some A := by
      rw [hA, ← hq]
      by_cases hcq : cap = q
      · rw [if_pos hcq, if_pos hcq]
      · rw [if_neg hcq, if_neg hcq, if_neg (by omega)]
    rw [hx1, ← hq]
    simp [Instr.sliceAt, run_underlying Tryd.underlying50, Instr.slice, Instr.sliceBounds, Instr.sliceBound, asIntOf, Result.andThen, Addr.add, hql]
    exact hA2
  have s3 : ∀ W : World, (Instr.sliceAt 50 (.slice (some ⟨g, 0, none⟩) (l.length - 1) cap) (some (.int .i64 ((l.length - 1 : Nat) : Int))) (some (.int .i64 (l.length : Int))) none).run Tryd.prog W = .ok (.slice (some ⟨g, (l.length - 1) * 4, none⟩) 1 (cap - (l.length - 1))) W := fun W => by
    obtain ⟨q, hq⟩ : ∃ q, q = l.length - 1 := ⟨_, rfl⟩
    obtain ⟨n, hn⟩ : ∃ n, n = l.length := ⟨_, rfl⟩
    have hqn : q ≤ n := by omega
    have hnc2 : n ≤ cap := by omega
    have h1' : n - q = 1 := by omega
    have hA2 : (if cap = q then some (⟨g, 0, none⟩ : Addr) else some (if q * 4 = 0 then ⟨g, 0, none⟩ else ⟨g, q * 4, none⟩)) = some ⟨g, q * 4, none⟩ := by
      rw [if_neg (by omega)]
      split
      · rename_i h; rw [h]
      · rfl
    rw [← hq, ← hn, ← h1']
    simp [Instr.sliceAt, run_underlying Tryd.underlying50, Instr.slice, Instr.sliceBounds, Instr.sliceBound, asIntOf, Result.andThen, Addr.add, hnc2, hqn]
    exact hA2
  have HAp : Hid (∀ ty c, (Builtin.append_ #[50, 50] ty #[.slice (some ⟨g, 0, none⟩) i cap, .slice (some A) (l.length - (i + 1)) c]).run Tryd.prog w.drew = .ok (.slice (some ⟨g, 0, none⟩) (i + (l.length - (i + 1))) cap) (w.drew.setRow g R1)) := hap
  have HCl : Hid (∀ ty c, (Builtin.clear_ #[50] ty #[.slice (some ⟨g, (l.length - 1) * 4, none⟩) 1 c]).run Tryd.prog (w.drew.setRow g R1) = .ok (.tuple #[]) ((w.drew.setRow g R1).setRow g R2)) := hclr
  have hne : ((i : Int) == (i : Int) + 1) = false := by simp; omega
  clear hap hclr hg hsz hxs hcl hR1 hR2 hdl l1 l2 hfin hcell hrow1 hi0 hz0 hz1 hz2 hA
  go_enter Tryd.func52, Tryd.ntmps52
  go_upto_region 5 with fail
  clear s0
  refine wp_region_held_drew (S := fun _ => True) (by kernel_rfl) trivial (fun hHeld => ?_)
  refine wpAnyH_take (i := 0) (v := (.slice (some ⟨g, 0, none⟩) l.length cap)) rfl (by kernel_rfl) (by kernel_rfl) (by kernel_rfl) (fun _ _ _ h => h) (Or.inl ⟨by rfl, fun wx hSw => by kernel_rfl⟩) (by assumption) ?_
  simp only [Act.put, List.getElem_toArray, List.getElem_cons_zero, List.setIfInBounds_toArray, List.set_cons_zero, List.set_cons_succ]
  refine wpAnyH_take (i := 1) (v := (.int .i64 i)) rfl (by kernel_rfl) (by kernel_rfl) (by kernel_rfl) (fun _ _ _ h => h) (Or.inl ⟨by rfl, fun wx hSw => by kernel_rfl⟩) (by assumption) ?_
  simp only [Act.put, List.getElem_toArray, List.getElem_cons_succ, List.getElem_cons_zero, List.setIfInBounds_toArray, List.set_cons_zero, List.set_cons_succ]
  refine wpAnyH_take (i := 2) (v := (.slice (some ⟨g, 0, none⟩) i cap)) rfl (by kernel_rfl) (by kernel_rfl) (by kernel_rfl) (fun _ _ _ h => h) (Or.inl ⟨by rfl, fun wx hSw => by ((try dsimp only at hSw); go_simp)⟩) (by assumption) ?_
  simp only [Act.put, List.getElem_toArray, List.getElem_cons_succ, List.getElem_cons_zero, List.setIfInBounds_toArray, List.set_cons_zero, List.set_cons_succ]
  refine wpAnyH_take (i := 3) (v := (.slice (some ⟨g, 0, none⟩) l.length cap)) rfl (by kernel_rfl) (by kernel_rfl) (by kernel_rfl) (fun _ _ _ h => h) (Or.inl ⟨by rfl, fun wx hSw => by kernel_rfl⟩) (by assumption) ?_
  simp only [Act.put, List.getElem_toArray, List.getElem_cons_succ, List.getElem_cons_zero, List.setIfInBounds_toArray, List.set_cons_zero, List.set_cons_succ]
  refine wpAnyH_take (i := 4) (v := (.int .i64 ((i : Int) + 1))) rfl (by kernel_rfl) (by kernel_rfl) (by kernel_rfl) (fun _ _ _ h => h) (Or.inl ⟨by rfl, fun wx hSw => by kernel_rfl⟩) (by assumption) ?_
  simp only [Act.put, List.getElem_toArray, List.getElem_cons_succ, List.getElem_cons_zero, List.setIfInBounds_toArray, List.set_cons_zero, List.set_cons_succ]
  refine wpAnyH_take (i := 5) (v := (.slice (some A) (l.length - (i + 1)) (cap - (i + 1)))) rfl (by kernel_rfl) (by kernel_rfl) (by kernel_rfl) (fun _ _ _ h => h) (Or.inl ⟨by rfl, fun wx hSw => by ((try dsimp only at hSw); go_simp)⟩) (by assumption) ?_
  simp only [Act.put, List.getElem_toArray, List.getElem_cons_succ, List.getElem_cons_zero, List.setIfInBounds_toArray, List.set_cons_zero, List.set_cons_succ]
  refine wpAnyH_ready (rs := [6]) (by kernel_rfl) (by simp) ?_
  refine AllReadyH.cons rfl (fun K hK => ?_) AllReadyH.nil
  rw [if_pos (by rfl)]
  refine Lib.wp_append_run _ (.tmp 22) (.tmp 25) 50 50 rfl _ _ rfl rfl _ _ (HAp.out _ _) ?_
  refine hK.out _ _ trivial (fun _ => ?_)
  clear hK K HAp s1 s2
  rw [show i + (l.length - (i + 1)) = l.length - 1 by omega]
  try simp only [Act.put, List.getElem_toArray, List.getElem_cons_succ, List.getElem_cons_zero, List.setIfInBounds_toArray, List.set_cons_zero, List.set_cons_succ]
  refine wpAnyH_take (i := 7) (v := (.slice (some ⟨g, 0, none⟩) (l.length - 1) cap)) rfl (by kernel_rfl) (by kernel_rfl) (by kernel_rfl) (fun _ _ _ h => h) (Or.inl ⟨by rfl, fun wx hSw => by kernel_rfl⟩) (by assumption) ?_
  simp only [Act.put, List.getElem_toArray, List.getElem_cons_succ, List.getElem_cons_zero, List.setIfInBounds_toArray, List.set_cons_zero]
  refine wpAnyH_done (by kernel_rfl) ?_ _
  clear hHeld
  go_upto_region 6 with fail
  refine wp_region_lit ?_
  refine wpList_val (.slice (some ⟨g, 0, none⟩) (l.length - 1) cap) (w.drew.setRow g R1) rfl rfl ?_
  simp only [Act.put, List.setIfInBounds_toArray, List.set_cons_zero, List.set_cons_succ]
  refine wpList_val (.slice (some ⟨g, 0, none⟩) (l.length - 1) cap) (w.drew.setRow g R1) rfl rfl ?_
  simp only [Act.put, List.setIfInBounds_toArray, List.set_cons_zero, List.set_cons_succ]
  refine wpList_val (.int .i64 ((l.length - 1 : Nat) : Int)) (w.drew.setRow g R1) rfl (by go_simp) ?_
  simp only [Act.put, List.setIfInBounds_toArray, List.set_cons_zero, List.set_cons_succ]
  refine wpList_val (.int .i64 (l.length : Int)) (w.drew.setRow g R1) rfl rfl ?_
  simp only [Act.put, List.setIfInBounds_toArray, List.set_cons_zero, List.set_cons_succ]
  refine wpList_val (.slice (some ⟨g, (l.length - 1) * 4, none⟩) 1 (cap - (l.length - 1))) (w.drew.setRow g R1) rfl (by go_simp) ?_
  simp only [Act.put, List.setIfInBounds_toArray, List.set_cons_zero, List.set_cons_succ]
  refine wpList_clear_at _ rfl (.tmp 31) 50 rfl _ rfl (HCl.out _ _) ?_
  simp only [Act.put]
  clear HCl s3
  generalize (w.drew.setRow g R1).setRow g R2 = V at *
  go_wp2
  go_ret
  exact ⟨rfl, HEnd.out⟩
end Go.Proofs.YtanndhoimpnhpaaDoor
