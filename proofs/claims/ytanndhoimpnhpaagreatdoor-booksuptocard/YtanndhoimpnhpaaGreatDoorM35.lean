/- Joined by program: BsP, LwG0, BsQ, LwH0. -/
import Derived.Test.YtanndhoimpnhpaaGreatDoorM34
import Derived.Test.YtanndhoimpnhpaaGreatDoorM28
import Derived.Deep.MidRow
/- The statements' booked, accounts: a loan's book and accounts, asked twice and held against the document's. -/
namespace Go.Proofs.YtanndhoimpnhpaaGreatDoor
open Go.ChangeShapes Go.WideShapes Go.ChangeAt Go.RowKit Go.WideMaps Go.Maps Cal

/-- The accounts as a list. -/
def accl (L : List En) : List Int := (List.range 9).map (wacc L)
theorem accl_len (L : List En) : (accl L).length = 9 := by simp [accl]
theorem accl_hc (L : List En) : isl (accl L) = hc 9 (wacc L) := by
  unfold isl accl hc
  rw [List.map_map]
  rfl
theorem kindsOf {w : World} {B D : Nat} {t : Ln.Terms} {E l : List Ln.Ev} {g : Ln.St} {day : Int} {L : List En} {F1 F2 : Nat → Prop} (h : TwX w B D t E l g day L F1 F2) : ∀ e ∈ L, 1 ≤ e.k ∧ e.k ≤ 12 := by
  obtain ⟨_, _, h1, _⟩ := h.dc
  exact fun e he => (h1.inl e he).2.2
theorem bookX (w : World) (B : Nat) (t : Ln.Terms) (E : List Ln.Ev) (g : Ln.St) (day : Int) (L : List En) (F : Nat → Prop) (h : Lo w B t E g day L F) (hL : L.length ≤ 4000000000000) (x : Int) :
    Calls Tryz.prog 21 #[.pointer (some ⟨B, 0, none⟩), .int .i64 x] w fun r w' => ∃ v, r = .returned v ∧ OwT w' 3 v (L.drop (kf x L.length)).length (ens (L.drop (kf x L.length))) ∧ (∀ b, v.ownBlock = some b → w.heap.size ≤ b) ∧ Below w.heap.size w w' := by
  refine (bookL w B t E g day L F h hL x).mono ?_
  rintro e w' ⟨v, rfl, ho, hb⟩
  exact ⟨v, rfl, ⟨_, by rw [List.length_drop]; exact own_low ho⟩, fun b hb => (own_base ho hb).1, hb⟩
set_option maxRecDepth 10000 in
set_option maxHeartbeats 2000000 in
theorem accX (w : World) (B : Nat) (t : Ln.Terms) (E : List Ln.Ev) (g : Ln.St) (day : Int) (L : List En) (F : Nat → Prop) (h : Lo w B t E g day L F) (hL : L.length ≤ 4000000000000) (hk : ∀ e ∈ L, 1 ≤ e.k ∧ e.k ≤ 12) (hm : Mv w) :
    Calls Tryz.prog 68 #[.pointer (some ⟨B, 0, none⟩)] w fun r w' => ∃ v, r = .returned v ∧ OwT w' 1 v 9 (isl (accl L)) ∧ (∀ b, v.ownBlock = some b → w.heap.size ≤ b) ∧ Below w.heap.size w w' := by
  obtain ⟨P, Mb, evv, bkv, h1, _⟩ := h
  have c15 : w.cell? ⟨B, 15, none⟩ = some (.pointer (some ⟨P, 0, none⟩)) := h1.ln.cell 15 rfl
  have hA := ledgerAcc_any w P bkv Mb L h1.bk hL hk hm
  clear h1 hk hm
  rw [accl_hc]
  generalize wacc L = f at *
  go_enter Tryz.func68, Tryz.ntmps68
  go_wp2_with fail
  refine hA.mono ?_
  rintro e w1 ⟨rfl, hb1⟩
  have HP : Hid (OwT (w1.alloc (.cells (hc 9 f).toArray 89)) 1 (.slice (some ⟨w1.heap.size, 0, none⟩) 9 9) 9 (hc 9 f) ∧ (∀ b, (Value.slice (some ⟨w1.heap.size, 0, none⟩) 9 9).ownBlock = some b → w.heap.size ≤ b) ∧ Below w.heap.size w (w1.alloc (.cells (hc 9 f).toArray 89))) := by
    refine ⟨⟨89, by rw [hc_len], .inr ⟨w1.heap.size, 9, (hc 9 f).toArray, rfl, Nat.zero_le _, heap_alloc_new w1 _, Nat.le_refl _, by decide, by simp [hc_len], ?_⟩⟩, fun b hb => ?_, hb1.alloc hb1.size _⟩
    · rw [List.toList_toArray, List.take_of_length_le (by rw [hc_len]; omega)]
    · have e : w1.heap.size = b := by simpa [Value.ownBlock] using hb
      have := hb1.size
      omega
  clear hA c15 hb1
  go_wp2_with (first | (refine wpList_store_new rfl 89 (.tmp 3) (.tmp 8) rfl (hc 9 f).toArray _ rfl rfl (by kernel_rfl) rfl (by kernel_rfl) ?_) | fail)
  go_ret
  exact ⟨_, rfl, HP.out⟩
theorem refaccX (w : World) (D : Nat) (t : Ln.Terms) (l : List Ln.Ev) (g : Ln.St) (day : Int) (L : List En) (evv bkv : Value) (h : DcX w D t l g day L evv bkv) (hL : L.length ≤ 4000000000000) :
    Calls Tryz.prog 69 #[.pointer (some ⟨D, 0, none⟩)] w fun r w' => ∃ v, r = .returned v ∧ IsV w' v (accl L) ∧ Below w.heap.size w w' := by
  refine (refacc_any w D t l g day L evv bkv h hL).mono ?_
  rintro e w' ⟨N, rfl, hN, hAt, hb⟩
  refine ⟨_, rfl, ⟨some ⟨N, 0, none⟩, 9, by rw [accl_len], by rw [accl_len]; omega, fun k hk => ⟨N, 0, rfl, At.lt (v := .int .i64 (wacc L 0)) hAt, ?_⟩⟩, hb⟩
  rw [accl_len] at hk
  have := hAt.cell k (hc_at 9 (wacc L) k hk)
  rw [Nat.zero_add, this]
  simp [accl]

set_option maxRecDepth 10000 in
set_option maxHeartbeats 4000000 in
theorem booked_any (w : World) (W : Nat) (B : Bv) (p0 d0 p1 d1 : Value) (c : Nat) (Q : Nat → Prop) (hA : At w W (wlb B p0 d0 p1 d1)) (hB : Bok w B c Q) (hc : c ≤ 199999990) (hq : ∀ b, Q b → b < w.heap.size) (hqw : ¬ Q W) (Bl D : Nat) (t : Ln.Terms) (E l : List Ln.Ev) (g : Ln.St) (day : Int) (L : List En) (F1 F2 : Nat → Prop) (hT : TwX w Bl D t E l g day L F1 F2) (hL : L.length ≤ 4000000000000) (x : Int) :
    Calls Tryz.prog 29 #[.pointer (some ⟨W, 0, none⟩), .agg #[.pointer (some ⟨Bl, 0, none⟩), .pointer (some ⟨D, 0, none⟩)], .int .i64 x] w (AskPost w W p0 d0 p1 d1 c Q) := by
  have hWl : W < w.heap.size := At.lt (v := B.l1) hA
  have b0 : Below w.heap.size w (w.alloc (.cells #[.pointer (some ⟨Bl, 0, none⟩), .pointer (some ⟨D, 0, none⟩)] 31)) := (Below.refl _ _).alloc (Nat.le_refl _) _
  have a0 : At (w.alloc (.cells #[.pointer (some ⟨Bl, 0, none⟩), .pointer (some ⟨D, 0, none⟩)] 31)) w.heap.size [.pointer (some ⟨Bl, 0, none⟩), .pointer (some ⟨D, 0, none⟩)] := At.alloc w [.pointer (some ⟨Bl, 0, none⟩), .pointer (some ⟨D, 0, none⟩)] _
  have HT : Hid (TwX w Bl D t E l g day L F1 F2) := hT
  have HA : Hid (At w W (wlb B p0 d0 p1 d1)) := hA
  have HBk : Hid (Bok w B c Q) := hB
  have HQ : Hid (∀ b, Q b → b < w.heap.size) := hq
  have HQW : Hid (¬ Q W) := hqw
  clear hT hA hB hq hqw
  go_enter Tryz.func29, Tryz.ntmps29
  go_upto_region 1 with fail
  change Code.wp _ _ _ _ (w.alloc (.cells #[.pointer (some ⟨Bl, 0, none⟩), .pointer (some ⟨D, 0, none⟩)] 31))
  have y0 : w.heap.size < (w.alloc (.cells #[.pointer (some ⟨Bl, 0, none⟩), .pointer (some ⟨D, 0, none⟩)] 31)).heap.size := by simp
  generalize w.alloc (.cells #[.pointer (some ⟨Bl, 0, none⟩), .pointer (some ⟨D, 0, none⟩)] 31) = V0 at *
  have q0 : V0.cell? ⟨w.heap.size, 0, none⟩ = some (.pointer (some ⟨Bl, 0, none⟩)) := a0.cell 0 rfl
  have hP := (bookX V0 Bl t E g day L F1 (HT.out.below b0).pr hL x)
  go_wp2_with fail
  refine hP.mono ?_
  rintro e w1 ⟨v1, rfl, o1, v1b, hb1⟩
  clear hP q0
  have b1 : Below w.heap.size w w1 := b0.trans (hb1.mono b0.size)
  have a1 : At w1 w.heap.size [.pointer (some ⟨Bl, 0, none⟩), .pointer (some ⟨D, 0, none⟩)] := At.keep (S := fun _ => False) (v := .pointer (some ⟨Bl, 0, none⟩)) a0 (Keep.below hb1) (fun x => x)
  have q0 : w1.cell? ⟨w.heap.size, 0, none⟩ = some (.pointer (some ⟨Bl, 0, none⟩)) := a1.cell 0 rfl
  have hP := (bookX w1 Bl t E g day L F1 (HT.out.below b1).pr hL x)
  go_wp2_with fail
  refine hP.mono ?_
  rintro e w2 ⟨v2, rfl, o2, v2b, hb2⟩
  clear hP q0
  have b2 : Below w.heap.size w w2 := b1.trans (hb2.mono b1.size)
  have a2 : At w2 w.heap.size [.pointer (some ⟨Bl, 0, none⟩), .pointer (some ⟨D, 0, none⟩)] := At.keep (S := fun _ => False) (v := .pointer (some ⟨Bl, 0, none⟩)) a1 (Keep.below hb2) (fun x => x)
  have q1 : w2.cell? ⟨w.heap.size, 1, none⟩ = some (.pointer (some ⟨D, 0, none⟩)) := a2.cell 1 rfl
  obtain ⟨evv, bkv, hDc, _⟩ := (HT.out.below b2).dc
  have hR := (reffrom_any w2 D t l g day L evv bkv hDc x)
  go_wp2_with fail
  refine hR.mono ?_
  rintro e w2y ⟨mv, rfl, hm, hw⟩
  obtain rfl := hw.symm
  clear hw
  have hbx : Below w2.heap.size w2 w2 := Below.refl _ _
  clear hR q1 hDc
  have o12 : OwT w2 3 v1 (L.drop (kf x L.length)).length (ens (L.drop (kf x L.length))) := (o1.below hb2).below hbx
  have o22 : OwT w2 3 v2 (L.drop (kf x L.length)).length (ens (L.drop (kf x L.length))) := o2.below hbx
  have b2x : Below w.heap.size w w2 := b2.trans (hbx.mono b2.size)
  have hS := lawEntries_true w2 v1 mv (L.drop (kf x L.length)) (OwT.env o12) hm (by rw [List.length_drop]; omega)
  go_wp2_with fail
  refine hS.mono ?_
  rintro e w3 ⟨rfl, hb3⟩
  clear hS
  have hS := lawEntries_true w3 v2 mv (L.drop (kf x L.length)) (OwT.env (o22.below hb3)) (hm.below hb3) (by rw [List.length_drop]; omega)
  go_wp2_with fail
  refine hS.mono ?_
  rintro e w4 ⟨rfl, hb4⟩
  clear hS
  have hb24 : Below w2.heap.size w2 w4 := hb3.trans (hb4.mono hb3.size)
  have b4 : Below w.heap.size w w4 := b2x.trans (hb24.mono b2x.size)
  have hok : okE (L.drop (kf x L.length)).length (ens (L.drop (kf x L.length))) := ⟨by rw [List.length_drop]; omega, _, rfl, rfl⟩
  have z1 := hb1.size
  have z2 := hb2.size
  have zx := hbx.size
  have z4 := hb24.size
  have w1v : ∀ b, v1.ownBlock = some b → w.heap.size ≤ b ∧ b < w4.heap.size := fun b hb => ⟨by have := v1b b hb; omega, (o12.below hb24).lt hb⟩
  have w2v : ∀ b, v2.ownBlock = some b → w.heap.size ≤ b ∧ b < w4.heap.size := fun b hb => ⟨by have := v2b b hb; omega, (o22.below hb24).lt hb⟩
  have v12 : ∀ b, v2.ownBlock = some b → ¬ v1.ownBlock = some b := fun b hb hx => by have := v2b b hb; have := o1.lt hx; omega
  have hTk := told_any2 w4 W B p0 d0 p1 d1 c Q (At.keep (S := fun _ => False) (v := B.l1) HA.out (Keep.below b4) (fun x => x)) (HBk.out.keep (S := fun _ => False) (Keep.below b4) (fun _ _ x => x)) (by omega) (fun b hb => Nat.lt_of_lt_of_le (HQ.out b hb) b4.size) HQW.out v1 (L.drop (kf x L.length)).length (ens (L.drop (kf x L.length))) hok (o12.below hb24) (fun b hb => ⟨fun hx => by have := HQ.out b hx; have := w1v b hb; omega, by have := w1v b hb; omega⟩)
  have HO2 : Hid (OwT w4 3 v2 (L.drop (kf x L.length)).length (ens (L.drop (kf x L.length)))) := o22.below hb24
  have HW1 : Hid (∀ b, v1.ownBlock = some b → w.heap.size ≤ b ∧ b < w4.heap.size) := w1v
  have HW2 : Hid (∀ b, v2.ownBlock = some b → w.heap.size ≤ b ∧ b < w4.heap.size) := w2v
  have HV12 : Hid (∀ b, v2.ownBlock = some b → ¬ v1.ownBlock = some b) := v12
  have HB4 : Hid (Below w.heap.size w w4) := b4
  clear o12 o22 o1 o2 hb3 hb4 hb24 hm hbx b2x b2 b1 hb1 hb2 a0 a1 a2 b0 v1b v2b w1v w2v v12 b4 y0 z1 z2 zx z4 HT HA HBk
  go_wp2_with fail
  refine hTk.mono ?_
  rintro e w5 ⟨rfl, B1, hA1, hB1, hk1⟩
  clear hTk
  have hTk := told_any2 w5 W B1 p0 d0 p1 d1 (c + 1) (fun b => Wd Q w4 w5 b ∨ v1.ownBlock = some b) hA1 hB1 (by omega) (fun b hb => by
      have := hk1.size
      have := HB4.out.size
      rcases hb with (hb | hb) | hb
      · have := HQ.out b hb; omega
      · exact hb.2
      · have := HW1.out b hb; omega) (fun hx => by
      have := HB4.out.size
      rcases hx with (hx | hx) | hx
      · exact HQW.out hx
      · omega
      · have := HW1.out W hx; omega) v2 (L.drop (kf x L.length)).length (ens (L.drop (kf x L.length))) hok (HO2.out.keep hk1 (fun b hb hx => by
      have := HW2.out b hb
      rcases hx with hx | hx
      · omega
      · have := HQ.out b hx; omega)) (fun b hb => ⟨fun hx => by
      have := HW2.out b hb
      rcases hx with (hx | hx) | hx
      · have := HQ.out b hx; omega
      · omega
      · exact HV12.out b hb hx, by have := HW2.out b hb; omega⟩)
  have HK1 : Hid (Keep (fun b => b = W ∨ Q b) w4 w5) := hk1
  clear hA1 hB1 hk1 HO2 HV12
  go_wp2_with fail
  refine hTk.mono ?_
  rintro e w6 ⟨rfl, B2, hA2, hB2, hk2⟩
  have HE : Hid (AskPost w W p0 d0 p1 d1 c Q (.returned (.bool true)) w6) := took_two HB4.out HW1.out HW2.out HK1.out hk2 hA2 hB2
  clear hTk hA2 hB2 hk2 HK1 HW1 HW2 HB4 HQ HQW hok
  go_wp2
  go_ret
  exact HE.out

set_option maxRecDepth 10000 in
set_option maxHeartbeats 4000000 in
theorem accounts_any (w : World) (W : Nat) (B : Bv) (p0 d0 p1 d1 : Value) (c : Nat) (Q : Nat → Prop) (hA : At w W (wlb B p0 d0 p1 d1)) (hB : Bok w B c Q) (hc : c ≤ 199999990) (hq : ∀ b, Q b → b < w.heap.size) (hqw : ¬ Q W) (Bl D : Nat) (t : Ln.Terms) (E l : List Ln.Ev) (g : Ln.St) (day : Int) (L : List En) (F1 F2 : Nat → Prop) (hT : TwX w Bl D t E l g day L F1 F2) (hL : L.length ≤ 4000000000000) (hmv : Mv w) :
    Calls Tryz.prog 30 #[.pointer (some ⟨W, 0, none⟩), .agg #[.pointer (some ⟨Bl, 0, none⟩), .pointer (some ⟨D, 0, none⟩)]] w (AskPost w W p0 d0 p1 d1 c Q) := by
  have hWl : W < w.heap.size := At.lt (v := B.l1) hA
  have b0 : Below w.heap.size w (w.alloc (.cells #[.pointer (some ⟨Bl, 0, none⟩), .pointer (some ⟨D, 0, none⟩)] 31)) := (Below.refl _ _).alloc (Nat.le_refl _) _
  have a0 : At (w.alloc (.cells #[.pointer (some ⟨Bl, 0, none⟩), .pointer (some ⟨D, 0, none⟩)] 31)) w.heap.size [.pointer (some ⟨Bl, 0, none⟩), .pointer (some ⟨D, 0, none⟩)] := At.alloc w [.pointer (some ⟨Bl, 0, none⟩), .pointer (some ⟨D, 0, none⟩)] _
  have HT : Hid (TwX w Bl D t E l g day L F1 F2) := hT
  have HA : Hid (At w W (wlb B p0 d0 p1 d1)) := hA
  have HBk : Hid (Bok w B c Q) := hB
  have HQ : Hid (∀ b, Q b → b < w.heap.size) := hq
  have HQW : Hid (¬ Q W) := hqw
  have HMv : Hid (Mv w) := hmv
  clear hT hA hB hq hqw hmv
  go_enter Tryz.func30, Tryz.ntmps30
  go_upto_region 1 with fail
  change Code.wp _ _ _ _ (w.alloc (.cells #[.pointer (some ⟨Bl, 0, none⟩), .pointer (some ⟨D, 0, none⟩)] 31))
  have y0 : w.heap.size < (w.alloc (.cells #[.pointer (some ⟨Bl, 0, none⟩), .pointer (some ⟨D, 0, none⟩)] 31)).heap.size := by simp
  generalize w.alloc (.cells #[.pointer (some ⟨Bl, 0, none⟩), .pointer (some ⟨D, 0, none⟩)] 31) = V0 at *
  have q0 : V0.cell? ⟨w.heap.size, 0, none⟩ = some (.pointer (some ⟨Bl, 0, none⟩)) := a0.cell 0 rfl
  have hP := (accX V0 Bl t E g day L F1 (HT.out.below b0).pr hL (kindsOf HT.out) (HMv.out.keep (S := fun _ => False) (Keep.below b0) (fun x => x)))
  go_wp2_with fail
  refine hP.mono ?_
  rintro e w1 ⟨v1, rfl, o1, v1b, hb1⟩
  clear hP q0
  have b1 : Below w.heap.size w w1 := b0.trans (hb1.mono b0.size)
  have a1 : At w1 w.heap.size [.pointer (some ⟨Bl, 0, none⟩), .pointer (some ⟨D, 0, none⟩)] := At.keep (S := fun _ => False) (v := .pointer (some ⟨Bl, 0, none⟩)) a0 (Keep.below hb1) (fun x => x)
  have q0 : w1.cell? ⟨w.heap.size, 0, none⟩ = some (.pointer (some ⟨Bl, 0, none⟩)) := a1.cell 0 rfl
  have hP := (accX w1 Bl t E g day L F1 (HT.out.below b1).pr hL (kindsOf HT.out) (HMv.out.keep (S := fun _ => False) (Keep.below b1) (fun x => x)))
  go_wp2_with fail
  refine hP.mono ?_
  rintro e w2 ⟨v2, rfl, o2, v2b, hb2⟩
  clear hP q0
  have b2 : Below w.heap.size w w2 := b1.trans (hb2.mono b1.size)
  have a2 : At w2 w.heap.size [.pointer (some ⟨Bl, 0, none⟩), .pointer (some ⟨D, 0, none⟩)] := At.keep (S := fun _ => False) (v := .pointer (some ⟨Bl, 0, none⟩)) a1 (Keep.below hb2) (fun x => x)
  have q1 : w2.cell? ⟨w.heap.size, 1, none⟩ = some (.pointer (some ⟨D, 0, none⟩)) := a2.cell 1 rfl
  obtain ⟨evv, bkv, hDc, _⟩ := (HT.out.below b2).dc
  have hR := (refaccX w2 D t l g day L evv bkv hDc hL)
  go_wp2_with fail
  refine hR.mono ?_
  rintro e w2x ⟨mv, rfl, hm, hbx⟩
  clear hR q1 hDc
  have o12 : OwT w2x 1 v1 9 (isl (accl L)) := (o1.below hb2).below hbx
  have o22 : OwT w2x 1 v2 9 (isl (accl L)) := o2.below hbx
  have b2x : Below w.heap.size w w2x := b2.trans (hbx.mono b2.size)
  have hS := lawInts_true w2x v1 mv (accl L) (OwT.isv (by rw [accl_len]; exact o12)) hm (by rw [accl_len]; omega)
  go_wp2_with fail
  refine hS.mono ?_
  rintro e w3 ⟨rfl, hb3⟩
  clear hS
  have hS := lawInts_true w3 v2 mv (accl L) (OwT.isv (by rw [accl_len]; exact o22.below hb3)) (hm.below hb3) (by rw [accl_len]; omega)
  go_wp2_with fail
  refine hS.mono ?_
  rintro e w4 ⟨rfl, hb4⟩
  clear hS
  have hb24 : Below w2x.heap.size w2x w4 := hb3.trans (hb4.mono hb3.size)
  have b4 : Below w.heap.size w w4 := b2x.trans (hb24.mono b2x.size)
  have hok : okI 9 (isl (accl L)) := ⟨by omega, _, accl_len L, rfl⟩
  have z1 := hb1.size
  have z2 := hb2.size
  have zx := hbx.size
  have z4 := hb24.size
  have w1v : ∀ b, v1.ownBlock = some b → w.heap.size ≤ b ∧ b < w4.heap.size := fun b hb => ⟨by have := v1b b hb; omega, (o12.below hb24).lt hb⟩
  have w2v : ∀ b, v2.ownBlock = some b → w.heap.size ≤ b ∧ b < w4.heap.size := fun b hb => ⟨by have := v2b b hb; omega, (o22.below hb24).lt hb⟩
  have v12 : ∀ b, v2.ownBlock = some b → ¬ v1.ownBlock = some b := fun b hb hx => by have := v2b b hb; have := o1.lt hx; omega
  have hTk := came_any w4 W B p0 d0 p1 d1 c Q (At.keep (S := fun _ => False) (v := B.l1) HA.out (Keep.below b4) (fun x => x)) (HBk.out.keep (S := fun _ => False) (Keep.below b4) (fun _ _ x => x)) (by omega) (fun b hb => Nat.lt_of_lt_of_le (HQ.out b hb) b4.size) HQW.out v1 9 (isl (accl L)) hok (o12.below hb24) (fun b hb => ⟨fun hx => by have := HQ.out b hx; have := w1v b hb; omega, by have := w1v b hb; omega⟩)
  have HO2 : Hid (OwT w4 1 v2 9 (isl (accl L))) := o22.below hb24
  have HW1 : Hid (∀ b, v1.ownBlock = some b → w.heap.size ≤ b ∧ b < w4.heap.size) := w1v
  have HW2 : Hid (∀ b, v2.ownBlock = some b → w.heap.size ≤ b ∧ b < w4.heap.size) := w2v
  have HV12 : Hid (∀ b, v2.ownBlock = some b → ¬ v1.ownBlock = some b) := v12
  have HB4 : Hid (Below w.heap.size w w4) := b4
  clear o12 o22 o1 o2 hb3 hb4 hb24 hm hbx b2x b2 b1 hb1 hb2 a0 a1 a2 b0 v1b v2b w1v w2v v12 b4 y0 z1 z2 zx z4 HT HA HBk
  go_wp2_with fail
  refine hTk.mono ?_
  rintro e w5 ⟨rfl, B1, hA1, hB1, hk1⟩
  clear hTk
  have hTk := came_any w5 W B1 p0 d0 p1 d1 (c + 1) (fun b => Wd Q w4 w5 b ∨ v1.ownBlock = some b) hA1 hB1 (by omega) (fun b hb => by
      have := hk1.size
      have := HB4.out.size
      rcases hb with (hb | hb) | hb
      · have := HQ.out b hb; omega
      · exact hb.2
      · have := HW1.out b hb; omega) (fun hx => by
      have := HB4.out.size
      rcases hx with (hx | hx) | hx
      · exact HQW.out hx
      · omega
      · have := HW1.out W hx; omega) v2 9 (isl (accl L)) hok (HO2.out.keep hk1 (fun b hb hx => by
      have := HW2.out b hb
      rcases hx with hx | hx
      · omega
      · have := HQ.out b hx; omega)) (fun b hb => ⟨fun hx => by
      have := HW2.out b hb
      rcases hx with (hx | hx) | hx
      · have := HQ.out b hx; omega
      · omega
      · exact HV12.out b hb hx, by have := HW2.out b hb; omega⟩)
  have HK1 : Hid (Keep (fun b => b = W ∨ Q b) w4 w5) := hk1
  clear hA1 hB1 hk1 HO2 HV12
  go_wp2_with fail
  refine hTk.mono ?_
  rintro e w6 ⟨rfl, B2, hA2, hB2, hk2⟩
  have HE : Hid (AskPost w W p0 d0 p1 d1 c Q (.returned (.bool true)) w6) := took_two HB4.out HW1.out HW2.out HK1.out hk2 hA2 hB2
  clear hTk hA2 hB2 hk2 HK1 HW1 HW2 HB4 HQ HQW hok
  go_wp2
  go_ret
  exact HE.out
end Go.Proofs.YtanndhoimpnhpaaGreatDoor

/- An op's cells. -/
namespace Go.Proofs.YtanndhoimpnhpaaGreatDoor
open Go.ChangeShapes Go.WideShapes Go.ChangeAt Go.RowKit Go.WideMaps Go.Maps Lg Cal

/-- The cells of an op. -/
def opl (kind on : Int) (e : Ln.Ev) (m : Int) (sv : Value) : List Value := [.int .i64 kind, .int .i64 on, .int .i64 e.d, .int .i64 e.k, .int .i64 e.s, .int .i64 e.a, .int .i64 m, sv]
theorem opl_ev (kind on : Int) (e : Ln.Ev) (m : Int) (sv : Value) : ∀ j u, (evl e)[j]? = some u → (opl kind on e m sv)[2 + j]? = some u := by
  intro j u h
  match j, h with
  | 0, h => exact h
  | 1, h => exact h
  | 2, h => exact h
  | 3, h => exact h
/-- What a step does. -/
def StepPost (w0 : World) (W n : Nat) (pv dv : Nat → Value) (e : Ending) (w' : World) : Prop := e = .returned (.bool true) ∧ ∃ G', WlS w0 w' W (n + 1) pv dv G'
theorem wl_at (p0 d0 p1 d1 : Value) (pv dv : Nat → Value) (h : p0 = pv 0 ∧ d0 = dv 0 ∧ p1 = pv 1 ∧ d1 = dv 1) (k : Nat) (hk : k < 2) : ∀ j u, [pv k, dv k][j]? = some u → (wl p0 d0 p1 d1)[6 + k * 2 + j]? = some u := by
  obtain ⟨rfl, rfl, rfl, rfl⟩ := h
  intro j u hu
  rcases (show k = 0 ∨ k = 1 by omega) with rfl | rfl
  · match j, hu with
    | 0, h => exact h
    | 1, h => exact h
  · match j, hu with
    | 0, h => exact h
    | 1, h => exact h
theorem two_mod (x : Int) : -1 ≤ x.tmod 2 ∧ x.tmod 2 ≤ 1 := by
  by_cases h : 0 ≤ x
  · rw [Int.tmod_eq_emod_of_nonneg h]; omega
  · have : x.tmod 2 = -((-x).tmod 2) := by rw [Int.neg_tmod]; omega
    rw [this, Int.tmod_eq_emod_of_nonneg (by omega)]
    omega
end Go.Proofs.YtanndhoimpnhpaaGreatDoor

/- One step of a script, walked, of the kinds up to Accounts. -/
namespace Go.Proofs.YtanndhoimpnhpaaGreatDoor
open Go.ChangeShapes Go.WideShapes Go.ChangeAt Go.RowKit Go.WideMaps Go.Maps Lg Cal

/-- What a step does. -/
def StepPost2 (w0 : World) (W n : Nat) (pv dv : Nat → Value) (cn : Nat) (e : Ending) (w' : World) : Prop := e = .returned (.bool true) ∧ ∃ G' B' c' Q', c' ≤ cn + 2 ∧ WlG w0 w' W (n + 1) pv dv G' B' c' Q'
theorem wlb_at (B : Bv) (pv dv : Nat → Value) (k : Nat) (hk : k < 2) : ∀ j u, [pv k, dv k][j]? = some u → (wlb B (pv 0) (dv 0) (pv 1) (dv 1))[6 + k * 2 + j]? = some u := by
  intro j u hu
  rcases (show k = 0 ∨ k = 1 by omega) with rfl | rfl
  · match j, hu with
    | 0, h => exact h
    | 1, h => exact h
  · match j, hu with
    | 0, h => exact h
    | 1, h => exact h

set_option maxRecDepth 10000 in
set_option maxHeartbeats 8000000 in
theorem step_gen (w0 w : World) (W n : Nat) (pv dv : Nat → Value) (G : Nat → Nat → Prop) (Bk : Bv) (cn : Nat) (Q : Nat → Prop) (h : WlG w0 w W n pv dv G Bk cn Q) (hcn : cn ≤ 199999990) (hmv : Mv w0) (hlim : Lim w0) (hn : n ≤ 40000000) (kind on : Int) (e : Ln.Ev) (m : Int) (sv : Value) (hk6 : kind ≤ 6) :
    Calls Tryz.prog 25 #[.pointer (some ⟨W, 0, none⟩), .agg #[.int .i64 kind, .int .i64 on, .int .i64 e.d, .int .i64 e.k, .int .i64 e.s, .int .i64 e.a, .int .i64 m, sv]] w (StepPost2 w0 W n pv dv cn) := by
  have hgl := hmv.lt
  have HMv : Hid (Mv w0) := hmv
  have HLim : Hid (Lim w0) := hlim
  have HO : Hid (At (w.alloc (.cells #[.int .i64 kind, .int .i64 on, .int .i64 e.d, .int .i64 e.k, .int .i64 e.s, .int .i64 e.a, .int .i64 m, sv] 60)) w.heap.size (opl kind on e m sv)) := At.alloc w (opl kind on e m sv) _
  have HS : Hid (WlG w0 (w.alloc (.cells #[.int .i64 kind, .int .i64 on, .int .i64 e.d, .int .i64 e.k, .int .i64 e.s, .int .i64 e.a, .int .i64 m, sv] 60)) W n pv dv G Bk cn Q) := h.below ((Below.refl _ _).alloc (Nat.le_refl _) _)
  have HGN : Hid (∀ k, k < 2 → ∀ b, G k b → b < w.heap.size) := fun k hk b hb => h.lt k b hk hb
  clear h hmv hlim
  go_enter Tryz.func25, Tryz.ntmps25
  go_upto_region 2 with fail
  change Code.wp _ _ _ _ (w.alloc (.cells #[.int .i64 kind, .int .i64 on, .int .i64 e.d, .int .i64 e.k, .int .i64 e.s, .int .i64 e.a, .int .i64 m, sv] 60))
  generalize w.alloc (.cells #[.int .i64 kind, .int .i64 on, .int .i64 e.d, .int .i64 e.k, .int .i64 e.s, .int .i64 e.a, .int .i64 m, sv] 60) = V0 at *
  generalize w.heap.size = N0 at *
  have q1 : V0.cell? ⟨N0, 1, none⟩ = some (.int .i64 on) := HO.out.cell 1 rfl
  have htm := two_mod on
  go_upto_if 16 with fail
  go_cut [5] from 13 to 16 (fun s5 wx => ∃ k : Nat, k < 2 ∧ s5 = .int .i64 k ∧ wx = V0)
  case first =>
    by_cases hon : on.tmod 2 = 0
    · have hb : (on.tmod 2 != 0) = false := by simp [hon]
      go_wp2_with fail
      go_meet
      case rel => exact ⟨0, by omega, rfl, rfl⟩
    · have hb : (on.tmod 2 != 0) = true := by simp [hon]
      go_wp2_with fail
      go_meet
      case rel => exact ⟨1, by omega, rfl, rfl⟩
  case rest =>
    obtain ⟨k, hk2, rfl, hwc⟩ := hcut
    obtain rfl := hwc.symm
    clear hwc q1 htm
    have hpr := HS.out.pr k hk2
    have hrow : V0.rangeAt W (6 + k * 2) [pv k, dv k] := HS.out.wa.mid (6 + k * 2) _ (wlb_at Bk pv dv k hk2)
    have zk : (k : Int) < 2 := by omega
    have hN0 : N0 < V0.heap.size := At.lt (v := .int .i64 kind) HO.out
    have hGN := HGN.out k hk2
    go_upto_region 4 with fail
    refine wp_region_lit ?_
    refine wpList_val (.pointer (some ⟨W, 0, none⟩)) V0 rfl rfl ?_
    simp only [Act.put, List.setIfInBounds_toArray, List.set_cons_zero, List.set_cons_succ]
    refine wpList_val (.int .i64 k) V0 rfl rfl ?_
    simp only [Act.put, List.setIfInBounds_toArray, List.set_cons_zero, List.set_cons_succ]
    refine wpList_val (.pointer (some ⟨W, 0, none⟩)) V0 rfl rfl ?_
    simp only [Act.put, List.setIfInBounds_toArray, List.set_cons_zero, List.set_cons_succ]
    refine wpList_val (.pointer (some ⟨W, 6, none⟩)) V0 rfl (by go_simp) ?_
    simp only [Act.put, List.setIfInBounds_toArray, List.set_cons_zero, List.set_cons_succ]
    refine wpList_val (.pointer (some ⟨W, 6 + k * 2, none⟩)) V0 rfl (by go_simp) ?_
    simp only [Act.put, List.setIfInBounds_toArray, List.set_cons_zero, List.set_cons_succ]
    rcases hpr with ⟨hp, hd⟩ | ⟨B, D, t, E, l, g, day, L, F1, F2, hp, hd, hT, hG1, hG2, hLl⟩
    · rw [hp, hd] at hrow
      refine wpList_load_mid rfl 31 (.tmp 21) rfl W (6 + k * 2) rfl [.pointer none, .pointer none] _ hrow Tryz.underlying31 rfl (by kernel_rfl) ?_
      simp only [Act.put, List.setIfInBounds_toArray, List.set_cons_zero, List.set_cons_succ]
      have b1 : Below V0.heap.size V0 (V0.alloc (.cells #[.pointer none, .pointer none] 31)) := (Below.refl _ _).alloc (Nat.le_refl _) _
      have HE : Hid (StepPost2 w0 W n pv dv cn (.returned (.bool true)) (V0.alloc (.cells #[.pointer none, .pointer none] 31))) := ⟨rfl, G, _, _, _, Nat.le_add_right _ _, (HS.out.below b1).more⟩
      clear hrow b1 HS HO hGN HGN
      go_wp2_with (first | (refine wpList_store_new rfl 31 (.tmp 6) (.tmp 22) rfl #[.pointer none, .pointer none] _ rfl rfl (by kernel_rfl) rfl (by kernel_rfl) ?_) | fail)
      go_ret
      exact HE.out
    · rw [hp, hd] at hrow
      refine wpList_load_mid rfl 31 (.tmp 21) rfl W (6 + k * 2) rfl [.pointer (some ⟨B, 0, none⟩), .pointer (some ⟨D, 0, none⟩)] _ hrow Tryz.underlying31 rfl (by kernel_rfl) ?_
      simp only [Act.put, List.setIfInBounds_toArray, List.set_cons_zero, List.set_cons_succ]
      have b1 : Below V0.heap.size V0 (V0.alloc (.cells #[.pointer (some ⟨B, 0, none⟩), .pointer (some ⟨D, 0, none⟩)] 31)) := (Below.refl _ _).alloc (Nat.le_refl _) _
      have HT : Hid (TwX (V0.alloc (.cells #[.pointer (some ⟨B, 0, none⟩), .pointer (some ⟨D, 0, none⟩)] 31)) B D t E l g day L F1 F2) := hT.below b1
      have HS1 : Hid (WlG w0 (V0.alloc (.cells #[.pointer (some ⟨B, 0, none⟩), .pointer (some ⟨D, 0, none⟩)] 31)) W n pv dv G Bk cn Q) := HS.out.below b1
      have HO1 : Hid (At (V0.alloc (.cells #[.pointer (some ⟨B, 0, none⟩), .pointer (some ⟨D, 0, none⟩)] 31)) N0 (opl kind on e m sv)) := At.keep (S := fun _ => False) (v := .int .i64 kind) HO.out (Keep.below b1) (fun x => x)
      have HA1 : Hid (At (V0.alloc (.cells #[.pointer (some ⟨B, 0, none⟩), .pointer (some ⟨D, 0, none⟩)] 31)) V0.heap.size [.pointer (some ⟨B, 0, none⟩), .pointer (some ⟨D, 0, none⟩)]) := At.alloc V0 [.pointer (some ⟨B, 0, none⟩), .pointer (some ⟨D, 0, none⟩)] _
      have HPD : Hid (pv k = .pointer (some ⟨B, 0, none⟩) ∧ dv k = .pointer (some ⟨D, 0, none⟩)) := ⟨hp, hd⟩
      have HGG : Hid ((∀ b, F1 b → G k b) ∧ (∀ b, F2 b → G k b) ∧ ∀ b, G k b → b < N0) := ⟨hG1, hG2, hGN⟩
      have x0 : (V0.alloc (.cells #[.pointer (some ⟨B, 0, none⟩), .pointer (some ⟨D, 0, none⟩)] 31)).cell? ⟨N0, 0, none⟩ = some (.int .i64 kind) := HO1.out.cell 0 rfl
      have x6 : (V0.alloc (.cells #[.pointer (some ⟨B, 0, none⟩), .pointer (some ⟨D, 0, none⟩)] 31)).cell? ⟨N0, 6, none⟩ = some (.int .i64 m) := HO1.out.cell 6 rfl
      have y0 : (V0.alloc (.cells #[.pointer (some ⟨B, 0, none⟩), .pointer (some ⟨D, 0, none⟩)] 31)).cell? ⟨V0.heap.size, 0, none⟩ = some (.pointer (some ⟨B, 0, none⟩)) := HA1.out.cell 0 rfl
      clear hrow b1 HS HO hT hp hd hG1 hG2 hGN HGN
      go_upto_if 25 with (first | (refine wpList_store_new rfl 31 (.tmp 6) (.tmp 22) rfl #[.pointer (some ⟨B, 0, none⟩), .pointer (some ⟨D, 0, none⟩)] _ rfl rfl (by kernel_rfl) rfl (by kernel_rfl) ?_) | fail)
      have hN01 : N0 < V0.heap.size := hN0
      generalize V0.alloc (.cells #[.pointer (some ⟨B, 0, none⟩), .pointer (some ⟨D, 0, none⟩)] 31) = V1 at *
      generalize V0.heap.size = N1 at *
      have HL : Hid (L.length ≤ 88800 * n) := hLl
      clear hLl hN0
      have hFN : Hid (∀ b, F1 b → b < N0) := fun b hb => HGG.out.2.2 b (HGG.out.1 b hb)
      by_cases h1 : kind = 1
      · subst h1
        have hA := HT.out.padd e (HLim.out.keep (S := fun _ => False) (Keep.below HS1.out.bl) (fun x => x))
        have hev : V1.rangeAt N0 2 (evl e) := HO1.out.mid 2 _ (opl_ev 1 on e m sv)
        unfold evV at hA
        go_upto_region 9 with fail
        refine wp_region_lit ?_
        refine wpList_val (.pointer (some ⟨N1, 0, none⟩)) V1 rfl (by go_simp) ?_
        simp only [Act.put, List.setIfInBounds_toArray, List.set_cons_zero, List.set_cons_succ]
        refine wpList_val (.pointer (some ⟨B, 0, none⟩)) V1 rfl (by go_simp) ?_
        simp only [Act.put, List.setIfInBounds_toArray, List.set_cons_zero, List.set_cons_succ]
        refine wpList_val (.pointer (some ⟨N0, 2, none⟩)) V1 rfl (by go_simp) ?_
        simp only [Act.put, List.setIfInBounds_toArray, List.set_cons_zero, List.set_cons_succ]
        refine wpList_load_mid rfl 50 (.tmp 32) rfl N0 2 rfl (evl e) _ hev Tryz.underlying50 rfl (by kernel_rfl) ?_
        simp only [Act.put, List.setIfInBounds_toArray, List.set_cons_zero, List.set_cons_succ]
        clear x0 x6 y0 hev
        go_wp2_with fail
        refine hA.mono ?_
        rintro x w2 ⟨rfl, hk, E', hE', hM⟩
        clear hA
        have hR := hM.dadd e hE'
        have a2 : At w2 N1 [.pointer (some ⟨B, 0, none⟩), .pointer (some ⟨D, 0, none⟩)] := At.keep (v := .pointer (some ⟨B, 0, none⟩)) HA1.out hk (fun x => by have := hFN.out _ x; omega)
        have o2 : At w2 N0 (opl 1 on e m sv) := At.keep (v := .int .i64 1) HO1.out hk (fun x => by have := hFN.out _ x; omega)
        have hev : w2.rangeAt N0 2 (evl e) := o2.mid 2 _ (opl_ev 1 on e m sv)
        have y1 : w2.cell? ⟨N1, 1, none⟩ = some (.pointer (some ⟨D, 0, none⟩)) := a2.cell 1 rfl
        have HK : Hid (Keep F1 V1 w2) := hk
        unfold evc at hR
        clear a2 o2 hk hM hE'
        go_upto_region 10 with fail
        refine wp_region_lit ?_
        refine wpList_val (.pointer (some ⟨N1, 1, none⟩)) w2 rfl (by go_simp) ?_
        simp only [Act.put, List.setIfInBounds_toArray, List.set_cons_zero, List.set_cons_succ]
        refine wpList_val (.pointer (some ⟨D, 0, none⟩)) w2 rfl (by go_simp) ?_
        simp only [Act.put, List.setIfInBounds_toArray, List.set_cons_zero, List.set_cons_succ]
        refine wpList_val (.pointer (some ⟨N0, 2, none⟩)) w2 rfl (by go_simp) ?_
        simp only [Act.put, List.setIfInBounds_toArray, List.set_cons_zero, List.set_cons_succ]
        refine wpList_load_mid rfl 50 (.tmp 37) rfl N0 2 rfl (evl e) _ hev Tryz.underlying50 rfl (by kernel_rfl) ?_
        simp only [Act.put, List.setIfInBounds_toArray, List.set_cons_zero, List.set_cons_succ]
        clear y1 hev
        go_wp2_with fail
        refine hR.mono ?_
        rintro x w3 ⟨rfl, hAg⟩
        clear hR
        have HE : Hid (StepPost2 w0 W n pv dv cn (.returned (.bool true)) w3) := by
          obtain ⟨hkk, hpp⟩ := pair_again (G := G k) (n := n + 1) HK.out hAg HGG.out.1 HGG.out.2.1 (by have := HL.out; omega)
          rw [← HPD.out.1, ← HPD.out.2] at hpp
          exact ⟨rfl, _, _, _, _, Nat.le_add_right _ _, HS1.out.upd k hk2 hkk hpp⟩
        generalize addC t l e = c at *
        have hcc : (c == c) = true := by simp
        clear hAg HK
        go_wp2_with fail
        refine (num_any c w3).mono ?_
        rintro x w' ⟨rfl, hw'⟩
        obtain rfl := hw'.symm
        clear hw'
        go_wp2
        go_ret
        exact HE.out
      · have e1 : (kind == 1) = false := by simp [h1]
        by_cases h2 : kind = 2
        · subst h2
          have hA := HT.out.pcan m
          go_wp2_with fail
          refine hA.mono ?_
          rintro x w2 ⟨rfl, hk, E', hE', hM⟩
          clear hA x0 x6 y0
          have hR := hM.dcan m hE'
          have a2 : At w2 N1 [.pointer (some ⟨B, 0, none⟩), .pointer (some ⟨D, 0, none⟩)] := At.keep (v := .pointer (some ⟨B, 0, none⟩)) HA1.out hk (fun x => by have := hFN.out _ x; omega)
          have o2 : At w2 N0 (opl 2 on e m sv) := At.keep (v := .int .i64 2) HO1.out hk (fun x => by have := hFN.out _ x; omega)
          have y1 : w2.cell? ⟨N1, 1, none⟩ = some (.pointer (some ⟨D, 0, none⟩)) := a2.cell 1 rfl
          have y6 : w2.cell? ⟨N0, 6, none⟩ = some (.int .i64 m) := o2.cell 6 rfl
          have HK : Hid (Keep F1 V1 w2) := hk
          clear a2 o2 hk hM hE'
          go_wp2_with fail
          refine hR.mono ?_
          rintro x w3 ⟨rfl, hAg⟩
          clear hR y1 y6
          have HE : Hid (StepPost2 w0 W n pv dv cn (.returned (.bool true)) w3) := by
            obtain ⟨hkk, hpp⟩ := pair_again (G := G k) (n := n + 1) HK.out hAg HGG.out.1 HGG.out.2.1 (by have := HL.out; omega)
            rw [← HPD.out.1, ← HPD.out.2] at hpp
            exact ⟨rfl, _, _, _, _, Nat.le_add_right _ _, HS1.out.upd k hk2 hkk hpp⟩
          generalize canC m l = c at *
          have hcc : (c == c) = true := by simp
          clear hAg HK
          go_wp2_with fail
          refine (num_any c w3).mono ?_
          rintro x w' ⟨rfl, hw'⟩
          obtain rfl := hw'.symm
          clear hw'
          go_wp2
          go_ret
          exact HE.out
        · have e2 : (kind == 2) = false := by simp [h2]
          by_cases h3 : kind = 3
          · subst h3
            have y1 : V1.cell? ⟨N1, 1, none⟩ = some (.pointer (some ⟨D, 0, none⟩)) := HA1.out.cell 1 rfl
            by_cases hday : m < day ∨ t.st + 3700 < m
            · have hA := HT.out.prun_bad m hday
              go_wp2_with fail
              refine hA.mono ?_
              rintro x w2 ⟨rfl, hb2⟩
              clear hA x0 y0
              have hR := (HT.out.below hb2).drun_bad m hday
              have y1' : w2.cell? ⟨N1, 1, none⟩ = some (.pointer (some ⟨D, 0, none⟩)) := (At.keep (S := fun _ => False) (v := .pointer (some ⟨B, 0, none⟩)) HA1.out (Keep.below hb2) (fun x => x)).cell 1 rfl
              have y6' : w2.cell? ⟨N0, 6, none⟩ = some (.int .i64 m) := (At.keep (S := fun _ => False) (v := .int .i64 3) HO1.out (Keep.below hb2) (fun x => x)).cell 6 rfl
              have HB2 : Hid (Below V1.heap.size V1 w2) := hb2
              clear hb2 x6 y1
              go_wp2_with fail
              refine hR.mono ?_
              rintro x w3 ⟨rfl, hb3⟩
              clear hR y1' y6'
              have HE : Hid (StepPost2 w0 W n pv dv cn (.returned (.bool true)) w3) := ⟨rfl, G, _, _, _, Nat.le_add_right _ _, ((HS1.out.below HB2.out).below hb3).more⟩
              clear hb3 HB2
              go_wp2_with fail
              refine (num_any 5 w3).mono ?_
              rintro x w' ⟨rfl, hw'⟩
              obtain rfl := hw'.symm
              clear hw'
              go_wp2
              go_ret
              exact HE.out
            · obtain ⟨_, _, hDX, _⟩ := HT.out.dc
              have hd0 := hDX.d0
              clear hDX
              obtain ⟨M, rfl⟩ : ∃ M : Nat, m = t.st + (M : Int) := ⟨(m - t.st).toNat, by omega⟩
              have hM37 : M ≤ 3700 := by omega
              have hMd : day ≤ t.st + (M : Int) := by omega
              clear hday
              have hL4 : L.length ≤ 4000000000000 := by have := HL.out; omega
              have hA := HT.out.prun hL4 M hMd hM37 (HMv.out.below HS1.out.bl) (fun x => by have := HS1.out.ge k _ hk2 (HGG.out.1 _ x); omega)
              go_wp2_with fail
              refine hA.mono ?_
              rintro x w2 ⟨rfl, hk, hM⟩
              clear hA x0 y0 x6 y1
              have hR := hM.drun HT.out.pm hL4 hMd hM37
              have a2 : At w2 N1 [.pointer (some ⟨B, 0, none⟩), .pointer (some ⟨D, 0, none⟩)] := At.keep (v := .pointer (some ⟨B, 0, none⟩)) HA1.out hk (fun x => by have := hFN.out _ x; omega)
              have o2 : At w2 N0 (opl 3 on e (t.st + (M : Int)) sv) := At.keep (v := .int .i64 3) HO1.out hk (fun x => by have := hFN.out _ x; omega)
              have y1 : w2.cell? ⟨N1, 1, none⟩ = some (.pointer (some ⟨D, 0, none⟩)) := a2.cell 1 rfl
              have y6 : w2.cell? ⟨N0, 6, none⟩ = some (.int .i64 (t.st + (M : Int))) := o2.cell 6 rfl
              have HK : Hid (Keep F1 V1 w2) := hk
              clear a2 o2 hk hM
              go_wp2_with fail
              refine hR.mono ?_
              rintro x w3 ⟨rfl, hAg⟩
              clear hR y1 y6
              have HE : Hid (StepPost2 w0 W n pv dv cn (.returned (.bool true)) w3) := by
                obtain ⟨hkk, hpp⟩ := pair_again (G := G k) (n := n + 1) HK.out hAg HGG.out.1 HGG.out.2.1 (by have h1 := HL.out; have h2 := bkP_len t.st (fun k => (yOf t E k).am) L M; omega)
                rw [← HPD.out.1, ← HPD.out.2] at hpp
                exact ⟨rfl, _, _, _, _, Nat.le_add_right _ _, HS1.out.upd k hk2 hkk hpp⟩
              clear hAg HK
              go_wp2_with fail
              refine (num_any 0 w3).mono ?_
              rintro x w' ⟨rfl, hw'⟩
              obtain rfl := hw'.symm
              clear hw'
              go_wp2
              go_ret
              exact HE.out
          · have e3 : (kind == 3) = false := by simp [h3]
            by_cases h4 : kind = 4
            · subst h4
              have hA := lawbal_any V1 B D t E l g day L F1 F2 HT.out
              have ha1 := HA1.out.range
              go_upto_region 21 with fail
              refine wp_region_lit ?_
              refine wpList_load_mid rfl 31 (.tmp 6) rfl N1 0 rfl [.pointer (some ⟨B, 0, none⟩), .pointer (some ⟨D, 0, none⟩)] _ ha1 Tryz.underlying31 rfl (by kernel_rfl) ?_
              simp only [Act.put, List.setIfInBounds_toArray, List.set_cons_zero, List.set_cons_succ]
              clear x0 x6 y0 ha1
              go_wp2_with fail
              refine hA.mono ?_
              rintro x w2 ⟨rfl, hb2⟩
              have HE : Hid (StepPost2 w0 W n pv dv cn (.returned (.bool true)) w2) := ⟨rfl, G, _, _, _, Nat.le_add_right _ _, (HS1.out.below hb2).more⟩
              clear hA hb2
              go_wp2
              go_ret
              exact HE.out
            · have e4 : (kind == 4) = false := by simp [h4]
              have HCn : Hid (∀ w2, AskPost V1 W (pv 0) (dv 0) (pv 1) (dv 1) cn Q (.returned (.bool true)) w2 → StepPost2 w0 W n pv dv cn (.returned (.bool true)) w2) := fun w2 ⟨_, B', hA', hB', hk'⟩ => ⟨rfl, G, B', cn + 2, _, Nat.le_refl _, (HS1.out.home hA' hk' hB' (fun b hb => hb)).more⟩
              have hL4 : L.length ≤ 4000000000000 := by have := HL.out; omega
              by_cases h5 : kind = 5
              · subst h5
                have hA := booked_any V1 W Bk (pv 0) (dv 0) (pv 1) (dv 1) cn Q HS1.out.wa HS1.out.bk hcn HS1.out.ql HS1.out.qw B D t E l g day L F1 F2 HT.out hL4 m
                have ha1 := HA1.out.range
                go_upto_region 23 with fail
                refine wp_region_lit ?_
                refine wpList_val (.pointer (some ⟨W, 0, none⟩)) V1 rfl rfl ?_
                simp only [Act.put, List.setIfInBounds_toArray, List.set_cons_zero, List.set_cons_succ]
                refine wpList_load_mid rfl 31 (.tmp 6) rfl N1 0 rfl [.pointer (some ⟨B, 0, none⟩), .pointer (some ⟨D, 0, none⟩)] _ ha1 Tryz.underlying31 rfl (by kernel_rfl) ?_
                simp only [Act.put, List.setIfInBounds_toArray, List.set_cons_zero, List.set_cons_succ]
                clear x0 y0 ha1
                go_wp2_with fail
                refine hA.mono ?_
                rintro x w2 hP
                obtain rfl := hP.1
                have HE : Hid (StepPost2 w0 W n pv dv cn (.returned (.bool true)) w2) := HCn.out w2 hP
                clear hA hP HCn x6
                go_wp2
                go_ret
                exact HE.out
              · have e5 : (kind == 5) = false := by simp [h5]
                by_cases h6 : kind = 6
                · subst h6
                  have hA := accounts_any V1 W Bk (pv 0) (dv 0) (pv 1) (dv 1) cn Q HS1.out.wa HS1.out.bk hcn HS1.out.ql HS1.out.qw B D t E l g day L F1 F2 HT.out hL4 (HMv.out.below HS1.out.bl)
                  have ha1 := HA1.out.range
                  go_upto_region 25 with fail
                  refine wp_region_lit ?_
                  refine wpList_val (.pointer (some ⟨W, 0, none⟩)) V1 rfl rfl ?_
                  simp only [Act.put, List.setIfInBounds_toArray, List.set_cons_zero, List.set_cons_succ]
                  refine wpList_load_mid rfl 31 (.tmp 6) rfl N1 0 rfl [.pointer (some ⟨B, 0, none⟩), .pointer (some ⟨D, 0, none⟩)] _ ha1 Tryz.underlying31 rfl (by kernel_rfl) ?_
                  simp only [Act.put, List.setIfInBounds_toArray, List.set_cons_zero, List.set_cons_succ]
                  clear x0 y0 ha1 x6
                  go_wp2_with fail
                  refine hA.mono ?_
                  rintro x w2 hP
                  obtain rfl := hP.1
                  have HE : Hid (StepPost2 w0 W n pv dv cn (.returned (.bool true)) w2) := HCn.out w2 hP
                  clear hA hP HCn
                  go_wp2
                  go_ret
                  exact HE.out
                · have e6 : (kind == 6) = false := by simp [h6]
                  have e7 : (kind == 7) = false := by simp; omega
                  have e8 : (kind == 8) = false := by simp; omega
                  have HE : Hid (StepPost2 w0 W n pv dv cn (.returned (.bool true)) V1) := ⟨rfl, G, _, _, _, Nat.le_add_right _ _, HS1.out.more⟩
                  go_wp2
                  go_ret
                  exact HE.out
end Go.Proofs.YtanndhoimpnhpaaGreatDoor

/- A script in memory. -/
namespace Go.Proofs.YtanndhoimpnhpaaGreatDoor
open Go.ChangeShapes Go.WideShapes Go.ChangeAt Go.RowKit Go.WideMaps Go.Maps Lg Cal

/-- A step of a script. -/
structure Sp where
  kind : Int
  on : Int
  e : Ln.Ev
  m : Int
  sv : Value
def spl (s : Sp) : List Value := opl s.kind s.on s.e s.m s.sv
/-- A script in memory. -/
def SpV (w : World) (v : Value) (l : List Sp) : Prop :=
  ∃ p cap, v = .slice p l.length cap ∧ l.length ≤ cap ∧ ∀ k (hk : k < l.length), ∃ b o, p = some ⟨b, o, none⟩ ∧ b < w.heap.size ∧ w.rangeAt b (o + k * 8) (spl l[k])
/-- What opened has left: a pair. -/
theorem op_pair {w w' : World} {t : Ln.Terms} {x : Ending} (h : OpPost w t x w') : Below w.heap.size w w' ∧ ∃ a c : Option Addr, x = .returned (.tuple #[.agg #[.pointer a, .pointer c], .bool true]) ∧ Pair w' (.pointer a) (.pointer c) 0 (Wd (fun _ => False) w w') := by
  obtain ⟨hb, ⟨_, rfl⟩ | ⟨_, B, D, F1, F2, rfl, hT, h1, h2⟩⟩ := h
  · exact ⟨hb, none, none, rfl, .inl ⟨rfl, rfl⟩⟩
  · exact ⟨hb, some ⟨B, 0, none⟩, some ⟨D, 0, none⟩, rfl, .inr ⟨B, D, t, [], [], _, _, [], F1, F2, rfl, rfl, hT, fun b hb => .inr ⟨h1 b hb, hT.l1 b hb⟩, fun b hb => .inr ⟨h2 b hb, hT.l2 b hb⟩, by simp⟩⟩
theorem Pair.below {w w' : World} {p d : Value} {n : Nat} {G : Nat → Prop} (h : Pair w p d n G) (hb : Below w.heap.size w w') : Pair w' p d n G := h.keep (S := fun _ => False) (Keep.below hb) (fun _ _ x => x)
theorem SpV.below {w w' : World} {v : Value} {l : List Sp} (h : SpV w v l) (hb : Below w.heap.size w w') : SpV w' v l := by
  obtain ⟨p, cap, h1, h2, h3⟩ := h
  refine ⟨p, cap, h1, h2, fun k hk => ?_⟩
  obtain ⟨b, o, h4, h5, h6⟩ := h3 k hk
  exact ⟨b, o, h4, Nat.lt_of_lt_of_le h5 hb.size, fun j u hu => (World.cell?_of_block (w := w) (a := ⟨b, o + k * 8 + j, none⟩) (hb.block b h5)).trans (h6 j u hu)⟩
end Go.Proofs.YtanndhoimpnhpaaGreatDoor
