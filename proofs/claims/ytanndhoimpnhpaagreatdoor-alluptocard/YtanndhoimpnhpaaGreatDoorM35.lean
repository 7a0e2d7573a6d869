import Derived.Test.YtanndhoimpnhpaaGreatDoorM34
import Derived.Test.YtanndhoimpnhpaaGreatDoorM6
import Derived.Test.YtanndhoimpnhpaaGreatDoorM1
import Derived.Test.YtanndhoimpnhpaaGreatDoorM29
import Derived.Deep.RegionHeld3
namespace Go.Proofs.YtanndhoimpnhpaaGreatDoor
open Go.ChangeShapes Go.WideShapes Go.ChangeAt Go.RowKit Go.WideMaps Go.Maps Lg Cal
def SavePost (w : World) (t : Ln.Terms) (l : List Ln.Ev) (g : Ln.St) (day : Int) (L : List En) (e : Ending) (w' : World) : Prop :=
  ∃ R, R.Perm l ∧ R.Pairwise So.Ah ∧ e = .returned (.string (bs (txtB t R g day L))) ∧ Below w.heap.size w w'
set_option maxRecDepth 10000 in
set_option maxHeartbeats 4000000 in
theorem refsave_any (w : World) (D : Nat) (t : Ln.Terms) (l : List Ln.Ev) (g : Ln.St) (day : Int) (L : List En) (evv bkv : Value) (h : DcX w D t l g day L evv bkv) (hr : Rg t l g day L) (hL : L.length ≤ 4000000000000) :
    Calls Tryz.prog 97 #[.pointer (some ⟨D, 0, none⟩)] w (SavePost w t l g day L) := by
  obtain ⟨pa, ecap, rfl⟩ := own_slice h.ev
  obtain ⟨bp, bcap, rfl⟩ := own_slice h.bk
  have hDl : D < w.heap.size := At.lt (v := .int .i64 t.st) h.ln
  have HLn : Hid (∀ wx, Below w.heap.size w wx → At wx D (dl t (.slice pa l.length ecap) g day (.slice bp L.length bcap))) := fun wx hx => h.ln.block (hx.block D hDl)
  have HCell : Hid (∀ k (hk : k < L.length), ∃ b o, bp = some ⟨b, o, none⟩ ∧ b < w.heap.size ∧ w.rangeAt b (o + k * 3) (enl L[k])) := by
    obtain ⟨p2, cap2, e, _, hx⟩ := own_en h.bk
    injection e with e1 _ _
    subst e1
    exact hx
  have HSo : Hid (∀ wx, Below w.heap.size w wx → Calls Tryz.prog 93 #[.slice pa l.length ecap] wx fun e w' => ∃ v R, e = .returned v ∧ w'.ownsRow wx.heap.size 50 4 v l.length (evs R) ∧ R.Perm l ∧ R.Pairwise So.Ah ∧ Below wx.heap.size wx w') := fun wx hx => by
    have ho : wx.ownsRow (D + 1) 50 4 (.slice pa l.length ecap) l.length (evs l) := own_keep (S := fun _ => False) h.ev (Keep.below hx) (fun _ _ x => x)
    obtain ⟨_, hn | ⟨ge, cape, cur, he, hge⟩⟩ := id ho
    · obtain ⟨e1, e2⟩ := hn
      have : l = [] := List.length_eq_zero_iff.1 e2
      exact sorted_any wx pa ecap 0 l h.le (fun hne => absurd this hne) h.ds
    · injection he with e1 e2 e3
      subst e1 e3
      exact sorted_any wx _ _ ge l h.le (fun _ => ⟨rfl, own_at ho⟩) h.ds
  have HRg : Hid (Rg t l g day L) := hr
  have hl40 := h.le
  clear h hr
  have b1 : Below w.heap.size w (w.alloc (.cells (tml t).toArray 23)) := (Below.refl _ _).alloc (Nat.le_refl _) _
  have r0 : w.rangeAt D 0 (tml t) := (HLn.out w (Below.refl _ _)).mid 0 _ (fun j v hj => by
    match j, hj with
    | 0, hj => exact hj
    | 1, hj => exact hj
    | 2, hj => exact hj
    | 3, hj => exact hj
    | 4, hj => exact hj
    | 5, hj => exact hj)
  have HT1 : Hid (At (w.alloc (.cells (tml t).toArray 23)) w.heap.size (tml t)) := At.alloc w (tml t) _
  go_enter Tryz.func97, Tryz.ntmps97
  go_upto_region 1 with fail
  refine wp_region_lit ?_
  refine wpList_val (.pointer (some ⟨D, 0, none⟩)) w rfl rfl ?_
  simp only [Act.put, List.setIfInBounds_toArray, List.set_cons_zero, List.set_cons_succ]
  refine wpList_val (.pointer (some ⟨D, 0, none⟩)) w rfl (by go_simp) ?_
  simp only [Act.put, List.setIfInBounds_toArray, List.set_cons_zero, List.set_cons_succ]
  refine wpList_val (.pointer (some ⟨D, 0, none⟩)) w rfl (by go_simp) ?_
  simp only [Act.put, List.setIfInBounds_toArray, List.set_cons_zero, List.set_cons_succ]
  refine wpList_load_mid rfl 23 (.tmp 13) rfl D 0 rfl (tml t) _ r0 Tryz.underlying23 rfl (by kernel_rfl) ?_
  simp only [Act.put, List.setIfInBounds_toArray, List.set_cons_zero, List.set_cons_succ]
  clear r0
  go_upto_region 2 with (first | (refine wpList_store_new rfl 23 (.tmp 3) (.tmp 14) rfl (tml t).toArray _ rfl rfl (by kernel_rfl) rfl (by kernel_rfl) ?_) | fail)
  generalize w.alloc (.cells (tml t).toArray 23) = V1 at *
  have hv := IsV.made V1 (tmN t) 3
  have b2 : Below w.heap.size w (V1.alloc (.cells ((tmN t).map (Value.int .i64)).toArray 3)) := b1.alloc b1.size _
  have hLi := line_any (V1.alloc (.cells ((tmN t).map (Value.int .i64)).toArray 3)) wLoan _ (tmN t) hv HRg.out.tm (by show 4 + 22 * 6 ≤ _; omega)
  have c0 : V1.cell? ⟨w.heap.size, 0, none⟩ = some (.int .i64 t.st) := HT1.out.cell 0 rfl
  have c1 : V1.cell? ⟨w.heap.size, 1, none⟩ = some (.int .i64 t.pr) := HT1.out.cell 1 rfl
  have c2 : V1.cell? ⟨w.heap.size, 2, none⟩ = some (.int .i64 t.rt) := HT1.out.cell 2 rfl
  have c3 : V1.cell? ⟨w.heap.size, 3, none⟩ = some (.int .i64 t.fi) := HT1.out.cell 3 rfl
  have c4 : V1.cell? ⟨w.heap.size, 4, none⟩ = some (.int .i64 t.ba) := HT1.out.cell 4 rfl
  have c5 : V1.cell? ⟨w.heap.size, 5, none⟩ = some (.int .i64 t.du) := HT1.out.cell 5 rfl
  go_wp2_with fail
  refine hLi.mono ?_
  rintro e w2 ⟨rfl, hb2⟩
  have b3 : Below w.heap.size w w2 := b2.trans (hb2.mono b2.size)
  clear hLi hv c0 c1 c2 c3 c4 c5 hb2 b2 HT1 b1
  have c6 : w2.cell? ⟨D, 6, none⟩ = some (.slice pa l.length ecap) := (HLn.out w2 b3).cell 6 rfl
  have hSo := HSo.out w2 b3
  go_wp2_with fail
  refine hSo.mono ?_
  rintro e w3 ⟨v, R, rfl, ho, hperm, hah, hb3⟩
  have HPm : Hid (R.Perm l ∧ R.Pairwise So.Ah) := ⟨hperm, hah⟩
  have b4 : Below w.heap.size w w3 := b3.trans (hb3.mono b3.size)
  have hRl : R.length = l.length := hperm.length_eq
  have HEr : Hid (∀ e ∈ R, ∀ n ∈ evN e, InR n) := fun e he => HRg.out.ev e (hperm.mem_iff.1 he)
  obtain ⟨pr, rcap, rfl⟩ := own_slice ho
  have HEv : Hid (∀ k (hk : k < R.length), ∃ b, pr = some ⟨b, 0, none⟩ ∧ b < w3.heap.size ∧ w3.rangeAt b (k * 4) (evl R[k])) := fun k hk => by
    obtain ⟨T, hn | ⟨gr, capr, cur, he, hgr⟩⟩ := id ho
    · omega
    · injection he with e1 _ e3
      subst e1 e3
      refine ⟨gr, rfl, (own_base ho (b := gr) rfl).2, ?_⟩
      exact (own_range ho hRl.symm k R[k] (List.getElem?_eq_getElem hk)).1
  clear hSo c6 hperm hah ho hb3 b3
  rw [← hRl]
  rw [← hRl] at hl40
  clear hRl
  go_wp2
  go_loopw [4, 6, 7] (fun s4 s6 _ wr => ∃ k : Nat, k ≤ R.length ∧ s4 = .string (bs (lineB wLoan (tmN t) ++ evT (R.take k))) ∧ s6 = .int .i64 k ∧ Below w3.heap.size w3 wr) (fun _ s6 _ _ => (R.length - intOf s6).toNat)
  case atStart => exact ⟨0, Nat.zero_le _, by simp [evT], rfl, Below.refl _ _⟩
  case round =>
    obtain ⟨k, hk, rfl, rfl, hb⟩ := hrel
    have HB : Hid (Below w3.heap.size w3 wr) := hb
    have hS1 : (lineB wLoan (tmN t)).length ≤ 200 := by have := lineB_len wLoan (tmN t) HRg.out.tm; have e1 : wLoan.length = 4 := rfl; have e2 : (tmN t).length = 6 := rfl; omega
    have hS2 : (evT (R.take k)).length ≤ 4000 := by
      have := evT_len (R.take k) (fun e he => HEr.out e (List.mem_of_mem_take he))
      rw [List.length_take] at this
      omega
    clear hb
    by_cases hlt : k < R.length
    · have zk : (k : Int) < (R.length : Int) := by omega
      obtain ⟨b, rfl, hbl, hr⟩ := HEv.out k hlt
      have hrw : wr.rangeAt b (k * 4) (evl R[k]) := fun j u hu => (World.cell?_of_block (w := w3) (a := ⟨b, k * 4 + j, none⟩) (HB.out.block b hbl)).trans (hr j u hu)
      have hie : ∀ n ∈ evN R[k], InR n := HEr.out _ (List.getElem_mem hlt)
      have HTk : Hid (bs (lineB wLoan (tmN t) ++ evT (R.take (k + 1))) = bs (lineB wLoan (tmN t) ++ evT (R.take k)) ++ bs (lineB wEvent (evN R[k]))) := by
        show _ = _
        rw [bs_app, evT_take R k hlt, List.append_assoc]
      have hS3 : (lineB wEvent (evN R[k])).length ≤ 100 := by have := lineB_len wEvent (evN R[k]) hie; have e1 : wEvent.length = 5 := rfl; have e2 : (evN R[k]).length = 4 := rfl; omega
      clear hr
      generalize R[k] = ev at *
      have z1 : ¬ 9223372036854775807 < (bs (lineB wLoan (tmN t) ++ evT (R.take k))).size + (bs (lineB wEvent (evN ev))).size := by rw [bs_size, bs_size, List.length_append]; omega
      clear hS1 hS2 hS3
      have a1 : At (wr.alloc (.cells (evl ev).toArray 50)) wr.heap.size (evl ev) := At.alloc wr (evl ev) _
      have bw1 : Below w3.heap.size w3 (wr.alloc (.cells (evl ev).toArray 50)) := HB.out.alloc HB.out.size _
      go_upto_region 7 with fail
      refine wp_region_lit ?_
      refine wpList_val (.slice (some ⟨b, 0, none⟩) R.length rcap) wr rfl rfl ?_
      simp only [Act.put, List.setIfInBounds_toArray, List.set_cons_zero, List.set_cons_succ]
      refine wpList_val (.int .i64 k) wr rfl rfl ?_
      simp only [Act.put, List.setIfInBounds_toArray, List.set_cons_zero, List.set_cons_succ]
      refine wpList_val (.pointer (some ⟨b, k * 4, none⟩)) wr rfl (by go_simp) ?_
      simp only [Act.put, List.setIfInBounds_toArray, List.set_cons_zero, List.set_cons_succ]
      refine wpList_load_mid rfl 50 (.tmp 42) rfl b (k * 4) rfl (evl ev) _ hrw Tryz.underlying50 rfl (by kernel_rfl) ?_
      simp only [Act.put, List.setIfInBounds_toArray, List.set_cons_zero, List.set_cons_succ]
      clear hrw HB
      go_upto_region 8 with (first | (refine wpList_store_new rfl 50 (.tmp 7) (.tmp 43) rfl (evl ev).toArray _ rfl rfl (by kernel_rfl) rfl (by kernel_rfl) ?_) | fail)
      generalize wr.alloc (.cells (evl ev).toArray 50) = V5 at *
      generalize wr.heap.size = N5 at *
      have hv := IsV.made V5 (evN ev) 3
      have bw2 : Below w3.heap.size w3 (V5.alloc (.cells ((evN ev).map (Value.int .i64)).toArray 3)) := bw1.alloc bw1.size _
      have hLi := line_any (V5.alloc (.cells ((evN ev).map (Value.int .i64)).toArray 3)) wEvent _ (evN ev) hv hie (by show 5 + 22 * 4 ≤ _; omega)
      have c0 : V5.cell? ⟨N5, 0, none⟩ = some (.int .i64 ev.d) := a1.cell 0 rfl
      have c1 : V5.cell? ⟨N5, 1, none⟩ = some (.int .i64 ev.k) := a1.cell 1 rfl
      have c2 : V5.cell? ⟨N5, 2, none⟩ = some (.int .i64 ev.s) := a1.cell 2 rfl
      have c3 : V5.cell? ⟨N5, 3, none⟩ = some (.int .i64 ev.a) := a1.cell 3 rfl
      generalize bs (lineB wLoan (tmN t) ++ evT (R.take k)) = S at *
      generalize bs (lineB wEvent (evN ev)) = T at *
      go_wp2_with fail
      refine hLi.mono ?_
      rintro e w6 ⟨rfl, hb6⟩
      have HB6 : Hid (Below w3.heap.size w3 w6) := bw2.trans (hb6.mono bw2.size)
      clear hLi hv c0 c1 c2 c3 hb6 bw2 bw1 a1 hie
      go_wp2
      exact ⟨⟨k + 1, hlt, by rw [HTk.out], rfl, HB6.out⟩, by simp [intOf]; omega⟩
    · obtain rfl : k = R.length := by omega
      have zk : ¬ (R.length : Int) < (R.length : Int) := by omega
      rw [List.take_length]
      rw [List.take_length] at hS2
      have b5 : Below w.heap.size w wr := b4.trans (HB.out.mono b4.size)
      have HSz : Hid ((lineB wLoan (tmN t) ++ evT R).length ≤ 4200) := by show _ ≤ _; rw [List.length_append]; omega
      clear hS1 hS2 HB HEv HSo b4
      obtain ⟨A, hA⟩ : ∃ A, A = lineB wLoan (tmN t) ++ evT R := ⟨_, rfl⟩
      have HA : Hid (A = lineB wLoan (tmN t) ++ evT R) := hA
      rw [← hA] at HSz ⊢
      clear hA
      have r7 : wr.rangeAt D 7 [.int .i64 g.pr, .int .i64 g.it, .int .i64 g.du, .int .i64 g.la, .int .i64 g.fi, .int .i64 g.cr, .int .i64 g.rt, .int .i64 day] := (HLn.out wr b5).mid 7 _ (fun j v hj => by
        match j, hj with
        | 0, hj => exact hj
        | 1, hj => exact hj
        | 2, hj => exact hj
        | 3, hj => exact hj
        | 4, hj => exact hj
        | 5, hj => exact hj
        | 6, hj => exact hj
        | 7, hj => exact hj)
      have a8 : At (wr.alloc (.cells #[.int .i64 g.pr, .int .i64 g.it, .int .i64 g.du, .int .i64 g.la, .int .i64 g.fi, .int .i64 g.cr, .int .i64 g.rt, .int .i64 day] 52)) wr.heap.size [.int .i64 g.pr, .int .i64 g.it, .int .i64 g.du, .int .i64 g.la, .int .i64 g.fi, .int .i64 g.cr, .int .i64 g.rt, .int .i64 day] := At.alloc wr [.int .i64 g.pr, .int .i64 g.it, .int .i64 g.du, .int .i64 g.la, .int .i64 g.fi, .int .i64 g.cr, .int .i64 g.rt, .int .i64 day] _
      have b8 : Below w.heap.size w (wr.alloc (.cells #[.int .i64 g.pr, .int .i64 g.it, .int .i64 g.du, .int .i64 g.la, .int .i64 g.fi, .int .i64 g.cr, .int .i64 g.rt, .int .i64 day] 52)) := b5.alloc b5.size _
      go_upto_region 9 with fail
      refine wp_region_lit ?_
      refine wpList_val (.pointer (some ⟨D, 0, none⟩)) wr rfl rfl ?_
      simp only [Act.put, List.setIfInBounds_toArray, List.set_cons_zero, List.set_cons_succ]
      refine wpList_val (.pointer (some ⟨D, 0, none⟩)) wr rfl (by go_simp) ?_
      simp only [Act.put, List.setIfInBounds_toArray, List.set_cons_zero, List.set_cons_succ]
      refine wpList_val (.pointer (some ⟨D, 7, none⟩)) wr rfl (by go_simp) ?_
      simp only [Act.put, List.setIfInBounds_toArray, List.set_cons_zero, List.set_cons_succ]
      refine wpList_load_mid rfl 52 (.tmp 58) rfl D 7 rfl [.int .i64 g.pr, .int .i64 g.it, .int .i64 g.du, .int .i64 g.la, .int .i64 g.fi, .int .i64 g.cr, .int .i64 g.rt, .int .i64 day] _ r7 Tryz.underlying52 rfl (by kernel_rfl) ?_
      simp only [Act.put, List.setIfInBounds_toArray, List.set_cons_zero, List.set_cons_succ]
      clear r7
      go_upto_region 10 with (first | (refine wpList_store_new rfl 52 (.tmp 8) (.tmp 59) rfl #[.int .i64 g.pr, .int .i64 g.it, .int .i64 g.du, .int .i64 g.la, .int .i64 g.fi, .int .i64 g.cr, .int .i64 g.rt, .int .i64 day] _ rfl rfl (by kernel_rfl) rfl (by kernel_rfl) ?_) | fail)
      generalize wr.alloc (.cells #[.int .i64 g.pr, .int .i64 g.it, .int .i64 g.du, .int .i64 g.la, .int .i64 g.fi, .int .i64 g.cr, .int .i64 g.rt, .int .i64 day] 52) = V8 at *
      generalize wr.heap.size = N8 at *
      have HRn : Hid (∀ n ∈ nwN g, InR n) := HRg.out.nw
      have HRd : Hid (∀ n ∈ [day], InR n) := fun n hn => by rw [List.mem_singleton] at hn; subst hn; exact HRg.out.dy
      have hz4 : (lineB wAt [day]).length ≤ 100 := by have := lineB_len wAt [day] HRd.out; have e1 : wAt.length = 2 := rfl; have e2 : [day].length = 1 := rfl; omega
      have hz5 : (lineB wNow (nwN g)).length ≤ 200 := by have := lineB_len wNow (nwN g) HRn.out; have e1 : wNow.length = 3 := rfl; have e2 : (nwN g).length = 7 := rfl; omega
      have z1 : ¬ 9223372036854775807 < (bs A).size + (bs (lineB wAt [day])).size := by rw [bs_size, bs_size]; have := HSz.out; omega
      have z2 : ¬ 9223372036854775807 < (bs A).size + (bs (lineB wAt [day])).size + (bs (lineB wNow (nwN g))).size := by rw [bs_size, bs_size, bs_size]; have := HSz.out; omega
      have HL4 : Hid (∀ W v, IsV W v [day] → Calls Tryz.prog 124 #[.string (bs wAt), v] W fun e w' => e = .returned (.string (bs (lineB wAt [day]))) ∧ Below W.heap.size W w') := fun W v hv => line_any W wAt v [day] hv HRd.out (by show 2 + 22 * 1 ≤ _; omega)
      have HL5 : Hid (∀ W v, IsV W v (nwN g) → Calls Tryz.prog 124 #[.string (bs wNow), v] W fun e w' => e = .returned (.string (bs (lineB wNow (nwN g)))) ∧ Below W.heap.size W w') := fun W v hv => line_any W wNow v (nwN g) hv HRn.out (by show 3 + 22 * 7 ≤ _; omega)
      have HJ : Hid (bs A ++ bs (lineB wAt [day]) ++ bs (lineB wNow (nwN g)) = bs (A ++ lineB wAt [day] ++ lineB wNow (nwN g))) := by show _ = _; rw [bs_app, bs_app]
      have HSz2 : Hid ((A ++ lineB wAt [day] ++ lineB wNow (nwN g)).length ≤ 4500) := by show _ ≤ _; rw [List.length_append, List.length_append]; have := HSz.out; omega
      generalize bs (lineB wAt [day]) = T4 at *
      generalize bs (lineB wNow (nwN g)) = T5 at *
      refine wp_region_held_drew (S := fun wx => At wx N8 [.int .i64 g.pr, .int .i64 g.it, .int .i64 g.du, .int .i64 g.la, .int .i64 g.fi, .int .i64 g.cr, .int .i64 g.rt, .int .i64 day]) (by kernel_rfl) a8.drew (fun hHeld => ?_)
      have bd : Below w.heap.size w V8.drew := b8.drew
      generalize V8.drew = U0 at *
      clear a8 b8 hz4 hz5
      refine wpAnyH_take (i := 0) (v := (.string (bs A))) rfl (by kernel_rfl) (by kernel_rfl) (by kernel_rfl) (fun _ _ _ h => h) (Or.inl ⟨by rfl, fun wx hSw => by kernel_rfl⟩) (by assumption) ?_
      simp only [Act.put, List.getElem_toArray, List.getElem_cons_zero, List.setIfInBounds_toArray, List.set_cons_zero, List.set_cons_succ]
      refine wpAnyH_take (i := 1) (v := (.pointer (some ⟨N8, 7, none⟩))) rfl (by kernel_rfl) (by kernel_rfl) (by kernel_rfl) (fun _ _ _ h => h) (Or.inl ⟨by rfl, fun wx hSw => by ((try dsimp only at hSw); go_simp)⟩) (by assumption) ?_
      simp only [Act.put, List.getElem_toArray, List.getElem_cons_succ, List.getElem_cons_zero, List.setIfInBounds_toArray, List.set_cons_zero, List.set_cons_succ]
      refine wpAnyH_take (i := 2) (v := (.int .i64 day)) rfl (by kernel_rfl) (by kernel_rfl) (by kernel_rfl) (fun _ _ _ h => h) (Or.inl ⟨by rfl, fun wx hSw => by (have hc : wx.cell? ⟨N8, 7, none⟩ = some (.int .i64 day) := At.cell hSw 7 rfl; go_simp)⟩) (by assumption) ?_
      simp only [Act.put, List.getElem_toArray, List.getElem_cons_succ, List.getElem_cons_zero, List.setIfInBounds_toArray, List.set_cons_zero, List.set_cons_succ]
      refine wpAnyH_take (i := 6) (v := (.pointer (some ⟨N8, 0, none⟩))) rfl (by kernel_rfl) (by kernel_rfl) (by kernel_rfl) (fun _ _ _ h => h) (Or.inl ⟨by rfl, fun wx hSw => by ((try dsimp only at hSw); go_simp)⟩) (by assumption) ?_
      simp only [Act.put, List.getElem_toArray, List.getElem_cons_succ, List.getElem_cons_zero, List.setIfInBounds_toArray, List.set_cons_zero, List.set_cons_succ]
      refine wpAnyH_take (i := 7) (v := (.int .i64 g.pr)) rfl (by kernel_rfl) (by kernel_rfl) (by kernel_rfl) (fun _ _ _ h => h) (Or.inl ⟨by rfl, fun wx hSw => by (have hc : wx.cell? ⟨N8, 0, none⟩ = some (.int .i64 g.pr) := At.cell hSw 0 rfl; go_simp)⟩) (by assumption) ?_
      simp only [Act.put, List.getElem_toArray, List.getElem_cons_succ, List.getElem_cons_zero, List.setIfInBounds_toArray, List.set_cons_zero, List.set_cons_succ]
      refine wpAnyH_take (i := 8) (v := (.pointer (some ⟨N8, 1, none⟩))) rfl (by kernel_rfl) (by kernel_rfl) (by kernel_rfl) (fun _ _ _ h => h) (Or.inl ⟨by rfl, fun wx hSw => by ((try dsimp only at hSw); go_simp)⟩) (by assumption) ?_
      simp only [Act.put, List.getElem_toArray, List.getElem_cons_succ, List.getElem_cons_zero, List.setIfInBounds_toArray, List.set_cons_zero, List.set_cons_succ]
      refine wpAnyH_take (i := 9) (v := (.int .i64 g.it)) rfl (by kernel_rfl) (by kernel_rfl) (by kernel_rfl) (fun _ _ _ h => h) (Or.inl ⟨by rfl, fun wx hSw => by (have hc : wx.cell? ⟨N8, 1, none⟩ = some (.int .i64 g.it) := At.cell hSw 1 rfl; go_simp)⟩) (by assumption) ?_
      simp only [Act.put, List.getElem_toArray, List.getElem_cons_succ, List.getElem_cons_zero, List.setIfInBounds_toArray, List.set_cons_zero, List.set_cons_succ]
      refine wpAnyH_take (i := 10) (v := (.pointer (some ⟨N8, 2, none⟩))) rfl (by kernel_rfl) (by kernel_rfl) (by kernel_rfl) (fun _ _ _ h => h) (Or.inl ⟨by rfl, fun wx hSw => by ((try dsimp only at hSw); go_simp)⟩) (by assumption) ?_
      simp only [Act.put, List.getElem_toArray, List.getElem_cons_succ, List.getElem_cons_zero, List.setIfInBounds_toArray, List.set_cons_zero, List.set_cons_succ]
      refine wpAnyH_take (i := 11) (v := (.int .i64 g.du)) rfl (by kernel_rfl) (by kernel_rfl) (by kernel_rfl) (fun _ _ _ h => h) (Or.inl ⟨by rfl, fun wx hSw => by (have hc : wx.cell? ⟨N8, 2, none⟩ = some (.int .i64 g.du) := At.cell hSw 2 rfl; go_simp)⟩) (by assumption) ?_
      simp only [Act.put, List.getElem_toArray, List.getElem_cons_succ, List.getElem_cons_zero, List.setIfInBounds_toArray, List.set_cons_zero, List.set_cons_succ]
      refine wpAnyH_take (i := 12) (v := (.pointer (some ⟨N8, 3, none⟩))) rfl (by kernel_rfl) (by kernel_rfl) (by kernel_rfl) (fun _ _ _ h => h) (Or.inl ⟨by rfl, fun wx hSw => by ((try dsimp only at hSw); go_simp)⟩) (by assumption) ?_
      simp only [Act.put, List.getElem_toArray, List.getElem_cons_succ, List.getElem_cons_zero, List.setIfInBounds_toArray, List.set_cons_zero, List.set_cons_succ]
      refine wpAnyH_take (i := 13) (v := (.int .i64 g.la)) rfl (by kernel_rfl) (by kernel_rfl) (by kernel_rfl) (fun _ _ _ h => h) (Or.inl ⟨by rfl, fun wx hSw => by (have hc : wx.cell? ⟨N8, 3, none⟩ = some (.int .i64 g.la) := At.cell hSw 3 rfl; go_simp)⟩) (by assumption) ?_
      simp only [Act.put, List.getElem_toArray, List.getElem_cons_succ, List.getElem_cons_zero, List.setIfInBounds_toArray, List.set_cons_zero, List.set_cons_succ]
      refine wpAnyH_take (i := 14) (v := (.pointer (some ⟨N8, 4, none⟩))) rfl (by kernel_rfl) (by kernel_rfl) (by kernel_rfl) (fun _ _ _ h => h) (Or.inl ⟨by rfl, fun wx hSw => by ((try dsimp only at hSw); go_simp)⟩) (by assumption) ?_
      simp only [Act.put, List.getElem_toArray, List.getElem_cons_succ, List.getElem_cons_zero, List.setIfInBounds_toArray, List.set_cons_zero, List.set_cons_succ]
      refine wpAnyH_take (i := 15) (v := (.int .i64 g.fi)) rfl (by kernel_rfl) (by kernel_rfl) (by kernel_rfl) (fun _ _ _ h => h) (Or.inl ⟨by rfl, fun wx hSw => by (have hc : wx.cell? ⟨N8, 4, none⟩ = some (.int .i64 g.fi) := At.cell hSw 4 rfl; go_simp)⟩) (by assumption) ?_
      simp only [Act.put, List.getElem_toArray, List.getElem_cons_succ, List.getElem_cons_zero, List.setIfInBounds_toArray, List.set_cons_zero, List.set_cons_succ]
      refine wpAnyH_take (i := 16) (v := (.pointer (some ⟨N8, 5, none⟩))) rfl (by kernel_rfl) (by kernel_rfl) (by kernel_rfl) (fun _ _ _ h => h) (Or.inl ⟨by rfl, fun wx hSw => by ((try dsimp only at hSw); go_simp)⟩) (by assumption) ?_
      simp only [Act.put, List.getElem_toArray, List.getElem_cons_succ, List.getElem_cons_zero, List.setIfInBounds_toArray, List.set_cons_zero, List.set_cons_succ]
      refine wpAnyH_take (i := 17) (v := (.int .i64 g.cr)) rfl (by kernel_rfl) (by kernel_rfl) (by kernel_rfl) (fun _ _ _ h => h) (Or.inl ⟨by rfl, fun wx hSw => by (have hc : wx.cell? ⟨N8, 5, none⟩ = some (.int .i64 g.cr) := At.cell hSw 5 rfl; go_simp)⟩) (by assumption) ?_
      simp only [Act.put, List.getElem_toArray, List.getElem_cons_succ, List.getElem_cons_zero, List.setIfInBounds_toArray, List.set_cons_zero, List.set_cons_succ]
      refine wpAnyH_take (i := 18) (v := (.pointer (some ⟨N8, 6, none⟩))) rfl (by kernel_rfl) (by kernel_rfl) (by kernel_rfl) (fun _ _ _ h => h) (Or.inl ⟨by rfl, fun wx hSw => by ((try dsimp only at hSw); go_simp)⟩) (by assumption) ?_
      simp only [Act.put, List.getElem_toArray, List.getElem_cons_succ, List.getElem_cons_zero, List.setIfInBounds_toArray, List.set_cons_zero, List.set_cons_succ]
      refine wpAnyH_take (i := 19) (v := (.int .i64 g.rt)) rfl (by kernel_rfl) (by kernel_rfl) (by kernel_rfl) (fun _ _ _ h => h) (Or.inl ⟨by rfl, fun wx hSw => by (have hc : wx.cell? ⟨N8, 6, none⟩ = some (.int .i64 g.rt) := At.cell hSw 6 rfl; go_simp)⟩) (by assumption) ?_
      simp only [Act.put, List.getElem_toArray, List.getElem_cons_succ, List.getElem_cons_zero, List.setIfInBounds_toArray, List.set_cons_zero, List.set_cons_succ]
      refine wpAnyH_ready (rs := [3, 20]) (by kernel_rfl) (by simp) ?_
      refine AllReadyH.cons rfl (fun K hK => ?_) (AllReadyH.cons rfl (fun K hK => ?_) AllReadyH.nil)
      · rw [if_pos (by rfl)]
        have iv3 : IsV (U0.alloc (.cells #[.int .i64 day] 3)) (.slice (some ⟨U0.heap.size, 0, none⟩) 1 1) [day] := IsV.made U0 [day] 3
        have bs1 : Below U0.heap.size U0 (U0.alloc (.cells #[.int .i64 day] 3)) := (Below.refl _ _).alloc (Nat.le_refl _) _
        refine wp_valD (.slice (some ⟨U0.heap.size, 0, none⟩) 1 1) (U0.alloc (.cells #[.int .i64 day] 3)) (by kernel_rfl) ?_
        have at1 := At.keep (S := fun _ => False) (v := .int .i64 g.pr) hHeld (Keep.below bs1) (fun x => x)
        have bw1 : Below w.heap.size w (U0.alloc (.cells #[.int .i64 day] 3)) := bd.trans (bs1.mono bd.size)
        refine hK.out _ _ at1 (fun hH1 => ?_)
        clear hK K
        try simp only [Act.put, List.getElem_toArray, List.getElem_cons_succ, List.getElem_cons_zero, List.setIfInBounds_toArray, List.set_cons_zero, List.set_cons_succ]
        generalize U0.alloc (.cells #[.int .i64 day] 3) = W1 at *
        refine wpAnyH_ready (rs := [4, 20]) (by kernel_rfl) (by simp) ?_
        refine AllReadyH.cons rfl (fun K hK => ?_) (AllReadyH.cons rfl (fun K hK => ?_) AllReadyH.nil)
        · have hC4 := HL4.out W1 _ iv3
          go_simp
          refine hC4.mono ?_
          rintro e W2 ⟨rfl, bs2⟩
          go_wp2_with fail
          have at2 := At.keep (S := fun _ => False) (v := .int .i64 g.pr) at1 (Keep.below bs2) (fun x => x)
          have bw2 : Below w.heap.size w W2 := bw1.trans (bs2.mono bw1.size)
          refine hK.out _ _ at2 (fun hH2 => ?_)
          clear hK K
          try simp only [Act.put, List.getElem_toArray, List.getElem_cons_succ, List.getElem_cons_zero, List.setIfInBounds_toArray, List.set_cons_zero, List.set_cons_succ]
          refine wpAnyH_take (i := 5) (v := (.string (bs A ++ T4))) rfl (by kernel_rfl) (by kernel_rfl) (by kernel_rfl) (fun _ _ _ h => h) (Or.inl ⟨by rfl, fun wx hSw => by go_simp⟩) (by assumption) ?_
          simp only [Act.put, List.getElem_toArray, List.getElem_cons_succ, List.getElem_cons_zero, List.setIfInBounds_toArray, List.set_cons_zero, List.set_cons_succ]
          refine wpAnyH_ready (rs := [20]) (by kernel_rfl) (by simp) ?_
          refine AllReadyH.cons rfl (fun K hK => ?_) AllReadyH.nil
          rw [if_pos (by rfl)]
          have iv20 : IsV (W2.alloc (.cells #[.int .i64 g.pr, .int .i64 g.it, .int .i64 g.du, .int .i64 g.la, .int .i64 g.fi, .int .i64 g.cr, .int .i64 g.rt] 3)) (.slice (some ⟨W2.heap.size, 0, none⟩) 7 7) (nwN g) := IsV.made W2 (nwN g) 3
          have bs3 : Below W2.heap.size W2 (W2.alloc (.cells #[.int .i64 g.pr, .int .i64 g.it, .int .i64 g.du, .int .i64 g.la, .int .i64 g.fi, .int .i64 g.cr, .int .i64 g.rt] 3)) := (Below.refl _ _).alloc (Nat.le_refl _) _
          refine wp_valD (.slice (some ⟨W2.heap.size, 0, none⟩) 7 7) (W2.alloc (.cells #[.int .i64 g.pr, .int .i64 g.it, .int .i64 g.du, .int .i64 g.la, .int .i64 g.fi, .int .i64 g.cr, .int .i64 g.rt] 3)) (by kernel_rfl) ?_
          have at3 := At.keep (S := fun _ => False) (v := .int .i64 g.pr) at2 (Keep.below bs3) (fun x => x)
          have bw3 : Below w.heap.size w (W2.alloc (.cells #[.int .i64 g.pr, .int .i64 g.it, .int .i64 g.du, .int .i64 g.la, .int .i64 g.fi, .int .i64 g.cr, .int .i64 g.rt] 3)) := bw2.trans (bs3.mono bw2.size)
          refine hK.out _ _ at3 (fun hH3 => ?_)
          clear hK K
          try simp only [Act.put, List.getElem_toArray, List.getElem_cons_succ, List.getElem_cons_zero, List.setIfInBounds_toArray, List.set_cons_zero, List.set_cons_succ]
          generalize W2.alloc (.cells #[.int .i64 g.pr, .int .i64 g.it, .int .i64 g.du, .int .i64 g.la, .int .i64 g.fi, .int .i64 g.cr, .int .i64 g.rt] 3) = W3 at *
          refine wpAnyH_ready (rs := [21]) (by kernel_rfl) (by simp) ?_
          refine AllReadyH.cons rfl (fun K hK => ?_) AllReadyH.nil
          have hC21 := HL5.out W3 _ iv20
          go_simp
          refine hC21.mono ?_
          rintro e W4 ⟨rfl, bs4⟩
          go_wp2_with fail
          have at4 := At.keep (S := fun _ => False) (v := .int .i64 g.pr) at3 (Keep.below bs4) (fun x => x)
          have bw4 : Below w.heap.size w W4 := bw3.trans (bs4.mono bw3.size)
          refine hK.out _ _ at4 (fun hH4 => ?_)
          clear hK K
          try simp only [Act.put, List.getElem_toArray, List.getElem_cons_succ, List.getElem_cons_zero, List.setIfInBounds_toArray, List.set_cons_zero, List.set_cons_succ]
          refine wpAnyH_take (i := 22) (v := (.string (bs A ++ T4 ++ T5))) rfl (by kernel_rfl) (by kernel_rfl) (by kernel_rfl) (fun _ _ _ h => h) (Or.inl ⟨by rfl, fun wx hSw => by go_simp⟩) (by assumption) ?_
          simp only [Act.put, List.getElem_toArray, List.getElem_cons_succ, List.getElem_cons_zero, List.setIfInBounds_toArray, List.set_cons_zero, List.set_cons_succ]
          refine wpAnyH_take (i := 23) (v := (.string (bs A ++ T4 ++ T5))) rfl (by kernel_rfl) (by kernel_rfl) (by kernel_rfl) (fun _ _ _ h => h) (Or.inl ⟨by rfl, fun wx hSw => by kernel_rfl⟩) (by assumption) ?_
          simp only [Act.put, List.getElem_toArray, List.getElem_cons_succ, List.getElem_cons_zero, List.setIfInBounds_toArray, List.set_cons_zero, List.set_cons_succ]
          refine wpAnyH_done (by kernel_rfl) ?_ _
          have bwx : Hid (Below w.heap.size w W4) := bw4
          rw [HJ.out]
          obtain ⟨A2, hA2⟩ : ∃ A2, A2 = A ++ lineB wAt [day] ++ lineB wNow (nwN g) := ⟨_, rfl⟩
          have HA2 : Hid (A2 = A ++ lineB wAt [day] ++ lineB wNow (nwN g)) := hA2
          rw [← hA2] at HSz2 ⊢
          clear hA2 HL4 HL5 HJ z1 z2 HRn HRd
          try generalize (W4 : World) = WW at *
          have c15 : WW.cell? ⟨D, 15, none⟩ = some (.slice bp L.length bcap) := (HLn.out WW bwx.out).cell 15 rfl
          clear c15
          go_wp2
          go_loopw [4, 9, 10] (fun s4 s9 _ wr => ∃ k : Nat, k ≤ L.length ∧ s4 = .string (bs (A2 ++ enT (L.take k))) ∧ s9 = .int .i64 k ∧ Below w.heap.size w wr) (fun _ s9 _ _ => (L.length - intOf s9).toNat)
          case atStart => exact ⟨0, Nat.zero_le _, by simp [enT], rfl, bwx.out⟩
          case round =>
            obtain ⟨k, hk, rfl, rfl, hb⟩ := hrel
            have HB : Hid (Below w.heap.size w wr) := hb
            have c15 : wr.cell? ⟨D, 15, none⟩ = some (.slice bp L.length bcap) := (HLn.out wr hb).cell 15 rfl
            have hS2 : (enT (L.take k)).length ≤ 400000000000000 := by
              have := enT_len (L.take k) (fun e he => HRg.out.en e (List.mem_of_mem_take he))
              rw [List.length_take] at this
              omega
            clear hb
            by_cases hlt : k < L.length
            · have zk : (k : Int) < (L.length : Int) := by omega
              obtain ⟨b, o, rfl, hbl, hr⟩ := HCell.out k hlt
              have hrw : wr.rangeAt b (o + k * 3) (enl L[k]) := fun j u hu => (World.cell?_of_block (w := w) (a := ⟨b, o + k * 3 + j, none⟩) (HB.out.block b hbl)).trans (hr j u hu)
              have hie : ∀ n ∈ enN L[k], InR n := HRg.out.en _ (List.getElem_mem hlt)
              have HTk : Hid (bs (A2 ++ enT (L.take (k + 1))) = bs (A2 ++ enT (L.take k)) ++ bs (lineB wEntry (enN L[k]))) := by
                show _ = _
                rw [bs_app, enT_take L k hlt, List.append_assoc]
              have hS3 : (lineB wEntry (enN L[k])).length ≤ 100 := by have := lineB_len wEntry (enN L[k]) hie; have e1 : wEntry.length = 5 := rfl; have e2 : (enN L[k]).length = 3 := rfl; omega
              clear hr
              generalize L[k] = en at *
              have z1 : ¬ 9223372036854775807 < (bs (A2 ++ enT (L.take k))).size + (bs (lineB wEntry (enN en))).size := by rw [bs_size, bs_size, List.length_append]; have := HSz2.out; omega
              clear hS2 hS3
              have a1 : At (wr.alloc (.cells (enl en).toArray 114)) wr.heap.size (enl en) := At.alloc wr (enl en) _
              have bw1 : Below w.heap.size w (wr.alloc (.cells (enl en).toArray 114)) := HB.out.alloc HB.out.size _
              go_upto_region 14 with fail
              refine wp_region_lit ?_
              refine wpList_val (.pointer (some ⟨D, 0, none⟩)) wr rfl rfl ?_
              simp only [Act.put, List.setIfInBounds_toArray, List.set_cons_zero, List.set_cons_succ]
              refine wpList_val (.pointer (some ⟨D, 0, none⟩)) wr rfl (by go_simp) ?_
              simp only [Act.put, List.setIfInBounds_toArray, List.set_cons_zero, List.set_cons_succ]
              refine wpList_val (.pointer (some ⟨D, 15, none⟩)) wr rfl (by go_simp) ?_
              simp only [Act.put, List.setIfInBounds_toArray, List.set_cons_zero, List.set_cons_succ]
              refine wpList_val (.slice (some ⟨b, o, none⟩) L.length bcap) wr rfl (by go_simp) ?_
              simp only [Act.put, List.setIfInBounds_toArray, List.set_cons_zero, List.set_cons_succ]
              refine wpList_val (.int .i64 k) wr rfl rfl ?_
              simp only [Act.put, List.setIfInBounds_toArray, List.set_cons_zero, List.set_cons_succ]
              refine wpList_val (.pointer (some ⟨b, o + k * 3, none⟩)) wr rfl (by go_simp) ?_
              simp only [Act.put, List.setIfInBounds_toArray, List.set_cons_zero, List.set_cons_succ]
              refine wpList_load_mid rfl 114 (.tmp 97) rfl b (o + k * 3) rfl (enl en) _ hrw Tryz.underlying114 rfl (by kernel_rfl) ?_
              simp only [Act.put, List.setIfInBounds_toArray, List.set_cons_zero, List.set_cons_succ]
              clear hrw HB c15
              go_upto_region 15 with (first | (refine wpList_store_new rfl 114 (.tmp 10) (.tmp 98) rfl (enl en).toArray _ rfl rfl (by kernel_rfl) rfl (by kernel_rfl) ?_) | fail)
              generalize wr.alloc (.cells (enl en).toArray 114) = V5 at *
              generalize wr.heap.size = N5 at *
              have hv := IsV.made V5 (enN en) 3
              have bw2 : Below w.heap.size w (V5.alloc (.cells ((enN en).map (Value.int .i64)).toArray 3)) := bw1.alloc bw1.size _
              have hLi := line_any (V5.alloc (.cells ((enN en).map (Value.int .i64)).toArray 3)) wEntry _ (enN en) hv hie (by show 5 + 22 * 3 ≤ _; omega)
              have c0 : V5.cell? ⟨N5, 0, none⟩ = some (.int .i64 en.d) := a1.cell 0 rfl
              have c1 : V5.cell? ⟨N5, 1, none⟩ = some (.int .i64 en.k) := a1.cell 1 rfl
              have c2 : V5.cell? ⟨N5, 2, none⟩ = some (.int .i64 en.a) := a1.cell 2 rfl
              generalize bs (A2 ++ enT (L.take k)) = S at *
              generalize bs (lineB wEntry (enN en)) = T at *
              go_wp2_with fail
              refine hLi.mono ?_
              rintro e w6 ⟨rfl, hb6⟩
              have HB6 : Hid (Below w.heap.size w w6) := bw2.trans (hb6.mono bw2.size)
              clear hLi hv c0 c1 c2 hb6 bw2 bw1 a1 hie
              go_wp2
              exact ⟨⟨k + 1, hlt, by rw [HTk.out], rfl, HB6.out⟩, by simp [intOf]; omega⟩
            · obtain rfl : k = L.length := by omega
              have zk : ¬ (L.length : Int) < (L.length : Int) := by omega
              have HE : Hid (bs (txtB t R g day L) = bs (A2 ++ enT (L.take L.length)) ++ bs [101, 110, 100, 10]) := by
                show _ = _
                rw [bs_app, List.take_length, HA2.out, HA.out]
                rfl
              have z1 : ¬ 9223372036854775807 < (bs (A2 ++ enT (L.take L.length))).size + 4 := by rw [bs_size, List.length_append]; have := HSz2.out; omega
              clear hS2
              generalize bs (A2 ++ enT (L.take L.length)) = S at *
              go_wp2
              go_ret
              exact ⟨R, HPm.out.1, HPm.out.2, by rw [HE.out]; rfl, HB.out⟩
        · rw [if_pos (by rfl)]
          have iv20 : IsV (W1.alloc (.cells #[.int .i64 g.pr, .int .i64 g.it, .int .i64 g.du, .int .i64 g.la, .int .i64 g.fi, .int .i64 g.cr, .int .i64 g.rt] 3)) (.slice (some ⟨W1.heap.size, 0, none⟩) 7 7) (nwN g) := IsV.made W1 (nwN g) 3
          have bs2 : Below W1.heap.size W1 (W1.alloc (.cells #[.int .i64 g.pr, .int .i64 g.it, .int .i64 g.du, .int .i64 g.la, .int .i64 g.fi, .int .i64 g.cr, .int .i64 g.rt] 3)) := (Below.refl _ _).alloc (Nat.le_refl _) _
          refine wp_valD (.slice (some ⟨W1.heap.size, 0, none⟩) 7 7) (W1.alloc (.cells #[.int .i64 g.pr, .int .i64 g.it, .int .i64 g.du, .int .i64 g.la, .int .i64 g.fi, .int .i64 g.cr, .int .i64 g.rt] 3)) (by kernel_rfl) ?_
          have at2 := At.keep (S := fun _ => False) (v := .int .i64 g.pr) at1 (Keep.below bs2) (fun x => x)
          have bw2 : Below w.heap.size w (W1.alloc (.cells #[.int .i64 g.pr, .int .i64 g.it, .int .i64 g.du, .int .i64 g.la, .int .i64 g.fi, .int .i64 g.cr, .int .i64 g.rt] 3)) := bw1.trans (bs2.mono bw1.size)
          have iv3 := iv3.below bs2
          refine hK.out _ _ at2 (fun hH2 => ?_)
          clear hK K
          try simp only [Act.put, List.getElem_toArray, List.getElem_cons_succ, List.getElem_cons_zero, List.setIfInBounds_toArray, List.set_cons_zero, List.set_cons_succ]
          generalize W1.alloc (.cells #[.int .i64 g.pr, .int .i64 g.it, .int .i64 g.du, .int .i64 g.la, .int .i64 g.fi, .int .i64 g.cr, .int .i64 g.rt] 3) = W2 at *
          refine wpAnyH_ready (rs := [4]) (by kernel_rfl) (by simp) ?_
          refine AllReadyH.cons rfl (fun K hK => ?_) AllReadyH.nil
          have hC4 := HL4.out W2 _ iv3
          go_simp
          refine hC4.mono ?_
          rintro e W3 ⟨rfl, bs3⟩
          go_wp2_with fail
          have at3 := At.keep (S := fun _ => False) (v := .int .i64 g.pr) at2 (Keep.below bs3) (fun x => x)
          have bw3 : Below w.heap.size w W3 := bw2.trans (bs3.mono bw2.size)
          have iv20 := iv20.below bs3
          refine hK.out _ _ at3 (fun hH3 => ?_)
          clear hK K
          try simp only [Act.put, List.getElem_toArray, List.getElem_cons_succ, List.getElem_cons_zero, List.setIfInBounds_toArray, List.set_cons_zero, List.set_cons_succ]
          refine wpAnyH_take (i := 5) (v := (.string (bs A ++ T4))) rfl (by kernel_rfl) (by kernel_rfl) (by kernel_rfl) (fun _ _ _ h => h) (Or.inl ⟨by rfl, fun wx hSw => by go_simp⟩) (by assumption) ?_
          simp only [Act.put, List.getElem_toArray, List.getElem_cons_succ, List.getElem_cons_zero, List.setIfInBounds_toArray, List.set_cons_zero, List.set_cons_succ]
          refine wpAnyH_ready (rs := [21]) (by kernel_rfl) (by simp) ?_
          refine AllReadyH.cons rfl (fun K hK => ?_) AllReadyH.nil
          have hC21 := HL5.out W3 _ iv20
          go_simp
          refine hC21.mono ?_
          rintro e W4 ⟨rfl, bs4⟩
          go_wp2_with fail
          have at4 := At.keep (S := fun _ => False) (v := .int .i64 g.pr) at3 (Keep.below bs4) (fun x => x)
          have bw4 : Below w.heap.size w W4 := bw3.trans (bs4.mono bw3.size)
          refine hK.out _ _ at4 (fun hH4 => ?_)
          clear hK K
          try simp only [Act.put, List.getElem_toArray, List.getElem_cons_succ, List.getElem_cons_zero, List.setIfInBounds_toArray, List.set_cons_zero, List.set_cons_succ]
          refine wpAnyH_take (i := 22) (v := (.string (bs A ++ T4 ++ T5))) rfl (by kernel_rfl) (by kernel_rfl) (by kernel_rfl) (fun _ _ _ h => h) (Or.inl ⟨by rfl, fun wx hSw => by go_simp⟩) (by assumption) ?_
          simp only [Act.put, List.getElem_toArray, List.getElem_cons_succ, List.getElem_cons_zero, List.setIfInBounds_toArray, List.set_cons_zero, List.set_cons_succ]
          refine wpAnyH_take (i := 23) (v := (.string (bs A ++ T4 ++ T5))) rfl (by kernel_rfl) (by kernel_rfl) (by kernel_rfl) (fun _ _ _ h => h) (Or.inl ⟨by rfl, fun wx hSw => by kernel_rfl⟩) (by assumption) ?_
          simp only [Act.put, List.getElem_toArray, List.getElem_cons_succ, List.getElem_cons_zero, List.setIfInBounds_toArray, List.set_cons_zero, List.set_cons_succ]
          refine wpAnyH_done (by kernel_rfl) ?_ _
          have bwx : Hid (Below w.heap.size w W4) := bw4
          rw [HJ.out]
          obtain ⟨A2, hA2⟩ : ∃ A2, A2 = A ++ lineB wAt [day] ++ lineB wNow (nwN g) := ⟨_, rfl⟩
          have HA2 : Hid (A2 = A ++ lineB wAt [day] ++ lineB wNow (nwN g)) := hA2
          rw [← hA2] at HSz2 ⊢
          clear hA2 HL4 HL5 HJ z1 z2 HRn HRd
          try generalize (W4 : World) = WW at *
          have c15 : WW.cell? ⟨D, 15, none⟩ = some (.slice bp L.length bcap) := (HLn.out WW bwx.out).cell 15 rfl
          clear c15
          go_wp2
          go_loopw [4, 9, 10] (fun s4 s9 _ wr => ∃ k : Nat, k ≤ L.length ∧ s4 = .string (bs (A2 ++ enT (L.take k))) ∧ s9 = .int .i64 k ∧ Below w.heap.size w wr) (fun _ s9 _ _ => (L.length - intOf s9).toNat)
          case atStart => exact ⟨0, Nat.zero_le _, by simp [enT], rfl, bwx.out⟩
          case round =>
            obtain ⟨k, hk, rfl, rfl, hb⟩ := hrel
            have HB : Hid (Below w.heap.size w wr) := hb
            have c15 : wr.cell? ⟨D, 15, none⟩ = some (.slice bp L.length bcap) := (HLn.out wr hb).cell 15 rfl
            have hS2 : (enT (L.take k)).length ≤ 400000000000000 := by
              have := enT_len (L.take k) (fun e he => HRg.out.en e (List.mem_of_mem_take he))
              rw [List.length_take] at this
              omega
            clear hb
            by_cases hlt : k < L.length
            · have zk : (k : Int) < (L.length : Int) := by omega
              obtain ⟨b, o, rfl, hbl, hr⟩ := HCell.out k hlt
              have hrw : wr.rangeAt b (o + k * 3) (enl L[k]) := fun j u hu => (World.cell?_of_block (w := w) (a := ⟨b, o + k * 3 + j, none⟩) (HB.out.block b hbl)).trans (hr j u hu)
              have hie : ∀ n ∈ enN L[k], InR n := HRg.out.en _ (List.getElem_mem hlt)
              have HTk : Hid (bs (A2 ++ enT (L.take (k + 1))) = bs (A2 ++ enT (L.take k)) ++ bs (lineB wEntry (enN L[k]))) := by
                show _ = _
                rw [bs_app, enT_take L k hlt, List.append_assoc]
              have hS3 : (lineB wEntry (enN L[k])).length ≤ 100 := by have := lineB_len wEntry (enN L[k]) hie; have e1 : wEntry.length = 5 := rfl; have e2 : (enN L[k]).length = 3 := rfl; omega
              clear hr
              generalize L[k] = en at *
              have z1 : ¬ 9223372036854775807 < (bs (A2 ++ enT (L.take k))).size + (bs (lineB wEntry (enN en))).size := by rw [bs_size, bs_size, List.length_append]; have := HSz2.out; omega
              clear hS2 hS3
              have a1 : At (wr.alloc (.cells (enl en).toArray 114)) wr.heap.size (enl en) := At.alloc wr (enl en) _
              have bw1 : Below w.heap.size w (wr.alloc (.cells (enl en).toArray 114)) := HB.out.alloc HB.out.size _
              go_upto_region 14 with fail
              refine wp_region_lit ?_
              refine wpList_val (.pointer (some ⟨D, 0, none⟩)) wr rfl rfl ?_
              simp only [Act.put, List.setIfInBounds_toArray, List.set_cons_zero, List.set_cons_succ]
              refine wpList_val (.pointer (some ⟨D, 0, none⟩)) wr rfl (by go_simp) ?_
              simp only [Act.put, List.setIfInBounds_toArray, List.set_cons_zero, List.set_cons_succ]
              refine wpList_val (.pointer (some ⟨D, 15, none⟩)) wr rfl (by go_simp) ?_
              simp only [Act.put, List.setIfInBounds_toArray, List.set_cons_zero, List.set_cons_succ]
              refine wpList_val (.slice (some ⟨b, o, none⟩) L.length bcap) wr rfl (by go_simp) ?_
              simp only [Act.put, List.setIfInBounds_toArray, List.set_cons_zero, List.set_cons_succ]
              refine wpList_val (.int .i64 k) wr rfl rfl ?_
              simp only [Act.put, List.setIfInBounds_toArray, List.set_cons_zero, List.set_cons_succ]
              refine wpList_val (.pointer (some ⟨b, o + k * 3, none⟩)) wr rfl (by go_simp) ?_
              simp only [Act.put, List.setIfInBounds_toArray, List.set_cons_zero, List.set_cons_succ]
              refine wpList_load_mid rfl 114 (.tmp 97) rfl b (o + k * 3) rfl (enl en) _ hrw Tryz.underlying114 rfl (by kernel_rfl) ?_
              simp only [Act.put, List.setIfInBounds_toArray, List.set_cons_zero, List.set_cons_succ]
              clear hrw HB c15
              go_upto_region 15 with (first | (refine wpList_store_new rfl 114 (.tmp 10) (.tmp 98) rfl (enl en).toArray _ rfl rfl (by kernel_rfl) rfl (by kernel_rfl) ?_) | fail)
              generalize wr.alloc (.cells (enl en).toArray 114) = V5 at *
              generalize wr.heap.size = N5 at *
              have hv := IsV.made V5 (enN en) 3
              have bw2 : Below w.heap.size w (V5.alloc (.cells ((enN en).map (Value.int .i64)).toArray 3)) := bw1.alloc bw1.size _
              have hLi := line_any (V5.alloc (.cells ((enN en).map (Value.int .i64)).toArray 3)) wEntry _ (enN en) hv hie (by show 5 + 22 * 3 ≤ _; omega)
              have c0 : V5.cell? ⟨N5, 0, none⟩ = some (.int .i64 en.d) := a1.cell 0 rfl
              have c1 : V5.cell? ⟨N5, 1, none⟩ = some (.int .i64 en.k) := a1.cell 1 rfl
              have c2 : V5.cell? ⟨N5, 2, none⟩ = some (.int .i64 en.a) := a1.cell 2 rfl
              generalize bs (A2 ++ enT (L.take k)) = S at *
              generalize bs (lineB wEntry (enN en)) = T at *
              go_wp2_with fail
              refine hLi.mono ?_
              rintro e w6 ⟨rfl, hb6⟩
              have HB6 : Hid (Below w.heap.size w w6) := bw2.trans (hb6.mono bw2.size)
              clear hLi hv c0 c1 c2 hb6 bw2 bw1 a1 hie
              go_wp2
              exact ⟨⟨k + 1, hlt, by rw [HTk.out], rfl, HB6.out⟩, by simp [intOf]; omega⟩
            · obtain rfl : k = L.length := by omega
              have zk : ¬ (L.length : Int) < (L.length : Int) := by omega
              have HE : Hid (bs (txtB t R g day L) = bs (A2 ++ enT (L.take L.length)) ++ bs [101, 110, 100, 10]) := by
                show _ = _
                rw [bs_app, List.take_length, HA2.out, HA.out]
                rfl
              have z1 : ¬ 9223372036854775807 < (bs (A2 ++ enT (L.take L.length))).size + 4 := by rw [bs_size, List.length_append]; have := HSz2.out; omega
              clear hS2
              generalize bs (A2 ++ enT (L.take L.length)) = S at *
              go_wp2
              go_ret
              exact ⟨R, HPm.out.1, HPm.out.2, by rw [HE.out]; rfl, HB.out⟩
      · rw [if_pos (by rfl)]
        have iv20 : IsV (U0.alloc (.cells #[.int .i64 g.pr, .int .i64 g.it, .int .i64 g.du, .int .i64 g.la, .int .i64 g.fi, .int .i64 g.cr, .int .i64 g.rt] 3)) (.slice (some ⟨U0.heap.size, 0, none⟩) 7 7) (nwN g) := IsV.made U0 (nwN g) 3
        have bs1 : Below U0.heap.size U0 (U0.alloc (.cells #[.int .i64 g.pr, .int .i64 g.it, .int .i64 g.du, .int .i64 g.la, .int .i64 g.fi, .int .i64 g.cr, .int .i64 g.rt] 3)) := (Below.refl _ _).alloc (Nat.le_refl _) _
        refine wp_valD (.slice (some ⟨U0.heap.size, 0, none⟩) 7 7) (U0.alloc (.cells #[.int .i64 g.pr, .int .i64 g.it, .int .i64 g.du, .int .i64 g.la, .int .i64 g.fi, .int .i64 g.cr, .int .i64 g.rt] 3)) (by kernel_rfl) ?_
        have at1 := At.keep (S := fun _ => False) (v := .int .i64 g.pr) hHeld (Keep.below bs1) (fun x => x)
        have bw1 : Below w.heap.size w (U0.alloc (.cells #[.int .i64 g.pr, .int .i64 g.it, .int .i64 g.du, .int .i64 g.la, .int .i64 g.fi, .int .i64 g.cr, .int .i64 g.rt] 3)) := bd.trans (bs1.mono bd.size)
        refine hK.out _ _ at1 (fun hH1 => ?_)
        clear hK K
        try simp only [Act.put, List.getElem_toArray, List.getElem_cons_succ, List.getElem_cons_zero, List.setIfInBounds_toArray, List.set_cons_zero, List.set_cons_succ]
        generalize U0.alloc (.cells #[.int .i64 g.pr, .int .i64 g.it, .int .i64 g.du, .int .i64 g.la, .int .i64 g.fi, .int .i64 g.cr, .int .i64 g.rt] 3) = W1 at *
        refine wpAnyH_ready (rs := [3]) (by kernel_rfl) (by simp) ?_
        refine AllReadyH.cons rfl (fun K hK => ?_) AllReadyH.nil
        rw [if_pos (by rfl)]
        have iv3 : IsV (W1.alloc (.cells #[.int .i64 day] 3)) (.slice (some ⟨W1.heap.size, 0, none⟩) 1 1) [day] := IsV.made W1 [day] 3
        have bs2 : Below W1.heap.size W1 (W1.alloc (.cells #[.int .i64 day] 3)) := (Below.refl _ _).alloc (Nat.le_refl _) _
        refine wp_valD (.slice (some ⟨W1.heap.size, 0, none⟩) 1 1) (W1.alloc (.cells #[.int .i64 day] 3)) (by kernel_rfl) ?_
        have at2 := At.keep (S := fun _ => False) (v := .int .i64 g.pr) at1 (Keep.below bs2) (fun x => x)
        have bw2 : Below w.heap.size w (W1.alloc (.cells #[.int .i64 day] 3)) := bw1.trans (bs2.mono bw1.size)
        have iv20 := iv20.below bs2
        refine hK.out _ _ at2 (fun hH2 => ?_)
        clear hK K
        try simp only [Act.put, List.getElem_toArray, List.getElem_cons_succ, List.getElem_cons_zero, List.setIfInBounds_toArray, List.set_cons_zero, List.set_cons_succ]
        generalize W1.alloc (.cells #[.int .i64 day] 3) = W2 at *
        refine wpAnyH_ready (rs := [4]) (by kernel_rfl) (by simp) ?_
        refine AllReadyH.cons rfl (fun K hK => ?_) AllReadyH.nil
        have hC4 := HL4.out W2 _ iv3
        go_simp
        refine hC4.mono ?_
        rintro e W3 ⟨rfl, bs3⟩
        go_wp2_with fail
        have at3 := At.keep (S := fun _ => False) (v := .int .i64 g.pr) at2 (Keep.below bs3) (fun x => x)
        have bw3 : Below w.heap.size w W3 := bw2.trans (bs3.mono bw2.size)
        have iv20 := iv20.below bs3
        refine hK.out _ _ at3 (fun hH3 => ?_)
        clear hK K
        try simp only [Act.put, List.getElem_toArray, List.getElem_cons_succ, List.getElem_cons_zero, List.setIfInBounds_toArray, List.set_cons_zero, List.set_cons_succ]
        refine wpAnyH_take (i := 5) (v := (.string (bs A ++ T4))) rfl (by kernel_rfl) (by kernel_rfl) (by kernel_rfl) (fun _ _ _ h => h) (Or.inl ⟨by rfl, fun wx hSw => by go_simp⟩) (by assumption) ?_
        simp only [Act.put, List.getElem_toArray, List.getElem_cons_succ, List.getElem_cons_zero, List.setIfInBounds_toArray, List.set_cons_zero, List.set_cons_succ]
        refine wpAnyH_ready (rs := [21]) (by kernel_rfl) (by simp) ?_
        refine AllReadyH.cons rfl (fun K hK => ?_) AllReadyH.nil
        have hC21 := HL5.out W3 _ iv20
        go_simp
        refine hC21.mono ?_
        rintro e W4 ⟨rfl, bs4⟩
        go_wp2_with fail
        have at4 := At.keep (S := fun _ => False) (v := .int .i64 g.pr) at3 (Keep.below bs4) (fun x => x)
        have bw4 : Below w.heap.size w W4 := bw3.trans (bs4.mono bw3.size)
        refine hK.out _ _ at4 (fun hH4 => ?_)
        clear hK K
        try simp only [Act.put, List.getElem_toArray, List.getElem_cons_succ, List.getElem_cons_zero, List.setIfInBounds_toArray, List.set_cons_zero, List.set_cons_succ]
        refine wpAnyH_take (i := 22) (v := (.string (bs A ++ T4 ++ T5))) rfl (by kernel_rfl) (by kernel_rfl) (by kernel_rfl) (fun _ _ _ h => h) (Or.inl ⟨by rfl, fun wx hSw => by go_simp⟩) (by assumption) ?_
        simp only [Act.put, List.getElem_toArray, List.getElem_cons_succ, List.getElem_cons_zero, List.setIfInBounds_toArray, List.set_cons_zero, List.set_cons_succ]
        refine wpAnyH_take (i := 23) (v := (.string (bs A ++ T4 ++ T5))) rfl (by kernel_rfl) (by kernel_rfl) (by kernel_rfl) (fun _ _ _ h => h) (Or.inl ⟨by rfl, fun wx hSw => by kernel_rfl⟩) (by assumption) ?_
        simp only [Act.put, List.getElem_toArray, List.getElem_cons_succ, List.getElem_cons_zero, List.setIfInBounds_toArray, List.set_cons_zero, List.set_cons_succ]
        refine wpAnyH_done (by kernel_rfl) ?_ _
        have bwx : Hid (Below w.heap.size w W4) := bw4
        rw [HJ.out]
        obtain ⟨A2, hA2⟩ : ∃ A2, A2 = A ++ lineB wAt [day] ++ lineB wNow (nwN g) := ⟨_, rfl⟩
        have HA2 : Hid (A2 = A ++ lineB wAt [day] ++ lineB wNow (nwN g)) := hA2
        rw [← hA2] at HSz2 ⊢
        clear hA2 HL4 HL5 HJ z1 z2 HRn HRd
        try generalize (W4 : World) = WW at *
        have c15 : WW.cell? ⟨D, 15, none⟩ = some (.slice bp L.length bcap) := (HLn.out WW bwx.out).cell 15 rfl
        clear c15
        go_wp2
        go_loopw [4, 9, 10] (fun s4 s9 _ wr => ∃ k : Nat, k ≤ L.length ∧ s4 = .string (bs (A2 ++ enT (L.take k))) ∧ s9 = .int .i64 k ∧ Below w.heap.size w wr) (fun _ s9 _ _ => (L.length - intOf s9).toNat)
        case atStart => exact ⟨0, Nat.zero_le _, by simp [enT], rfl, bwx.out⟩
        case round =>
          obtain ⟨k, hk, rfl, rfl, hb⟩ := hrel
          have HB : Hid (Below w.heap.size w wr) := hb
          have c15 : wr.cell? ⟨D, 15, none⟩ = some (.slice bp L.length bcap) := (HLn.out wr hb).cell 15 rfl
          have hS2 : (enT (L.take k)).length ≤ 400000000000000 := by
            have := enT_len (L.take k) (fun e he => HRg.out.en e (List.mem_of_mem_take he))
            rw [List.length_take] at this
            omega
          clear hb
          by_cases hlt : k < L.length
          · have zk : (k : Int) < (L.length : Int) := by omega
            obtain ⟨b, o, rfl, hbl, hr⟩ := HCell.out k hlt
            have hrw : wr.rangeAt b (o + k * 3) (enl L[k]) := fun j u hu => (World.cell?_of_block (w := w) (a := ⟨b, o + k * 3 + j, none⟩) (HB.out.block b hbl)).trans (hr j u hu)
            have hie : ∀ n ∈ enN L[k], InR n := HRg.out.en _ (List.getElem_mem hlt)
            have HTk : Hid (bs (A2 ++ enT (L.take (k + 1))) = bs (A2 ++ enT (L.take k)) ++ bs (lineB wEntry (enN L[k]))) := by
              show _ = _
              rw [bs_app, enT_take L k hlt, List.append_assoc]
            have hS3 : (lineB wEntry (enN L[k])).length ≤ 100 := by have := lineB_len wEntry (enN L[k]) hie; have e1 : wEntry.length = 5 := rfl; have e2 : (enN L[k]).length = 3 := rfl; omega
            clear hr
            generalize L[k] = en at *
            have z1 : ¬ 9223372036854775807 < (bs (A2 ++ enT (L.take k))).size + (bs (lineB wEntry (enN en))).size := by rw [bs_size, bs_size, List.length_append]; have := HSz2.out; omega
            clear hS2 hS3
            have a1 : At (wr.alloc (.cells (enl en).toArray 114)) wr.heap.size (enl en) := At.alloc wr (enl en) _
            have bw1 : Below w.heap.size w (wr.alloc (.cells (enl en).toArray 114)) := HB.out.alloc HB.out.size _
            go_upto_region 14 with fail
            refine wp_region_lit ?_
            refine wpList_val (.pointer (some ⟨D, 0, none⟩)) wr rfl rfl ?_
            simp only [Act.put, List.setIfInBounds_toArray, List.set_cons_zero, List.set_cons_succ]
            refine wpList_val (.pointer (some ⟨D, 0, none⟩)) wr rfl (by go_simp) ?_
            simp only [Act.put, List.setIfInBounds_toArray, List.set_cons_zero, List.set_cons_succ]
            refine wpList_val (.pointer (some ⟨D, 15, none⟩)) wr rfl (by go_simp) ?_
            simp only [Act.put, List.setIfInBounds_toArray, List.set_cons_zero, List.set_cons_succ]
            refine wpList_val (.slice (some ⟨b, o, none⟩) L.length bcap) wr rfl (by go_simp) ?_
            simp only [Act.put, List.setIfInBounds_toArray, List.set_cons_zero, List.set_cons_succ]
            refine wpList_val (.int .i64 k) wr rfl rfl ?_
            simp only [Act.put, List.setIfInBounds_toArray, List.set_cons_zero, List.set_cons_succ]
            refine wpList_val (.pointer (some ⟨b, o + k * 3, none⟩)) wr rfl (by go_simp) ?_
            simp only [Act.put, List.setIfInBounds_toArray, List.set_cons_zero, List.set_cons_succ]
            refine wpList_load_mid rfl 114 (.tmp 97) rfl b (o + k * 3) rfl (enl en) _ hrw Tryz.underlying114 rfl (by kernel_rfl) ?_
            simp only [Act.put, List.setIfInBounds_toArray, List.set_cons_zero, List.set_cons_succ]
            clear hrw HB c15
            go_upto_region 15 with (first | (refine wpList_store_new rfl 114 (.tmp 10) (.tmp 98) rfl (enl en).toArray _ rfl rfl (by kernel_rfl) rfl (by kernel_rfl) ?_) | fail)
            generalize wr.alloc (.cells (enl en).toArray 114) = V5 at *
            generalize wr.heap.size = N5 at *
            have hv := IsV.made V5 (enN en) 3
            have bw2 : Below w.heap.size w (V5.alloc (.cells ((enN en).map (Value.int .i64)).toArray 3)) := bw1.alloc bw1.size _
            have hLi := line_any (V5.alloc (.cells ((enN en).map (Value.int .i64)).toArray 3)) wEntry _ (enN en) hv hie (by show 5 + 22 * 3 ≤ _; omega)
            have c0 : V5.cell? ⟨N5, 0, none⟩ = some (.int .i64 en.d) := a1.cell 0 rfl
            have c1 : V5.cell? ⟨N5, 1, none⟩ = some (.int .i64 en.k) := a1.cell 1 rfl
            have c2 : V5.cell? ⟨N5, 2, none⟩ = some (.int .i64 en.a) := a1.cell 2 rfl
            generalize bs (A2 ++ enT (L.take k)) = S at *
            generalize bs (lineB wEntry (enN en)) = T at *
            go_wp2_with fail
            refine hLi.mono ?_
            rintro e w6 ⟨rfl, hb6⟩
            have HB6 : Hid (Below w.heap.size w w6) := bw2.trans (hb6.mono bw2.size)
            clear hLi hv c0 c1 c2 hb6 bw2 bw1 a1 hie
            go_wp2
            exact ⟨⟨k + 1, hlt, by rw [HTk.out], rfl, HB6.out⟩, by simp [intOf]; omega⟩
          · obtain rfl : k = L.length := by omega
            have zk : ¬ (L.length : Int) < (L.length : Int) := by omega
            have HE : Hid (bs (txtB t R g day L) = bs (A2 ++ enT (L.take L.length)) ++ bs [101, 110, 100, 10]) := by
              show _ = _
              rw [bs_app, List.take_length, HA2.out, HA.out]
              rfl
            have z1 : ¬ 9223372036854775807 < (bs (A2 ++ enT (L.take L.length))).size + 4 := by rw [bs_size, List.length_append]; have := HSz2.out; omega
            clear hS2
            generalize bs (A2 ++ enT (L.take L.length)) = S at *
            go_wp2
            go_ret
            exact ⟨R, HPm.out.1, HPm.out.2, by rw [HE.out]; rfl, HB.out⟩
end Go.Proofs.YtanndhoimpnhpaaGreatDoor
