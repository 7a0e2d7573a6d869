/- Joined by program: TxS, LwB, TyI, TyL. -/
import Derived.Test.YtanndhoimpnhpaaGreatDoorM24
import Derived.Test.YtanndhoimpnhpaaGreatDoorM21
import Derived.Test.YtanndhoimpnhpaaGreatDoorM1
import Derived.Test.YtanndhoimpnhpaaGreatDoorM13
import Derived.Test.YtanndhoimpnhpaaGreatDoorM14
import Derived.Test.YtanndhoimpnhpaaGreatDoorM8
import Derived.Test.YtanndhoimpnhpaaGreatDoorM19
import Derived.Deep.MidRow
import Derived.Test.YtanndhoimpnhpaaGreatDoorM9
namespace Go.Proofs.YtanndhoimpnhpaaGreatDoor
open Go.ChangeShapes Go.WideShapes Go.ChangeAt Go.RowKit Lg Cal
theorem Wr.below {w w' : World} {W : Nat} {txt : List UInt8} (h : Wr w W txt) (hb : Below w.heap.size w w') : Wr w' W txt := by
  obtain ⟨v, h1, h2⟩ := h
  exact ⟨v, At.keep (S := fun _ => False) h1 (Keep.below hb) (fun x => x), own_keep (S := fun _ => False) h2 (Keep.below hb) (fun _ _ x => x)⟩
theorem evN_at (e : Ln.Ev) (j : Nat) (hj : j < (evN e).length) : (evl e)[j]? = some (.int .i64 (evN e)[j]) := by
  match j, hj with
  | 0, _ => rfl
  | 1, _ => rfl
  | 2, _ => rfl
  | 3, _ => rfl
theorem enN_at (e : En) (j : Nat) (hj : j < (enN e).length) : (enl e)[j]? = some (.int .i64 (enN e)[j]) := by
  match j, hj with
  | 0, _ => rfl
  | 1, _ => rfl
  | 2, _ => rfl
theorem Nm.made1 {w : World} {W b o : Nat} {n : Int} (hc : w.cell? ⟨b, o, none⟩ = some (.int .i64 n)) (hs : Sf w W b) (hb : b < w.heap.size) (hW : W < w.heap.size) :
    Nm (w.alloc (.cells #[.pointer (some ⟨b, o, none⟩)] 110)) W (.slice (some ⟨w.heap.size, 0, none⟩) 1 1) [n] ∧ Wf W w (w.alloc (.cells #[.pointer (some ⟨b, o, none⟩)] 110)) := by
  have hB : Below w.heap.size w (w.alloc (.cells #[.pointer (some ⟨b, o, none⟩)] 110)) := (Below.refl _ _).alloc (Nat.le_refl _) _
  have hf : Wf W w (w.alloc (.cells #[.pointer (some ⟨b, o, none⟩)] 110)) := Wf.below hB (Nat.le_of_lt hW)
  refine ⟨⟨_, _, rfl, Nat.le_refl _, fun k hk => ⟨w.heap.size, 0, b, o, rfl, ?_, ?_, ?_, hs.keep hf⟩⟩, hf⟩
  · obtain rfl : k = 0 := by simp at hk; exact hk
    exact (At.alloc w [.pointer (some ⟨b, o, none⟩)] 110 0 _ rfl).1
  · obtain rfl : k = 0 := by simp at hk; exact hk
    exact (World.cell?_of_block (w := w) (a := ⟨b, o, none⟩) (hB.block b hb)).trans hc
  · exact .inr ⟨by omega, .cells #[.pointer (some ⟨b, o, none⟩)] 110, Array.getElem?_push_size, fun c fz e => by injection e with _ e _; exact absurd e (by decide)⟩
set_option maxRecDepth 10000 in
set_option maxHeartbeats 8000000 in
theorem save_any (w : World) (B P Mb : Nat) (t : Ln.Terms) (E : List Ln.Ev) (g : Ln.St) (day : Int) (L : List En) (evv bkv : Value) (h : LoX w B P Mb t E g day L evv bkv) (hr : Rg t E g day L) (hL : L.length ≤ 100000000000) (htab : Lib.TabIs Tryz.prog w "internal/strconv.uint64pow10" .u64 Lib.pow10Tab) :
    Calls Tryz.prog 18 #[.pointer (some ⟨B, 0, none⟩)] w fun e w' => e = .returned (.string (bs (txtB t E g day L))) ∧ Below w.heap.size w w' := by
  obtain ⟨W, hW⟩ : ∃ W, W = w.heap.size := ⟨_, rfl⟩
  have HW : Hid (W = w.heap.size) := hW
  have hBl : B < w.heap.size := At.lt (v := .int .i64 t.st) h.ln
  have HB : Hid (B < W) := by show B < W; omega
  have HBe : Hid (∀ wx, Wf W w wx → Below w.heap.size w wx) := fun wx hx => by rw [← hW]; exact hx.1
  have HLn : Hid (∀ wx, Wf W w wx → At wx B (ll t evv g day (.pointer (some ⟨P, 0, none⟩)))) := fun wx hx => At.keep (S := fun _ => False) (v := .int .i64 t.st) h.ln (Keep.below (HBe.out wx hx)) (fun x => x)
  have HTab : Hid (∀ wx, Wf W w wx → Lib.TabBelow Tryz.prog W wx "internal/strconv.uint64pow10" .u64 Lib.pow10Tab) := fun wx hx => by
    have := Lib.tabBelow_of_tabIs htab
    rw [← hW] at this
    exact this.on hx.1
  have HBk : Hid (∀ wx, Wf W w wx → BkIs wx P bkv Mb L) := fun wx hx => h.bk.keep (S := fun _ => False) (Keep.below (HBe.out wx hx)) (fun _ _ x => x)
  obtain ⟨pa, ecap, rfl⟩ := own_slice h.ev
  have HEv : Hid (∀ wx, Wf W w wx → ∀ k (hk : k < E.length), ∃ b, pa = some ⟨b, 0, none⟩ ∧ wx.rangeAt b (k * 4) (evl E[k])) := fun wx hx k hk => by
    obtain ⟨T, hn | ⟨gr, capr, cur, he, hgr⟩⟩ := id h.ev
    · omega
    · injection he with e1 _ e3
      subst e1 e3
      have hgl := (own_base h.ev (b := gr) rfl).2
      have hr := (own_range h.ev rfl k E[k] (List.getElem?_eq_getElem hk)).1
      exact ⟨gr, rfl, fun j u hu => (World.cell?_of_block (w := w) (a := ⟨gr, k * 4 + j, none⟩) ((HBe.out wx hx).block gr hgl)).trans (hr j u hu)⟩
  have HRg : Hid (Rg t E g day L) := hr
  have hE40 := h.le
  clear h hr htab hBl
  have b1 : Below w.heap.size w (w.alloc (.cells #[.slice none 0 0] 103)) := (Below.refl _ _).alloc (Nat.le_refl _) _
  have f1 : Wf W w (w.alloc (.cells #[.slice none 0 0] 103)) := Wf.below b1 (by omega)
  have a1 : At (w.alloc (.cells #[.slice none 0 0] 103)) w.heap.size [.slice none 0 0] := At.alloc w [.slice none 0 0] _
  rw [← hW] at a1
  have w1 : Wr (w.alloc (.cells #[.slice none 0 0] 103)) W [] := ⟨_, a1, World.ownsRow_nil _ _ _ _⟩
  have hWl1 : W < (w.alloc (.cells #[.slice none 0 0] 103)).heap.size := At.lt a1
  go_enter Tryz.func18, Tryz.ntmps18
  go_upto_region 2 with fail
  rw [← hW]
  clear hW a1 b1
  generalize w.alloc (.cells #[.slice none 0 0] 103) = V1 at *
  have hcs : ∀ j (hj : j < (tmN t).length), V1.cell? ⟨B, 0 + j, none⟩ = some (.int .i64 (tmN t)[j]) := fun j hj => by
    rw [Nat.zero_add]
    match j, hj with
    | 0, _ => exact (HLn.out _ f1).cell 0 rfl
    | 1, _ => exact (HLn.out _ f1).cell 1 rfl
    | 2, _ => exact (HLn.out _ f1).cell 2 rfl
    | 3, _ => exact (HLn.out _ f1).cell 3 rfl
    | 4, _ => exact (HLn.out _ f1).cell 4 rfl
    | 5, _ => exact (HLn.out _ f1).cell 5 rfl
  obtain ⟨nm2, f2⟩ := Nm.made hcs (.inl HB.out) (Nat.lt_trans HB.out hWl1) hWl1
  have w2 := w1.below (w' := V1.drew.alloc (.cells (ptrs B 0 (tmN t).length).toArray 110)) ((Below.refl _ _).drew.alloc (Nat.le_refl _) _)
  have HF2 : Hid (Wf W w (V1.drew.alloc (.cells (ptrs B 0 (tmN t).length).toArray 110))) := f1.trans f2
  have hCn := termsNumbers_any V1 B 0
  have hWt := wline_any (V1.drew.alloc (.cells (ptrs B 0 (tmN t).length).toArray 110)) W [] wLoan _ (tmN t) w2 nm2 HRg.out.tm (by show 0 + 4 + 22 * 6 ≤ _; omega) (HTab.out _ HF2.out)
  clear hcs nm2 f2 w2 w1 f1 hWl1
  go_wp2_with fail
  refine hCn.mono ?_
  rintro e w6 ⟨rfl, rfl⟩
  clear hCn
  go_wp2_with fail
  refine hWt.mono ?_
  rintro e w3 ⟨rfl, hW3, hf3⟩
  have HW3 : Hid (Wr w3 W (lineB wLoan (tmN t))) := hW3
  have HF3 : Hid (Wf W w w3) := HF2.out.trans hf3
  have c6 : w3.cell? ⟨B, 6, none⟩ = some (.slice pa E.length ecap) := (HLn.out _ HF3.out).cell 6 rfl
  clear hWt hW3 hf3 HF2
  go_wp2
  go_loopw [5, 18] (fun _ s18 wr => ∃ k : Nat, k ≤ E.length ∧ s18 = .int .i64 k ∧ Wr wr W (lineB wLoan (tmN t) ++ evT (E.take k)) ∧ Wf W w wr) (fun _ s18 _ => E.length - (intOf s18).toNat)
  case atStart => exact ⟨0, Nat.zero_le _, rfl, by simpa [evT] using HW3.out, HF3.out⟩
  case round =>
    clear HW3 HF3 c6
    obtain ⟨k, hk, rfl, hWr, hf⟩ := hrel
    have HF : Hid (Wf W w wr) := hf
    have HWr : Hid (Wr wr W (lineB wLoan (tmN t) ++ evT (E.take k))) := hWr
    have hWl : W < wr.heap.size := by obtain ⟨v, h1, _⟩ := hWr; exact At.lt h1
    have hS : (lineB wLoan (tmN t) ++ evT (E.take k)).length ≤ 100000 := by
      have h1 := lineB_len wLoan (tmN t) HRg.out.tm
      have h2 := evT_len (E.take k) (fun e he => HRg.out.ev e (List.mem_of_mem_take he))
      rw [List.length_take] at h2
      have e1 : wLoan.length = 4 := rfl
      have e2 : (tmN t).length = 6 := rfl
      rw [List.length_append]
      omega
    clear hf hWr
    by_cases hlt : k < E.length
    · have zk : (k : Int) < (E.length : Int) := by omega
      obtain ⟨b, rfl, hrw⟩ := HEv.out wr HF.out k hlt
      have hie : ∀ n ∈ evN E[k], InR n := HRg.out.ev _ (List.getElem_mem hlt)
      have HTk : Hid (lineB wLoan (tmN t) ++ evT (E.take (k + 1)) = lineB wLoan (tmN t) ++ evT (E.take k) ++ lineB wEvent (evN E[k])) := by
        show _ = _
        rw [evT_take E k hlt, List.append_assoc]
      generalize E[k] = ev at *
      generalize lineB wLoan (tmN t) ++ evT (E.take k) = S at *
      go_upto_region 5 with fail
      refine wp_region_lit ?_
      refine wpList_val (.pointer (some ⟨b, k * 4, none⟩)) wr rfl (by go_simp) ?_
      simp only [Act.put, List.setIfInBounds_toArray, List.set_cons_zero, List.set_cons_succ]
      refine wpList_load_mid rfl 50 (.tmp 20) rfl b (k * 4) rfl (evl ev) _ hrw Tryz.underlying50 rfl (by kernel_rfl) ?_
      simp only [Act.put, List.setIfInBounds_toArray, List.set_cons_zero, List.set_cons_succ]
      clear hrw
      go_upto_region 6 with (first | (refine wpList_store_new rfl 50 (.tmp 5) (.tmp 21) rfl (evl ev).toArray _ rfl rfl (by kernel_rfl) rfl (by kernel_rfl) ?_) | fail)
      have hB5 : Below wr.heap.size wr (wr.alloc (.cells (evl ev).toArray 50)) := (Below.refl _ _).alloc (Nat.le_refl _) _
      have a5 : At (wr.alloc (.cells (evl ev).toArray 50)) wr.heap.size (evl ev) := At.alloc wr (evl ev) _
      have s5 : Sf (wr.alloc (.cells (evl ev).toArray 50)) W wr.heap.size := .inr ⟨by omega, .cells (evl ev).toArray 50, Array.getElem?_push_size, fun c fz e => by injection e with _ e _; exact absurd e (by decide)⟩
      have f5 : Wf W w (wr.alloc (.cells (evl ev).toArray 50)) := HF.out.trans (Wf.below hB5 (by omega))
      have w5 : Wr (wr.alloc (.cells (evl ev).toArray 50)) W S := HWr.out.below hB5
      have hWl5 : W < (wr.alloc (.cells (evl ev).toArray 50)).heap.size := Nat.lt_of_lt_of_le hWl hB5.size
      have hNl5 : wr.heap.size < (wr.alloc (.cells (evl ev).toArray 50)).heap.size := At.lt (v := .int .i64 ev.d) a5
      clear hB5 HF HWr
      generalize wr.alloc (.cells (evl ev).toArray 50) = V5 at *
      generalize wr.heap.size = N5 at *
      have hcs : ∀ j (hj : j < (evN ev).length), V5.cell? ⟨N5, 0 + j, none⟩ = some (.int .i64 (evN ev)[j]) := fun j hj => by
        rw [Nat.zero_add]
        exact a5.cell j (evN_at ev j hj)
      obtain ⟨nm6, f6⟩ := Nm.made hcs s5 hNl5 hWl5
      have w6 : Wr (V5.drew.alloc (.cells (ptrs N5 0 (evN ev).length).toArray 110)) W S := w5.below ((Below.refl _ _).drew.alloc (Nat.le_refl _) _)
      have f7 := f5.trans f6
      have hCn := eventNumbers_any V5 N5 0
      have hWt := wline_any (V5.drew.alloc (.cells (ptrs N5 0 (evN ev).length).toArray 110)) W S wEvent _ (evN ev) w6 nm6 hie (by show S.length + 5 + 22 * 4 ≤ _; omega) (HTab.out _ f7)
      have HF7 : Hid (Wf W w (V5.drew.alloc (.cells (ptrs N5 0 (evN ev).length).toArray 110))) := f7
      clear a5 s5 f5 w5 hcs nm6 f6 w6 f7 hWl5 hNl5 hie hWl
      go_wp2_with fail
      refine hCn.mono ?_
      rintro e w6 ⟨rfl, rfl⟩
      clear hCn
      go_wp2_with fail
      refine hWt.mono ?_
      rintro e w7 ⟨rfl, hW7, hf7⟩
      have HW7 : Hid (Wr w7 W (S ++ lineB wEvent (evN ev))) := hW7
      have HF8 : Hid (Wf W w w7) := HF7.out.trans hf7
      clear hWt hW7 hf7 HF7
      go_wp2
      exact ⟨⟨k + 1, hlt, rfl, by rw [HTk.out]; exact HW7.out, HF8.out⟩, by simp [intOf]; omega⟩
    · obtain rfl : k = E.length := by omega
      have zk : ¬ (E.length : Int) < (E.length : Int) := by omega
      rw [List.take_length] at HWr hS
      obtain ⟨A, hA⟩ : ∃ A, A = lineB wLoan (tmN t) ++ evT E := ⟨_, rfl⟩
      have HA : Hid (A ++ lineB wAt [day] ++ lineB wNow (nwN g) ++ enT L ++ lineB wEnd [] = txtB t E g day L) := by show _ = _; rw [hA]; rfl
      rw [← hA] at HWr hS
      clear hA
      have c14 : wr.cell? ⟨B, 14, none⟩ = some (.int .i64 day) := (HLn.out _ HF.out).cell 14 rfl
      obtain ⟨nm8, f8⟩ := Nm.made1 c14 (.inl HB.out) (Nat.lt_trans HB.out hWl) hWl
      have w8 := HWr.out.below (w' := wr.alloc (.cells #[.pointer (some ⟨B, 14, none⟩)] 110)) ((Below.refl _ _).alloc (Nat.le_refl _) _)
      have HRd : Hid (∀ n ∈ [day], InR n) := fun n hn => by rw [List.mem_singleton] at hn; subst hn; exact HRg.out.dy
      have HF8 : Hid (Wf W w (wr.alloc (.cells #[.pointer (some ⟨B, 14, none⟩)] 110))) := HF.out.trans f8
      have hWt := wline_any (wr.alloc (.cells #[.pointer (some ⟨B, 14, none⟩)] 110)) W A wAt _ [day] w8 nm8 HRd.out (by show A.length + 2 + 22 * 1 ≤ _; omega) (HTab.out _ HF8.out)
      clear c14 nm8 f8 w8 HF HWr hWl
      go_wp2_with fail
      refine hWt.mono ?_
      rintro e w9 ⟨rfl, hW9, hf9⟩
      have HF9 : Hid (Wf W w w9) := HF8.out.trans hf9
      have hS9 : (A ++ lineB wAt [day]).length ≤ 200000 := by
        have h1 := lineB_len wAt [day] HRd.out
        have e1 : wAt.length = 2 := rfl
        have e2 : [day].length = 1 := rfl
        rw [List.length_append]
        omega
      have hWl9 : W < w9.heap.size := by obtain ⟨v, h1, _⟩ := id hW9; exact At.lt h1
      have hcs : ∀ j (hj : j < (nwN g).length), w9.cell? ⟨B, 7 + j, none⟩ = some (.int .i64 (nwN g)[j]) := fun j hj => by
        match j, hj with
        | 0, _ => exact (HLn.out _ HF9.out).cell 7 rfl
        | 1, _ => exact (HLn.out _ HF9.out).cell 8 rfl
        | 2, _ => exact (HLn.out _ HF9.out).cell 9 rfl
        | 3, _ => exact (HLn.out _ HF9.out).cell 10 rfl
        | 4, _ => exact (HLn.out _ HF9.out).cell 11 rfl
        | 5, _ => exact (HLn.out _ HF9.out).cell 12 rfl
        | 6, _ => exact (HLn.out _ HF9.out).cell 13 rfl
      obtain ⟨nm2, f2⟩ := Nm.made hcs (.inl HB.out) (Nat.lt_trans HB.out hWl9) hWl9
      have w2 := hW9.below (w' := w9.drew.alloc (.cells (ptrs B 7 (nwN g).length).toArray 110)) ((Below.refl _ _).drew.alloc (Nat.le_refl _) _)
      have HF2 : Hid (Wf W w (w9.drew.alloc (.cells (ptrs B 7 (nwN g).length).toArray 110))) := HF9.out.trans f2
      have hCn := owedNumbers_any w9 B 7
      have hS10 : (A ++ lineB wAt [day] ++ lineB wNow (nwN g)).length ≤ 300000 := by
        have h1 := lineB_len wNow (nwN g) HRg.out.nw
        have e1 : wNow.length = 3 := rfl
        have e2 : (nwN g).length = 7 := rfl
        rw [List.length_append]
        omega
      have hWt2 := wline_any (w9.drew.alloc (.cells (ptrs B 7 (nwN g).length).toArray 110)) W (A ++ lineB wAt [day]) wNow _ (nwN g) w2 nm2 HRg.out.nw (by show _ + 3 + 22 * 7 ≤ _; omega) (HTab.out _ HF2.out)
      clear hcs nm2 f2 w2 hWt hW9 hf9 HF8 hWl9 hS9 hS
      go_wp2_with fail
      refine hCn.mono ?_
      rintro e w6 ⟨rfl, rfl⟩
      clear hCn
      go_wp2_with fail
      refine hWt2.mono ?_
      rintro e w10 ⟨rfl, hW10, hf10⟩
      have HF10 : Hid (Wf W w w10) := HF2.out.trans hf10
      have HW10 : Hid (Wr w10 W (A ++ lineB wAt [day] ++ lineB wNow (nwN g))) := hW10
      have hWl10 : W < w10.heap.size := by obtain ⟨v, h1, _⟩ := hW10; exact At.lt h1
      clear hWt2 hW10 hf10 HF2 HF9
      generalize A ++ lineB wAt [day] ++ lineB wNow (nwN g) = A2 at *
      have c15 : w10.cell? ⟨B, 15, none⟩ = some (.pointer (some ⟨P, 0, none⟩)) := (HLn.out _ HF10.out).cell 15 rfl
      have hFr := from_any w10 P bkv Mb L (HBk.out _ HF10.out) (by omega) 0
      rw [show kf 0 L.length = 0 by simp [kf], List.drop_zero, Nat.sub_zero] at hFr
      go_wp2_with fail
      refine hFr.mono ?_
      rintro e w11 ⟨v, rfl, ho, hb11⟩
      obtain ⟨pb, bcap, rfl⟩ := own_slice ho
      have HF11 : Hid (Wf W w w11) := HF10.out.trans (Wf.below hb11 (by omega))
      have HW11 : Hid (Wr w11 W A2) := HW10.out.below hb11
      have HTabE : Hid (∀ wx, Wf W w11 wx → Lib.TabBelow Tryz.prog W wx "internal/strconv.uint64pow10" .u64 Lib.pow10Tab) := fun wx hx => HTab.out wx (HF11.out.trans hx)
      have HEn : Hid (∀ wx, Wf W w11 wx → ∀ k (hk : k < L.length), ∃ b o, pb = some ⟨b, o, none⟩ ∧ wx.rangeAt b (o + k * 3) (enl L[k])) := fun wx hx k hk => by
        obtain ⟨p2, cap2, e, _, hcell⟩ := own_en ho
        injection e with e1 _ _
        subst e1
        obtain ⟨b, o, rfl, hbl, hrg⟩ := hcell k hk
        obtain ⟨cur, hcur⟩ := own_row ho (k := b) rfl
        have hbg := (own_base ho (b := b) rfl).1
        have hsf : Sf w11 W b := .inr ⟨by omega, _, hcur, fun c fz e => by injection e with _ e _; exact absurd e (by decide)⟩
        exact ⟨b, o, rfl, fun j u hu => (World.cell?_of_block (w := w11) (a := ⟨b, o + k * 3 + j, none⟩) (hsf.same hx)).trans (hrg j u hu)⟩
      clear hFr c15 ho hb11 HF10 HW10 hWl10 HEv HBk HLn
      go_wp2
      go_loopw [7, 42] (fun _ s42 wr => ∃ k : Nat, k ≤ L.length ∧ s42 = .int .i64 k ∧ Wr wr W (A2 ++ enT (L.take k)) ∧ Wf W w11 wr) (fun _ s42 _ => L.length - (intOf s42).toNat)
      case atStart => exact ⟨0, Nat.zero_le _, rfl, by simpa [enT] using HW11.out, Wf.refl _ _⟩
      case round =>
        clear HW11
        obtain ⟨k, hk, rfl, hWr, hf⟩ := hrel
        have HF : Hid (Wf W w11 wr) := hf
        have HWr : Hid (Wr wr W (A2 ++ enT (L.take k))) := hWr
        have hWl : W < wr.heap.size := by obtain ⟨v, h1, _⟩ := hWr; exact At.lt h1
        have hS : (A2 ++ enT (L.take k)).length ≤ 20000000000000 := by
          have h2 := enT_len (L.take k) (fun e he => HRg.out.en e (List.mem_of_mem_take he))
          rw [List.length_take] at h2
          rw [List.length_append]
          omega
        clear hf hWr
        by_cases hlt : k < L.length
        · have zk : (k : Int) < (L.length : Int) := by omega
          obtain ⟨b, o, rfl, hrw⟩ := HEn.out wr HF.out k hlt
          have hie : ∀ n ∈ enN L[k], InR n := HRg.out.en _ (List.getElem_mem hlt)
          have HTk : Hid (A2 ++ enT (L.take (k + 1)) = A2 ++ enT (L.take k) ++ lineB wEntry (enN L[k])) := by
            show _ = _
            rw [enT_take L k hlt, List.append_assoc]
          generalize L[k] = en at *
          generalize A2 ++ enT (L.take k) = S at *
          go_upto_region 12 with fail
          refine wp_region_lit ?_
          refine wpList_val (.pointer (some ⟨b, o + k * 3, none⟩)) wr rfl (by go_simp) ?_
          simp only [Act.put, List.setIfInBounds_toArray, List.set_cons_zero, List.set_cons_succ]
          refine wpList_load_mid rfl 114 (.tmp 44) rfl b (o + k * 3) rfl (enl en) _ hrw Tryz.underlying114 rfl (by kernel_rfl) ?_
          simp only [Act.put, List.setIfInBounds_toArray, List.set_cons_zero, List.set_cons_succ]
          clear hrw
          go_upto_region 13 with (first | (refine wpList_store_new rfl 114 (.tmp 7) (.tmp 45) rfl (enl en).toArray _ rfl rfl (by kernel_rfl) rfl (by kernel_rfl) ?_) | fail)
          have hB5 : Below wr.heap.size wr (wr.alloc (.cells (enl en).toArray 114)) := (Below.refl _ _).alloc (Nat.le_refl _) _
          have a5 : At (wr.alloc (.cells (enl en).toArray 114)) wr.heap.size (enl en) := At.alloc wr (enl en) _
          have s5 : Sf (wr.alloc (.cells (enl en).toArray 114)) W wr.heap.size := .inr ⟨by omega, .cells (enl en).toArray 114, Array.getElem?_push_size, fun c fz e => by injection e with _ e _; exact absurd e (by decide)⟩
          have f5 : Wf W w11 (wr.alloc (.cells (enl en).toArray 114)) := HF.out.trans (Wf.below hB5 (by omega))
          have w5 : Wr (wr.alloc (.cells (enl en).toArray 114)) W S := HWr.out.below hB5
          have hWl5 : W < (wr.alloc (.cells (enl en).toArray 114)).heap.size := Nat.lt_of_lt_of_le hWl hB5.size
          have hNl5 : wr.heap.size < (wr.alloc (.cells (enl en).toArray 114)).heap.size := At.lt (v := .int .i64 en.d) a5
          clear hB5 HF HWr
          generalize wr.alloc (.cells (enl en).toArray 114) = V5 at *
          generalize wr.heap.size = N5 at *
          have hcs : ∀ j (hj : j < (enN en).length), V5.cell? ⟨N5, 0 + j, none⟩ = some (.int .i64 (enN en)[j]) := fun j hj => by
            rw [Nat.zero_add]
            exact a5.cell j (enN_at en j hj)
          obtain ⟨nm6, f6⟩ := Nm.made hcs s5 hNl5 hWl5
          have w6 : Wr (V5.drew.alloc (.cells (ptrs N5 0 (enN en).length).toArray 110)) W S := w5.below ((Below.refl _ _).drew.alloc (Nat.le_refl _) _)
          have f7 := f5.trans f6
          have hCn := entryNumbers_any V5 N5 0
          have hWt := wline_any (V5.drew.alloc (.cells (ptrs N5 0 (enN en).length).toArray 110)) W S wEntry _ (enN en) w6 nm6 hie (by show S.length + 5 + 22 * 3 ≤ _; omega) (HTabE.out _ f7)
          have HF7 : Hid (Wf W w11 (V5.drew.alloc (.cells (ptrs N5 0 (enN en).length).toArray 110))) := f7
          clear a5 s5 f5 w5 hcs nm6 f6 w6 f7 hWl5 hNl5 hie hWl
          go_wp2_with fail
          refine hCn.mono ?_
          rintro e w6 ⟨rfl, rfl⟩
          clear hCn
          go_wp2_with fail
          refine hWt.mono ?_
          rintro e w7 ⟨rfl, hW7, hf7⟩
          have HW7 : Hid (Wr w7 W (S ++ lineB wEntry (enN en))) := hW7
          have HF8 : Hid (Wf W w11 w7) := HF7.out.trans hf7
          clear hWt hW7 hf7 HF7
          go_wp2
          exact ⟨⟨k + 1, hlt, rfl, by rw [HTk.out]; exact HW7.out, HF8.out⟩, by simp [intOf]; omega⟩
        · obtain rfl : k = L.length := by omega
          have zk : ¬ (L.length : Int) < (L.length : Int) := by omega
          rw [List.take_length] at HWr hS
          have hWt := wline_any wr W (A2 ++ enT L) wEnd (.slice none 0 0) [] HWr.out ⟨none, 0, rfl, Nat.le_refl _, fun k hk => absurd hk (Nat.not_lt_zero k)⟩ (fun n hn => absurd hn List.not_mem_nil) (by show _ + 3 + 22 * 0 ≤ _; omega) (HTabE.out _ HF.out)
          rw [HA.out] at hWt
          go_wp2_with fail
          refine hWt.mono ?_
          rintro e w12 ⟨rfl, hW12, hf12⟩
          have hTx := text_any w12 W _ hW12 (by rw [← HA.out, List.length_append]; show 0 < _ + 4; omega)
          have HE : Hid (Below w.heap.size w w12) := HBe.out _ (HF11.out.trans (HF.out.trans hf12))
          clear hWt hW12 hf12 HF HWr HEn HF11
          go_wp2_with fail
          refine hTx.mono ?_
          rintro e w13 ⟨rfl, rfl⟩
          clear hTx
          go_wp2
          go_ret
          exact ⟨rfl, HE.out⟩
end Go.Proofs.YtanndhoimpnhpaaGreatDoor
namespace Go.Proofs.YtanndhoimpnhpaaGreatDoor
open Go.ChangeShapes Go.WideShapes Go.ChangeAt Go.RowKit Go.WideMaps Go.Maps Lg Cal
end Go.Proofs.YtanndhoimpnhpaaGreatDoor
namespace Go.Proofs.YtanndhoimpnhpaaGreatDoor
open Go.ChangeShapes Go.WideShapes Go.ChangeAt Go.RowKit Lg Cal
def PlPost (w : World) (s : List UInt8) (e : Ending) (w' : World) : Prop :=
  Below w.heap.size w w' ∧ ((∃ sv B F, told s = some sv ∧ e = .returned (.tuple #[.pointer (some ⟨B, 0, none⟩), .int .i64 0]) ∧ IsL w' B sv F ∧ ∀ x, F x → w.heap.size ≤ x ∧ x < w'.heap.size) ∨ (told s = none ∧ e = .returned (.tuple #[.pointer none, .int .i64 10])))
theorem lim_low {w w' : World} (h : Lim w) (hb : Below w.heap.size w w') : Lim w' := h.keep (S := fun _ => False) (Keep.below hb) (fun x => x)
set_option maxRecDepth 10000 in
set_option maxHeartbeats 1000000 in
theorem load_any (w : World) (s : List UInt8) (hs : Sh s) (hg : Gl w) (hl : Lim w) :
    Calls Tryz.prog 11 #[.string (bs s)] w (PlPost w s) := by
  have hNr := newreader_any w s
  have HG : Hid (Gl w ∧ Lim w) := ⟨hg, hl⟩
  have HRl : Hid (∀ w1 : World, At w1 w.heap.size [.string (bs s)] → Below w.heap.size w w1 → Calls Tryz.prog 33 #[.pointer (some ⟨w.heap.size, 0, none⟩)] w1 fun e w' => RlPost w1 w.heap.size s e w' ∧ Below w.heap.size w w') := fun w1 h1 h2 => (readloan_any w1 w.heap.size w.heap.size s h1 (Nat.le_refl _) hs (fun wx hx => ⟨HG.out.1.below (h2.trans hx), lim_low HG.out.2 (h2.trans hx)⟩)).mono (fun e w' h => ⟨h, h2.trans h.1⟩)
  clear hg hl
  generalize bs s = S at *
  go_enter Tryz.func11, Tryz.ntmps11
  go_wp2_with fail
  refine hNr.mono ?_
  rintro e w1 ⟨rfl, hA, hb⟩
  have hz := hb.size
  have hC := HRl.out w1 hA hb
  clear hNr HRl hA hb
  go_wp2_with fail
  refine hC.mono ?_
  rintro e w2 ⟨⟨_, h2⟩, hb2⟩
  clear hC
  rcases h2 with ⟨sv, B, F, ht, rfl, hL, hF⟩ | ⟨ht, q, rfl⟩
  · have HE : Hid (PlPost w s (.returned (.tuple #[.pointer (some ⟨B, 0, none⟩), .int .i64 0])) w2) := ⟨hb2, .inl ⟨sv, B, F, ht, rfl, hL, fun x hx => by have := hF x hx; omega⟩⟩
    clear ht hL hF hb2 hz
    go_wp2
    go_ret2
    exact HE.out
  · have HE : Hid (PlPost w s (.returned (.tuple #[.pointer none, .int .i64 10])) w2) := ⟨hb2, .inr ⟨ht, rfl⟩⟩
    clear ht hb2 hz
    go_wp2
    go_ret2
    exact HE.out
end Go.Proofs.YtanndhoimpnhpaaGreatDoor
namespace Go.Proofs.YtanndhoimpnhpaaGreatDoor
open Go.ChangeShapes Go.WideShapes Go.RowKit Go.WideMaps Go.Maps Cal
def EA (t : Ln.Terms) (E : List Ln.Ev) (e : Ln.Ev) (E1 : List Ln.Ev) : Prop := (¬ addC t E e = 0 ∧ E1 = E) ∨ (addC t E e = 0 ∧ E1.Perm (e :: E))
theorem EA.one {t : Ln.Terms} {E E1 E2 : List Ln.Ev} {e : Ln.Ev} (h1 : EA t E e E1) (h2 : EA t E e E2) (s1 : E1.Pairwise So.Ah) (s2 : E2.Pairwise So.Ah) : E1 = E2 := by
  rcases h1 with ⟨a, rfl⟩ | ⟨a, p1⟩
  · rcases h2 with ⟨_, rfl⟩ | ⟨b, _⟩
    · rfl
    · exact absurd b a
  · rcases h2 with ⟨b, _⟩ | ⟨_, p2⟩
    · exact absurd a b
    · exact So.sorted_one (p1.trans p2.symm) s1 s2
theorem addC_zero {t : Ln.Terms} {E : List Ln.Ev} {e : Ln.Ev} (h : addC t E e = 0) : evF t e = 0 ∧ ∀ x ∈ E, ¬ e.s = x.s := by
  rw [addC_eq] at h
  split at h
  · rename_i hx; exact absurd h hx
  · rename_i hx
    split at h
    · omega
    · split at h
      · omega
      · rename_i hs
        refine ⟨by omega, fun x hx he => hs ?_⟩
        unfold hasS
        rw [List.any_eq_true]
        exact ⟨x, hx, by simp [he]⟩
theorem Sav.add {t : Ln.Terms} {E E1 : List Ln.Ev} {g : Ln.St} {day : Int} {L : List En} {e : Ln.Ev} (h : Sav t E g day L) (ha : EA t E e E1) (so : E1.Pairwise So.Ah) (le : E1.length ≤ 40) (hs : InR e.s) : Sav t E1 g day L := by
  rcases ha with ⟨_, rfl⟩ | ⟨a, p⟩
  · exact h
  · obtain ⟨z1, z2⟩ := addC_zero a
    refine h.evs so ?_ (fun x hx => ?_) le
    · refine (p.symm.pairwise_iff (fun x => fun y => x y.symm)).1 ?_
      exact List.pairwise_cons.2 ⟨z2, h.ds⟩
    · rcases List.mem_cons.1 (p.mem_iff.1 hx) with rfl | hx
      · exact ⟨z1, hs⟩
      · exact h.f0 x hx
theorem One.add {F : Nat → Prop} {w wx : World} {NT B : Nat} {t : Ln.Terms} {E : List Ln.Ev} {g : Ln.St} {d : Int} {L : List En} (h : One w NT B t E g d L F wx) (hb : Below w.heap.size w wx) (hlim : Lim w) (hNT : NT < wx.heap.size) (e : Ln.Ev) :
    Calls Tryz.prog 19 #[.pointer (some ⟨B, 0, none⟩), evV e] wx fun r wy => r = .returned (.int .i64 (addC t E e)) ∧ Keep F wx wy ∧ ∃ E1, EA t E e E1 ∧ One w NT B t E1 g d L (Wd F wx wy) wy := by
  refine (addL wx B t E g d L F h.lo e (hlim.below hb)).mono ?_
  rintro r wy ⟨rfl, hk, hx⟩
  have hO : ∀ E1, Lo wy B t E1 g d L (Wd F wx wy) → One w NT B t E1 g d L (Wd F wx wy) wy := fun E1 hl => by
    refine ⟨hl, ?_, ?_, ?_⟩
    · rintro (x | x)
      · exact h.nt x
      · omega
    · rintro b (x | x)
      · exact h.ge b x
      · have := hb.size; omega
    · rintro b (x | x)
      · exact Nat.lt_of_lt_of_le (h.lt b x) hk.size
      · exact x.2
  refine ⟨rfl, hk, ?_⟩
  rcases hx with ⟨a, hl⟩ | ⟨a, E1, p, hl⟩
  · exact ⟨E, .inl ⟨a, rfl⟩, hO E hl⟩
  · exact ⟨E1, .inr ⟨a, p⟩, hO E1 hl⟩
structure Half (w : World) (NT : Nat) (t : Ln.Terms) (E1 E2 : List Ln.Ev) (B1 B2 : Nat) (g1 : Ln.St) (d1 : Int) (L1 : List En) (g2 : Ln.St) (d2 : Int) (L2 : List En) (F1 F2 : Nat → Prop) (wx : World) : Prop where
  x : One w NT B1 t E1 g1 d1 L1 F1 wx
  y : One w NT B2 t E2 g2 d2 L2 F2 wx
  ap : ∀ b, F1 b → ¬ F2 b
  bl : Below w.heap.size w wx
theorem Two.addX {F1 F2 : Nat → Prop} {w wx : World} {NT B1 B2 : Nat} {t : Ln.Terms} {E : List Ln.Ev} {g1 g2 : Ln.St} {d1 d2 : Int} {L1 L2 : List En} (h : Two w NT t E B1 B2 g1 d1 L1 g2 d2 L2 F1 F2 wx) (hlim : Lim w) (hNT : NT < wx.heap.size) (e : Ln.Ev) :
    Calls Tryz.prog 19 #[.pointer (some ⟨B1, 0, none⟩), evV e] wx fun r wy => r = .returned (.int .i64 (addC t E e)) ∧ Keep F1 wx wy ∧ ∃ E1, EA t E e E1 ∧ Half w NT t E1 E B1 B2 g1 d1 L1 g2 d2 L2 (Wd F1 wx wy) F2 wy := by
  refine (h.x.add h.bl hlim hNT e).mono ?_
  rintro r wy ⟨rfl, hk, E1, ha, ho⟩
  refine ⟨rfl, hk, E1, ha, ho, h.y.keep hk (fun b hb hx => h.ap b hx hb), ?_, Keep.fresh h.bl hk h.x.ge⟩
  rintro b (x | x)
  · exact h.ap b x
  · intro y; have := h.y.lt b y; omega
theorem Half.addY {F1 F2 : Nat → Prop} {w wx : World} {NT B1 B2 : Nat} {t : Ln.Terms} {E E1 : List Ln.Ev} {g1 g2 : Ln.St} {d1 d2 : Int} {L1 L2 : List En} {e : Ln.Ev} (h : Half w NT t E1 E B1 B2 g1 d1 L1 g2 d2 L2 F1 F2 wx) (ha : EA t E e E1) (hlim : Lim w) (hNT : NT < wx.heap.size) :
    Calls Tryz.prog 19 #[.pointer (some ⟨B2, 0, none⟩), evV e] wx fun r wy => r = .returned (.int .i64 (addC t E e)) ∧ Keep F2 wx wy ∧ Two w NT t E1 B1 B2 g1 d1 L1 g2 d2 L2 F1 (Wd F2 wx wy) wy := by
  refine (h.y.add h.bl hlim hNT e).mono ?_
  rintro r wy ⟨rfl, hk, E2, ha2, ho⟩
  have hx := h.x.keep hk (fun b hb hx => h.ap b hb hx)
  obtain rfl := ha.one ha2 hx.lo.facts.1 ho.lo.facts.1
  refine ⟨rfl, hk, hx, ho, ?_, Keep.fresh h.bl hk h.y.ge⟩
  intro b hb
  rintro (x | x)
  · exact h.ap b hb x
  · have := h.x.lt b hb; omega
theorem saveL (w : World) (B : Nat) (t : Ln.Terms) (E : List Ln.Ev) (g : Ln.St) (day : Int) (L : List En) (F : Nat → Prop) (h : Lo w B t E g day L F) (hs : Sav t E g day L) (hL : L.length ≤ 100000000000) (hg : Gl w) :
    Calls Tryz.prog 18 #[.pointer (some ⟨B, 0, none⟩)] w fun e w' => e = .returned (.string (bs (txtB t E g day L))) ∧ Below w.heap.size w w' := by
  obtain ⟨P, Mb, evv, bkv, h1, _⟩ := h
  exact save_any w B P Mb t E g day L evv bkv h1 hs.rg hL hg.tb
theorem loadL (w : World) (t : Ln.Terms) (E : List Ln.Ev) (g : Ln.St) (day : Int) (L : List En) (hs : Sav t E g day L) (hL : L.length ≤ 9900000000) (hg : Gl w) (hl : Lim w) :
    Calls Tryz.prog 11 #[.string (bs (txtB t E g day L))] w fun e w' => ∃ B F, e = .returned (.tuple #[.pointer (some ⟨B, 0, none⟩), .int .i64 0]) ∧ Lo w' B t E (cents g) day L F ∧ (∀ x, F x → w.heap.size ≤ x ∧ x < w'.heap.size) ∧ Below w.heap.size w w' := by
  refine (load_any w (txtB t E g day L) (hs.sh hL) hg hl).mono ?_
  rintro e w' ⟨hb, ⟨sv, B, F, ht, rfl, hL, hF⟩ | ⟨ht, _⟩⟩
  · rw [hs.told] at ht
    obtain rfl := Option.some.inj ht
    exact ⟨B, F, rfl, hL, hF, hb⟩
  · rw [hs.told] at ht
    exact absurd ht (by simp)
end Go.Proofs.YtanndhoimpnhpaaGreatDoor
