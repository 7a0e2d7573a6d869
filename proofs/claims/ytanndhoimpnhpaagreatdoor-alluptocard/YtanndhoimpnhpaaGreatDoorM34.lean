import Derived.Test.YtanndhoimpnhpaaGreatDoorM33
import Derived.Test.YtanndhoimpnhpaaGreatDoorM28
import Derived.Test.YtanndhoimpnhpaaGreatDoorM20
import Derived.Test.YtanndhoimpnhpaaGreatDoorM32
namespace Go.Proofs.YtanndhoimpnhpaaGreatDoor
open Go.ChangeShapes Go.WideShapes Go.ChangeAt Go.RowKit Lg Cal
def PlPost (w : World) (s : List UInt8) (e : Ending) (w' : World) : Prop :=
  Below w.heap.size w w' ∧ ((∃ sv B F, told s = some sv ∧ e = .returned (.tuple #[.pointer (some ⟨B, 0, none⟩), .int .i64 0]) ∧ IsL w' B sv F ∧ ∀ x, F x → w.heap.size ≤ x ∧ x < w'.heap.size) ∨ (told s = none ∧ e = .returned (.tuple #[.pointer none, .int .i64 10])))
theorem lim_low {w w' : World} (h : Lim w) (hb : Below w.heap.size w w') : Lim w' := h.keep (S := fun _ => False) (Keep.below hb) (fun x => x)
set_option maxRecDepth 10000 in
set_option maxHeartbeats 1000000 in
theorem load_any (w : World) (s : List UInt8) (hs : Sh s) (hg : Gl w) (hl : Lim w) :
    Calls Tryz.prog 11 #[.string (bs s)] w (PlPost w s) := by
  have hNr := newreader_any w s
  have HG : Hid (Gl w ∧ Lim w) := ⟨hg, hl⟩
  have HRl : Hid (∀ w1 : World, At w1 w.heap.size [.string (bs s)] → Below w.heap.size w w1 → Calls Tryz.prog 33 #[.pointer (some ⟨w.heap.size, 0, none⟩)] w1 fun e w' => RlPost w1 w.heap.size s e w' ∧ Below w.heap.size w w') := fun w1 h1 h2 => (readloan_any w1 w.heap.size w.heap.size s h1 (Nat.le_refl _) hs (fun wx hx => ⟨HG.out.1.below (h2.trans hx), lim_low HG.out.2 (h2.trans hx)⟩)).mono (fun e w' h => ⟨h, h2.trans h.1⟩)
  clear hg hl
  generalize bs s = S at *
  go_enter Tryz.func11, Tryz.ntmps11
  go_wp2_with fail
  refine hNr.mono ?_
  rintro e w1 ⟨rfl, hA, hb⟩
  have hz := hb.size
  have hC := HRl.out w1 hA hb
  clear hNr HRl hA hb
  go_wp2_with fail
  refine hC.mono ?_
  rintro e w2 ⟨⟨_, h2⟩, hb2⟩
  clear hC
  rcases h2 with ⟨sv, B, F, ht, rfl, hL, hF⟩ | ⟨ht, q, rfl⟩
  · have HE : Hid (PlPost w s (.returned (.tuple #[.pointer (some ⟨B, 0, none⟩), .int .i64 0])) w2) := ⟨hb2, .inl ⟨sv, B, F, ht, rfl, hL, fun x hx => by have := hF x hx; omega⟩⟩
    clear ht hL hF hb2 hz
    go_wp2
    go_ret2
    exact HE.out
  · have HE : Hid (PlPost w s (.returned (.tuple #[.pointer none, .int .i64 10])) w2) := ⟨hb2, .inr ⟨ht, rfl⟩⟩
    clear ht hb2 hz
    go_wp2
    go_ret2
    exact HE.out
def LdPost (w : World) (s : List UInt8) (e : Ending) (w' : World) : Prop :=
  Below w.heap.size w w' ∧ ((told s = none ∧ e = .returned (.tuple #[.agg #[.pointer none, .pointer none], .bool true])) ∨
    (∃ sv B D F1 F2, told s = some sv ∧ e = .returned (.tuple #[.agg #[.pointer (some ⟨B, 0, none⟩), .pointer (some ⟨D, 0, none⟩)], .bool true]) ∧ TwX w' B D sv.t sv.l sv.l sv.g sv.day sv.L F1 F2 ∧ (∀ b, F1 b → w.heap.size ≤ b) ∧ (∀ b, F2 b → w.heap.size ≤ b)))
set_option maxRecDepth 10000 in
set_option maxHeartbeats 2000000 in
theorem loaded_any (w : World) (s : List UInt8) (hs : Sh s) (hg : Gl w) (hl : Lim w) :
    Calls Tryz.prog 10 #[.string (bs s)] w (LdPost w s) := by
  have hb1 : Below w.heap.size w (w.alloc (.cells #[.pointer none, .pointer none] 31)) := (Below.refl _ _).alloc (Nat.le_refl _) _
  have hA1 : At (w.alloc (.cells #[.pointer none, .pointer none] 31)) w.heap.size [.pointer none, .pointer none] := At.alloc w [.pointer none, .pointer none] _
  have hLd := load_any (w.alloc (.cells #[.pointer none, .pointer none] 31)) s hs (hg.below hb1) (lim_low hl hb1)
  have HG : Hid (Gl w ∧ Lim w) := ⟨hg, hl⟩
  have HB1 : Hid (Below w.heap.size w (w.alloc (.cells #[.pointer none, .pointer none] 31)) ∧ w.heap.size < (w.alloc (.cells #[.pointer none, .pointer none] 31)).heap.size) := ⟨hb1, At.lt hA1⟩
  have HA1 : Hid (At (w.alloc (.cells #[.pointer none, .pointer none] 31)) w.heap.size [.pointer none, .pointer none]) := hA1
  have HRf : Hid (∀ wx, Calls Tryz.prog 31 #[.string (bs s)] wx (LoadPost wx s)) := fun wx => refload_any wx s hs.2
  have HSv : Hid (∀ wx B sv F, IsL wx B sv F → told s = some sv → Below w.heap.size w wx → Calls Tryz.prog 18 #[.pointer (some ⟨B, 0, none⟩)] wx fun e w' => e = .returned (.string (bs s)) ∧ Below wx.heap.size wx w') := fun wx B sv F h1 h2 h3 => by
    obtain ⟨P, Mb, evv, bkv, h4, _⟩ := h1
    obtain ⟨e1, e2⟩ := told_txt h2
    have e3 := txtB_more sv.t sv.l sv.g sv.day sv.L
    rw [← e1] at e3
    have := save_any wx B P Mb sv.t sv.l sv.g sv.day sv.L evv bkv h4 e2 (by have := hs.2; omega) (HG.out.1.below h3).tb
    rw [← e1] at this
    exact this
  clear hb1 hA1 hg hl
  generalize bs s = S at *
  go_enter Tryz.func10, Tryz.ntmps10
  go_upto_region 1 with fail
  generalize w.alloc (.cells #[.pointer none, .pointer none] 31) = V0 at *
  go_wp2_with fail
  refine hLd.mono ?_
  rintro e w1 ⟨hb1, ⟨sv, B, F, ht, rfl, hL, hF⟩ | ⟨ht, rfl⟩⟩
  · have HL1 : Hid (IsL w1 B sv F ∧ (∀ x, F x → V0.heap.size ≤ x ∧ x < w1.heap.size) ∧ Below V0.heap.size V0 w1) := ⟨hL, hF, hb1⟩
    have HTo : Hid (told s = some sv) := ht
    clear hLd hL hF hb1 ht
    go_wp2_with fail
    refine (HRf.out w1).mono ?_
    rintro e w2 ⟨hb2, ⟨sv', D, ht, rfl, hD⟩ | ⟨ht, _⟩⟩
    · obtain rfl : sv = sv' := Option.some.inj (HTo.out.symm.trans ht)
      have HD2 : Hid (IsD w2 D sv (Wd (fun _ => False) w1 w2) ∧ Below w1.heap.size w1 w2) := ⟨hD, hb2⟩
      clear ht hD hb2
      go_wp2_with fail
      refine (num_any 0 w2).mono ?_
      rintro x w' ⟨rfl, hw'⟩
      obtain rfl := hw'.symm
      clear hw'
      have hbV2 : Below V0.heap.size V0 w2 := HL1.out.2.2.trans (HD2.out.2.mono HL1.out.2.2.size)
      have hbw2 : Below w.heap.size w w2 := HB1.out.1.trans (hbV2.mono HB1.out.1.size)
      have hSv := HSv.out w2 B sv F (HL1.out.1.keep (S := fun _ => False) (Keep.below HD2.out.2) (fun _ _ x => x)) HTo.out hbw2
      have HBV2 : Hid (Below V0.heap.size V0 w2 ∧ Below w.heap.size w w2) := ⟨hbV2, hbw2⟩
      clear hbV2 hbw2
      go_wp2_with fail
      refine hSv.mono ?_
      rintro x w3 ⟨rfl, hb3⟩
      clear hSv
      go_upto_region 7 with fail
      have hbV3 : Below V0.heap.size V0 w3 := HBV2.out.1.trans (hb3.mono HBV2.out.1.size)
      have a2 : At w3 w.heap.size [.pointer none, .pointer none] := At.keep (S := fun _ => False) (v := .pointer none) HA1.out (Keep.below hbV3) (fun x => x)
      have a3 : At (w3.setCells w.heap.size 0 [.pointer (some ⟨B, 0, none⟩), .pointer (some ⟨D, 0, none⟩)]) w.heap.size [.pointer (some ⟨B, 0, none⟩), .pointer (some ⟨D, 0, none⟩)] := a2.setCells_same rfl
      have HE : Hid (LdPost w s (.returned (.tuple #[.agg #[.pointer (some ⟨B, 0, none⟩), .pointer (some ⟨D, 0, none⟩)], .bool true])) (w3.setCells w.heap.size 0 [.pointer (some ⟨B, 0, none⟩), .pointer (some ⟨D, 0, none⟩)])) := by
        have kS : Keep (fun b => b = w.heap.size) w3 (w3.setCells w.heap.size 0 [.pointer (some ⟨B, 0, none⟩), .pointer (some ⟨D, 0, none⟩)]) := Keep.setCells (S := fun b => b = w.heap.size) rfl _ _ _ (Keep.refl _ _)
        have hbw3 : Below w.heap.size w w3 := HB1.out.1.trans (hbV3.mono HB1.out.1.size)
        have hz1 := HB1.out.2
        have hz2 := HL1.out.2.2.size
        have hz3 := HD2.out.2.size
        have hz4 := hb3.size
        have hF := HL1.out.2.1
        have hlo : Lo w3 B sv.t sv.l sv.g sv.day sv.L F := (HL1.out.1.keep (S := fun _ => False) (Keep.below (HD2.out.2.trans (hb3.mono hz3))) (fun _ _ x => x))
        have hdc : Dc w3 D sv.t sv.l sv.g sv.day sv.L (Wd (fun _ => False) w1 w2) := Dc.keep (S := fun _ => False) HD2.out.1 (Keep.below hb3) (fun _ _ x => x)
        refine ⟨dfresh hbw3 kS (fun b hb => by omega) hbw3.size, .inr ⟨sv, B, D, F, Wd (fun _ => False) w1 w2, HTo.out, rfl, TwX.keep ⟨hlo, hdc, List.Perm.refl _, ?_, ?_, ?_, (told_sav HTo.out).2⟩ kS ?_ ?_, ?_, ?_⟩⟩
        · rintro b x (y | y)
          · exact y
          · have := hF b x; omega
        · intro b x
          have := hF b x; omega
        · rintro b (x | x)
          · exact x.elim
          · omega
        · intro b x
          have := hF b x; omega
        · rintro b (x | x)
          · exact x.elim
          · omega
        · intro b x
          have := hF b x; omega
        · rintro b (x | x)
          · exact x.elim
          · omega
      refine wp_region_lit ?_
      refine wpList_val (.pointer (some ⟨B, 0, none⟩)) w3 rfl rfl ?_
      simp only [Act.put, List.setIfInBounds_toArray, List.set_cons_zero, List.set_cons_succ]
      refine wpList_val (.pointer (some ⟨D, 0, none⟩)) w3 rfl rfl ?_
      simp only [Act.put, List.setIfInBounds_toArray, List.set_cons_zero, List.set_cons_succ]
      refine wpList_val (.agg #[.pointer (some ⟨B, 0, none⟩), .pointer (some ⟨D, 0, none⟩)]) w3 rfl (by kernel_rfl) ?_
      simp only [Act.put, List.setIfInBounds_toArray, List.set_cons_zero, List.set_cons_succ]
      refine wpList_val (.string S) w3 rfl rfl ?_
      simp only [Act.put, List.setIfInBounds_toArray, List.set_cons_zero, List.set_cons_succ]
      refine wpList_val (.string S) w3 rfl rfl ?_
      simp only [Act.put, List.setIfInBounds_toArray, List.set_cons_zero, List.set_cons_succ]
      refine wpList_val (.bool true) w3 rfl (by go_simp) ?_
      simp only [Act.put, List.setIfInBounds_toArray, List.set_cons_zero, List.set_cons_succ]
      refine wpList_store_mid rfl 31 (.tmp 2) (.tmp 37) rfl w.heap.size 0 #[.pointer (some ⟨B, 0, none⟩), .pointer (some ⟨D, 0, none⟩)] rfl rfl (a2.there 2 rfl) (by kernel_rfl) (by kernel_rfl) ?_
      change wpList _ _ _ _ _ (w3.setCells w.heap.size 0 [.pointer (some ⟨B, 0, none⟩), .pointer (some ⟨D, 0, none⟩)])
      generalize w3.setCells w.heap.size 0 [.pointer (some ⟨B, 0, none⟩), .pointer (some ⟨D, 0, none⟩)] = W9 at *
      have c0 : W9.cell? ⟨w.heap.size, 0, none⟩ = some (.pointer (some ⟨B, 0, none⟩)) := a3.cell 0 rfl
      have c1 : W9.cell? ⟨w.heap.size, 1, none⟩ = some (.pointer (some ⟨D, 0, none⟩)) := a3.cell 1 rfl
      clear a2 a3 hbV3 hb3
      go_wp2
      exact bodyPost_ret (v := .tuple #[.agg #[.pointer (some ⟨B, 0, none⟩), .pointer (some ⟨D, 0, none⟩)], .bool true]) (by simp [results, Tryz.results10, go_sem, c0, c1]) rfl HE.out
    · exact absurd (HTo.out.symm.trans ht) (by simp)
  · have HL1 : Hid (Below V0.heap.size V0 w1) := hb1
    have HTo : Hid (told s = none) := ht
    clear hLd hb1 ht
    go_wp2_with fail
    refine (HRf.out w1).mono ?_
    rintro e w2 ⟨hb2, ⟨sv', D, ht, _⟩ | ⟨_, rfl⟩⟩
    · exact absurd (HTo.out.symm.trans ht) (by simp)
    · have HB2 : Hid (Below w1.heap.size w1 w2) := hb2
      clear hb2
      go_wp2_with fail
      refine (num_any 10 w2).mono ?_
      rintro x w' ⟨rfl, hw'⟩
      obtain rfl := hw'.symm
      clear hw'
      have hbV2 : Below V0.heap.size V0 w2 := HL1.out.trans (HB2.out.mono HL1.out.size)
      go_upto_region 8 with fail
      have a2 : At w2 w.heap.size [.pointer none, .pointer none] := At.keep (S := fun _ => False) (v := .pointer none) HA1.out (Keep.below hbV2) (fun x => x)
      have a3 : At (w2.setCells w.heap.size 0 [.pointer none, .pointer none]) w.heap.size [.pointer none, .pointer none] := a2.setCells_same rfl
      have HE : Hid (LdPost w s (.returned (.tuple #[.agg #[.pointer none, .pointer none], .bool true])) (w2.setCells w.heap.size 0 [.pointer none, .pointer none])) := by
        have kS : Keep (fun b => b = w.heap.size) w2 (w2.setCells w.heap.size 0 [.pointer none, .pointer none]) := Keep.setCells (S := fun b => b = w.heap.size) rfl _ _ _ (Keep.refl _ _)
        have hbw2 : Below w.heap.size w w2 := HB1.out.1.trans (hbV2.mono HB1.out.1.size)
        exact ⟨dfresh hbw2 kS (fun b hb => by omega) hbw2.size, .inl ⟨HTo.out, rfl⟩⟩
      refine wp_region_lit ?_
      refine wpList_val (.agg #[.pointer none, .pointer none]) w2 rfl (by kernel_rfl) ?_
      simp only [Act.put, List.setIfInBounds_toArray, List.set_cons_zero, List.set_cons_succ]
      refine wpList_store_mid rfl 31 (.tmp 2) (.tmp 41) rfl w.heap.size 0 #[.pointer none, .pointer none] rfl rfl (a2.there 2 rfl) (by kernel_rfl) (by kernel_rfl) ?_
      change wpList _ _ _ _ _ (w2.setCells w.heap.size 0 [.pointer none, .pointer none])
      generalize w2.setCells w.heap.size 0 [.pointer none, .pointer none] = W9 at *
      have c0 : W9.cell? ⟨w.heap.size, 0, none⟩ = some (.pointer none) := a3.cell 0 rfl
      have c1 : W9.cell? ⟨w.heap.size, 1, none⟩ = some (.pointer none) := a3.cell 1 rfl
      clear a2 a3 hbV2
      go_wp2
      exact bodyPost_ret (v := .tuple #[.agg #[.pointer none, .pointer none], .bool true]) (by simp [results, Tryz.results10, go_sem, c0, c1]) rfl HE.out
end Go.Proofs.YtanndhoimpnhpaaGreatDoor
