/- Joined by program: LwC, LwD, LwE, LwF, BsD, BsI, BsJ, BsL. -/
import Derived.Test.YtanndhoimpnhpaaGreatDoorM35
import Derived.Test.YtanndhoimpnhpaaGreatDoorM33
import Derived.Test.YtanndhoimpnhpaaGreatDoorM29
import Derived.Test.YtanndhoimpnhpaaGreatDoorM25
import Derived.Test.YtanndhoimpnhpaaGreatDoorM31
import Derived.Deep.CutRange
import Derived.Test.YtanndhoimpnhpaaGreatDoorM22
import Derived.Test.YtanndhoimpnhpaaGreatDoorM24
import Derived.Test.YtanndhoimpnhpaaGreatDoorM6
namespace Go.Proofs.YtanndhoimpnhpaaGreatDoor
open Go.ChangeShapes Go.WideShapes Go.ChangeAt Go.RowKit Go.WideMaps Go.Maps Lg Cal
theorem dl_bal (t : Ln.Terms) (ev : Value) (g : Ln.St) (day : Int) (bk : Value) : ∀ j u, (bll g day)[j]? = some u → (dl t ev g day bk)[7 + j]? = some u := by
  intro j u h
  match j, h with
  | 0, h => exact h
  | 1, h => exact h
  | 2, h => exact h
  | 3, h => exact h
  | 4, h => exact h
  | 5, h => exact h
  | 6, h => exact h
  | 7, h => exact h
set_option maxRecDepth 10000 in
set_option maxHeartbeats 2000000 in
theorem lawbal_any (w : World) (B D : Nat) (t : Ln.Terms) (E l : List Ln.Ev) (g : Ln.St) (day : Int) (L : List En) (F1 F2 : Nat → Prop) (h : TwX w B D t E l g day L F1 F2) :
    Calls Tryz.prog 28 #[.agg #[.pointer (some ⟨B, 0, none⟩), .pointer (some ⟨D, 0, none⟩)]] w fun e w' => e = .returned (.bool true) ∧ Below w.heap.size w w' := by
  have b0 : Below w.heap.size w (w.alloc (.cells #[.pointer (some ⟨B, 0, none⟩), .pointer (some ⟨D, 0, none⟩)] 31)) := (Below.refl _ _).alloc (Nat.le_refl _) _
  have a0 : At (w.alloc (.cells #[.pointer (some ⟨B, 0, none⟩), .pointer (some ⟨D, 0, none⟩)] 31)) w.heap.size [.pointer (some ⟨B, 0, none⟩), .pointer (some ⟨D, 0, none⟩)] := At.alloc w [.pointer (some ⟨B, 0, none⟩), .pointer (some ⟨D, 0, none⟩)] _
  have hB := balanceL _ B t E g day L F1 (h.below b0).pr
  obtain ⟨evv, bkv, hD, _⟩ := (h.below b0).dc
  have HD : Hid (At (w.alloc (.cells #[.pointer (some ⟨B, 0, none⟩), .pointer (some ⟨D, 0, none⟩)] 31)) D (dl t evv g day bkv)) := hD.ln
  have c0 : (w.alloc (.cells #[.pointer (some ⟨B, 0, none⟩), .pointer (some ⟨D, 0, none⟩)] 31)).cell? ⟨w.heap.size, 0, none⟩ = some (.pointer (some ⟨B, 0, none⟩)) := a0.cell 0 rfl
  have HA0 : Hid (At (w.alloc (.cells #[.pointer (some ⟨B, 0, none⟩), .pointer (some ⟨D, 0, none⟩)] 31)) w.heap.size [.pointer (some ⟨B, 0, none⟩), .pointer (some ⟨D, 0, none⟩)]) := a0
  have HB0 : Hid (Below w.heap.size w (w.alloc (.cells #[.pointer (some ⟨B, 0, none⟩), .pointer (some ⟨D, 0, none⟩)] 31))) := b0
  clear hD a0 b0 h
  go_enter Tryz.func28, Tryz.ntmps28
  go_wp2_with fail
  generalize w.alloc (.cells #[.pointer (some ⟨B, 0, none⟩), .pointer (some ⟨D, 0, none⟩)] 31) = V0 at *
  refine hB.mono ?_
  rintro x w1 ⟨rfl, hb1⟩
  clear hB c0
  unfold blV
  have hb2 : Below V0.heap.size V0 (w1.alloc (.cells (bll g day).toArray 52)) := hb1.alloc hb1.size _
  have HS : Hid (At (w1.alloc (.cells (bll g day).toArray 52)) w1.heap.size (bll g day) ∧ At (w1.alloc (.cells (bll g day).toArray 52)) w.heap.size [.pointer (some ⟨B, 0, none⟩), .pointer (some ⟨D, 0, none⟩)] ∧ At (w1.alloc (.cells (bll g day).toArray 52)) D (dl t evv g day bkv) ∧ Below w.heap.size w (w1.alloc (.cells (bll g day).toArray 52))) :=
    ⟨At.alloc w1 _ _, At.keep (S := fun _ => False) (v := .pointer (some ⟨B, 0, none⟩)) HA0.out (Keep.below hb2) (fun x => x), At.keep (S := fun _ => False) (v := .int .i64 t.st) HD.out (Keep.below hb2) (fun x => x), HB0.out.trans (hb2.mono HB0.out.size)⟩
  clear HA0 HD HB0 hb1 hb2
  go_wp2_with (first | (refine wpList_store_new rfl 52 (.tmp 3) (.tmp 6) rfl (bll g day).toArray _ rfl rfl (by kernel_rfl) rfl (by kernel_rfl) ?_) | fail)
  generalize w1.alloc (.cells (bll g day).toArray 52) = V1 at *
  generalize w1.heap.size = N3 at *
  go_upto_region 2 with fail
  refine wp_region_held_drew (S := fun wx => At wx N3 (bll g day) ∧ At wx w.heap.size [.pointer (some ⟨B, 0, none⟩), .pointer (some ⟨D, 0, none⟩)] ∧ At wx D (dl t evv g day bkv) ∧ Below w.heap.size w wx) (by kernel_rfl) ⟨HS.out.1.drew, HS.out.2.1.drew, HS.out.2.2.1.drew, HS.out.2.2.2.drew⟩ (fun hHeld => ?_)
  clear HS
  generalize V1.drew = V2 at *
  refine wpAnyH_take (i := 0) (v := (.agg (bll g day).toArray)) rfl (by kernel_rfl) (by kernel_rfl) (by kernel_rfl) (fun _ _ _ h => h) (yieldsIf_load_mid (by rfl) 52 (.tmp 3) rfl _ _ rfl _ _ (fun _ h => h.1.range) Tryz.underlying52 rfl (by kernel_rfl)) (by assumption) ?_
  simp only [Act.put, List.getElem_toArray, List.getElem_cons_zero, List.setIfInBounds_toArray, List.set_cons_zero, List.set_cons_succ]
  refine wpAnyH_take (i := 1) (v := (.pointer (some ⟨w.heap.size, 1, none⟩))) rfl (by kernel_rfl) (by kernel_rfl) (by kernel_rfl) (fun _ _ _ h => h) (Or.inl ⟨by rfl, fun wx hSw => by kernel_rfl⟩) (by assumption) ?_
  simp only [Act.put, List.getElem_toArray, List.getElem_cons_succ, List.getElem_cons_zero, List.setIfInBounds_toArray, List.set_cons_zero, List.set_cons_succ]
  refine wpAnyH_take (i := 2) (v := (.pointer (some ⟨D, 0, none⟩))) rfl (by kernel_rfl) (by kernel_rfl) (by kernel_rfl) (fun _ _ _ h => h) (Or.inl ⟨by rfl, fun wx hSw => by (have hc : wx.cell? ⟨w.heap.size, 1, none⟩ = some (.pointer (some ⟨D, 0, none⟩)) := hSw.2.1.cell 1 rfl; go_simp)⟩) (by assumption) ?_
  simp only [Act.put, List.getElem_toArray, List.getElem_cons_succ, List.getElem_cons_zero, List.setIfInBounds_toArray, List.set_cons_zero, List.set_cons_succ]
  refine wpAnyH_take (i := 3) (v := (.pointer (some ⟨D, 0, none⟩))) rfl (by kernel_rfl) (by kernel_rfl) (by kernel_rfl) (fun _ _ _ h => h) (Or.inl ⟨by rfl, fun wx hSw => by kernel_rfl⟩) (by assumption) ?_
  simp only [Act.put, List.getElem_toArray, List.getElem_cons_succ, List.getElem_cons_zero, List.setIfInBounds_toArray, List.set_cons_zero, List.set_cons_succ]
  refine wpAnyH_take (i := 4) (v := (.pointer (some ⟨D, 7, none⟩))) rfl (by kernel_rfl) (by kernel_rfl) (by kernel_rfl) (fun _ _ _ h => h) (Or.inl ⟨by rfl, fun wx hSw => by kernel_rfl⟩) (by assumption) ?_
  simp only [Act.put, List.getElem_toArray, List.getElem_cons_succ, List.getElem_cons_zero, List.setIfInBounds_toArray, List.set_cons_zero, List.set_cons_succ]
  refine wpAnyH_take (i := 5) (v := (.agg (bll g day).toArray)) rfl (by kernel_rfl) (by kernel_rfl) (by kernel_rfl) (fun _ _ _ h => h) (yieldsIf_load_mid (by rfl) 52 (.tmp 11) rfl _ _ rfl _ _ (fun _ h => h.2.2.1.mid 7 _ (dl_bal t _ g day _)) Tryz.underlying52 rfl (by kernel_rfl)) (by assumption) ?_
  simp only [Act.put, List.getElem_toArray, List.getElem_cons_succ, List.getElem_cons_zero, List.setIfInBounds_toArray, List.set_cons_zero, List.set_cons_succ]
  refine wpAnyH_take (i := 6) (v := (.bool true)) rfl (by kernel_rfl) (by kernel_rfl) (by kernel_rfl) (fun _ _ _ h => h) (Or.inl ⟨by rfl, fun wx hSw => by (unfold bll; go_simp)⟩) (by assumption) ?_
  simp only [Act.put, List.getElem_toArray, List.getElem_cons_succ, List.getElem_cons_zero, List.setIfInBounds_toArray, List.set_cons_zero, List.set_cons_succ]
  refine wpAnyH_take (i := 7) (v := (.bool true)) rfl (by kernel_rfl) (by kernel_rfl) (by kernel_rfl) (fun _ _ _ h => h) (Or.inl ⟨by rfl, fun wx hSw => by kernel_rfl⟩) (by assumption) ?_
  simp only [Act.put, List.getElem_toArray, List.getElem_cons_succ, List.getElem_cons_zero, List.setIfInBounds_toArray, List.set_cons_zero, List.set_cons_succ]
  refine wpAnyH_done (by kernel_rfl) ?_ _
  have HB : Hid (Below w.heap.size w V2) := hHeld.2.2.2
  clear hHeld
  go_wp2
  go_ret
  exact ⟨rfl, HB.out⟩
end Go.Proofs.YtanndhoimpnhpaaGreatDoor
namespace Go.Proofs.YtanndhoimpnhpaaGreatDoor
open Go.ChangeShapes Go.WideShapes Go.ChangeAt Go.RowKit Go.WideMaps Go.Maps Lg Cal
def wl (p0 d0 p1 d1 : Value) : List Value := [.slice none 0 0, .slice none 0 0, .slice none 0 0, .slice none 0 0, .slice none 0 0, .slice none 0 0, p0, d0, p1, d1]
end Go.Proofs.YtanndhoimpnhpaaGreatDoor
namespace Go.Proofs.YtanndhoimpnhpaaGreatDoor
open Go.ChangeShapes Go.WideShapes Go.ChangeAt Go.RowKit Go.WideMaps Go.Maps Lg Cal
structure MdX (w : World) (B D : Nat) (t : Ln.Terms) (E l : List Ln.Ev) (g g2 : Ln.St) (day day2 : Int) (L L2 : List En) (F1 F2 : Nat → Prop) : Prop where
  pr : Lo w B t E g day L F1
  dc : Dc w D t l g2 day2 L2 F2
  ap : ∀ b, F1 b → ¬ F2 b
  l1 : ∀ b, F1 b → b < w.heap.size
  l2 : ∀ b, F2 b → b < w.heap.size
theorem TwX.mid {w w' : World} {B D : Nat} {t : Ln.Terms} {E E' l : List Ln.Ev} {g g' : Ln.St} {day day' : Int} {L L' : List En} {F1 F2 : Nat → Prop} (h : TwX w B D t E l g day L F1 F2) (hk : Keep F1 w w') (hlo : Lo w' B t E' g' day' L' (Wd F1 w w')) : MdX w' B D t E' l g' g day' day L' L (Wd F1 w w') F2 := by
  obtain ⟨h1, h2, h3, h4, h5⟩ := h.pstep hk hlo
  exact ⟨h1, h2, h3, h4, h5⟩
def PAdd (w : World) (B D : Nat) (t : Ln.Terms) (l : List Ln.Ev) (g : Ln.St) (day : Int) (L : List En) (F1 F2 : Nat → Prop) (e : Ln.Ev) (x : Ending) (w' : World) : Prop :=
  x = .returned (.int .i64 (addC t l e)) ∧ Keep F1 w w' ∧ ∃ E', ((¬ addC t l e = 0 ∧ E'.Perm l) ∨ (addC t l e = 0 ∧ E'.Perm (l ++ [e]))) ∧ MdX w' B D t E' l g g day day L L (Wd F1 w w') F2
theorem TwX.padd {w : World} {B D : Nat} {t : Ln.Terms} {E l : List Ln.Ev} {g : Ln.St} {day : Int} {L : List En} {F1 F2 : Nat → Prop} (h : TwX w B D t E l g day L F1 F2) (e : Ln.Ev) (hlim : Lim w) :
    Calls Tryz.prog 19 #[.pointer (some ⟨B, 0, none⟩), evV e] w (PAdd w B D t l g day L F1 F2 e) := by
  refine (addL w B t E g day L F1 h.pr e hlim).mono ?_
  rw [addC_perm h.pm e]
  rintro x w' ⟨rfl, hk, ⟨hn, hlo⟩ | ⟨hz, E', hE', hlo⟩⟩
  · exact ⟨rfl, hk, E, .inl ⟨hn, h.pm⟩, h.mid hk hlo⟩
  · exact ⟨rfl, hk, E', .inr ⟨hz, hE'.trans ((List.Perm.cons e h.pm).trans (List.perm_append_singleton e l).symm)⟩, h.mid hk hlo⟩
def Again (w : World) (B D : Nat) (t : Ln.Terms) (L : List En) (F1 F2 : Nat → Prop) (w' : World) : Prop :=
  Keep F2 w w' ∧ ∃ E l g day, TwX w' B D t E l g day L F1 (Wd F2 w w')
theorem MdX.dadd {w : World} {B D : Nat} {t : Ln.Terms} {E E' l : List Ln.Ev} {g : Ln.St} {day : Int} {L : List En} {F1 F2 : Nat → Prop} (h : MdX w B D t E' l g g day day L L F1 F2) (e : Ln.Ev) (hp : (¬ addC t l e = 0 ∧ E'.Perm l) ∨ (addC t l e = 0 ∧ E'.Perm (l ++ [e]))) (hS : Sav t E g day L) (hpm : E.Perm l) (hin : InR e.s) :
    Calls Tryz.prog 57 #[.pointer (some ⟨D, 0, none⟩), evc e] w fun x w' => x = .returned (.int .i64 (addC t l e)) ∧ Again w B D t L F1 F2 w' := by
  have hS2 : Sav t E' g day L := by
    obtain ⟨_, _, _, _, hX, _⟩ := h.pr
    exact hS.told1 hpm hp hX.so hX.le hin
  refine (refaddD w D t l g day L F2 h.dc e).mono ?_
  rintro x w' ⟨rfl, hk, ⟨hn, hdc⟩ | ⟨hz, hdc⟩⟩
  · rcases hp with hp | hp
    · exact ⟨rfl, hk, E', l, g, day, dstep h.pr h.ap h.l1 h.l2 hk hdc hp.2 hS2⟩
    · exact absurd hp.1 hn
  · rcases hp with hp | hp
    · exact absurd hz hp.1
    · exact ⟨rfl, hk, E', l ++ [e], g, day, dstep h.pr h.ap h.l1 h.l2 hk hdc hp.2 hS2⟩
def canC (q : Int) (l : List Ln.Ev) : Int := if hasS q l = true then 0 else 9
def PCan (w : World) (B D : Nat) (t : Ln.Terms) (l : List Ln.Ev) (g : Ln.St) (day : Int) (L : List En) (F1 F2 : Nat → Prop) (q : Int) (x : Ending) (w' : World) : Prop :=
  x = .returned (.int .i64 (canC q l)) ∧ Keep F1 w w' ∧ ∃ E', E'.Perm (if hasS q l = true then wo q l else l) ∧ MdX w' B D t E' l g g day day L L (Wd F1 w w') F2
theorem TwX.pcan {w : World} {B D : Nat} {t : Ln.Terms} {E l : List Ln.Ev} {g : Ln.St} {day : Int} {L : List En} {F1 F2 : Nat → Prop} (h : TwX w B D t E l g day L F1 F2) (q : Int) :
    Calls Tryz.prog 58 #[.pointer (some ⟨B, 0, none⟩), .int .i64 q] w (PCan w B D t l g day L F1 F2 q) := by
  obtain ⟨_, _, hD, _⟩ := h.dc
  refine (cancelL w B t E g day L F1 h.pr q).mono ?_
  rintro x w' ⟨hk, ⟨hn, rfl, hlo⟩ | ⟨rfl, i, hi, _, hs, hlo⟩⟩
  · rw [hasS_perm h.pm] at hn
    refine ⟨by unfold canC; rw [if_neg (by simp [hn])], hk, E, ?_, h.mid hk hlo⟩
    rw [if_neg (by simp [hn])]
    exact h.pm
  · have hh : hasS q l = true := by
      rw [← hasS_perm h.pm]
      exact List.any_eq_true.2 ⟨E[i], List.getElem_mem hi, by simp [hs]⟩
    refine ⟨by unfold canC; rw [if_pos hh], hk, _, ?_, h.mid hk hlo⟩
    rw [if_pos hh, erase_wo (ah_distinct h.pm hD.ds) i hi hs]
    exact wo_perm h.pm
theorem MdX.dcan {w : World} {B D : Nat} {t : Ln.Terms} {E E' l : List Ln.Ev} {g : Ln.St} {day : Int} {L : List En} {F1 F2 : Nat → Prop} (h : MdX w B D t E' l g g day day L L F1 F2) (q : Int) (hp : E'.Perm (if hasS q l = true then wo q l else l)) (hS : Sav t E g day L) (hpm : E.Perm l) :
    Calls Tryz.prog 59 #[.pointer (some ⟨D, 0, none⟩), .int .i64 q] w fun x w' => x = .returned (.int .i64 (canC q l)) ∧ Again w B D t L F1 F2 w' := by
  have hS2 : Sav t E' g day L := by
    obtain ⟨_, _, _, _, hX, _⟩ := h.pr
    refine hS.less hpm ?_ hp hX.so
    split
    · exact List.filter_sublist
    · exact List.Sublist.refl _
  refine (refcancelD w D t l g day L F2 h.dc q).mono ?_
  rintro x w' ⟨hk, ⟨hn, rfl, hdc⟩ | ⟨hn, rfl, hdc⟩⟩
  · rw [if_neg (by simp [hn])] at hp
    exact ⟨by unfold canC; rw [if_neg (by simp [hn])], hk, E', l, g, day, dstep h.pr h.ap h.l1 h.l2 hk hdc hp hS2⟩
  · rw [if_pos hn] at hp
    exact ⟨by unfold canC; rw [if_pos hn], hk, E', wo q l, g, day, dstep h.pr h.ap h.l1 h.l2 hk hdc hp hS2⟩
def PRun (w : World) (B D : Nat) (t : Ln.Terms) (E l : List Ln.Ev) (g : Ln.St) (day : Int) (L : List En) (m : Nat) (F1 F2 : Nat → Prop) (x : Ending) (w' : World) : Prop :=
  x = .returned (.int .i64 0) ∧ Keep F1 w w' ∧ MdX w' B D t E l (Ln.run t cdOf (wtOf t.ba) E m) g (t.st + m) day (bkP t.st (fun k => (yOf t E k).am) L m) L (Wd F1 w w') F2
theorem TwX.prun {w : World} {B D : Nat} {t : Ln.Terms} {E l : List Ln.Ev} {g : Ln.St} {day : Int} {L : List En} {F1 F2 : Nat → Prop} (h : TwX w B D t E l g day L F1 F2) (hL : L.length ≤ 4000000000000) (m : Nat) (hd : day ≤ t.st + m) (hm : m ≤ 3700) (hmv : Mv w) (hF : ¬ F1 1) :
    Calls Tryz.prog 17 #[.pointer (some ⟨B, 0, none⟩), .int .i64 (t.st + m)] w (PRun w B D t E l g day L m F1 F2) := by
  refine (runL w B t E g day L F1 h.pr hL m hd hm hmv hF).mono ?_
  rintro x w' ⟨rfl, hlo, hk⟩
  exact ⟨rfl, hk, h.mid hk hlo⟩
theorem MdX.drun {w : World} {B D : Nat} {t : Ln.Terms} {E l : List Ln.Ev} {g : Ln.St} {day : Int} {L : List En} {m : Nat} {F1 F2 : Nat → Prop} (h : MdX w B D t E l (Ln.run t cdOf (wtOf t.ba) E m) g (t.st + m) day (bkP t.st (fun k => (yOf t E k).am) L m) L F1 F2) (hpm : E.Perm l) (hL : L.length ≤ 4000000000000) (hd : day ≤ t.st + m) (hm : m ≤ 3700) (hS : Sav t E g day L) :
    Calls Tryz.prog 60 #[.pointer (some ⟨D, 0, none⟩), .int .i64 (t.st + m)] w fun x w' => x = .returned (.int .i64 0) ∧ Again w B D t (bkP t.st (fun k => (yOf t E k).am) L m) F1 F2 w' := by
  refine (refrunD w D t l g day L F2 h.dc hL m hd hm).mono ?_
  rintro x w' ⟨rfl, hk, R, hR, hs, hdc⟩
  obtain ⟨_, _, _, _, hX, _⟩ := h.pr
  obtain rfl : R = E := So.sorted_one (hR.trans hpm.symm) hs hX.so
  exact ⟨rfl, hk, _, l, _, _, dstep h.pr h.ap h.l1 h.l2 hk hdc hpm (hS.run hX.ok m hd hm)⟩
theorem TwX.prun_bad {w : World} {B D : Nat} {t : Ln.Terms} {E l : List Ln.Ev} {g : Ln.St} {day : Int} {L : List En} {F1 F2 : Nat → Prop} (h : TwX w B D t E l g day L F1 F2) (n : Int) (hn : n < day ∨ t.st + 3700 < n) :
    Calls Tryz.prog 17 #[.pointer (some ⟨B, 0, none⟩), .int .i64 n] w fun x w' => x = .returned (.int .i64 5) ∧ Below w.heap.size w w' := by
  obtain ⟨P, Mb, evv, bkv, h1, _⟩ := h.pr
  exact Go.Proofs.YtanndhoimpnhpaaGreatDoor.prun_bad w B t evv g day _ h1.ln h1.ot n hn
theorem TwX.drun_bad {w : World} {B D : Nat} {t : Ln.Terms} {E l : List Ln.Ev} {g : Ln.St} {day : Int} {L : List En} {F1 F2 : Nat → Prop} (h : TwX w B D t E l g day L F1 F2) (n : Int) (hn : n < day ∨ t.st + 3700 < n) :
    Calls Tryz.prog 60 #[.pointer (some ⟨D, 0, none⟩), .int .i64 n] w fun x w' => x = .returned (.int .i64 5) ∧ Below w.heap.size w w' := by
  obtain ⟨evv, bkv, h1, _⟩ := h.dc
  exact refrun_bad w D t evv g day _ h1.ln h1.ot n hn
end Go.Proofs.YtanndhoimpnhpaaGreatDoor
namespace Go.Proofs.YtanndhoimpnhpaaGreatDoor
open Go.ChangeShapes Go.WideShapes Go.ChangeAt Go.RowKit Go.WideMaps Go.Maps Lg Cal
def Pair (w : World) (p d : Value) (n : Nat) (G : Nat → Prop) : Prop :=
  (p = .pointer none ∧ d = .pointer none) ∨ ∃ (B D : Nat) (t : Ln.Terms) (E l : List Ln.Ev) (g : Ln.St) (day : Int) (L : List En) (F1 F2 : Nat → Prop), p = .pointer (some ⟨B, 0, none⟩) ∧ d = .pointer (some ⟨D, 0, none⟩) ∧ TwX w B D t E l g day L F1 F2 ∧ (∀ b, F1 b → G b) ∧ (∀ b, F2 b → G b) ∧ L.length ≤ 88800 * n
theorem Pair.more {w : World} {p d : Value} {n : Nat} {G : Nat → Prop} (h : Pair w p d n G) : Pair w p d (n + 1) G := by
  rcases h with h | ⟨B, D, t, E, l, g, day, L, F1, F2, h1, h2, h3, h4, h5, h6⟩
  · exact .inl h
  · exact .inr ⟨B, D, t, E, l, g, day, L, F1, F2, h1, h2, h3, h4, h5, by omega⟩
theorem Pair.keep {S : Nat → Prop} {w w' : World} {p d : Value} {n : Nat} {G : Nat → Prop} (h : Pair w p d n G) (hk : Keep S w w') (hs : ∀ b, G b → ¬ S b) : Pair w' p d n G := by
  rcases h with h | ⟨B, D, t, E, l, g, day, L, F1, F2, h1, h2, h3, h4, h5, h6⟩
  · exact .inl h
  · exact .inr ⟨B, D, t, E, l, g, day, L, F1, F2, h1, h2, h3.keep hk (fun b hb => hs b (h4 b hb)) (fun b hb => hs b (h5 b hb)), h4, h5, h6⟩
theorem pair_again {w w1 w2 : World} {B D : Nat} {t : Ln.Terms} {L : List En} {F1 F2 G : Nat → Prop} {n : Nat} (h1 : Keep F1 w w1) (h2 : Again w1 B D t L (Wd F1 w w1) F2 w2) (hG1 : ∀ b, F1 b → G b) (hG2 : ∀ b, F2 b → G b) (hL : L.length ≤ 88800 * n) :
    Keep G w w2 ∧ Pair w2 (.pointer (some ⟨B, 0, none⟩)) (.pointer (some ⟨D, 0, none⟩)) n (Wd G w w2) := by
  obtain ⟨hk, E, l, g, day, hT⟩ := h2
  refine ⟨(h1.mono (fun b _ hb => hG1 b hb)).trans (hk.mono (fun b _ hb => hG2 b hb)), .inr ⟨B, D, t, E, l, g, day, L, _, _, rfl, rfl, hT, ?_, ?_, hL⟩⟩
  · rintro b (x | x)
    · exact .inl (hG1 b x)
    · exact .inr ⟨x.1, Nat.lt_of_lt_of_le x.2 hk.size⟩
  · rintro b (x | x)
    · exact .inl (hG2 b x)
    · exact .inr ⟨Nat.le_trans h1.size x.1, x.2⟩
end Go.Proofs.YtanndhoimpnhpaaGreatDoor
namespace Go.Proofs.YtanndhoimpnhpaaGreatDoor
open Go.ChangeShapes Go.WideShapes Go.ChangeAt Go.RowKit Go.WideMaps Go.Maps Lg Cal
structure Bv where
  l1 : Value
  l2 : Value
  w1 : Value
  r1 : Value
  w2 : Value
  r2 : Value
abbrev SideI (w : World) (lv wv rv : Value) (Ls Ws Rs : List Value) (i : Nat) (τ : Nat → Nat) : Prop := Side w 38 1 okI mkI lv wv rv Ls Ws Rs i τ 0
abbrev SideE (w : World) (lv wv rv : Value) (Ls Ws Rs : List Value) (i : Nat) (τ : Nat → Nat) : Prop := Side w 54 3 okE mkE lv wv rv Ls Ws Rs i τ 1
def Bok (w : World) (B : Bv) (c : Nat) (Q : Nat → Prop) : Prop :=
  ∃ (τ : Nat → Nat) (L1 W1 R1 L2 W2 R2 : List Value), SideI w B.l1 B.w1 B.r1 L1 W1 R1 0 τ ∧ SideE w B.l2 B.w2 B.r2 L2 W2 R2 0 τ ∧ (∀ b, τ b ≠ 0 → Q b) ∧ L1.length + 4 * W1.length ≤ 4 * c ∧ L2.length + 4 * W2.length ≤ 4 * c
theorem Sd.pos {s i x : Nat} (h : Sd s i x) : x ≠ 0 := by
  rcases h with rfl | rfl | rfl | rfl | rfl | ⟨k, _, rfl⟩ <;> omega
theorem Bok.keep {S Q : Nat → Prop} {w w' : World} {B : Bv} {c : Nat} (h : Bok w B c Q) (hk : Keep S w w') (hs : ∀ b, Q b → ¬ S b) : Bok w' B c Q := by
  obtain ⟨τ, L1, W1, R1, L2, W2, R2, h1, h2, h3, h4⟩ := h
  exact ⟨τ, L1, W1, R1, L2, W2, R2, h1.keep hk (fun b hb => hs b (h3 b hb.pos)), h2.keep hk (fun b hb => hs b (h3 b hb.pos)), h3, h4⟩
theorem Bok.mono {Q Q' : Nat → Prop} {w : World} {B : Bv} {c c' : Nat} (h : Bok w B c Q) (hq : ∀ b, Q b → Q' b) (hc : c ≤ c') : Bok w B c' Q' := by
  obtain ⟨τ, L1, W1, R1, L2, W2, R2, h1, h2, h3, h4, h5⟩ := h
  exact ⟨τ, L1, W1, R1, L2, W2, R2, h1, h2, fun b hb => hq b (h3 b hb), by omega, by omega⟩
def nilB : Bv := ⟨.slice none 0 0, .slice none 0 0, .slice none 0 0, .slice none 0 0, .slice none 0 0, .slice none 0 0⟩
theorem Bok.nil (w : World) : Bok w nilB 0 (fun _ => False) := ⟨fun _ => 0, [], [], [], [], [], [], Side.nil _ _ _ _ _ _ _, Side.nil _ _ _ _ _ _ _, fun b hb => hb rfl, by simp, by simp⟩
def wlb (B : Bv) (p0 d0 p1 d1 : Value) : List Value := [B.l1, B.l2, B.w1, B.r1, B.w2, B.r2, p0, d0, p1, d1]
structure WlG (w0 w : World) (W n : Nat) (pv dv : Nat → Value) (G : Nat → Nat → Prop) (B : Bv) (c : Nat) (Q : Nat → Prop) : Prop where
  wa : At w W (wlb B (pv 0) (dv 0) (pv 1) (dv 1))
  bl : Below w0.heap.size w0 w
  pr : ∀ k, k < 2 → Pair w (pv k) (dv k) n (G k)
  ap : ∀ b, G 0 b → ¬ G 1 b
  nw : ∀ k, k < 2 → ¬ G k W
  ge : ∀ k b, k < 2 → G k b → w0.heap.size ≤ b
  lt : ∀ k b, k < 2 → G k b → b < w.heap.size
  wg : w0.heap.size ≤ W
  bk : Bok w B c Q
  qw : ¬ Q W
  qg : ∀ k b, k < 2 → G k b → ¬ Q b
  qe : ∀ b, Q b → w0.heap.size ≤ b
  ql : ∀ b, Q b → b < w.heap.size
section
variable {w0 w w' : World} {W n c : Nat} {pv dv : Nat → Value} {G : Nat → Nat → Prop} {B : Bv} {Q : Nat → Prop}
theorem WlG.below (h : WlG w0 w W n pv dv G B c Q) (hb : Below w.heap.size w w') : WlG w0 w' W n pv dv G B c Q :=
  ⟨At.keep (S := fun _ => False) (v := B.l1) h.wa (Keep.below hb) (fun x => x), h.bl.trans (hb.mono h.bl.size), fun k hk => (h.pr k hk).keep (S := fun _ => False) (Keep.below hb) (fun _ _ x => x), h.ap, h.nw, h.ge, fun k b hk hg => Nat.lt_of_lt_of_le (h.lt k b hk hg) hb.size, h.wg, h.bk.keep (S := fun _ => False) (Keep.below hb) (fun _ _ x => x), h.qw, h.qg, h.qe, fun b hq => Nat.lt_of_lt_of_le (h.ql b hq) hb.size⟩
theorem WlG.more (h : WlG w0 w W n pv dv G B c Q) : WlG w0 w W (n + 1) pv dv G B c Q :=
  ⟨h.wa, h.bl, fun k hk => (h.pr k hk).more, h.ap, h.nw, h.ge, h.lt, h.wg, h.bk, h.qw, h.qg, h.qe, h.ql⟩
theorem WlG.upd (h : WlG w0 w W n pv dv G B c Q) (k : Nat) (hk2 : k < 2) (hk : Keep (G k) w w') (hp : Pair w' (pv k) (dv k) (n + 1) (Wd (G k) w w')) : WlG w0 w' W (n + 1) pv dv (fun i => if i = k then Wd (G k) w w' else G i) B c Q := by
  have hs := h.bl.size
  have hW : W < w.heap.size := At.lt (v := B.l1) h.wa
  have apk : ∀ i, i < 2 → ¬ i = k → ∀ b, G i b → ¬ G k b := fun i hi hik b h1 h2 => by
    rcases (show (i = 0 ∧ k = 1) ∨ (i = 1 ∧ k = 0) by omega) with ⟨rfl, rfl⟩ | ⟨rfl, rfl⟩
    · exact h.ap b h1 h2
    · exact h.ap b h2 h1
  have apw : ∀ i, i < 2 → ¬ i = k → ∀ b, G i b → ¬ Wd (G k) w w' b := fun i hi hik b h1 h2 => by
    rcases h2 with h2 | h2
    · exact apk i hi hik b h1 h2
    · have := h.lt i b hi h1; omega
  refine ⟨At.keep (v := B.l1) h.wa hk (h.nw k hk2), Keep.fresh h.bl hk (fun b hb => h.ge k b hk2 hb), fun i hi => ?_, ?_, fun i hi => ?_, fun i b hi => ?_, fun i b hi => ?_, h.wg, h.bk.keep hk (fun b hb hg => h.qg k b hk2 hg hb), h.qw, fun i b hi => ?_, h.qe, fun b hq => Nat.lt_of_lt_of_le (h.ql b hq) hk.size⟩
  · by_cases hik : i = k
    · subst hik
      simp only [if_pos]
      exact hp
    · simp only [if_neg hik]
      exact ((h.pr i hi).keep hk (fun b hb => apk i hi hik b hb)).more
  · intro b
    by_cases h0 : (0 : Nat) = k
    · have h1 : ¬ (1 : Nat) = k := by omega
      simp only [if_pos h0, if_neg h1]
      exact fun x y => apw 1 (by omega) h1 b y x
    · by_cases h1 : (1 : Nat) = k
      · simp only [if_neg h0, if_pos h1]
        exact fun x y => apw 0 (by omega) h0 b x y
      · omega
  · by_cases hik : i = k
    · simp only [if_pos hik]
      rintro (x | x)
      · exact h.nw k hk2 x
      · omega
    · simp only [if_neg hik]
      exact h.nw i hi
  · by_cases hik : i = k
    · simp only [if_pos hik]
      rintro (x | x)
      · exact h.ge k b hk2 x
      · omega
    · simp only [if_neg hik]
      exact h.ge i b hi
  · by_cases hik : i = k
    · simp only [if_pos hik]
      rintro (x | x)
      · exact Nat.lt_of_lt_of_le (h.lt k b hk2 x) hk.size
      · exact x.2
    · simp only [if_neg hik]
      exact fun x => Nat.lt_of_lt_of_le (h.lt i b hi x) hk.size
  · by_cases hik : i = k
    · simp only [if_pos hik]
      rintro (x | x) hq
      · exact h.qg k b hk2 x hq
      · have := h.ql b hq; omega
    · simp only [if_neg hik]
      exact h.qg i b hi
theorem WlG.home {B' : Bv} {c' : Nat} {Q' : Nat → Prop} (h : WlG w0 w W n pv dv G B c Q) (hA : At w' W (wlb B' (pv 0) (dv 0) (pv 1) (dv 1))) (hk : Keep (fun b => b = W ∨ Q b) w w') (hb : Bok w' B' c' Q') (hq : ∀ b, Q' b → Q b ∨ (w.heap.size ≤ b ∧ b < w'.heap.size)) : WlG w0 w' W n pv dv G B' c' Q' := by
  have hs := h.bl.size
  have hW : W < w.heap.size := At.lt (v := B.l1) h.wa
  refine ⟨hA, Keep.fresh h.bl hk (fun b hb => ?_), fun k hk2 => (h.pr k hk2).keep hk (fun b hb x => ?_), h.ap, h.nw, h.ge, fun k b hk2 hg => Nat.lt_of_lt_of_le (h.lt k b hk2 hg) hk.size, h.wg, hb, fun x => ?_, fun k b hk2 hg x => ?_, fun b x => ?_, fun b x => ?_⟩
  · rcases hb with rfl | hb
    · exact h.wg
    · exact h.qe b hb
  · rcases x with rfl | x
    · exact h.nw k hk2 hb
    · exact h.qg k b hk2 hb x
  · rcases hq W x with x | x
    · exact h.qw x
    · omega
  · have := h.lt k b hk2 hg
    rcases hq b x with x | x
    · exact h.qg k b hk2 hg x
    · omega
  · rcases hq b x with x | x
    · exact h.qe b x
    · omega
  · rcases hq b x with x | x
    · exact Nat.lt_of_lt_of_le (h.ql b x) hk.size
    · exact x.2
end
end Go.Proofs.YtanndhoimpnhpaaGreatDoor
namespace Go.Proofs.YtanndhoimpnhpaaGreatDoor
open Go.ChangeShapes Go.WideShapes Go.ChangeAt Go.RowKit Go.WideMaps Go.Maps Cal
theorem OwT.isv {w : World} {v : Value} {zs : List Int} (h : OwT w 1 v zs.length (isl zs)) : IsV w v zs := by
  obtain ⟨T, hl, hn | ⟨g, cap, cur, rfl, hg⟩⟩ := id h
  · obtain ⟨rfl, hz⟩ := hn
    obtain rfl : zs = [] := List.length_eq_zero_iff.1 hz
    exact ⟨none, 0, rfl, Nat.le_refl _, fun k hk => absurd hk (Nat.not_lt_zero k)⟩
  · have ho : w.ownsRow 0 T 1 (.slice (some ⟨g, 0, none⟩) zs.length cap) zs.length (isl zs) := ⟨hl, .inr ⟨g, cap, cur, rfl, hg⟩⟩
    refine ⟨_, cap, rfl, hg.2.2.1, fun k hk => ⟨g, 0, rfl, (own_base ho (b := g) rfl).2, ?_⟩⟩
    rw [Nat.zero_add, ho.cellAt k (by omega)]
    unfold isl
    rw [List.getElem?_map, List.getElem?_eq_getElem hk]
    rfl
theorem OwT.env {w : World} {v : Value} {L : List En} (h : OwT w 3 v L.length (ens L)) : EnV w v L := by
  obtain ⟨T, hl, hn | ⟨g, cap, cur, rfl, hg⟩⟩ := id h
  · obtain ⟨rfl, hz⟩ := hn
    obtain rfl : L = [] := List.length_eq_zero_iff.1 hz
    exact ⟨none, 0, rfl, Nat.le_refl _, fun k hk => absurd hk (Nat.not_lt_zero k)⟩
  · have ho : w.ownsRow 0 T 3 (.slice (some ⟨g, 0, none⟩) L.length cap) L.length (ens L) := ⟨hl, .inr ⟨g, cap, cur, rfl, hg⟩⟩
    refine ⟨_, cap, rfl, hg.2.2.1, fun k hk => ⟨g, 0, rfl, (own_base ho (b := g) rfl).2, ?_⟩⟩
    obtain ⟨q0, q1, q2⟩ := en_range ho rfl k hk
    intro j u hu
    rw [Nat.zero_add]
    match j, hu with
    | 0, hu => cases hu; exact q0
    | 1, hu => cases hu; exact q1
    | 2, hu => cases hu; exact q2
set_option maxRecDepth 10000 in
set_option maxHeartbeats 2000000 in
theorem lawInts_true (w : World) (v u : Value) (L : List Int) (h1 : IsV w v L) (h2 : IsV w u L) (hL : L.length ≤ 4000000000000) :
    Calls Tryz.prog 62 #[v, u] w fun e w' => e = .returned (.bool true) ∧ Below w.heap.size w w' := by
  obtain ⟨p, cap, rfl, hc1, hr1⟩ := h1
  obtain ⟨q, cap2, rfl, hc2, hr2⟩ := h2
  have H1 : Hid (∀ k (hk : k < L.length), ∃ b o, p = some ⟨b, o, none⟩ ∧ b < w.heap.size ∧ w.cell? ⟨b, o + k, none⟩ = some (.int .i64 L[k])) := hr1
  have H2 : Hid (∀ k (hk : k < L.length), ∃ b o, q = some ⟨b, o, none⟩ ∧ b < w.heap.size ∧ w.cell? ⟨b, o + k, none⟩ = some (.int .i64 L[k])) := hr2
  clear hr1 hr2
  have hne : ((L.length : Int) != (L.length : Int)) = false := by simp
  go_enter Tryz.func62, Tryz.ntmps62
  go_wp2
  go_loopw [5] (fun i wr => ∃ k : Nat, k ≤ L.length ∧ i = .int .i64 k ∧ Below w.heap.size w wr) (fun i _ => (L.length - intOf i).toNat)
  case atStart => exact ⟨0, Nat.zero_le _, rfl, Below.refl _ _⟩
  case round =>
    obtain ⟨k, hk, rfl, hb⟩ := hrel
    have HB : Hid (Below w.heap.size w wr) := hb
    clear hb
    by_cases hlt : k < L.length
    · obtain ⟨b, o, rfl, hbl, hx1⟩ := H1.out k hlt
      obtain ⟨b2, o2, rfl, hbl2, hx2⟩ := H2.out k hlt
      have HR1 : Hid (∀ wx, Below w.heap.size w wx → wx.cell? ⟨b, o + k, none⟩ = some (.int .i64 L[k])) := fun wx hx => (World.cell?_of_block (w := w) (a := ⟨b, o + k, none⟩) (hx.block b hbl)).trans hx1
      have HR2 : Hid (∀ wx, Below w.heap.size w wx → wx.cell? ⟨b2, o2 + k, none⟩ = some (.int .i64 L[k])) := fun wx hx => (World.cell?_of_block (w := w) (a := ⟨b2, o2 + k, none⟩) (hx.block b2 hbl2)).trans hx2
      clear hx1 hx2
      generalize L[k] = e at *
      have zk : (k : Int) < (L.length : Int) := by omega
      go_upto_region 6 with fail
      refine wp_region_held_drew (S := fun wx => Below w.heap.size w wx) (by kernel_rfl) HB.out.drew (fun hHeld => ?_)
      clear HB
      generalize wr.drew = V1 at *
      refine wpAnyH_take (i := 0) (v := (.slice (some ⟨b, o, none⟩) L.length cap)) rfl (by kernel_rfl) (by kernel_rfl) (by kernel_rfl) (fun _ _ _ h => h) (Or.inl ⟨by rfl, fun wx hSw => by kernel_rfl⟩) (by assumption) ?_
      simp only [Act.put, List.getElem_toArray, List.getElem_cons_zero, List.setIfInBounds_toArray, List.set_cons_zero, List.set_cons_succ]
      refine wpAnyH_take (i := 1) (v := (.int .i64 k)) rfl (by kernel_rfl) (by kernel_rfl) (by kernel_rfl) (fun _ _ _ h => h) (Or.inl ⟨by rfl, fun wx hSw => by kernel_rfl⟩) (by assumption) ?_
      simp only [Act.put, List.getElem_toArray, List.getElem_cons_succ, List.getElem_cons_zero, List.setIfInBounds_toArray, List.set_cons_zero, List.set_cons_succ]
      refine wpAnyH_take (i := 2) (v := (.pointer (some ⟨b, o + k, none⟩))) rfl (by kernel_rfl) (by kernel_rfl) (by kernel_rfl) (fun _ _ _ h => h) (Or.inl ⟨by rfl, fun wx hSw => by ((try dsimp only at hSw); go_simp)⟩) (by assumption) ?_
      simp only [Act.put, List.getElem_toArray, List.getElem_cons_succ, List.getElem_cons_zero, List.setIfInBounds_toArray, List.set_cons_zero, List.set_cons_succ]
      refine wpAnyH_take (i := 3) (v := (.int .i64 e)) rfl (by kernel_rfl) (by kernel_rfl) (by kernel_rfl) (fun _ _ _ h => h) (Or.inl ⟨by rfl, fun wx hSw => by (have hc := HR1.out wx hSw; go_simp)⟩) (by assumption) ?_
      simp only [Act.put, List.getElem_toArray, List.getElem_cons_succ, List.getElem_cons_zero, List.setIfInBounds_toArray, List.set_cons_zero, List.set_cons_succ]
      refine wpAnyH_take (i := 4) (v := (.slice (some ⟨b2, o2, none⟩) L.length cap2)) rfl (by kernel_rfl) (by kernel_rfl) (by kernel_rfl) (fun _ _ _ h => h) (Or.inl ⟨by rfl, fun wx hSw => by kernel_rfl⟩) (by assumption) ?_
      simp only [Act.put, List.getElem_toArray, List.getElem_cons_succ, List.getElem_cons_zero, List.setIfInBounds_toArray, List.set_cons_zero, List.set_cons_succ]
      refine wpAnyH_take (i := 5) (v := (.int .i64 k)) rfl (by kernel_rfl) (by kernel_rfl) (by kernel_rfl) (fun _ _ _ h => h) (Or.inl ⟨by rfl, fun wx hSw => by kernel_rfl⟩) (by assumption) ?_
      simp only [Act.put, List.getElem_toArray, List.getElem_cons_succ, List.getElem_cons_zero, List.setIfInBounds_toArray, List.set_cons_zero, List.set_cons_succ]
      refine wpAnyH_take (i := 6) (v := (.pointer (some ⟨b2, o2 + k, none⟩))) rfl (by kernel_rfl) (by kernel_rfl) (by kernel_rfl) (fun _ _ _ h => h) (Or.inl ⟨by rfl, fun wx hSw => by ((try dsimp only at hSw); go_simp)⟩) (by assumption) ?_
      simp only [Act.put, List.getElem_toArray, List.getElem_cons_succ, List.getElem_cons_zero, List.setIfInBounds_toArray, List.set_cons_zero, List.set_cons_succ]
      refine wpAnyH_take (i := 7) (v := (.int .i64 e)) rfl (by kernel_rfl) (by kernel_rfl) (by kernel_rfl) (fun _ _ _ h => h) (Or.inl ⟨by rfl, fun wx hSw => by (have hc := HR2.out wx hSw; go_simp)⟩) (by assumption) ?_
      simp only [Act.put, List.getElem_toArray, List.getElem_cons_succ, List.getElem_cons_zero, List.setIfInBounds_toArray, List.set_cons_zero, List.set_cons_succ]
      have HB1 : Hid (Below w.heap.size w V1) := hHeld
      refine wpAnyH_take (i := 8) (v := (.bool false)) rfl (by kernel_rfl) (by kernel_rfl) (by kernel_rfl) (fun _ _ _ h => h) (Or.inl ⟨by rfl, fun wx hSw => by go_simp⟩) (by assumption) ?_
      simp only [Act.put, List.getElem_toArray, List.getElem_cons_succ, List.getElem_cons_zero, List.setIfInBounds_toArray, List.set_cons_zero, List.set_cons_succ]
      refine wpAnyH_done (by kernel_rfl) ?_ _
      clear hHeld HR1 HR2
      go_wp2
      exact ⟨⟨k + 1, hlt, rfl, HB1.out⟩, by simp [intOf]; omega⟩
    · obtain rfl : k = L.length := by omega
      have zk : ¬ (L.length : Int) < (L.length : Int) := by omega
      go_wp2
      go_ret
      exact ⟨rfl, HB.out⟩
set_option maxRecDepth 10000 in
set_option maxHeartbeats 2000000 in
theorem lawEntries_true (w : World) (v u : Value) (L : List En) (h1 : EnV w v L) (h2 : EnV w u L) (hL : L.length ≤ 4000000000000) :
    Calls Tryz.prog 63 #[v, u] w fun e w' => e = .returned (.bool true) ∧ Below w.heap.size w w' := by
  obtain ⟨p, cap, rfl, hc1, hr1⟩ := h1
  obtain ⟨q, cap2, rfl, hc2, hr2⟩ := h2
  have H1 : Hid (∀ k (hk : k < L.length), ∃ b o, p = some ⟨b, o, none⟩ ∧ b < w.heap.size ∧ w.rangeAt b (o + k * 3) (enl L[k])) := hr1
  have H2 : Hid (∀ k (hk : k < L.length), ∃ b o, q = some ⟨b, o, none⟩ ∧ b < w.heap.size ∧ w.rangeAt b (o + k * 3) (enl L[k])) := hr2
  clear hr1 hr2
  have hne : ((L.length : Int) != (L.length : Int)) = false := by simp
  go_enter Tryz.func63, Tryz.ntmps63
  go_wp2
  go_loopw [5] (fun i wr => ∃ k : Nat, k ≤ L.length ∧ i = .int .i64 k ∧ Below w.heap.size w wr) (fun i _ => (L.length - intOf i).toNat)
  case atStart => exact ⟨0, Nat.zero_le _, rfl, Below.refl _ _⟩
  case round =>
    obtain ⟨k, hk, rfl, hb⟩ := hrel
    have HB : Hid (Below w.heap.size w wr) := hb
    clear hb
    by_cases hlt : k < L.length
    · obtain ⟨b, o, rfl, hbl, hx1⟩ := H1.out k hlt
      obtain ⟨b2, o2, rfl, hbl2, hx2⟩ := H2.out k hlt
      have HR1 : Hid (∀ wx, Below w.heap.size w wx → wx.rangeAt b (o + k * 3) (enl L[k])) := fun wx hx j u hu => (World.cell?_of_block (w := w) (a := ⟨b, o + k * 3 + j, none⟩) (hx.block b hbl)).trans (hx1 j u hu)
      have HR2 : Hid (∀ wx, Below w.heap.size w wx → wx.rangeAt b2 (o2 + k * 3) (enl L[k])) := fun wx hx j u hu => (World.cell?_of_block (w := w) (a := ⟨b2, o2 + k * 3 + j, none⟩) (hx.block b2 hbl2)).trans (hx2 j u hu)
      clear hx1 hx2
      generalize L[k] = e at *
      obtain ⟨ed, ek, ea⟩ := e
      have zk : (k : Int) < (L.length : Int) := by omega
      go_upto_region 6 with fail
      refine wp_region_held_drew (S := fun wx => Below w.heap.size w wx) (by kernel_rfl) HB.out.drew (fun hHeld => ?_)
      clear HB
      generalize wr.drew = V1 at *
      refine wpAnyH_take (i := 0) (v := (.slice (some ⟨b, o, none⟩) L.length cap)) rfl (by kernel_rfl) (by kernel_rfl) (by kernel_rfl) (fun _ _ _ h => h) (Or.inl ⟨by rfl, fun wx hSw => by kernel_rfl⟩) (by assumption) ?_
      simp only [Act.put, List.getElem_toArray, List.getElem_cons_zero, List.setIfInBounds_toArray, List.set_cons_zero, List.set_cons_succ]
      refine wpAnyH_take (i := 1) (v := (.int .i64 k)) rfl (by kernel_rfl) (by kernel_rfl) (by kernel_rfl) (fun _ _ _ h => h) (Or.inl ⟨by rfl, fun wx hSw => by kernel_rfl⟩) (by assumption) ?_
      simp only [Act.put, List.getElem_toArray, List.getElem_cons_succ, List.getElem_cons_zero, List.setIfInBounds_toArray, List.set_cons_zero, List.set_cons_succ]
      refine wpAnyH_take (i := 2) (v := (.pointer (some ⟨b, o + k * 3, none⟩))) rfl (by kernel_rfl) (by kernel_rfl) (by kernel_rfl) (fun _ _ _ h => h) (Or.inl ⟨by rfl, fun wx hSw => by ((try dsimp only at hSw); go_simp)⟩) (by assumption) ?_
      simp only [Act.put, List.getElem_toArray, List.getElem_cons_succ, List.getElem_cons_zero, List.setIfInBounds_toArray, List.set_cons_zero, List.set_cons_succ]
      refine wpAnyH_take (i := 3) (v := (.agg (enl ⟨ed, ek, ea⟩).toArray)) rfl (by kernel_rfl) (by kernel_rfl) (by kernel_rfl) (fun _ _ _ h => h) (yieldsIf_load_mid (by rfl) 114 (.tmp 19) rfl _ _ rfl _ _ (fun _ h => HR1.out _ h) Tryz.underlying114 rfl (by kernel_rfl)) (by assumption) ?_
      simp only [Act.put, List.getElem_toArray, List.getElem_cons_succ, List.getElem_cons_zero, List.setIfInBounds_toArray, List.set_cons_zero, List.set_cons_succ]
      refine wpAnyH_take (i := 4) (v := (.slice (some ⟨b2, o2, none⟩) L.length cap2)) rfl (by kernel_rfl) (by kernel_rfl) (by kernel_rfl) (fun _ _ _ h => h) (Or.inl ⟨by rfl, fun wx hSw => by kernel_rfl⟩) (by assumption) ?_
      simp only [Act.put, List.getElem_toArray, List.getElem_cons_succ, List.getElem_cons_zero, List.setIfInBounds_toArray, List.set_cons_zero, List.set_cons_succ]
      refine wpAnyH_take (i := 5) (v := (.int .i64 k)) rfl (by kernel_rfl) (by kernel_rfl) (by kernel_rfl) (fun _ _ _ h => h) (Or.inl ⟨by rfl, fun wx hSw => by kernel_rfl⟩) (by assumption) ?_
      simp only [Act.put, List.getElem_toArray, List.getElem_cons_succ, List.getElem_cons_zero, List.setIfInBounds_toArray, List.set_cons_zero, List.set_cons_succ]
      refine wpAnyH_take (i := 6) (v := (.pointer (some ⟨b2, o2 + k * 3, none⟩))) rfl (by kernel_rfl) (by kernel_rfl) (by kernel_rfl) (fun _ _ _ h => h) (Or.inl ⟨by rfl, fun wx hSw => by ((try dsimp only at hSw); go_simp)⟩) (by assumption) ?_
      simp only [Act.put, List.getElem_toArray, List.getElem_cons_succ, List.getElem_cons_zero, List.setIfInBounds_toArray, List.set_cons_zero, List.set_cons_succ]
      refine wpAnyH_take (i := 7) (v := (.agg (enl ⟨ed, ek, ea⟩).toArray)) rfl (by kernel_rfl) (by kernel_rfl) (by kernel_rfl) (fun _ _ _ h => h) (yieldsIf_load_mid (by rfl) 114 (.tmp 23) rfl _ _ rfl _ _ (fun _ h => HR2.out _ h) Tryz.underlying114 rfl (by kernel_rfl)) (by assumption) ?_
      simp only [Act.put, List.getElem_toArray, List.getElem_cons_succ, List.getElem_cons_zero, List.setIfInBounds_toArray, List.set_cons_zero, List.set_cons_succ]
      have HB1 : Hid (Below w.heap.size w V1) := hHeld
      refine wpAnyH_take (i := 8) (v := (.bool false)) rfl (by kernel_rfl) (by kernel_rfl) (by kernel_rfl) (fun _ _ _ h => h) (Or.inl ⟨by rfl, fun wx hSw => by (unfold enl; go_simp)⟩) (by assumption) ?_
      simp only [Act.put, List.getElem_toArray, List.getElem_cons_succ, List.getElem_cons_zero, List.setIfInBounds_toArray, List.set_cons_zero, List.set_cons_succ]
      refine wpAnyH_done (by kernel_rfl) ?_ _
      clear hHeld HR1 HR2
      go_wp2
      exact ⟨⟨k + 1, hlt, rfl, HB1.out⟩, by simp [intOf]; omega⟩
    · obtain rfl : k = L.length := by omega
      have zk : ¬ (L.length : Int) < (L.length : Int) := by omega
      go_wp2
      go_ret
      exact ⟨rfl, HB.out⟩
end Go.Proofs.YtanndhoimpnhpaaGreatDoor
namespace Go.Proofs.YtanndhoimpnhpaaGreatDoor
open Go.ChangeShapes Go.WideShapes Go.ChangeAt Go.RowKit Go.WideMaps Go.Maps Cal
theorem row_elem {w : World} {TS : TypeId} {lv : Value} {Ls : List Value} (h : w.ownsRow 0 TS 1 lv Ls.length Ls) (k : Nat) (hk : k < Ls.length) : ∃ g cap, lv = .slice (some ⟨g, 0, none⟩) Ls.length cap ∧ Ls.length ≤ cap ∧ g < w.heap.size ∧ w.cell? ⟨g, k, none⟩ = some Ls[k] := by
  obtain ⟨h1, ⟨_, h2⟩ | ⟨g, cap, cur, rfl, hg⟩⟩ := id h
  · omega
  · refine ⟨g, cap, rfl, hg.2.2.1, (own_base h (b := g) rfl).2, ?_⟩
    rw [h.cellAt k (by omega), List.getElem?_eq_getElem hk]
set_option maxRecDepth 10000 in
set_option maxHeartbeats 4000000 in
theorem looks_any (w : World) (W : Nat) (B : Bv) (p0 d0 p1 d1 : Value) (c : Nat) (Q : Nat → Prop) (hA : At w W (wlb B p0 d0 p1 d1)) (hB : Bok w B c Q) (hc : c ≤ 200000000) :
    Calls Tryz.prog 27 #[.pointer (some ⟨W, 0, none⟩)] w fun e w' => e = .returned (.bool true) ∧ w' = w := by
  obtain ⟨τ, L1, W1, R1, L2, W2, R2, h1, h2, _, hn1, hn2⟩ := hB
  obtain ⟨q1, cap1, e1⟩ := own_slice h1.ol
  obtain ⟨q2, cap2, e2⟩ := own_slice h2.ol
  have HO1 : Hid (w.ownsRow 0 38 1 (.slice q1 L1.length cap1) L1.length L1) := by show w.ownsRow _ _ _ _ _ _; rw [← e1]; exact h1.ol
  have HO2 : Hid (w.ownsRow 0 54 1 (.slice q2 L2.length cap2) L2.length L2) := by show w.ownsRow _ _ _ _ _ _; rw [← e2]; exact h2.ol
  have HR1 : Hid (∀ j v, L1[j]? = some v → RdV w 1 v (mkI (j / 4))) := fun j v hj => (h1.ls j v hj).1
  have HR2 : Hid (∀ j v, L2[j]? = some v → RdV w 3 v (mkE (j / 4))) := fun j v hj => (h2.ls j v hj).1
  have c0 : w.cell? ⟨W, 0, none⟩ = some (.slice q1 L1.length cap1) := by rw [← e1]; exact hA.cell 0 rfl
  have c1 : w.cell? ⟨W, 1, none⟩ = some (.slice q2 L2.length cap2) := by rw [← e2]; exact hA.cell 1 rfl
  clear hA h1 h2 e1 e2
  go_enter Tryz.func27, Tryz.ntmps27
  go_wp2
  go_loop [3, 4] (fun s3 _ => ∃ j : Nat, j ≤ L1.length ∧ s3 = .int .i64 j) (fun s3 _ => (L1.length - intOf s3).toNat)
  case atStart => exact ⟨0, Nat.zero_le _, rfl⟩
  case round =>
    obtain ⟨j, hj, rfl⟩ := hrel
    by_cases hlt : j < L1.length
    · have zj : (j : Int) < (L1.length : Int) := by omega
      obtain ⟨g, cap, eg, hcap, _, hcell⟩ := row_elem HO1.out j hlt
      injection eg with eg1 _ eg3
      subst eg1 eg3
      obtain ⟨p, n, pc, ev, hn, hnc, hrd⟩ := HR1.out j L1[j] (List.getElem?_eq_getElem hlt)
      rw [ev] at hcell
      have HRd : Hid (∀ i, i < n → ∃ b, p = some ⟨b, 0, none⟩ ∧ b < w.heap.size ∧ w.rangeAt b (i * 1) (mkI (j / 4))) := hrd
      clear hrd ev
      go_wp2
      go_loop [4] (fun s4 => ∃ i : Nat, i ≤ n ∧ s4 = .int .i64 i) (fun s4 => (n - intOf s4).toNat)
      case atStart => exact ⟨0, Nat.zero_le _, rfl⟩
      case round =>
        obtain ⟨i, hi, rfl⟩ := hrel
        by_cases hil : i < n
        · have zi : (i : Int) < (n : Int) := by omega
          obtain ⟨b, rfl, _, hr⟩ := HRd.out i hil
          have hcb : w.cell? ⟨b, i, none⟩ = some (.int .i64 (-7 - ((j / 4 : Nat) : Int))) := by have := hr 0 _ rfl; rwa [Nat.mul_one] at this
          have zq : ((j / 4 : Nat) : Int) = (j : Int) / 4 := by omega
          rw [zq] at hcb
          clear hr zq
          go_wp2
          exact ⟨⟨i + 1, hil, rfl⟩, by simp [intOf]; omega⟩
        · obtain rfl : i = n := by omega
          have zi : ¬ (i : Int) < (i : Int) := by omega
          go_wp2
          exact ⟨⟨j + 1, hlt, rfl⟩, by simp [intOf]; omega⟩
    · obtain rfl : j = L1.length := by omega
      have zj : ¬ (L1.length : Int) < (L1.length : Int) := by omega
      go_wp2
      go_loop [5, 6] (fun s5 _ => ∃ j : Nat, j ≤ L2.length ∧ s5 = .int .i64 j) (fun s5 _ => (L2.length - intOf s5).toNat)
      case atStart => exact ⟨0, Nat.zero_le _, rfl⟩
      case round =>
        obtain ⟨j, hj2, rfl⟩ := hrel
        by_cases hlt2 : j < L2.length
        · have zj2 : (j : Int) < (L2.length : Int) := by omega
          obtain ⟨g, cap, eg, hcap, _, hcell⟩ := row_elem HO2.out j hlt2
          injection eg with eg1 _ eg3
          subst eg1 eg3
          obtain ⟨p, n, pc, ev, hn, hnc, hrd⟩ := HR2.out j L2[j] (List.getElem?_eq_getElem hlt2)
          rw [ev] at hcell
          have HRd : Hid (∀ i, i < n → ∃ b, p = some ⟨b, 0, none⟩ ∧ b < w.heap.size ∧ w.rangeAt b (i * 3) (mkE (j / 4))) := hrd
          clear hrd ev
          go_wp2
          go_loop [6] (fun s6 => ∃ i : Nat, i ≤ n ∧ s6 = .int .i64 i) (fun s6 => (n - intOf s6).toNat)
          case atStart => exact ⟨0, Nat.zero_le _, rfl⟩
          case round =>
            obtain ⟨i, hi, rfl⟩ := hrel
            by_cases hil : i < n
            · have zi : (i : Int) < (n : Int) := by omega
              obtain ⟨b, rfl, _, hr⟩ := HRd.out i hil
              have zq : ((j / 4 : Nat) : Int) = (j : Int) / 4 := by omega
              have hcb : w.rangeAt b (i * 3) [.int .i64 0, .int .i64 (-7 - (j : Int) / 4), .int .i64 0] := by rw [← zq]; exact hr
              have hb0 : w.cell? ⟨b, i * 3, none⟩ = some (.int .i64 0) := hcb 0 _ rfl
              have hb1 : w.cell? ⟨b, i * 3 + 1, none⟩ = some (.int .i64 (-7 - (j : Int) / 4)) := hcb 1 _ rfl
              have hb2 : w.cell? ⟨b, i * 3 + 2, none⟩ = some (.int .i64 0) := hcb 2 _ rfl
              clear hr zq hcb
              go_wp2
              exact ⟨⟨i + 1, hil, rfl⟩, by simp [intOf]; omega⟩
            · obtain rfl : i = n := by omega
              have zi : ¬ (i : Int) < (i : Int) := by omega
              go_wp2
              exact ⟨⟨j + 1, hlt2, rfl⟩, by simp [intOf]; omega⟩
        · obtain rfl : j = L2.length := by omega
          have zj2 : ¬ (L2.length : Int) < (L2.length : Int) := by omega
          go_wp2
          go_ret
          exact ⟨rfl, rfl⟩
end Go.Proofs.YtanndhoimpnhpaaGreatDoor
namespace Go.Proofs.YtanndhoimpnhpaaGreatDoor
open Go.ChangeShapes Go.WideShapes Go.ChangeAt Go.RowKit Go.WideMaps Go.Maps Cal
structure SetS (w : World) (W : Nat) (wv1 rv1 wv2 rv2 : Value) (ps W1 R1 W2 R2 : List Value) (c : Nat) (Q : Nat → Prop) (i1 i2 : Nat) (wr : World) (lv1 lv2 : Value) (τ : Nat → Nat) (L1 L2 : List Value) : Prop where
  wa : At wr W (lv1 :: lv2 :: wv1 :: rv1 :: wv2 :: rv2 :: ps)
  s1 : SideI wr lv1 wv1 rv1 L1 W1 R1 i1 τ
  s2 : SideE wr lv2 wv2 rv2 L2 W2 R2 i2 τ
  tq : ∀ b, τ b ≠ 0 → Wd Q w wr b
  tw : τ W = 0
  kp : Keep (fun b => b = W ∨ Q b) w wr
  n1 : L1.length + 4 * (W1.length - i1) ≤ 4 * c
  n2 : L2.length + 4 * (W2.length - i2) ≤ 4 * c
section
variable {w wr wx : World} {W : Nat} {wv1 rv1 wv2 rv2 : Value} {ps W1 R1 W2 R2 : List Value} {c : Nat} {Q : Nat → Prop} {i1 i2 : Nat} {lv1 lv2 : Value} {τ : Nat → Nat} {L1 L2 : List Value}
theorem SetS.lt (h : SetS w W wv1 rv1 wv2 rv2 ps W1 R1 W2 R2 c Q i1 i2 wr lv1 lv2 τ L1 L2) (hq : ∀ b, Q b → b < w.heap.size) (b : Nat) (hb : τ b ≠ 0) : b < wr.heap.size := by
  rcases h.tq b hb with h1 | h1
  · exact Nat.lt_of_lt_of_le (hq b h1) h.kp.size
  · exact h1.2
theorem SetS.below (h : SetS w W wv1 rv1 wv2 rv2 ps W1 R1 W2 R2 c Q i1 i2 wr lv1 lv2 τ L1 L2) (hb : Below wr.heap.size wr wx) : SetS w W wv1 rv1 wv2 rv2 ps W1 R1 W2 R2 c Q i1 i2 wx lv1 lv2 τ L1 L2 :=
  ⟨At.keep (S := fun _ => False) h.wa (Keep.below hb) (fun x => x), h.s1.keep (S := fun _ => False) (Keep.below hb) (fun _ _ x => x), h.s2.keep (S := fun _ => False) (Keep.below hb) (fun _ _ x => x), fun b hz => (h.tq b hz).elim .inl (fun x => .inr ⟨x.1, Nat.lt_of_lt_of_le x.2 hb.size⟩), h.tw, h.kp.trans (Keep.below hb), h.n1, h.n2⟩
theorem SetS.kept {S : Nat → Prop} (h : SetS w W wv1 rv1 wv2 rv2 ps W1 R1 W2 R2 c Q i1 i2 wr lv1 lv2 τ L1 L2) (hk : Keep S wr wx) (hs : ∀ b, S b → b = W ∨ τ b ≠ 0) : Keep (fun b => b = W ∨ Q b) w wx := by
  refine ⟨hk.os.trans h.kp.os, hk.tape.trans h.kp.tape, hk.output.trans h.kp.output, Nat.le_trans h.kp.size hk.size, fun b hb hn => ?_⟩
  refine (hk.block b (Nat.lt_of_lt_of_le hb h.kp.size) (fun hx => ?_)).trans (h.kp.block b hb hn)
  rcases hs b hx with h1 | h1
  · exact hn (.inl h1)
  · rcases h.tq b h1 with h2 | h2
    · exact hn (.inr h2)
    · omega
theorem SetS.more {τ' : Nat → Nat} (h : SetS w W wv1 rv1 wv2 rv2 ps W1 R1 W2 R2 c Q i1 i2 wr lv1 lv2 τ L1 L2) (ht : ∀ b, τ' b ≠ 0 → (τ b ≠ 0 ∨ wr.heap.size ≤ b) ∧ b < wx.heap.size) : ∀ b, τ' b ≠ 0 → Wd Q w wx b := fun b hb => by
  have hs := h.kp.size
  obtain ⟨h1 | h1, h2⟩ := ht b hb
  · rcases h.tq b h1 with h3 | h3
    · exact .inl h3
    · exact .inr ⟨h3.1, h2⟩
  · exact .inr ⟨by omega, h2⟩
theorem SetS.get1 (h : SetS w W wv1 rv1 wv2 rv2 ps W1 R1 W2 R2 c Q i1 i2 wr lv1 lv2 τ L1 L2) (hi : i1 < W1.length) : ∃ n xs, okI n xs ∧ OwT wr 1 W1[i1] n xs ∧ (∀ b, W1[i1].ownBlock = some b → τ b = 100 + 2 * i1 + 0) := by
  obtain ⟨r, hr⟩ : ∃ r, R1[i1]? = some r := ⟨_, List.getElem?_eq_getElem (by rw [h.s1.rl]; exact hi)⟩
  obtain ⟨n, xs, h1, h2, _, h4, _⟩ := h.s1.ws i1 W1[i1] r (Nat.le_refl _) (List.getElem?_eq_getElem hi) hr
  exact ⟨n, xs, h1, h2, h4⟩
theorem SetS.get2 (h : SetS w W wv1 rv1 wv2 rv2 ps W1 R1 W2 R2 c Q i1 i2 wr lv1 lv2 τ L1 L2) (hi : i2 < W2.length) : ∃ n xs, okE n xs ∧ OwT wr 3 W2[i2] n xs ∧ (∀ b, W2[i2].ownBlock = some b → τ b = 100 + 2 * i2 + 1) := by
  obtain ⟨r, hr⟩ : ∃ r, R2[i2]? = some r := ⟨_, List.getElem?_eq_getElem (by rw [h.s2.rl]; exact hi)⟩
  obtain ⟨n, xs, h1, h2, _, h4, _⟩ := h.s2.ws i2 W2[i2] r (Nat.le_refl _) (List.getElem?_eq_getElem hi) hr
  exact ⟨n, xs, h1, h2, h4⟩
theorem SetS.mark1 (h : SetS w W wv1 rv1 wv2 rv2 ps W1 R1 W2 R2 c Q i1 i2 wr lv1 lv2 τ L1 L2) (hq : ∀ b, Q b → b < w.heap.size) (hi : i1 < W1.length) {lv' x y z : Value} (hA : At wx W (lv' :: lv2 :: wv1 :: rv1 :: wv2 :: rv2 :: ps)) (hM : MarkTo wr 38 1 W (mkI (L1.length / 4)) lv1 L1 W1[i1] lv' x y z wx) : ∃ τ', SetS w W wv1 rv1 wv2 rv2 ps W1 R1 W2 R2 c Q (i1 + 1) i2 wx lv' lv2 τ' (L1 ++ [W1[i1], x, y, z]) L2 := by
  obtain ⟨_, _, _, _, ht⟩ := h.get1 hi
  have h0 := h.lt hq
  have hWl : W < wr.heap.size := At.lt h.wa
  refine ⟨_, hA, h.s1.mark (by omega) hM (List.getElem?_eq_getElem hi) rfl h0 h.tw, h.s2.mark_other (by omega) (by omega) (by omega) h.s1.tl ht hM h0 h.tw, h.more (hM.tags h.s1.tl h0 ht), hM.not h.s1.tl h0 ht W hWl h.tw, h.kept hM.kp (fun b hb => ?_), ?_, h.n2⟩
  · rcases hb with hb | hb | hb
    · exact .inl hb
    · exact .inr (by rw [h.s1.tl b hb]; omega)
    · exact .inr (by rw [ht b hb]; omega)
  · have := h.n1
    simp only [List.length_append, List.length_cons, List.length_nil]
    omega
theorem SetS.mark2 (h : SetS w W wv1 rv1 wv2 rv2 ps W1 R1 W2 R2 c Q i1 i2 wr lv1 lv2 τ L1 L2) (hq : ∀ b, Q b → b < w.heap.size) (hi : i2 < W2.length) {lv' x y z : Value} (hA : At wx W (lv1 :: lv' :: wv1 :: rv1 :: wv2 :: rv2 :: ps)) (hM : MarkTo wr 54 3 W (mkE (L2.length / 4)) lv2 L2 W2[i2] lv' x y z wx) : ∃ τ', SetS w W wv1 rv1 wv2 rv2 ps W1 R1 W2 R2 c Q i1 (i2 + 1) wx lv1 lv' τ' L1 (L2 ++ [W2[i2], x, y, z]) := by
  obtain ⟨_, _, _, _, ht⟩ := h.get2 hi
  have h0 := h.lt hq
  have hWl : W < wr.heap.size := At.lt h.wa
  refine ⟨_, hA, h.s1.mark_other (by omega) (by omega) (by omega) h.s2.tl ht hM h0 h.tw, h.s2.mark (by omega) hM (List.getElem?_eq_getElem hi) rfl h0 h.tw, h.more (hM.tags h.s2.tl h0 ht), hM.not h.s2.tl h0 ht W hWl h.tw, h.kept hM.kp (fun b hb => ?_), h.n1, ?_⟩
  · rcases hb with hb | hb | hb
    · exact .inl hb
    · exact .inr (by rw [h.s2.tl b hb]; omega)
    · exact .inr (by rw [ht b hb]; omega)
  · have := h.n2
    simp only [List.length_append, List.length_cons, List.length_nil]
    omega
theorem SetS.done (h : SetS w W wv1 rv1 wv2 rv2 ps W1 R1 W2 R2 c Q W1.length W2.length wr lv1 lv2 τ L1 L2) (hk : Keep (fun b => b = W) wr wx) : Bok wx ⟨lv1, lv2, .slice none 0 0, .slice none 0 0, .slice none 0 0, .slice none 0 0⟩ c (Wd Q w wx) ∧ Keep (fun b => b = W ∨ Q b) w wx := by
  have hs : ∀ b, τ b ≠ 0 → ¬ b = W := fun b hb e => hb (by rw [e]; exact h.tw)
  refine ⟨⟨τ, L1, [], [], L2, [], [], (h.s1.keep hk (fun b hb => hs b hb.pos)).done, (h.s2.keep hk (fun b hb => hs b hb.pos)).done, fun b hb => ?_, ?_, ?_⟩, h.kept hk (fun b hb => .inl hb)⟩
  · rcases h.tq b hb with h1 | h1
    · exact .inl h1
    · exact .inr ⟨h1.1, Nat.lt_of_lt_of_le h1.2 hk.size⟩
  · have := h.n1
    simp only [List.length_nil]
    omega
  · have := h.n2
    simp only [List.length_nil]
    omega
end
def SettPost (w : World) (W : Nat) (p0 d0 p1 d1 : Value) (c : Nat) (Q : Nat → Prop) (e : Ending) (w' : World) : Prop :=
  e = .returned (.bool true) ∧ ∃ B', At w' W (wlb B' p0 d0 p1 d1) ∧ Bok w' B' c (Wd Q w w') ∧ Keep (fun b => b = W ∨ Q b) w w'
end Go.Proofs.YtanndhoimpnhpaaGreatDoor
