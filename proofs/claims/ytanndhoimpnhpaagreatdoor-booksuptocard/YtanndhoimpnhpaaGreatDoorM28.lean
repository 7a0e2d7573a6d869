/- Joined by program: LwE, Fl, KpA, LwF, BsD, BsG. -/
import Derived.Test.YtanndhoimpnhpaaGreatDoorM27
import Derived.Test.YtanndhoimpnhpaaGreatDoorM26
import Derived.Test.YtanndhoimpnhpaaGreatDoorM15
import Derived.WalkLawsBesides
import Derived.Deep.CutRange
import Derived.Test.YtanndhoimpnhpaaGreatDoorM2
/- One call on the program's loan, and the same on the document's: they answer alike, and are one loan again. -/
namespace Go.Proofs.YtanndhoimpnhpaaGreatDoor
open Go.ChangeShapes Go.WideShapes Go.ChangeAt Go.RowKit Go.WideMaps Go.Maps Lg Cal

/-- The two, between the two calls. -/
structure MdX (w : World) (B D : Nat) (t : Ln.Terms) (E l : List Ln.Ev) (g g2 : Ln.St) (day day2 : Int) (L L2 : List En) (F1 F2 : Nat → Prop) : Prop where
  pr : Lo w B t E g day L F1
  dc : Dc w D t l g2 day2 L2 F2
  ap : ∀ b, F1 b → ¬ F2 b
  l1 : ∀ b, F1 b → b < w.heap.size
  l2 : ∀ b, F2 b → b < w.heap.size
theorem TwX.mid {w w' : World} {B D : Nat} {t : Ln.Terms} {E E' l : List Ln.Ev} {g g' : Ln.St} {day day' : Int} {L L' : List En} {F1 F2 : Nat → Prop} (h : TwX w B D t E l g day L F1 F2) (hk : Keep F1 w w') (hlo : Lo w' B t E' g' day' L' (Wd F1 w w')) : MdX w' B D t E' l g' g day' day L' L (Wd F1 w w') F2 := by
  obtain ⟨h1, h2, h3, h4, h5⟩ := h.pstep hk hlo
  exact ⟨h1, h2, h3, h4, h5⟩
/-- The program's Add. -/
def PAdd (w : World) (B D : Nat) (t : Ln.Terms) (l : List Ln.Ev) (g : Ln.St) (day : Int) (L : List En) (F1 F2 : Nat → Prop) (e : Ln.Ev) (x : Ending) (w' : World) : Prop :=
  x = .returned (.int .i64 (addC t l e)) ∧ Keep F1 w w' ∧ ∃ E', ((¬ addC t l e = 0 ∧ E'.Perm l) ∨ (addC t l e = 0 ∧ E'.Perm (l ++ [e]))) ∧ MdX w' B D t E' l g g day day L L (Wd F1 w w') F2
theorem TwX.padd {w : World} {B D : Nat} {t : Ln.Terms} {E l : List Ln.Ev} {g : Ln.St} {day : Int} {L : List En} {F1 F2 : Nat → Prop} (h : TwX w B D t E l g day L F1 F2) (e : Ln.Ev) (hlim : Lim w) :
    Calls Tryz.prog 19 #[.pointer (some ⟨B, 0, none⟩), evV e] w (PAdd w B D t l g day L F1 F2 e) := by
  refine (addL w B t E g day L F1 h.pr e hlim).mono ?_
  rw [addC_perm h.pm e]
  rintro x w' ⟨rfl, hk, ⟨hn, hlo⟩ | ⟨hz, E', hE', hlo⟩⟩
  · exact ⟨rfl, hk, E, .inl ⟨hn, h.pm⟩, h.mid hk hlo⟩
  · exact ⟨rfl, hk, E', .inr ⟨hz, hE'.trans ((List.Perm.cons e h.pm).trans (List.perm_append_singleton e l).symm)⟩, h.mid hk hlo⟩
/-- The two are one loan again. -/
def Again (w : World) (B D : Nat) (t : Ln.Terms) (L : List En) (F1 F2 : Nat → Prop) (w' : World) : Prop :=
  Keep F2 w w' ∧ ∃ E l g day, TwX w' B D t E l g day L F1 (Wd F2 w w')
theorem MdX.dadd {w : World} {B D : Nat} {t : Ln.Terms} {E' l : List Ln.Ev} {g : Ln.St} {day : Int} {L : List En} {F1 F2 : Nat → Prop} (h : MdX w B D t E' l g g day day L L F1 F2) (e : Ln.Ev) (hp : (¬ addC t l e = 0 ∧ E'.Perm l) ∨ (addC t l e = 0 ∧ E'.Perm (l ++ [e]))) :
    Calls Tryz.prog 57 #[.pointer (some ⟨D, 0, none⟩), evc e] w fun x w' => x = .returned (.int .i64 (addC t l e)) ∧ Again w B D t L F1 F2 w' := by
  refine (refaddD w D t l g day L F2 h.dc e).mono ?_
  rintro x w' ⟨rfl, hk, ⟨hn, hdc⟩ | ⟨hz, hdc⟩⟩
  · rcases hp with hp | hp
    · exact ⟨rfl, hk, E', l, g, day, dstep h.pr h.ap h.l1 h.l2 hk hdc hp.2⟩
    · exact absurd hp.1 hn
  · rcases hp with hp | hp
    · exact absurd hz hp.1
    · exact ⟨rfl, hk, E', l ++ [e], g, day, dstep h.pr h.ap h.l1 h.l2 hk hdc hp.2⟩
/-- The program's Cancel. -/
def canC (q : Int) (l : List Ln.Ev) : Int := if hasS q l = true then 0 else 9
def PCan (w : World) (B D : Nat) (t : Ln.Terms) (l : List Ln.Ev) (g : Ln.St) (day : Int) (L : List En) (F1 F2 : Nat → Prop) (q : Int) (x : Ending) (w' : World) : Prop :=
  x = .returned (.int .i64 (canC q l)) ∧ Keep F1 w w' ∧ ∃ E', E'.Perm (if hasS q l = true then wo q l else l) ∧ MdX w' B D t E' l g g day day L L (Wd F1 w w') F2
theorem TwX.pcan {w : World} {B D : Nat} {t : Ln.Terms} {E l : List Ln.Ev} {g : Ln.St} {day : Int} {L : List En} {F1 F2 : Nat → Prop} (h : TwX w B D t E l g day L F1 F2) (q : Int) :
    Calls Tryz.prog 58 #[.pointer (some ⟨B, 0, none⟩), .int .i64 q] w (PCan w B D t l g day L F1 F2 q) := by
  obtain ⟨_, _, hD, _⟩ := h.dc
  refine (cancelL w B t E g day L F1 h.pr q).mono ?_
  rintro x w' ⟨hk, ⟨hn, rfl, hlo⟩ | ⟨rfl, i, hi, _, hs, hlo⟩⟩
  · rw [hasS_perm h.pm] at hn
    refine ⟨by unfold canC; rw [if_neg (by simp [hn])], hk, E, ?_, h.mid hk hlo⟩
    rw [if_neg (by simp [hn])]
    exact h.pm
  · have hh : hasS q l = true := by
      rw [← hasS_perm h.pm]
      exact List.any_eq_true.2 ⟨E[i], List.getElem_mem hi, by simp [hs]⟩
    refine ⟨by unfold canC; rw [if_pos hh], hk, _, ?_, h.mid hk hlo⟩
    rw [if_pos hh, erase_wo (ah_distinct h.pm hD.ds) i hi hs]
    exact wo_perm h.pm
theorem MdX.dcan {w : World} {B D : Nat} {t : Ln.Terms} {E' l : List Ln.Ev} {g : Ln.St} {day : Int} {L : List En} {F1 F2 : Nat → Prop} (h : MdX w B D t E' l g g day day L L F1 F2) (q : Int) (hp : E'.Perm (if hasS q l = true then wo q l else l)) :
    Calls Tryz.prog 59 #[.pointer (some ⟨D, 0, none⟩), .int .i64 q] w fun x w' => x = .returned (.int .i64 (canC q l)) ∧ Again w B D t L F1 F2 w' := by
  refine (refcancelD w D t l g day L F2 h.dc q).mono ?_
  rintro x w' ⟨hk, ⟨hn, rfl, hdc⟩ | ⟨hn, rfl, hdc⟩⟩
  · rw [if_neg (by simp [hn])] at hp
    exact ⟨by unfold canC; rw [if_neg (by simp [hn])], hk, E', l, g, day, dstep h.pr h.ap h.l1 h.l2 hk hdc hp⟩
  · rw [if_pos hn] at hp
    exact ⟨by unfold canC; rw [if_pos hn], hk, E', wo q l, g, day, dstep h.pr h.ap h.l1 h.l2 hk hdc hp⟩
/-- The program's Run, to a day that it takes. -/
def PRun (w : World) (B D : Nat) (t : Ln.Terms) (E l : List Ln.Ev) (g : Ln.St) (day : Int) (L : List En) (m : Nat) (F1 F2 : Nat → Prop) (x : Ending) (w' : World) : Prop :=
  x = .returned (.int .i64 0) ∧ Keep F1 w w' ∧ MdX w' B D t E l (Ln.run t cdOf (wtOf t.ba) E m) g (t.st + m) day (bkP t.st (fun k => (yOf t E k).am) L m) L (Wd F1 w w') F2
theorem TwX.prun {w : World} {B D : Nat} {t : Ln.Terms} {E l : List Ln.Ev} {g : Ln.St} {day : Int} {L : List En} {F1 F2 : Nat → Prop} (h : TwX w B D t E l g day L F1 F2) (hL : L.length ≤ 4000000000000) (m : Nat) (hd : day ≤ t.st + m) (hm : m ≤ 3700) (hmv : Mv w) (hF : ¬ F1 1) :
    Calls Tryz.prog 17 #[.pointer (some ⟨B, 0, none⟩), .int .i64 (t.st + m)] w (PRun w B D t E l g day L m F1 F2) := by
  refine (runL w B t E g day L F1 h.pr hL m hd hm hmv hF).mono ?_
  rintro x w' ⟨rfl, hlo, hk⟩
  exact ⟨rfl, hk, h.mid hk hlo⟩
theorem MdX.drun {w : World} {B D : Nat} {t : Ln.Terms} {E l : List Ln.Ev} {g : Ln.St} {day : Int} {L : List En} {m : Nat} {F1 F2 : Nat → Prop} (h : MdX w B D t E l (Ln.run t cdOf (wtOf t.ba) E m) g (t.st + m) day (bkP t.st (fun k => (yOf t E k).am) L m) L F1 F2) (hpm : E.Perm l) (hL : L.length ≤ 4000000000000) (hd : day ≤ t.st + m) (hm : m ≤ 3700) :
    Calls Tryz.prog 60 #[.pointer (some ⟨D, 0, none⟩), .int .i64 (t.st + m)] w fun x w' => x = .returned (.int .i64 0) ∧ Again w B D t (bkP t.st (fun k => (yOf t E k).am) L m) F1 F2 w' := by
  refine (refrunD w D t l g day L F2 h.dc hL m hd hm).mono ?_
  rintro x w' ⟨rfl, hk, R, hR, hs, hdc⟩
  obtain ⟨_, _, _, _, hX, _⟩ := h.pr
  obtain rfl : R = E := So.sorted_one (hR.trans hpm.symm) hs hX.so
  exact ⟨rfl, hk, _, l, _, _, dstep h.pr h.ap h.l1 h.l2 hk hdc hpm⟩
/-- Both refuse a day. -/
theorem TwX.prun_bad {w : World} {B D : Nat} {t : Ln.Terms} {E l : List Ln.Ev} {g : Ln.St} {day : Int} {L : List En} {F1 F2 : Nat → Prop} (h : TwX w B D t E l g day L F1 F2) (n : Int) (hn : n < day ∨ t.st + 3700 < n) :
    Calls Tryz.prog 17 #[.pointer (some ⟨B, 0, none⟩), .int .i64 n] w fun x w' => x = .returned (.int .i64 5) ∧ Below w.heap.size w w' := by
  obtain ⟨P, Mb, evv, bkv, h1, _⟩ := h.pr
  exact Go.Proofs.YtanndhoimpnhpaaGreatDoor.prun_bad w B t evv g day _ h1.ln h1.ot n hn
theorem TwX.drun_bad {w : World} {B D : Nat} {t : Ln.Terms} {E l : List Ln.Ev} {g : Ln.St} {day : Int} {L : List En} {F1 F2 : Nat → Prop} (h : TwX w B D t E l g day L F1 F2) (n : Int) (hn : n < day ∨ t.st + 3700 < n) :
    Calls Tryz.prog 60 #[.pointer (some ⟨D, 0, none⟩), .int .i64 n] w fun x w' => x = .returned (.int .i64 5) ∧ Below w.heap.size w w' := by
  obtain ⟨evv, bkv, h1, _⟩ := h.dc
  exact refrun_bad w D t evv g day _ h1.ln h1.ot n hn
end Go.Proofs.YtanndhoimpnhpaaGreatDoor

/- Two loans without events, day by day: the document's first one up to its first due day; one that never falls due. -/
namespace Go.Proofs.YtanndhoimpnhpaaGreatDoor.Ln
open Cal

theorem run_nil_succ (t : Terms) (cd wt : Int → Int) (k : Nat) : run t cd wt [] (k + 1) = (late t (wt (t.st + k)) (early t (t.st + k) (cd (t.st + k)) (run t cd wt [] k))).g := rfl
theorem e_start {t : Terms} {n : Int} (cd : Int) (g : St) (hn : n = t.st) : early t n cd g = enter ⟨g, fun _ => 0⟩ 1 t.pr := by
  subst hn
  unfold early
  simp
theorem e_not {t : Terms} {n : Int} (cd : Int) (g : St) (hn : ¬ n = t.st) (hd : ¬ cd = t.du) : early t n cd g = ⟨g, fun _ => 0⟩ := by
  unfold early
  simp [hn, hd]
theorem e_due {t : Terms} {n : Int} (cd : Int) (g : St) (hn : ¬ n = t.st) (hd : cd = t.du) (hf : g.fr ≤ n) : early t n cd g = enter (enter ⟨g, fun _ => 0⟩ 2 g.du) 3 g.it := by
  unfold early
  simp [hn, hd, hf]
  rfl

/-! ### A loan that never falls due -/
def fT (p r b : Int) : Terms := ⟨0, p, r, 1000000, b, 28⟩
def fS (p r b : Int) (e : Int) : St := ⟨p, part (fT p r b) e, 0, 0, 0, 0, r, 0, e, 0⟩
theorem cd_first (k : Nat) (hk : k ≤ 30) : cdOf (0 + (k : Int)) = k + 1 :=
  cdOf_is ⟨1900, 1, ok_mk (by decide) (by decide) (by decide) (by decide) (by omega) (by simp [dim]; omega), by unfold num; rw [ys_first, cum_one]; omega⟩
theorem part_zero (t : Terms) : part t 0 = 0 := by unfold part; simp
theorem late_flat (p r b e : Int) (a : Nat → Int) : (late (fT p r b) 1 ⟨fS p r b e, a⟩).g = fS p r b (e + p * (r * 1)) := by
  unfold late fS
  simp only [enter, move, part_zero, Int.zero_mul, Int.add_zero]
  have : part (fT p r b) e + (part (fT p r b) (e + p * (r * 1)) - part (fT p r b) e) = part (fT p r b) (e + p * (r * 1)) := by omega
  rw [this]
  simp
theorem run_flat (p r b : Int) (hb : ¬ b = 3) : ∀ k : Nat, k ≤ 26 → run (fT p r b) cdOf (wtOf b) [] (k + 1) = fS p r b (p * (r * 1) * (k + 1 : Nat))
  | 0, _ => by
    rw [run_nil_succ, wtOf_one _ hb, e_start _ _ (by show (0 : Int) + ((0 : Nat) : Int) = 0; rfl)]
    have e : enter ⟨run (fT p r b) cdOf (wtOf b) [] 0, fun _ => 0⟩ 1 (fT p r b).pr = ⟨fS p r b 0, upd (fun _ => 0) 1 p⟩ := by
      show (⟨⟨0 + p, 0, 0, 0, 0, 0, r, 0, 0, 0⟩, upd (fun _ => 0) 1 p⟩ : Dy) = _
      unfold fS
      rw [part_zero, Int.zero_add]
    rw [e, late_flat]
    simp
  | k + 1, hk => by
    have ih := run_flat p r b hb k (by omega)
    rw [run_nil_succ, wtOf_one _ hb, ih, e_not _ _ (by show ¬ (0 : Int) + ((k + 1 : Nat) : Int) = 0; omega) (by
      show ¬ cdOf (0 + ((k + 1 : Nat) : Int)) = 28
      rw [cd_first (k + 1) (by omega)]; omega), late_flat]
    congr 1
    have e : ((k + 1 + 1 : Nat) : Int) = ((k + 1 : Nat) : Int) + 1 := by omega
    rw [e, Int.mul_add (p * (r * 1)), Int.mul_one (p * (r * 1))]

/-! ### The document's loan -/
def aT : Terms := ⟨36524, 36500000, 10000, 0, 1, 15⟩
def aS (k : Int) : St := ⟨36500000, 1000 * k, 0, 0, 0, 0, 10000, 0, 365000000000 * k, 0⟩
theorem cd_doc (k : Nat) (hk : k ≤ 30) : cdOf (36524 + (k : Int)) = k + 1 :=
  cdOf_is ⟨2000, 1, ok_mk (by decide) (by decide) (by decide) (by decide) (by omega) (by simp [dim]; omega), by unfold num; rw [cum_one]; have : ys 2000 = 36524 := by decide
                                                                                                                omega⟩
theorem part_doc (x : Int) : part aT x = x / 1000000 / 365 := rfl
theorem late_doc (k : Int) (a : Nat → Int) : (late aT 1 ⟨aS k, a⟩).g = aS (k + 1) := by
  have h1 : part aT (365000000000 * k + 36500000 * (10000 * 1)) - part aT (365000000000 * k) = 1000 := by
    rw [part_doc, part_doc]
    omega
  unfold late aS
  simp only [enter, move]
  rw [h1]
  have e1 : 1000 * k + 1000 = 1000 * (k + 1) := by omega
  have e2 : 365000000000 * k + 36500000 * (10000 * 1) = 365000000000 * (k + 1) := by omega
  rw [e1, e2]
  rfl
theorem run_doc : ∀ k : Nat, k ≤ 13 → run aT cdOf (wtOf 1) [] (k + 1) = aS (k + 1 : Nat)
  | 0, _ => by
    rw [run_nil_succ, wtOf_one _ (by decide), e_start _ _ (by show (36524 : Int) + ((0 : Nat) : Int) = 36524; rfl)]
    have e : enter ⟨run aT cdOf (wtOf 1) [] 0, fun _ => 0⟩ 1 aT.pr = ⟨aS 0, upd (fun _ => 0) 1 36500000⟩ := rfl
    rw [e, late_doc 0]
    rfl
  | k + 1, hk => by
    have ih := run_doc k (by omega)
    rw [run_nil_succ, wtOf_one _ (by decide), ih, e_not _ _ (by show ¬ (36524 : Int) + ((k + 1 : Nat) : Int) = 36524; omega) (by
      show ¬ cdOf (36524 + ((k + 1 : Nat) : Int)) = 15
      rw [cd_doc (k + 1) (by omega)]; omega), late_doc _]
    rfl
theorem run_awake : run aT cdOf (wtOf 1) [] 15 = ⟨36500000, 1000, 14000, 0, 0, 0, 10000, 0, 5475000000000, 0⟩ := by
  have ih := run_doc 13 (by decide)
  rw [run_nil_succ, wtOf_one _ (by decide), ih, e_due _ _ (by decide) (by show cdOf (36524 + ((14 : Nat) : Int)) = 15; rw [cd_doc 14 (by decide)]; rfl) (by decide)]
  rfl
end Go.Proofs.YtanndhoimpnhpaaGreatDoor.Ln

/- The document's loan, as the statements without the document's answer ask it; and what pick answers. -/
namespace Go.Proofs.YtanndhoimpnhpaaGreatDoor
open Go.RowKit Cal

theorem pick_all (c n : Int) (hc : (Lit.int .i64 c).wf = true) (n0 : 1 ≤ n) (n1 : n ≤ 1000000000000) :
    ∃ r, 0 ≤ r ∧ r < n ∧ ∀ w : World, Calls Tryz.prog 16 #[.int .i64 c, .int .i64 n] w fun e w' => e = .returned (.int .i64 r) ∧ w' = w := by
  have hb := bounds_i64 hc
  by_cases h : c < 0
  · refine ⟨(-(c + 1)) % n, Int.emod_nonneg _ (by omega), Int.emod_lt_of_pos _ (by omega), fun w => ?_⟩
    go_enter Tryz.func16, Tryz.ntmps16
    go_wp2
    go_ret
    exact ⟨ret_int (by rw [← Int.neg_tmod, Int.tmod_eq_emod_of_nonneg (by omega)]), rfl⟩
  · have h' : 0 ≤ c := by omega
    refine ⟨c % n, Int.emod_nonneg _ (by omega), Int.emod_lt_of_pos _ (by omega), fun w => ?_⟩
    go_enter Tryz.func16, Tryz.ntmps16
    go_wp2
    go_ret
    exact ⟨rfl, rfl⟩

theorem Keep.fresh {F : Nat → Prop} {w w1 w2 : World} (h1 : Below w.heap.size w w1) (h2 : Keep F w1 w2) (hF : ∀ b, F b → w.heap.size ≤ b) : Below w.heap.size w w2 :=
  ⟨h2.os.trans h1.os, h2.tape.trans h1.tape, h2.output.trans h1.output, Nat.le_trans h1.size h2.size, fun k hk => (h2.block k (Nat.lt_of_lt_of_le hk h1.size) (fun x => by have := hF k x; omega)).trans (h1.block k hk)⟩
theorem Mv.below {w w1 : World} (h : Mv w) (hb : Below w.heap.size w w1) : Mv w1 := h.keep (S := fun _ => False) (Keep.below hb) (fun x => x)
theorem Mv.lt {w : World} (h : Mv w) : 1 < w.heap.size := World.block_lt_of_cell? _ _ (h 0 _ rfl)
theorem Wd.fresh {w w1 : World} {b : Nat} (h : Wd (fun _ => False) w w1 b) : w.heap.size ≤ b := h.elim (fun x => x.elim) (fun x => x.1)

theorem okT_aT : Ln.OkT Ln.aT := ⟨by decide, by decide, by decide, by decide, by decide, by decide, by decide, by decide, by decide, by decide⟩
set_option maxRecDepth 10000 in
set_option maxHeartbeats 1000000 in
theorem awake_any (w : World) (hmv : Mv w) :
    Calls Tryz.prog 12 #[] w fun e w' => e = .returned (.bool true) ∧ Below w.heap.size w w' := by
  have hgl := hmv.lt
  have hO := openL Ln.aT w (by decide)
  go_enter Tryz.func12, Tryz.ntmps12
  go_wp2_with fail
  refine hO.mono ?_
  rintro e w1 ⟨B, rfl, hLo, hb1⟩
  clear hO
  have hR := runL w1 B Ln.aT [] _ _ [] _ hLo (by simp) 15 (by decide) (by decide) (hmv.below hb1) (fun x => by have := Wd.fresh x; omega)
  rw [show Ln.aT.st + ((15 : Nat) : Int) = 36539 from rfl, show wtOf Ln.aT.ba = wtOf 1 from rfl, Ln.run_awake] at hR
  clear hLo
  go_wp2_with fail
  refine hR.mono ?_
  rintro e w2 ⟨rfl, hA2, k2⟩
  clear hR
  have hB2 := Keep.fresh hb1 k2 (fun b x => Wd.fresh x)
  have hL := balanceL w2 B _ _ _ _ _ _ hA2
  clear hA2 k2 hb1
  go_wp2_with fail
  refine hL.mono ?_
  rintro e w3 ⟨rfl, hb3⟩
  have hB3 := hB2.trans (hb3.mono hB2.size)
  clear hL hB2 hb3
  unfold blV
  go_wp2
  go_ret
  exact ⟨rfl, hB3.alloc hB3.size _⟩
end Go.Proofs.YtanndhoimpnhpaaGreatDoor

/- One step of a script, of the kinds up to Balance. -/
namespace Go.Proofs.YtanndhoimpnhpaaGreatDoor
open Go.ChangeShapes Go.WideShapes Go.ChangeAt Go.RowKit Go.WideMaps Go.Maps Lg Cal

/-- A pair of loans, or none; the book has at most so many entries. -/
def Pair (w : World) (p d : Value) (n : Nat) (G : Nat → Prop) : Prop :=
  (p = .pointer none ∧ d = .pointer none) ∨ ∃ (B D : Nat) (t : Ln.Terms) (E l : List Ln.Ev) (g : Ln.St) (day : Int) (L : List En) (F1 F2 : Nat → Prop), p = .pointer (some ⟨B, 0, none⟩) ∧ d = .pointer (some ⟨D, 0, none⟩) ∧ TwX w B D t E l g day L F1 F2 ∧ (∀ b, F1 b → G b) ∧ (∀ b, F2 b → G b) ∧ L.length ≤ 88800 * n
theorem Pair.more {w : World} {p d : Value} {n : Nat} {G : Nat → Prop} (h : Pair w p d n G) : Pair w p d (n + 1) G := by
  rcases h with h | ⟨B, D, t, E, l, g, day, L, F1, F2, h1, h2, h3, h4, h5, h6⟩
  · exact .inl h
  · exact .inr ⟨B, D, t, E, l, g, day, L, F1, F2, h1, h2, h3, h4, h5, by omega⟩
theorem Pair.keep {S : Nat → Prop} {w w' : World} {p d : Value} {n : Nat} {G : Nat → Prop} (h : Pair w p d n G) (hk : Keep S w w') (hs : ∀ b, G b → ¬ S b) : Pair w' p d n G := by
  rcases h with h | ⟨B, D, t, E, l, g, day, L, F1, F2, h1, h2, h3, h4, h5, h6⟩
  · exact .inl h
  · exact .inr ⟨B, D, t, E, l, g, day, L, F1, F2, h1, h2, h3.keep hk (fun b hb => hs b (h4 b hb)) (fun b hb => hs b (h5 b hb)), h4, h5, h6⟩
theorem Pair.mono {w : World} {p d : Value} {n : Nat} {G H : Nat → Prop} (h : Pair w p d n G) (hs : ∀ b, G b → H b) : Pair w p d n H := by
  rcases h with h | ⟨B, D, t, E, l, g, day, L, F1, F2, h1, h2, h3, h4, h5, h6⟩
  · exact .inl h
  · exact .inr ⟨B, D, t, E, l, g, day, L, F1, F2, h1, h2, h3, fun b hb => hs b (h4 b hb), fun b hb => hs b (h5 b hb), h6⟩
/-- The statements' world: two pairs of loans in memory that is new since w0. -/
structure WlS (w0 w : World) (W n : Nat) (pv dv : Nat → Value) (G : Nat → Nat → Prop) : Prop where
  wa : At w W (wl (pv 0) (dv 0) (pv 1) (dv 1))
  bl : Below w0.heap.size w0 w
  pr : ∀ k, k < 2 → Pair w (pv k) (dv k) n (G k)
  ap : ∀ b, G 0 b → ¬ G 1 b
  nw : ∀ k, k < 2 → ¬ G k W
  ge : ∀ k b, k < 2 → G k b → w0.heap.size ≤ b
  lt : ∀ k b, k < 2 → G k b → b < w.heap.size
  wg : w0.heap.size ≤ W
theorem WlS.below {w0 w w' : World} {W n : Nat} {pv dv : Nat → Value} {G : Nat → Nat → Prop} (h : WlS w0 w W n pv dv G) (hb : Below w.heap.size w w') : WlS w0 w' W n pv dv G :=
  ⟨At.keep (S := fun _ => False) (v := .slice none 0 0) h.wa (Keep.below hb) (fun x => x), h.bl.trans (hb.mono h.bl.size), fun k hk => (h.pr k hk).keep (S := fun _ => False) (Keep.below hb) (fun _ _ x => x), h.ap, h.nw, h.ge, fun k b hk hg => Nat.lt_of_lt_of_le (h.lt k b hk hg) hb.size, h.wg⟩
theorem WlS.more {w0 w : World} {W n : Nat} {pv dv : Nat → Value} {G : Nat → Nat → Prop} (h : WlS w0 w W n pv dv G) : WlS w0 w W (n + 1) pv dv G :=
  ⟨h.wa, h.bl, fun k hk => (h.pr k hk).more, h.ap, h.nw, h.ge, h.lt, h.wg⟩
/-- A call on the pair k. -/
theorem WlS.upd {w0 w w' : World} {W n : Nat} {pv dv : Nat → Value} {G : Nat → Nat → Prop} (h : WlS w0 w W n pv dv G) (k : Nat) (hk2 : k < 2) (hk : Keep (G k) w w') (hp : Pair w' (pv k) (dv k) (n + 1) (Wd (G k) w w')) : WlS w0 w' W (n + 1) pv dv (fun i => if i = k then Wd (G k) w w' else G i) := by
  have hs := h.bl.size
  have hW : W < w.heap.size := At.lt (v := .slice none 0 0) h.wa
  have apk : ∀ i, i < 2 → ¬ i = k → ∀ b, G i b → ¬ G k b := fun i hi hik b h1 h2 => by
    rcases (show (i = 0 ∧ k = 1) ∨ (i = 1 ∧ k = 0) by omega) with ⟨rfl, rfl⟩ | ⟨rfl, rfl⟩
    · exact h.ap b h1 h2
    · exact h.ap b h2 h1
  have apw : ∀ i, i < 2 → ¬ i = k → ∀ b, G i b → ¬ Wd (G k) w w' b := fun i hi hik b h1 h2 => by
    rcases h2 with h2 | h2
    · exact apk i hi hik b h1 h2
    · have := h.lt i b hi h1; omega
  refine ⟨At.keep (v := .slice none 0 0) h.wa hk (h.nw k hk2), Keep.fresh h.bl hk (fun b hb => h.ge k b hk2 hb), fun i hi => ?_, ?_, fun i hi => ?_, fun i b hi => ?_, fun i b hi => ?_, h.wg⟩
  · by_cases hik : i = k
    · subst hik
      simp only [if_pos]
      exact hp
    · simp only [if_neg hik]
      exact ((h.pr i hi).keep hk (fun b hb => apk i hi hik b hb)).more
  · intro b
    by_cases h0 : (0 : Nat) = k
    · have h1 : ¬ (1 : Nat) = k := by omega
      simp only [if_pos h0, if_neg h1]
      exact fun x y => apw 1 (by omega) h1 b y x
    · by_cases h1 : (1 : Nat) = k
      · simp only [if_neg h0, if_pos h1]
        exact fun x y => apw 0 (by omega) h0 b x y
      · omega
  · by_cases hik : i = k
    · simp only [if_pos hik]
      rintro (x | x)
      · exact h.nw k hk2 x
      · omega
    · simp only [if_neg hik]
      exact h.nw i hi
  · by_cases hik : i = k
    · simp only [if_pos hik]
      rintro (x | x)
      · exact h.ge k b hk2 x
      · omega
    · simp only [if_neg hik]
      exact h.ge i b hi
  · by_cases hik : i = k
    · simp only [if_pos hik]
      rintro (x | x)
      · exact Nat.lt_of_lt_of_le (h.lt k b hk2 x) hk.size
      · exact x.2
    · simp only [if_neg hik]
      exact fun x => Nat.lt_of_lt_of_le (h.lt i b hi x) hk.size
/-- Two calls, one on each side of a pair. -/
theorem pair_again {w w1 w2 : World} {B D : Nat} {t : Ln.Terms} {L : List En} {F1 F2 G : Nat → Prop} {n : Nat} (h1 : Keep F1 w w1) (h2 : Again w1 B D t L (Wd F1 w w1) F2 w2) (hG1 : ∀ b, F1 b → G b) (hG2 : ∀ b, F2 b → G b) (hL : L.length ≤ 88800 * n) :
    Keep G w w2 ∧ Pair w2 (.pointer (some ⟨B, 0, none⟩)) (.pointer (some ⟨D, 0, none⟩)) n (Wd G w w2) := by
  obtain ⟨hk, E, l, g, day, hT⟩ := h2
  refine ⟨(h1.mono (fun b _ hb => hG1 b hb)).trans (hk.mono (fun b _ hb => hG2 b hb)), .inr ⟨B, D, t, E, l, g, day, L, _, _, rfl, rfl, hT, ?_, ?_, hL⟩⟩
  · rintro b (x | x)
    · exact .inl (hG1 b x)
    · exact .inr ⟨x.1, Nat.lt_of_lt_of_le x.2 hk.size⟩
  · rintro b (x | x)
    · exact .inl (hG2 b x)
    · exact .inr ⟨Nat.le_trans h1.size x.1, x.2⟩
end Go.Proofs.YtanndhoimpnhpaaGreatDoor

/- The statements' world: two pairs of loans and the book of lists that came out. -/
namespace Go.Proofs.YtanndhoimpnhpaaGreatDoor
open Go.ChangeShapes Go.WideShapes Go.ChangeAt Go.RowKit Go.WideMaps Go.Maps Lg Cal

/-- The six lists of the book. -/
structure Bv where
  l1 : Value
  l2 : Value
  w1 : Value
  r1 : Value
  w2 : Value
  r2 : Value
abbrev SideI (w : World) (lv wv rv : Value) (Ls Ws Rs : List Value) (i : Nat) (τ : Nat → Nat) : Prop := Side w 38 1 okI mkI lv wv rv Ls Ws Rs i τ 0
abbrev SideE (w : World) (lv wv rv : Value) (Ls Ws Rs : List Value) (i : Nat) (τ : Nat → Nat) : Prop := Side w 54 3 okE mkE lv wv rv Ls Ws Rs i τ 1
/-- The book, in blocks among Q; so many lists came at most. -/
def Bok (w : World) (B : Bv) (c : Nat) (Q : Nat → Prop) : Prop :=
  ∃ (τ : Nat → Nat) (L1 W1 R1 L2 W2 R2 : List Value), SideI w B.l1 B.w1 B.r1 L1 W1 R1 0 τ ∧ SideE w B.l2 B.w2 B.r2 L2 W2 R2 0 τ ∧ (∀ b, τ b ≠ 0 → Q b) ∧ L1.length + 4 * W1.length ≤ 4 * c ∧ L2.length + 4 * W2.length ≤ 4 * c
theorem Sd.pos {s i x : Nat} (h : Sd s i x) : x ≠ 0 := by
  rcases h with rfl | rfl | rfl | rfl | rfl | ⟨k, _, rfl⟩ <;> omega
theorem Bok.keep {S Q : Nat → Prop} {w w' : World} {B : Bv} {c : Nat} (h : Bok w B c Q) (hk : Keep S w w') (hs : ∀ b, Q b → ¬ S b) : Bok w' B c Q := by
  obtain ⟨τ, L1, W1, R1, L2, W2, R2, h1, h2, h3, h4⟩ := h
  exact ⟨τ, L1, W1, R1, L2, W2, R2, h1.keep hk (fun b hb => hs b (h3 b hb.pos)), h2.keep hk (fun b hb => hs b (h3 b hb.pos)), h3, h4⟩
theorem Bok.mono {Q Q' : Nat → Prop} {w : World} {B : Bv} {c c' : Nat} (h : Bok w B c Q) (hq : ∀ b, Q b → Q' b) (hc : c ≤ c') : Bok w B c' Q' := by
  obtain ⟨τ, L1, W1, R1, L2, W2, R2, h1, h2, h3, h4, h5⟩ := h
  exact ⟨τ, L1, W1, R1, L2, W2, R2, h1, h2, fun b hb => hq b (h3 b hb), by omega, by omega⟩
def nilB : Bv := ⟨.slice none 0 0, .slice none 0 0, .slice none 0 0, .slice none 0 0, .slice none 0 0, .slice none 0 0⟩
theorem Bok.nil (w : World) : Bok w nilB 0 (fun _ => False) := ⟨fun _ => 0, [], [], [], [], [], [], Side.nil _ _ _ _ _ _ _, Side.nil _ _ _ _ _ _ _, fun b hb => hb rfl, by simp, by simp⟩
/-- The cells of the statements' world. -/
def wlb (B : Bv) (p0 d0 p1 d1 : Value) : List Value := [B.l1, B.l2, B.w1, B.r1, B.w2, B.r2, p0, d0, p1, d1]
/-- The statements' world: two pairs of loans and the book in memory that is new since w0. -/
structure WlG (w0 w : World) (W n : Nat) (pv dv : Nat → Value) (G : Nat → Nat → Prop) (B : Bv) (c : Nat) (Q : Nat → Prop) : Prop where
  wa : At w W (wlb B (pv 0) (dv 0) (pv 1) (dv 1))
  bl : Below w0.heap.size w0 w
  pr : ∀ k, k < 2 → Pair w (pv k) (dv k) n (G k)
  ap : ∀ b, G 0 b → ¬ G 1 b
  nw : ∀ k, k < 2 → ¬ G k W
  ge : ∀ k b, k < 2 → G k b → w0.heap.size ≤ b
  lt : ∀ k b, k < 2 → G k b → b < w.heap.size
  wg : w0.heap.size ≤ W
  bk : Bok w B c Q
  qw : ¬ Q W
  qg : ∀ k b, k < 2 → G k b → ¬ Q b
  qe : ∀ b, Q b → w0.heap.size ≤ b
  ql : ∀ b, Q b → b < w.heap.size
section
variable {w0 w w' : World} {W n c : Nat} {pv dv : Nat → Value} {G : Nat → Nat → Prop} {B : Bv} {Q : Nat → Prop}
theorem WlG.below (h : WlG w0 w W n pv dv G B c Q) (hb : Below w.heap.size w w') : WlG w0 w' W n pv dv G B c Q :=
  ⟨At.keep (S := fun _ => False) (v := B.l1) h.wa (Keep.below hb) (fun x => x), h.bl.trans (hb.mono h.bl.size), fun k hk => (h.pr k hk).keep (S := fun _ => False) (Keep.below hb) (fun _ _ x => x), h.ap, h.nw, h.ge, fun k b hk hg => Nat.lt_of_lt_of_le (h.lt k b hk hg) hb.size, h.wg, h.bk.keep (S := fun _ => False) (Keep.below hb) (fun _ _ x => x), h.qw, h.qg, h.qe, fun b hq => Nat.lt_of_lt_of_le (h.ql b hq) hb.size⟩
theorem WlG.more (h : WlG w0 w W n pv dv G B c Q) : WlG w0 w W (n + 1) pv dv G B c Q :=
  ⟨h.wa, h.bl, fun k hk => (h.pr k hk).more, h.ap, h.nw, h.ge, h.lt, h.wg, h.bk, h.qw, h.qg, h.qe, h.ql⟩
/-- A call on the pair k. -/
theorem WlG.upd (h : WlG w0 w W n pv dv G B c Q) (k : Nat) (hk2 : k < 2) (hk : Keep (G k) w w') (hp : Pair w' (pv k) (dv k) (n + 1) (Wd (G k) w w')) : WlG w0 w' W (n + 1) pv dv (fun i => if i = k then Wd (G k) w w' else G i) B c Q := by
  have hs := h.bl.size
  have hW : W < w.heap.size := At.lt (v := B.l1) h.wa
  have apk : ∀ i, i < 2 → ¬ i = k → ∀ b, G i b → ¬ G k b := fun i hi hik b h1 h2 => by
    rcases (show (i = 0 ∧ k = 1) ∨ (i = 1 ∧ k = 0) by omega) with ⟨rfl, rfl⟩ | ⟨rfl, rfl⟩
    · exact h.ap b h1 h2
    · exact h.ap b h2 h1
  have apw : ∀ i, i < 2 → ¬ i = k → ∀ b, G i b → ¬ Wd (G k) w w' b := fun i hi hik b h1 h2 => by
    rcases h2 with h2 | h2
    · exact apk i hi hik b h1 h2
    · have := h.lt i b hi h1; omega
  refine ⟨At.keep (v := B.l1) h.wa hk (h.nw k hk2), Keep.fresh h.bl hk (fun b hb => h.ge k b hk2 hb), fun i hi => ?_, ?_, fun i hi => ?_, fun i b hi => ?_, fun i b hi => ?_, h.wg, h.bk.keep hk (fun b hb hg => h.qg k b hk2 hg hb), h.qw, fun i b hi => ?_, h.qe, fun b hq => Nat.lt_of_lt_of_le (h.ql b hq) hk.size⟩
  · by_cases hik : i = k
    · subst hik
      simp only [if_pos]
      exact hp
    · simp only [if_neg hik]
      exact ((h.pr i hi).keep hk (fun b hb => apk i hi hik b hb)).more
  · intro b
    by_cases h0 : (0 : Nat) = k
    · have h1 : ¬ (1 : Nat) = k := by omega
      simp only [if_pos h0, if_neg h1]
      exact fun x y => apw 1 (by omega) h1 b y x
    · by_cases h1 : (1 : Nat) = k
      · simp only [if_neg h0, if_pos h1]
        exact fun x y => apw 0 (by omega) h0 b x y
      · omega
  · by_cases hik : i = k
    · simp only [if_pos hik]
      rintro (x | x)
      · exact h.nw k hk2 x
      · omega
    · simp only [if_neg hik]
      exact h.nw i hi
  · by_cases hik : i = k
    · simp only [if_pos hik]
      rintro (x | x)
      · exact h.ge k b hk2 x
      · omega
    · simp only [if_neg hik]
      exact h.ge i b hi
  · by_cases hik : i = k
    · simp only [if_pos hik]
      rintro (x | x)
      · exact Nat.lt_of_lt_of_le (h.lt k b hk2 x) hk.size
      · exact x.2
    · simp only [if_neg hik]
      exact fun x => Nat.lt_of_lt_of_le (h.lt i b hi x) hk.size
  · by_cases hik : i = k
    · simp only [if_pos hik]
      rintro (x | x) hq
      · exact h.qg k b hk2 x hq
      · have := h.ql b hq; omega
    · simp only [if_neg hik]
      exact h.qg i b hi
/-- Only the book has changed. -/
theorem WlG.home {B' : Bv} {c' : Nat} {Q' : Nat → Prop} (h : WlG w0 w W n pv dv G B c Q) (hA : At w' W (wlb B' (pv 0) (dv 0) (pv 1) (dv 1))) (hk : Keep (fun b => b = W ∨ Q b) w w') (hb : Bok w' B' c' Q') (hq : ∀ b, Q' b → Q b ∨ (w.heap.size ≤ b ∧ b < w'.heap.size)) : WlG w0 w' W n pv dv G B' c' Q' := by
  have hs := h.bl.size
  have hW : W < w.heap.size := At.lt (v := B.l1) h.wa
  refine ⟨hA, Keep.fresh h.bl hk (fun b hb => ?_), fun k hk2 => (h.pr k hk2).keep hk (fun b hb x => ?_), h.ap, h.nw, h.ge, fun k b hk2 hg => Nat.lt_of_lt_of_le (h.lt k b hk2 hg) hk.size, h.wg, hb, fun x => ?_, fun k b hk2 hg x => ?_, fun b x => ?_, fun b x => ?_⟩
  · rcases hb with rfl | hb
    · exact h.wg
    · exact h.qe b hb
  · rcases x with rfl | x
    · exact h.nw k hk2 hb
    · exact h.qg k b hk2 hb x
  · rcases hq W x with x | x
    · exact h.qw x
    · omega
  · have := h.lt k b hk2 hg
    rcases hq b x with x | x
    · exact h.qg k b hk2 hg x
    · omega
  · rcases hq b x with x | x
    · exact h.qe b x
    · omega
  · rcases hq b x with x | x
    · exact Nat.lt_of_lt_of_le (h.ql b x) hk.size
    · exact x.2
end
end Go.Proofs.YtanndhoimpnhpaaGreatDoor

/- A list that came out is put into the book: its row grows by it, and that of the copies by its copy. (Plain: of neither side.) -/
namespace Go.Proofs.YtanndhoimpnhpaaGreatDoor
open Go.RowKit

theorem run_append_copy {P : Program} (w : World) (t ty e : TypeId) (i : TypeInfo) (z : Value) (size bytes : Nat) (ht : P.underlying t = some (.slice e)) (hi : P.info? e = some i) (hz : i.zero = some z)
    (hsize : i.size = size) (hby : i.bytes = bytes) (hzs : z.cells.size = size) (hsz : 0 < size)
    (v : Value) (n : Nat) (xs : List Value) (hown : OwT w size v n xs) (h1 : ∀ u ∈ xs, u.oneCell' = true) (h63 : n ≤ maxLen) (hbytes : n * bytes ≤ 140737488355328) :
    ∃ v' w', (Builtin.append_ #[t, t] ty #[.slice none 0 0, v]).run P w = .ok v' w' ∧ OwT w' size v' n xs ∧ Below w.heap.size w w' ∧ ∀ b, v'.ownBlock = some b → b = w.heap.size := by
  obtain ⟨T, hown⟩ := hown
  rcases hown.2 with ⟨rfl, rfl⟩ | ⟨g, cap, cur, rfl, hbg, hg, hnc, hcm, hcs, htake⟩
  · have hx : xs = [] := List.eq_nil_of_length_eq_zero (by simpa using hown.1)
    subst hx
    refine ⟨.slice none 0 0, w, ?_, ⟨e, World.ownsRow_nil w 0 e size⟩, Below.refl _ _, fun b hb => (by cases hb)⟩
    simp [Builtin.append_, run_underlying ht, sizeOf, typeInfo, hi, Builtin.lenOf, Builtin.firstCells]
  · have holds : ∀ j u, xs[j]? = some u → w.cell? ((⟨g, 0, none⟩ : Addr).add j) = some u := hown.cells (g := g) rfl
    obtain ⟨v', w', hr, h2, h3, _, h5⟩ := run_append_own_at (P := P) w 0 t ty e i z size bytes ht hi hz hsize hby hzs hsz (.slice none 0 0) 0 [] (World.ownsRow_nil w 0 e size) ⟨g, 0, none⟩ n cap xs hown.1 holds h1 (by omega) (by rw [Nat.zero_add]; exact hbytes) (Nat.zero_le _)
    rw [Nat.zero_add, List.nil_append] at h2
    refine ⟨v', w', hr, ⟨e, h2⟩, ⟨h3.os, h3.tape, h3.output, h3.size, fun k hk => h3.block k hk (fun x => by cases x)⟩, fun b hb => ?_⟩
    rcases h5 with h5 | h5
    · rw [h5] at hb; cases hb
    · rw [h5] at hb; cases hb; rfl
theorem wp_append_copy {Pr : Program} {o : Oper} {a : Act} (w : World) {K : Act → World → Prop} {Q : Exit → Act → World → Prop} (s x : Operand) (t : TypeId)
    (ho : o.op = .call { callee := .builtin .append, args := #[s, x], argTypes := #[t, t] })
    (e : TypeId) (i : TypeInfo) (z : Value) (size bytes : Nat) (ht : Pr.underlying t = some (.slice e)) (hi : Pr.info? e = some i) (hz : i.zero = some z)
    (hsize : i.size = size) (hby : i.bytes = bytes) (hzs : z.cells.size = size) (hsz : 0 < size)
    (v : Value) (n : Nat) (xs : List Value) (hs : a.eval s = .slice none 0 0) (hx : a.eval x = v) (hown : OwT w size v n xs) (h1 : ∀ u ∈ xs, u.oneCell' = true)
    (h63 : n ≤ maxLen) (hbytes : n * bytes ≤ 140737488355328)
    (h : ∀ v' w', OwT w' size v' n xs → Below w.heap.size w w' → (∀ b, v'.ownBlock = some b → b = w.heap.size) → K (a.put o.dst v') w') : o.wp Pr a w K Q := by
  obtain ⟨v', w', hr, h2, h3, h4⟩ := run_append_copy (P := Pr) w t o.type e i z size bytes ht hi hz hsize hby hzs hsz v n xs hown h1 h63 hbytes
  unfold Oper.wp execOp
  simp only [ho, resolve, invoke, builtin, Sem.run_bind, Sem.run_pure, Result.andThen_ok, List.map_toArray, List.map_cons, List.map_nil, hs, hx, hr]
  exact h v' w' h2 h3 h4
/-- A row whose place is a cell of the block W has grown by one. -/
structure RowTo (w : World) (TS : TypeId) (W : Nat) (lv : Value) (Ls : List Value) (v lv' : Value) (w' : World) : Prop where
  ol : w'.ownsRow 0 TS 1 lv' (Ls.length + 1) (Ls ++ [v])
  kp : Keep (fun b => b = W ∨ lv.ownBlock = some b) w w'
  nl : OwnNew w lv lv'
theorem row_to {w V w1 : World} {TS : TypeId} {W : Nat} {lv : Value} {Ls : List Value} {v lv' : Value} (hV : Below w.heap.size w V) (ha : ∀ b, lv.ownBlock = some b → ¬ b = W) (hW : W < w.heap.size) (ho : w1.ownsRow 0 TS 1 lv' (Ls.length + 1) (Ls ++ [v])) (hg : V.grownBy w1 lv.ownBlock) (hat : lv'.ownBlock = lv.ownBlock ∨ lv'.ownBlock = some V.heap.size) (j : Nat) (q : Value) : RowTo w TS W lv Ls v lv' (w1.setCell ⟨W, j, none⟩ q) := by
  have kg : Keep (fun b => lv.ownBlock = some b) V w1 := ⟨hg.os, hg.tape, hg.output, hg.size, fun b hb hs => hg.block b hb (fun e => hs e.symm)⟩
  have kq : Keep (fun b => b = W) w1 (w1.setCell ⟨W, j, none⟩ q) := (Keep.refl _ _).set (S := fun b => b = W) rfl j q
  have hz := hV.size
  refine ⟨own_keep ho kq (fun b hb => ?_), ?_, ?_⟩
  · rcases hat with e | e
    · exact ha b (e.symm.trans hb)
    · rw [e] at hb; cases hb; omega
  · exact ((Keep.below hV).trans (kg.mono (fun b _ hb => .inr hb))).trans (kq.mono (fun b _ hb => .inl hb))
  · rcases hat with e | e
    · exact .inl e
    · exact .inr ⟨_, e, hz⟩
theorem came_make {w w2 w3 w5 : World} {TS : TypeId} {sz W : Nat} {wv rv : Value} {Ws Rs : List Value} {v : Value} {n : Nat} {xs : List Value} {wv' rv' r : Value} (hl : Rs.length = Ws.length) (hW : W < w.heap.size) (how : w.ownsRow 0 TS 1 wv Ws.length Ws) (hor : w.ownsRow 0 TS 1 rv Ws.length Rs) (a1 : ∀ b, wv.ownBlock = some b → ¬ b = W ∧ ¬ rv.ownBlock = some b)
    (h1 : RowTo w TS W wv Ws v wv' w2) (h2 : Below w2.heap.size w2 w3) (hr : OwT w3 sz r n xs) (hrb : ∀ b, r.ownBlock = some b → w2.heap.size ≤ b) (h3 : RowTo w3 TS W rv Rs r rv' w5) : CameTo w TS sz W wv rv Ws Rs v n xs wv' rv' r w5 := by
  have z1 := h1.kp.size
  have z2 := h2.size
  have z3 := h3.kp.size
  have lw : ∀ b, wv.ownBlock = some b → b < w.heap.size := fun b hb => (own_base how hb).2
  have lr : ∀ b, rv.ownBlock = some b → b < w.heap.size := fun b hb => (own_base hor hb).2
  have lw' : ∀ b, wv'.ownBlock = some b → b < w2.heap.size := fun b hb => (own_base h1.ol hb).2
  have e1 : ∀ b, wv'.ownBlock = some b → ¬ b = W ∧ ¬ rv.ownBlock = some b := fun b hb => by
    rcases h1.nl with e | ⟨c, e, hc⟩
    · exact a1 b (e.symm.trans hb)
    · rw [e] at hb
      cases hb
      exact ⟨by omega, fun x => by have := lr _ x; omega⟩
  have lr' : ∀ b, rv'.ownBlock = some b → rv.ownBlock = some b ∨ w3.heap.size ≤ b := fun b hb => by
    rcases h3.nl with e | ⟨c, e, hc⟩
    · exact .inl (e.symm.trans hb)
    · rw [e] at hb; cases hb; exact .inr hc
  refine ⟨own_keep (own_keep (S := fun _ => False) h1.ol (Keep.below h2) (fun _ _ x => x)) h3.kp (fun b hb hx => ?_), by rw [← hl]; exact h3.ol, hr.keep h3.kp (fun b hb hx => ?_), ?_, h1.nl, ?_, fun b hb => by have := hrb b hb; omega, fun b hb hx => ?_, fun b hb hx => ?_, fun b hb hx => ?_⟩
  · rcases hx with hx | hx
    · exact (e1 b hb).1 hx
    · exact (e1 b hb).2 hx
  · have := hrb b hb
    rcases hx with hx | hx
    · omega
    · have := lr b hx; omega
  · refine ((h1.kp.mono (fun b _ hb => ?_)).trans (Keep.below h2)).trans (h3.kp.mono (fun b _ hb => ?_))
    · rcases hb with hb | hb
      · exact .inl hb
      · exact .inr (.inl hb)
    · rcases hb with hb | hb
      · exact .inl hb
      · exact .inr (.inr hb)
  · rcases h3.nl with e | ⟨c, e, hc⟩
    · exact .inl e
    · exact .inr ⟨c, e, by omega⟩
  · rcases lr' b hx with h | h
    · exact (e1 b hb).2 h
    · have := lw' b hb; omega
  · have := hrb b hx
    have := lw' b hb
    omega
  · have h5 := hr.lt hx
    rcases lr' b hb with h | h
    · have := lr b h
      have := hrb b hx
      omega
    · omega
end Go.Proofs.YtanndhoimpnhpaaGreatDoor
