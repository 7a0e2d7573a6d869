/- Joined by program: LwE, Fl, KpA, LwF, LwG. -/
import Derived.Test.YtanndhoimpnhpaaGreatDoorM27
import Derived.Test.YtanndhoimpnhpaaGreatDoorM26
import Derived.Test.YtanndhoimpnhpaaGreatDoorM14
import Derived.WalkLawsBesides
import Derived.Deep.CutRange
import Derived.Deep.MidRow
/- One call on the program's loan, and the same on the document's: they answer alike, and are one loan again. -/
namespace Go.Proofs.YtanndhoimpnhpaaGreatDoor
open Go.ChangeShapes Go.WideShapes Go.ChangeAt Go.RowKit Go.WideMaps Go.Maps Lg Cal

/-- The two, between the two calls. -/
structure MdX (w : World) (B D : Nat) (t : Ln.Terms) (E l : List Ln.Ev) (g g2 : Ln.St) (day day2 : Int) (L L2 : List En) (F1 F2 : Nat → Prop) : Prop where
  pr : Lo w B t E g day L F1
  dc : Dc w D t l g2 day2 L2 F2
  ap : ∀ b, F1 b → ¬ F2 b
  l1 : ∀ b, F1 b → b < w.heap.size
  l2 : ∀ b, F2 b → b < w.heap.size
theorem TwX.mid {w w' : World} {B D : Nat} {t : Ln.Terms} {E E' l : List Ln.Ev} {g g' : Ln.St} {day day' : Int} {L L' : List En} {F1 F2 : Nat → Prop} (h : TwX w B D t E l g day L F1 F2) (hk : Keep F1 w w') (hlo : Lo w' B t E' g' day' L' (Wd F1 w w')) : MdX w' B D t E' l g' g day' day L' L (Wd F1 w w') F2 := by
  obtain ⟨h1, h2, h3, h4, h5⟩ := h.pstep hk hlo
  exact ⟨h1, h2, h3, h4, h5⟩
/-- The program's Add. -/
def PAdd (w : World) (B D : Nat) (t : Ln.Terms) (l : List Ln.Ev) (g : Ln.St) (day : Int) (L : List En) (F1 F2 : Nat → Prop) (e : Ln.Ev) (x : Ending) (w' : World) : Prop :=
  x = .returned (.int .i64 (addC t l e)) ∧ Keep F1 w w' ∧ ∃ E', ((¬ addC t l e = 0 ∧ E'.Perm l) ∨ (addC t l e = 0 ∧ E'.Perm (l ++ [e]))) ∧ MdX w' B D t E' l g g day day L L (Wd F1 w w') F2
theorem TwX.padd {w : World} {B D : Nat} {t : Ln.Terms} {E l : List Ln.Ev} {g : Ln.St} {day : Int} {L : List En} {F1 F2 : Nat → Prop} (h : TwX w B D t E l g day L F1 F2) (e : Ln.Ev) (hlim : Lim w) :
    Calls Tryz.prog 19 #[.pointer (some ⟨B, 0, none⟩), evV e] w (PAdd w B D t l g day L F1 F2 e) := by
  refine (addL w B t E g day L F1 h.pr e hlim).mono ?_
  rw [addC_perm h.pm e]
  rintro x w' ⟨rfl, hk, ⟨hn, hlo⟩ | ⟨hz, E', hE', hlo⟩⟩
  · exact ⟨rfl, hk, E, .inl ⟨hn, h.pm⟩, h.mid hk hlo⟩
  · exact ⟨rfl, hk, E', .inr ⟨hz, hE'.trans ((List.Perm.cons e h.pm).trans (List.perm_append_singleton e l).symm)⟩, h.mid hk hlo⟩
/-- The two are one loan again. -/
def Again (w : World) (B D : Nat) (t : Ln.Terms) (L : List En) (F1 F2 : Nat → Prop) (w' : World) : Prop :=
  Keep F2 w w' ∧ ∃ E l g day, TwX w' B D t E l g day L F1 (Wd F2 w w')
theorem MdX.dadd {w : World} {B D : Nat} {t : Ln.Terms} {E' l : List Ln.Ev} {g : Ln.St} {day : Int} {L : List En} {F1 F2 : Nat → Prop} (h : MdX w B D t E' l g g day day L L F1 F2) (e : Ln.Ev) (hp : (¬ addC t l e = 0 ∧ E'.Perm l) ∨ (addC t l e = 0 ∧ E'.Perm (l ++ [e]))) :
    Calls Tryz.prog 57 #[.pointer (some ⟨D, 0, none⟩), evc e] w fun x w' => x = .returned (.int .i64 (addC t l e)) ∧ Again w B D t L F1 F2 w' := by
  refine (refaddD w D t l g day L F2 h.dc e).mono ?_
  rintro x w' ⟨rfl, hk, ⟨hn, hdc⟩ | ⟨hz, hdc⟩⟩
  · rcases hp with hp | hp
    · exact ⟨rfl, hk, E', l, g, day, dstep h.pr h.ap h.l1 h.l2 hk hdc hp.2⟩
    · exact absurd hp.1 hn
  · rcases hp with hp | hp
    · exact absurd hz hp.1
    · exact ⟨rfl, hk, E', l ++ [e], g, day, dstep h.pr h.ap h.l1 h.l2 hk hdc hp.2⟩
/-- The program's Cancel. -/
def canC (q : Int) (l : List Ln.Ev) : Int := if hasS q l = true then 0 else 9
def PCan (w : World) (B D : Nat) (t : Ln.Terms) (l : List Ln.Ev) (g : Ln.St) (day : Int) (L : List En) (F1 F2 : Nat → Prop) (q : Int) (x : Ending) (w' : World) : Prop :=
  x = .returned (.int .i64 (canC q l)) ∧ Keep F1 w w' ∧ ∃ E', E'.Perm (if hasS q l = true then wo q l else l) ∧ MdX w' B D t E' l g g day day L L (Wd F1 w w') F2
theorem TwX.pcan {w : World} {B D : Nat} {t : Ln.Terms} {E l : List Ln.Ev} {g : Ln.St} {day : Int} {L : List En} {F1 F2 : Nat → Prop} (h : TwX w B D t E l g day L F1 F2) (q : Int) :
    Calls Tryz.prog 58 #[.pointer (some ⟨B, 0, none⟩), .int .i64 q] w (PCan w B D t l g day L F1 F2 q) := by
  obtain ⟨_, _, hD, _⟩ := h.dc
  refine (cancelL w B t E g day L F1 h.pr q).mono ?_
  rintro x w' ⟨hk, ⟨hn, rfl, hlo⟩ | ⟨rfl, i, hi, _, hs, hlo⟩⟩
  · rw [hasS_perm h.pm] at hn
    refine ⟨by unfold canC; rw [if_neg (by simp [hn])], hk, E, ?_, h.mid hk hlo⟩
    rw [if_neg (by simp [hn])]
    exact h.pm
  · have hh : hasS q l = true := by
      rw [← hasS_perm h.pm]
      exact List.any_eq_true.2 ⟨E[i], List.getElem_mem hi, by simp [hs]⟩
    refine ⟨by unfold canC; rw [if_pos hh], hk, _, ?_, h.mid hk hlo⟩
    rw [if_pos hh, erase_wo (ah_distinct h.pm hD.ds) i hi hs]
    exact wo_perm h.pm
theorem MdX.dcan {w : World} {B D : Nat} {t : Ln.Terms} {E' l : List Ln.Ev} {g : Ln.St} {day : Int} {L : List En} {F1 F2 : Nat → Prop} (h : MdX w B D t E' l g g day day L L F1 F2) (q : Int) (hp : E'.Perm (if hasS q l = true then wo q l else l)) :
    Calls Tryz.prog 59 #[.pointer (some ⟨D, 0, none⟩), .int .i64 q] w fun x w' => x = .returned (.int .i64 (canC q l)) ∧ Again w B D t L F1 F2 w' := by
  refine (refcancelD w D t l g day L F2 h.dc q).mono ?_
  rintro x w' ⟨hk, ⟨hn, rfl, hdc⟩ | ⟨hn, rfl, hdc⟩⟩
  · rw [if_neg (by simp [hn])] at hp
    exact ⟨by unfold canC; rw [if_neg (by simp [hn])], hk, E', l, g, day, dstep h.pr h.ap h.l1 h.l2 hk hdc hp⟩
  · rw [if_pos hn] at hp
    exact ⟨by unfold canC; rw [if_pos hn], hk, E', wo q l, g, day, dstep h.pr h.ap h.l1 h.l2 hk hdc hp⟩
/-- The program's Run, to a day that it takes. -/
def PRun (w : World) (B D : Nat) (t : Ln.Terms) (E l : List Ln.Ev) (g : Ln.St) (day : Int) (L : List En) (m : Nat) (F1 F2 : Nat → Prop) (x : Ending) (w' : World) : Prop :=
  x = .returned (.int .i64 0) ∧ Keep F1 w w' ∧ MdX w' B D t E l (Ln.run t cdOf (wtOf t.ba) E m) g (t.st + m) day (bkP t.st (fun k => (yOf t E k).am) L m) L (Wd F1 w w') F2
theorem TwX.prun {w : World} {B D : Nat} {t : Ln.Terms} {E l : List Ln.Ev} {g : Ln.St} {day : Int} {L : List En} {F1 F2 : Nat → Prop} (h : TwX w B D t E l g day L F1 F2) (hL : L.length ≤ 4000000000000) (m : Nat) (hd : day ≤ t.st + m) (hm : m ≤ 3700) (hmv : Mv w) (hF : ¬ F1 1) :
    Calls Tryz.prog 17 #[.pointer (some ⟨B, 0, none⟩), .int .i64 (t.st + m)] w (PRun w B D t E l g day L m F1 F2) := by
  refine (runL w B t E g day L F1 h.pr hL m hd hm hmv hF).mono ?_
  rintro x w' ⟨rfl, hlo, hk⟩
  exact ⟨rfl, hk, h.mid hk hlo⟩
theorem MdX.drun {w : World} {B D : Nat} {t : Ln.Terms} {E l : List Ln.Ev} {g : Ln.St} {day : Int} {L : List En} {m : Nat} {F1 F2 : Nat → Prop} (h : MdX w B D t E l (Ln.run t cdOf (wtOf t.ba) E m) g (t.st + m) day (bkP t.st (fun k => (yOf t E k).am) L m) L F1 F2) (hpm : E.Perm l) (hL : L.length ≤ 4000000000000) (hd : day ≤ t.st + m) (hm : m ≤ 3700) :
    Calls Tryz.prog 60 #[.pointer (some ⟨D, 0, none⟩), .int .i64 (t.st + m)] w fun x w' => x = .returned (.int .i64 0) ∧ Again w B D t (bkP t.st (fun k => (yOf t E k).am) L m) F1 F2 w' := by
  refine (refrunD w D t l g day L F2 h.dc hL m hd hm).mono ?_
  rintro x w' ⟨rfl, hk, R, hR, hs, hdc⟩
  obtain ⟨_, _, _, _, hX, _⟩ := h.pr
  obtain rfl : R = E := So.sorted_one (hR.trans hpm.symm) hs hX.so
  exact ⟨rfl, hk, _, l, _, _, dstep h.pr h.ap h.l1 h.l2 hk hdc hpm⟩
/-- Both refuse a day. -/
theorem TwX.prun_bad {w : World} {B D : Nat} {t : Ln.Terms} {E l : List Ln.Ev} {g : Ln.St} {day : Int} {L : List En} {F1 F2 : Nat → Prop} (h : TwX w B D t E l g day L F1 F2) (n : Int) (hn : n < day ∨ t.st + 3700 < n) :
    Calls Tryz.prog 17 #[.pointer (some ⟨B, 0, none⟩), .int .i64 n] w fun x w' => x = .returned (.int .i64 5) ∧ Below w.heap.size w w' := by
  obtain ⟨P, Mb, evv, bkv, h1, _⟩ := h.pr
  exact Go.Proofs.YtanndhoimpnhpaaGreatDoor.prun_bad w B t evv g day _ h1.ln h1.ot n hn
theorem TwX.drun_bad {w : World} {B D : Nat} {t : Ln.Terms} {E l : List Ln.Ev} {g : Ln.St} {day : Int} {L : List En} {F1 F2 : Nat → Prop} (h : TwX w B D t E l g day L F1 F2) (n : Int) (hn : n < day ∨ t.st + 3700 < n) :
    Calls Tryz.prog 60 #[.pointer (some ⟨D, 0, none⟩), .int .i64 n] w fun x w' => x = .returned (.int .i64 5) ∧ Below w.heap.size w w' := by
  obtain ⟨evv, bkv, h1, _⟩ := h.dc
  exact refrun_bad w D t evv g day _ h1.ln h1.ot n hn
end Go.Proofs.YtanndhoimpnhpaaGreatDoor

/- Two loans without events, day by day: the document's first one up to its first due day; one that never falls due. -/
namespace Go.Proofs.YtanndhoimpnhpaaGreatDoor.Ln
open Cal

theorem run_nil_succ (t : Terms) (cd wt : Int → Int) (k : Nat) : run t cd wt [] (k + 1) = (late t (wt (t.st + k)) (early t (t.st + k) (cd (t.st + k)) (run t cd wt [] k))).g := rfl
theorem e_start {t : Terms} {n : Int} (cd : Int) (g : St) (hn : n = t.st) : early t n cd g = enter ⟨g, fun _ => 0⟩ 1 t.pr := by
  subst hn
  unfold early
  simp
theorem e_not {t : Terms} {n : Int} (cd : Int) (g : St) (hn : ¬ n = t.st) (hd : ¬ cd = t.du) : early t n cd g = ⟨g, fun _ => 0⟩ := by
  unfold early
  simp [hn, hd]
theorem e_due {t : Terms} {n : Int} (cd : Int) (g : St) (hn : ¬ n = t.st) (hd : cd = t.du) (hf : g.fr ≤ n) : early t n cd g = enter (enter ⟨g, fun _ => 0⟩ 2 g.du) 3 g.it := by
  unfold early
  simp [hn, hd, hf]
  rfl

/-! ### A loan that never falls due -/
def fT (p r b : Int) : Terms := ⟨0, p, r, 1000000, b, 28⟩
def fS (p r b : Int) (e : Int) : St := ⟨p, part (fT p r b) e, 0, 0, 0, 0, r, 0, e, 0⟩
theorem cd_first (k : Nat) (hk : k ≤ 30) : cdOf (0 + (k : Int)) = k + 1 :=
  cdOf_is ⟨1900, 1, ok_mk (by decide) (by decide) (by decide) (by decide) (by omega) (by simp [dim]; omega), by unfold num; rw [ys_first, cum_one]; omega⟩
theorem part_zero (t : Terms) : part t 0 = 0 := by unfold part; simp
theorem late_flat (p r b e : Int) (a : Nat → Int) : (late (fT p r b) 1 ⟨fS p r b e, a⟩).g = fS p r b (e + p * (r * 1)) := by
  unfold late fS
  simp only [enter, move, part_zero, Int.zero_mul, Int.add_zero]
  have : part (fT p r b) e + (part (fT p r b) (e + p * (r * 1)) - part (fT p r b) e) = part (fT p r b) (e + p * (r * 1)) := by omega
  rw [this]
  simp
theorem run_flat (p r b : Int) (hb : ¬ b = 3) : ∀ k : Nat, k ≤ 26 → run (fT p r b) cdOf (wtOf b) [] (k + 1) = fS p r b (p * (r * 1) * (k + 1 : Nat))
  | 0, _ => by
    rw [run_nil_succ, wtOf_one _ hb, e_start _ _ (by show (0 : Int) + ((0 : Nat) : Int) = 0; rfl)]
    have e : enter ⟨run (fT p r b) cdOf (wtOf b) [] 0, fun _ => 0⟩ 1 (fT p r b).pr = ⟨fS p r b 0, upd (fun _ => 0) 1 p⟩ := by
      show (⟨⟨0 + p, 0, 0, 0, 0, 0, r, 0, 0, 0⟩, upd (fun _ => 0) 1 p⟩ : Dy) = _
      unfold fS
      rw [part_zero, Int.zero_add]
    rw [e, late_flat]
    simp
  | k + 1, hk => by
    have ih := run_flat p r b hb k (by omega)
    rw [run_nil_succ, wtOf_one _ hb, ih, e_not _ _ (by show ¬ (0 : Int) + ((k + 1 : Nat) : Int) = 0; omega) (by
      show ¬ cdOf (0 + ((k + 1 : Nat) : Int)) = 28
      rw [cd_first (k + 1) (by omega)]; omega), late_flat]
    congr 1
    have e : ((k + 1 + 1 : Nat) : Int) = ((k + 1 : Nat) : Int) + 1 := by omega
    rw [e, Int.mul_add (p * (r * 1)), Int.mul_one (p * (r * 1))]

/-! ### The document's loan -/
def aT : Terms := ⟨36524, 36500000, 10000, 0, 1, 15⟩
def aS (k : Int) : St := ⟨36500000, 1000 * k, 0, 0, 0, 0, 10000, 0, 365000000000 * k, 0⟩
theorem cd_doc (k : Nat) (hk : k ≤ 30) : cdOf (36524 + (k : Int)) = k + 1 :=
  cdOf_is ⟨2000, 1, ok_mk (by decide) (by decide) (by decide) (by decide) (by omega) (by simp [dim]; omega), by unfold num; rw [cum_one]; have : ys 2000 = 36524 := by decide
                                                                                                                omega⟩
theorem part_doc (x : Int) : part aT x = x / 1000000 / 365 := rfl
theorem late_doc (k : Int) (a : Nat → Int) : (late aT 1 ⟨aS k, a⟩).g = aS (k + 1) := by
  have h1 : part aT (365000000000 * k + 36500000 * (10000 * 1)) - part aT (365000000000 * k) = 1000 := by
    rw [part_doc, part_doc]
    omega
  unfold late aS
  simp only [enter, move]
  rw [h1]
  have e1 : 1000 * k + 1000 = 1000 * (k + 1) := by omega
  have e2 : 365000000000 * k + 36500000 * (10000 * 1) = 365000000000 * (k + 1) := by omega
  rw [e1, e2]
  rfl
theorem run_doc : ∀ k : Nat, k ≤ 13 → run aT cdOf (wtOf 1) [] (k + 1) = aS (k + 1 : Nat)
  | 0, _ => by
    rw [run_nil_succ, wtOf_one _ (by decide), e_start _ _ (by show (36524 : Int) + ((0 : Nat) : Int) = 36524; rfl)]
    have e : enter ⟨run aT cdOf (wtOf 1) [] 0, fun _ => 0⟩ 1 aT.pr = ⟨aS 0, upd (fun _ => 0) 1 36500000⟩ := rfl
    rw [e, late_doc 0]
    rfl
  | k + 1, hk => by
    have ih := run_doc k (by omega)
    rw [run_nil_succ, wtOf_one _ (by decide), ih, e_not _ _ (by show ¬ (36524 : Int) + ((k + 1 : Nat) : Int) = 36524; omega) (by
      show ¬ cdOf (36524 + ((k + 1 : Nat) : Int)) = 15
      rw [cd_doc (k + 1) (by omega)]; omega), late_doc _]
    rfl
theorem run_awake : run aT cdOf (wtOf 1) [] 15 = ⟨36500000, 1000, 14000, 0, 0, 0, 10000, 0, 5475000000000, 0⟩ := by
  have ih := run_doc 13 (by decide)
  rw [run_nil_succ, wtOf_one _ (by decide), ih, e_due _ _ (by decide) (by show cdOf (36524 + ((14 : Nat) : Int)) = 15; rw [cd_doc 14 (by decide)]; rfl) (by decide)]
  rfl
end Go.Proofs.YtanndhoimpnhpaaGreatDoor.Ln

/- The document's loan, as the statements without the document's answer ask it; and what pick answers. -/
namespace Go.Proofs.YtanndhoimpnhpaaGreatDoor
open Go.RowKit Cal

theorem pick_all (c n : Int) (hc : (Lit.int .i64 c).wf = true) (n0 : 1 ≤ n) (n1 : n ≤ 1000000000000) :
    ∃ r, 0 ≤ r ∧ r < n ∧ ∀ w : World, Calls Tryz.prog 16 #[.int .i64 c, .int .i64 n] w fun e w' => e = .returned (.int .i64 r) ∧ w' = w := by
  have hb := bounds_i64 hc
  by_cases h : c < 0
  · refine ⟨(-(c + 1)) % n, Int.emod_nonneg _ (by omega), Int.emod_lt_of_pos _ (by omega), fun w => ?_⟩
    go_enter Tryz.func16, Tryz.ntmps16
    go_wp2
    go_ret
    exact ⟨ret_int (by rw [← Int.neg_tmod, Int.tmod_eq_emod_of_nonneg (by omega)]), rfl⟩
  · have h' : 0 ≤ c := by omega
    refine ⟨c % n, Int.emod_nonneg _ (by omega), Int.emod_lt_of_pos _ (by omega), fun w => ?_⟩
    go_enter Tryz.func16, Tryz.ntmps16
    go_wp2
    go_ret
    exact ⟨rfl, rfl⟩

theorem Keep.fresh {F : Nat → Prop} {w w1 w2 : World} (h1 : Below w.heap.size w w1) (h2 : Keep F w1 w2) (hF : ∀ b, F b → w.heap.size ≤ b) : Below w.heap.size w w2 :=
  ⟨h2.os.trans h1.os, h2.tape.trans h1.tape, h2.output.trans h1.output, Nat.le_trans h1.size h2.size, fun k hk => (h2.block k (Nat.lt_of_lt_of_le hk h1.size) (fun x => by have := hF k x; omega)).trans (h1.block k hk)⟩
theorem Mv.below {w w1 : World} (h : Mv w) (hb : Below w.heap.size w w1) : Mv w1 := h.keep (S := fun _ => False) (Keep.below hb) (fun x => x)
theorem Mv.lt {w : World} (h : Mv w) : 1 < w.heap.size := World.block_lt_of_cell? _ _ (h 0 _ rfl)
theorem Wd.fresh {w w1 : World} {b : Nat} (h : Wd (fun _ => False) w w1 b) : w.heap.size ≤ b := h.elim (fun x => x.elim) (fun x => x.1)

theorem okT_aT : Ln.OkT Ln.aT := ⟨by decide, by decide, by decide, by decide, by decide, by decide, by decide, by decide, by decide, by decide⟩
set_option maxRecDepth 10000 in
set_option maxHeartbeats 1000000 in
theorem awake_any (w : World) (hmv : Mv w) :
    Calls Tryz.prog 12 #[] w fun e w' => e = .returned (.bool true) ∧ Below w.heap.size w w' := by
  have hgl := hmv.lt
  have hO := openL Ln.aT w (by decide)
  go_enter Tryz.func12, Tryz.ntmps12
  go_wp2_with fail
  refine hO.mono ?_
  rintro e w1 ⟨B, rfl, hLo, hb1⟩
  clear hO
  have hR := runL w1 B Ln.aT [] _ _ [] _ hLo (by simp) 15 (by decide) (by decide) (hmv.below hb1) (fun x => by have := Wd.fresh x; omega)
  rw [show Ln.aT.st + ((15 : Nat) : Int) = 36539 from rfl, show wtOf Ln.aT.ba = wtOf 1 from rfl, Ln.run_awake] at hR
  clear hLo
  go_wp2_with fail
  refine hR.mono ?_
  rintro e w2 ⟨rfl, hA2, k2⟩
  clear hR
  have hB2 := Keep.fresh hb1 k2 (fun b x => Wd.fresh x)
  have hL := balanceL w2 B _ _ _ _ _ _ hA2
  clear hA2 k2 hb1
  go_wp2_with fail
  refine hL.mono ?_
  rintro e w3 ⟨rfl, hb3⟩
  have hB3 := hB2.trans (hb3.mono hB2.size)
  clear hL hB2 hb3
  unfold blV
  go_wp2
  go_ret
  exact ⟨rfl, hB3.alloc hB3.size _⟩
end Go.Proofs.YtanndhoimpnhpaaGreatDoor

/- One step of a script, of the kinds up to Balance. -/
namespace Go.Proofs.YtanndhoimpnhpaaGreatDoor
open Go.ChangeShapes Go.WideShapes Go.ChangeAt Go.RowKit Go.WideMaps Go.Maps Lg Cal

/-- A pair of loans, or none; the book has at most so many entries. -/
def Pair (w : World) (p d : Value) (n : Nat) (G : Nat → Prop) : Prop :=
  (p = .pointer none ∧ d = .pointer none) ∨ ∃ (B D : Nat) (t : Ln.Terms) (E l : List Ln.Ev) (g : Ln.St) (day : Int) (L : List En) (F1 F2 : Nat → Prop), p = .pointer (some ⟨B, 0, none⟩) ∧ d = .pointer (some ⟨D, 0, none⟩) ∧ TwX w B D t E l g day L F1 F2 ∧ (∀ b, F1 b → G b) ∧ (∀ b, F2 b → G b) ∧ L.length ≤ 88800 * n
theorem Pair.more {w : World} {p d : Value} {n : Nat} {G : Nat → Prop} (h : Pair w p d n G) : Pair w p d (n + 1) G := by
  rcases h with h | ⟨B, D, t, E, l, g, day, L, F1, F2, h1, h2, h3, h4, h5, h6⟩
  · exact .inl h
  · exact .inr ⟨B, D, t, E, l, g, day, L, F1, F2, h1, h2, h3, h4, h5, by omega⟩
theorem Pair.keep {S : Nat → Prop} {w w' : World} {p d : Value} {n : Nat} {G : Nat → Prop} (h : Pair w p d n G) (hk : Keep S w w') (hs : ∀ b, G b → ¬ S b) : Pair w' p d n G := by
  rcases h with h | ⟨B, D, t, E, l, g, day, L, F1, F2, h1, h2, h3, h4, h5, h6⟩
  · exact .inl h
  · exact .inr ⟨B, D, t, E, l, g, day, L, F1, F2, h1, h2, h3.keep hk (fun b hb => hs b (h4 b hb)) (fun b hb => hs b (h5 b hb)), h4, h5, h6⟩
theorem Pair.mono {w : World} {p d : Value} {n : Nat} {G H : Nat → Prop} (h : Pair w p d n G) (hs : ∀ b, G b → H b) : Pair w p d n H := by
  rcases h with h | ⟨B, D, t, E, l, g, day, L, F1, F2, h1, h2, h3, h4, h5, h6⟩
  · exact .inl h
  · exact .inr ⟨B, D, t, E, l, g, day, L, F1, F2, h1, h2, h3, fun b hb => hs b (h4 b hb), fun b hb => hs b (h5 b hb), h6⟩
/-- The statements' world: two pairs of loans in memory that is new since w0. -/
structure WlS (w0 w : World) (W n : Nat) (pv dv : Nat → Value) (G : Nat → Nat → Prop) : Prop where
  wa : At w W (wl (pv 0) (dv 0) (pv 1) (dv 1))
  bl : Below w0.heap.size w0 w
  pr : ∀ k, k < 2 → Pair w (pv k) (dv k) n (G k)
  ap : ∀ b, G 0 b → ¬ G 1 b
  nw : ∀ k, k < 2 → ¬ G k W
  ge : ∀ k b, k < 2 → G k b → w0.heap.size ≤ b
  lt : ∀ k b, k < 2 → G k b → b < w.heap.size
  wg : w0.heap.size ≤ W
theorem WlS.below {w0 w w' : World} {W n : Nat} {pv dv : Nat → Value} {G : Nat → Nat → Prop} (h : WlS w0 w W n pv dv G) (hb : Below w.heap.size w w') : WlS w0 w' W n pv dv G :=
  ⟨At.keep (S := fun _ => False) (v := .slice none 0 0) h.wa (Keep.below hb) (fun x => x), h.bl.trans (hb.mono h.bl.size), fun k hk => (h.pr k hk).keep (S := fun _ => False) (Keep.below hb) (fun _ _ x => x), h.ap, h.nw, h.ge, fun k b hk hg => Nat.lt_of_lt_of_le (h.lt k b hk hg) hb.size, h.wg⟩
theorem WlS.more {w0 w : World} {W n : Nat} {pv dv : Nat → Value} {G : Nat → Nat → Prop} (h : WlS w0 w W n pv dv G) : WlS w0 w W (n + 1) pv dv G :=
  ⟨h.wa, h.bl, fun k hk => (h.pr k hk).more, h.ap, h.nw, h.ge, h.lt, h.wg⟩
/-- A call on the pair k. -/
theorem WlS.upd {w0 w w' : World} {W n : Nat} {pv dv : Nat → Value} {G : Nat → Nat → Prop} (h : WlS w0 w W n pv dv G) (k : Nat) (hk2 : k < 2) (hk : Keep (G k) w w') (hp : Pair w' (pv k) (dv k) (n + 1) (Wd (G k) w w')) : WlS w0 w' W (n + 1) pv dv (fun i => if i = k then Wd (G k) w w' else G i) := by
  have hs := h.bl.size
  have hW : W < w.heap.size := At.lt (v := .slice none 0 0) h.wa
  have apk : ∀ i, i < 2 → ¬ i = k → ∀ b, G i b → ¬ G k b := fun i hi hik b h1 h2 => by
    rcases (show (i = 0 ∧ k = 1) ∨ (i = 1 ∧ k = 0) by omega) with ⟨rfl, rfl⟩ | ⟨rfl, rfl⟩
    · exact h.ap b h1 h2
    · exact h.ap b h2 h1
  have apw : ∀ i, i < 2 → ¬ i = k → ∀ b, G i b → ¬ Wd (G k) w w' b := fun i hi hik b h1 h2 => by
    rcases h2 with h2 | h2
    · exact apk i hi hik b h1 h2
    · have := h.lt i b hi h1; omega
  refine ⟨At.keep (v := .slice none 0 0) h.wa hk (h.nw k hk2), Keep.fresh h.bl hk (fun b hb => h.ge k b hk2 hb), fun i hi => ?_, ?_, fun i hi => ?_, fun i b hi => ?_, fun i b hi => ?_, h.wg⟩
  · by_cases hik : i = k
    · subst hik
      simp only [if_pos]
      exact hp
    · simp only [if_neg hik]
      exact ((h.pr i hi).keep hk (fun b hb => apk i hi hik b hb)).more
  · intro b
    by_cases h0 : (0 : Nat) = k
    · have h1 : ¬ (1 : Nat) = k := by omega
      simp only [if_pos h0, if_neg h1]
      exact fun x y => apw 1 (by omega) h1 b y x
    · by_cases h1 : (1 : Nat) = k
      · simp only [if_neg h0, if_pos h1]
        exact fun x y => apw 0 (by omega) h0 b x y
      · omega
  · by_cases hik : i = k
    · simp only [if_pos hik]
      rintro (x | x)
      · exact h.nw k hk2 x
      · omega
    · simp only [if_neg hik]
      exact h.nw i hi
  · by_cases hik : i = k
    · simp only [if_pos hik]
      rintro (x | x)
      · exact h.ge k b hk2 x
      · omega
    · simp only [if_neg hik]
      exact h.ge i b hi
  · by_cases hik : i = k
    · simp only [if_pos hik]
      rintro (x | x)
      · exact Nat.lt_of_lt_of_le (h.lt k b hk2 x) hk.size
      · exact x.2
    · simp only [if_neg hik]
      exact fun x => Nat.lt_of_lt_of_le (h.lt i b hi x) hk.size
/-- Two calls, one on each side of a pair. -/
theorem pair_again {w w1 w2 : World} {B D : Nat} {t : Ln.Terms} {L : List En} {F1 F2 G : Nat → Prop} {n : Nat} (h1 : Keep F1 w w1) (h2 : Again w1 B D t L (Wd F1 w w1) F2 w2) (hG1 : ∀ b, F1 b → G b) (hG2 : ∀ b, F2 b → G b) (hL : L.length ≤ 88800 * n) :
    Keep G w w2 ∧ Pair w2 (.pointer (some ⟨B, 0, none⟩)) (.pointer (some ⟨D, 0, none⟩)) n (Wd G w w2) := by
  obtain ⟨hk, E, l, g, day, hT⟩ := h2
  refine ⟨(h1.mono (fun b _ hb => hG1 b hb)).trans (hk.mono (fun b _ hb => hG2 b hb)), .inr ⟨B, D, t, E, l, g, day, L, _, _, rfl, rfl, hT, ?_, ?_, hL⟩⟩
  · rintro b (x | x)
    · exact .inl (hG1 b x)
    · exact .inr ⟨x.1, Nat.lt_of_lt_of_le x.2 hk.size⟩
  · rintro b (x | x)
    · exact .inl (hG2 b x)
    · exact .inr ⟨Nat.le_trans h1.size x.1, x.2⟩
end Go.Proofs.YtanndhoimpnhpaaGreatDoor

/- One step of a script, walked, of the kinds up to Balance. -/
namespace Go.Proofs.YtanndhoimpnhpaaGreatDoor
open Go.ChangeShapes Go.WideShapes Go.ChangeAt Go.RowKit Go.WideMaps Go.Maps Lg Cal

/-- The cells of an op. -/
def opl (kind on : Int) (e : Ln.Ev) (m : Int) (sv : Value) : List Value := [.int .i64 kind, .int .i64 on, .int .i64 e.d, .int .i64 e.k, .int .i64 e.s, .int .i64 e.a, .int .i64 m, sv]
theorem opl_ev (kind on : Int) (e : Ln.Ev) (m : Int) (sv : Value) : ∀ j u, (evl e)[j]? = some u → (opl kind on e m sv)[2 + j]? = some u := by
  intro j u h
  match j, h with
  | 0, h => exact h
  | 1, h => exact h
  | 2, h => exact h
  | 3, h => exact h
/-- What a step does. -/
def StepPost (w0 : World) (W n : Nat) (pv dv : Nat → Value) (e : Ending) (w' : World) : Prop := e = .returned (.bool true) ∧ ∃ G', WlS w0 w' W (n + 1) pv dv G'
theorem wl_at (p0 d0 p1 d1 : Value) (pv dv : Nat → Value) (h : p0 = pv 0 ∧ d0 = dv 0 ∧ p1 = pv 1 ∧ d1 = dv 1) (k : Nat) (hk : k < 2) : ∀ j u, [pv k, dv k][j]? = some u → (wl p0 d0 p1 d1)[6 + k * 2 + j]? = some u := by
  obtain ⟨rfl, rfl, rfl, rfl⟩ := h
  intro j u hu
  rcases (show k = 0 ∨ k = 1 by omega) with rfl | rfl
  · match j, hu with
    | 0, h => exact h
    | 1, h => exact h
  · match j, hu with
    | 0, h => exact h
    | 1, h => exact h
theorem two_mod (x : Int) : -1 ≤ x.tmod 2 ∧ x.tmod 2 ≤ 1 := by
  by_cases h : 0 ≤ x
  · rw [Int.tmod_eq_emod_of_nonneg h]; omega
  · have : x.tmod 2 = -((-x).tmod 2) := by rw [Int.neg_tmod]; omega
    rw [this, Int.tmod_eq_emod_of_nonneg (by omega)]
    omega

set_option maxRecDepth 10000 in
set_option maxHeartbeats 8000000 in
theorem step_any (w0 w : World) (W n : Nat) (pv dv : Nat → Value) (G : Nat → Nat → Prop) (h : WlS w0 w W n pv dv G) (hmv : Mv w0) (hlim : Lim w0) (hn : n ≤ 40000000) (kind on : Int) (e : Ln.Ev) (m : Int) (sv : Value) (hk4 : kind ≤ 4) :
    Calls Tryz.prog 25 #[.pointer (some ⟨W, 0, none⟩), .agg #[.int .i64 kind, .int .i64 on, .int .i64 e.d, .int .i64 e.k, .int .i64 e.s, .int .i64 e.a, .int .i64 m, sv]] w (StepPost w0 W n pv dv) := by
  have hgl := hmv.lt
  have HMv : Hid (Mv w0) := hmv
  have HLim : Hid (Lim w0) := hlim
  have HO : Hid (At (w.alloc (.cells #[.int .i64 kind, .int .i64 on, .int .i64 e.d, .int .i64 e.k, .int .i64 e.s, .int .i64 e.a, .int .i64 m, sv] 60)) w.heap.size (opl kind on e m sv)) := At.alloc w (opl kind on e m sv) _
  have HS : Hid (WlS w0 (w.alloc (.cells #[.int .i64 kind, .int .i64 on, .int .i64 e.d, .int .i64 e.k, .int .i64 e.s, .int .i64 e.a, .int .i64 m, sv] 60)) W n pv dv G) := h.below ((Below.refl _ _).alloc (Nat.le_refl _) _)
  have HGN : Hid (∀ k, k < 2 → ∀ b, G k b → b < w.heap.size) := fun k hk b hb => h.lt k b hk hb
  clear h hmv hlim
  go_enter Tryz.func25, Tryz.ntmps25
  go_upto_region 2 with fail
  change Code.wp _ _ _ _ (w.alloc (.cells #[.int .i64 kind, .int .i64 on, .int .i64 e.d, .int .i64 e.k, .int .i64 e.s, .int .i64 e.a, .int .i64 m, sv] 60))
  generalize w.alloc (.cells #[.int .i64 kind, .int .i64 on, .int .i64 e.d, .int .i64 e.k, .int .i64 e.s, .int .i64 e.a, .int .i64 m, sv] 60) = V0 at *
  generalize w.heap.size = N0 at *
  have q1 : V0.cell? ⟨N0, 1, none⟩ = some (.int .i64 on) := HO.out.cell 1 rfl
  have htm := two_mod on
  go_upto_if 16 with fail
  go_cut [5] from 13 to 16 (fun s5 wx => ∃ k : Nat, k < 2 ∧ s5 = .int .i64 k ∧ wx = V0)
  case first =>
    by_cases hon : on.tmod 2 = 0
    · have hb : (on.tmod 2 != 0) = false := by simp [hon]
      go_wp2_with fail
      go_meet
      case rel => exact ⟨0, by omega, rfl, rfl⟩
    · have hb : (on.tmod 2 != 0) = true := by simp [hon]
      go_wp2_with fail
      go_meet
      case rel => exact ⟨1, by omega, rfl, rfl⟩
  case rest =>
    obtain ⟨k, hk2, rfl, hwc⟩ := hcut
    obtain rfl := hwc.symm
    clear hwc q1 htm
    have hpr := HS.out.pr k hk2
    have hrow : V0.rangeAt W (6 + k * 2) [pv k, dv k] := HS.out.wa.mid (6 + k * 2) _ (wl_at _ _ _ _ pv dv ⟨rfl, rfl, rfl, rfl⟩ k hk2)
    have zk : (k : Int) < 2 := by omega
    have hN0 : N0 < V0.heap.size := At.lt (v := .int .i64 kind) HO.out
    have hGN := HGN.out k hk2
    go_upto_region 4 with fail
    refine wp_region_lit ?_
    refine wpList_val (.pointer (some ⟨W, 0, none⟩)) V0 rfl rfl ?_
    simp only [Act.put, List.setIfInBounds_toArray, List.set_cons_zero, List.set_cons_succ]
    refine wpList_val (.int .i64 k) V0 rfl rfl ?_
    simp only [Act.put, List.setIfInBounds_toArray, List.set_cons_zero, List.set_cons_succ]
    refine wpList_val (.pointer (some ⟨W, 0, none⟩)) V0 rfl rfl ?_
    simp only [Act.put, List.setIfInBounds_toArray, List.set_cons_zero, List.set_cons_succ]
    refine wpList_val (.pointer (some ⟨W, 6, none⟩)) V0 rfl (by go_simp) ?_
    simp only [Act.put, List.setIfInBounds_toArray, List.set_cons_zero, List.set_cons_succ]
    refine wpList_val (.pointer (some ⟨W, 6 + k * 2, none⟩)) V0 rfl (by go_simp) ?_
    simp only [Act.put, List.setIfInBounds_toArray, List.set_cons_zero, List.set_cons_succ]
    rcases hpr with ⟨hp, hd⟩ | ⟨B, D, t, E, l, g, day, L, F1, F2, hp, hd, hT, hG1, hG2, hLl⟩
    · rw [hp, hd] at hrow
      refine wpList_load_mid rfl 31 (.tmp 21) rfl W (6 + k * 2) rfl [.pointer none, .pointer none] _ hrow Tryz.underlying31 rfl (by kernel_rfl) ?_
      simp only [Act.put, List.setIfInBounds_toArray, List.set_cons_zero, List.set_cons_succ]
      have b1 : Below V0.heap.size V0 (V0.alloc (.cells #[.pointer none, .pointer none] 31)) := (Below.refl _ _).alloc (Nat.le_refl _) _
      have HE : Hid (StepPost w0 W n pv dv (.returned (.bool true)) (V0.alloc (.cells #[.pointer none, .pointer none] 31))) := ⟨rfl, G, (HS.out.below b1).more⟩
      clear hrow b1 HS HO hGN HGN
      go_wp2_with (first | (refine wpList_store_new rfl 31 (.tmp 6) (.tmp 22) rfl #[.pointer none, .pointer none] _ rfl rfl (by kernel_rfl) rfl (by kernel_rfl) ?_) | fail)
      go_ret
      exact HE.out
    · rw [hp, hd] at hrow
      refine wpList_load_mid rfl 31 (.tmp 21) rfl W (6 + k * 2) rfl [.pointer (some ⟨B, 0, none⟩), .pointer (some ⟨D, 0, none⟩)] _ hrow Tryz.underlying31 rfl (by kernel_rfl) ?_
      simp only [Act.put, List.setIfInBounds_toArray, List.set_cons_zero, List.set_cons_succ]
      have b1 : Below V0.heap.size V0 (V0.alloc (.cells #[.pointer (some ⟨B, 0, none⟩), .pointer (some ⟨D, 0, none⟩)] 31)) := (Below.refl _ _).alloc (Nat.le_refl _) _
      have HT : Hid (TwX (V0.alloc (.cells #[.pointer (some ⟨B, 0, none⟩), .pointer (some ⟨D, 0, none⟩)] 31)) B D t E l g day L F1 F2) := hT.below b1
      have HS1 : Hid (WlS w0 (V0.alloc (.cells #[.pointer (some ⟨B, 0, none⟩), .pointer (some ⟨D, 0, none⟩)] 31)) W n pv dv G) := HS.out.below b1
      have HO1 : Hid (At (V0.alloc (.cells #[.pointer (some ⟨B, 0, none⟩), .pointer (some ⟨D, 0, none⟩)] 31)) N0 (opl kind on e m sv)) := At.keep (S := fun _ => False) (v := .int .i64 kind) HO.out (Keep.below b1) (fun x => x)
      have HA1 : Hid (At (V0.alloc (.cells #[.pointer (some ⟨B, 0, none⟩), .pointer (some ⟨D, 0, none⟩)] 31)) V0.heap.size [.pointer (some ⟨B, 0, none⟩), .pointer (some ⟨D, 0, none⟩)]) := At.alloc V0 [.pointer (some ⟨B, 0, none⟩), .pointer (some ⟨D, 0, none⟩)] _
      have HPD : Hid (pv k = .pointer (some ⟨B, 0, none⟩) ∧ dv k = .pointer (some ⟨D, 0, none⟩)) := ⟨hp, hd⟩
      have HGG : Hid ((∀ b, F1 b → G k b) ∧ (∀ b, F2 b → G k b) ∧ ∀ b, G k b → b < N0) := ⟨hG1, hG2, hGN⟩
      have x0 : (V0.alloc (.cells #[.pointer (some ⟨B, 0, none⟩), .pointer (some ⟨D, 0, none⟩)] 31)).cell? ⟨N0, 0, none⟩ = some (.int .i64 kind) := HO1.out.cell 0 rfl
      have x6 : (V0.alloc (.cells #[.pointer (some ⟨B, 0, none⟩), .pointer (some ⟨D, 0, none⟩)] 31)).cell? ⟨N0, 6, none⟩ = some (.int .i64 m) := HO1.out.cell 6 rfl
      have y0 : (V0.alloc (.cells #[.pointer (some ⟨B, 0, none⟩), .pointer (some ⟨D, 0, none⟩)] 31)).cell? ⟨V0.heap.size, 0, none⟩ = some (.pointer (some ⟨B, 0, none⟩)) := HA1.out.cell 0 rfl
      clear hrow b1 HS HO hT hp hd hG1 hG2 hGN HGN
      go_upto_if 25 with (first | (refine wpList_store_new rfl 31 (.tmp 6) (.tmp 22) rfl #[.pointer (some ⟨B, 0, none⟩), .pointer (some ⟨D, 0, none⟩)] _ rfl rfl (by kernel_rfl) rfl (by kernel_rfl) ?_) | fail)
      have hN01 : N0 < V0.heap.size := hN0
      generalize V0.alloc (.cells #[.pointer (some ⟨B, 0, none⟩), .pointer (some ⟨D, 0, none⟩)] 31) = V1 at *
      generalize V0.heap.size = N1 at *
      have HL : Hid (L.length ≤ 88800 * n) := hLl
      clear hLl hN0
      have hFN : Hid (∀ b, F1 b → b < N0) := fun b hb => HGG.out.2.2 b (HGG.out.1 b hb)
      by_cases h1 : kind = 1
      · subst h1
        have hA := HT.out.padd e (HLim.out.keep (S := fun _ => False) (Keep.below HS1.out.bl) (fun x => x))
        have hev : V1.rangeAt N0 2 (evl e) := HO1.out.mid 2 _ (opl_ev 1 on e m sv)
        unfold evV at hA
        go_upto_region 9 with fail
        refine wp_region_lit ?_
        refine wpList_val (.pointer (some ⟨N1, 0, none⟩)) V1 rfl (by go_simp) ?_
        simp only [Act.put, List.setIfInBounds_toArray, List.set_cons_zero, List.set_cons_succ]
        refine wpList_val (.pointer (some ⟨B, 0, none⟩)) V1 rfl (by go_simp) ?_
        simp only [Act.put, List.setIfInBounds_toArray, List.set_cons_zero, List.set_cons_succ]
        refine wpList_val (.pointer (some ⟨N0, 2, none⟩)) V1 rfl (by go_simp) ?_
        simp only [Act.put, List.setIfInBounds_toArray, List.set_cons_zero, List.set_cons_succ]
        refine wpList_load_mid rfl 50 (.tmp 32) rfl N0 2 rfl (evl e) _ hev Tryz.underlying50 rfl (by kernel_rfl) ?_
        simp only [Act.put, List.setIfInBounds_toArray, List.set_cons_zero, List.set_cons_succ]
        clear x0 x6 y0 hev
        go_wp2_with fail
        refine hA.mono ?_
        rintro x w2 ⟨rfl, hk, E', hE', hM⟩
        clear hA
        have hR := hM.dadd e hE'
        have a2 : At w2 N1 [.pointer (some ⟨B, 0, none⟩), .pointer (some ⟨D, 0, none⟩)] := At.keep (v := .pointer (some ⟨B, 0, none⟩)) HA1.out hk (fun x => by have := hFN.out _ x; omega)
        have o2 : At w2 N0 (opl 1 on e m sv) := At.keep (v := .int .i64 1) HO1.out hk (fun x => by have := hFN.out _ x; omega)
        have hev : w2.rangeAt N0 2 (evl e) := o2.mid 2 _ (opl_ev 1 on e m sv)
        have y1 : w2.cell? ⟨N1, 1, none⟩ = some (.pointer (some ⟨D, 0, none⟩)) := a2.cell 1 rfl
        have HK : Hid (Keep F1 V1 w2) := hk
        unfold evc at hR
        clear a2 o2 hk hM hE'
        go_upto_region 10 with fail
        refine wp_region_lit ?_
        refine wpList_val (.pointer (some ⟨N1, 1, none⟩)) w2 rfl (by go_simp) ?_
        simp only [Act.put, List.setIfInBounds_toArray, List.set_cons_zero, List.set_cons_succ]
        refine wpList_val (.pointer (some ⟨D, 0, none⟩)) w2 rfl (by go_simp) ?_
        simp only [Act.put, List.setIfInBounds_toArray, List.set_cons_zero, List.set_cons_succ]
        refine wpList_val (.pointer (some ⟨N0, 2, none⟩)) w2 rfl (by go_simp) ?_
        simp only [Act.put, List.setIfInBounds_toArray, List.set_cons_zero, List.set_cons_succ]
        refine wpList_load_mid rfl 50 (.tmp 37) rfl N0 2 rfl (evl e) _ hev Tryz.underlying50 rfl (by kernel_rfl) ?_
        simp only [Act.put, List.setIfInBounds_toArray, List.set_cons_zero, List.set_cons_succ]
        clear y1 hev
        go_wp2_with fail
        refine hR.mono ?_
        rintro x w3 ⟨rfl, hAg⟩
        clear hR
        have HE : Hid (StepPost w0 W n pv dv (.returned (.bool true)) w3) := by
          obtain ⟨hkk, hpp⟩ := pair_again (G := G k) (n := n + 1) HK.out hAg HGG.out.1 HGG.out.2.1 (by have := HL.out; omega)
          rw [← HPD.out.1, ← HPD.out.2] at hpp
          exact ⟨rfl, _, HS1.out.upd k hk2 hkk hpp⟩
        generalize addC t l e = c at *
        have hcc : (c == c) = true := by simp
        clear hAg HK
        go_wp2_with fail
        refine (num_any c w3).mono ?_
        rintro x w' ⟨rfl, hw'⟩
        obtain rfl := hw'.symm
        clear hw'
        go_wp2
        go_ret
        exact HE.out
      · have e1 : (kind == 1) = false := by simp [h1]
        by_cases h2 : kind = 2
        · subst h2
          have hA := HT.out.pcan m
          go_wp2_with fail
          refine hA.mono ?_
          rintro x w2 ⟨rfl, hk, E', hE', hM⟩
          clear hA x0 x6 y0
          have hR := hM.dcan m hE'
          have a2 : At w2 N1 [.pointer (some ⟨B, 0, none⟩), .pointer (some ⟨D, 0, none⟩)] := At.keep (v := .pointer (some ⟨B, 0, none⟩)) HA1.out hk (fun x => by have := hFN.out _ x; omega)
          have o2 : At w2 N0 (opl 2 on e m sv) := At.keep (v := .int .i64 2) HO1.out hk (fun x => by have := hFN.out _ x; omega)
          have y1 : w2.cell? ⟨N1, 1, none⟩ = some (.pointer (some ⟨D, 0, none⟩)) := a2.cell 1 rfl
          have y6 : w2.cell? ⟨N0, 6, none⟩ = some (.int .i64 m) := o2.cell 6 rfl
          have HK : Hid (Keep F1 V1 w2) := hk
          clear a2 o2 hk hM hE'
          go_wp2_with fail
          refine hR.mono ?_
          rintro x w3 ⟨rfl, hAg⟩
          clear hR y1 y6
          have HE : Hid (StepPost w0 W n pv dv (.returned (.bool true)) w3) := by
            obtain ⟨hkk, hpp⟩ := pair_again (G := G k) (n := n + 1) HK.out hAg HGG.out.1 HGG.out.2.1 (by have := HL.out; omega)
            rw [← HPD.out.1, ← HPD.out.2] at hpp
            exact ⟨rfl, _, HS1.out.upd k hk2 hkk hpp⟩
          generalize canC m l = c at *
          have hcc : (c == c) = true := by simp
          clear hAg HK
          go_wp2_with fail
          refine (num_any c w3).mono ?_
          rintro x w' ⟨rfl, hw'⟩
          obtain rfl := hw'.symm
          clear hw'
          go_wp2
          go_ret
          exact HE.out
        · have e2 : (kind == 2) = false := by simp [h2]
          by_cases h3 : kind = 3
          · subst h3
            have y1 : V1.cell? ⟨N1, 1, none⟩ = some (.pointer (some ⟨D, 0, none⟩)) := HA1.out.cell 1 rfl
            by_cases hday : m < day ∨ t.st + 3700 < m
            · have hA := HT.out.prun_bad m hday
              go_wp2_with fail
              refine hA.mono ?_
              rintro x w2 ⟨rfl, hb2⟩
              clear hA x0 y0
              have hR := (HT.out.below hb2).drun_bad m hday
              have y1' : w2.cell? ⟨N1, 1, none⟩ = some (.pointer (some ⟨D, 0, none⟩)) := (At.keep (S := fun _ => False) (v := .pointer (some ⟨B, 0, none⟩)) HA1.out (Keep.below hb2) (fun x => x)).cell 1 rfl
              have y6' : w2.cell? ⟨N0, 6, none⟩ = some (.int .i64 m) := (At.keep (S := fun _ => False) (v := .int .i64 3) HO1.out (Keep.below hb2) (fun x => x)).cell 6 rfl
              have HB2 : Hid (Below V1.heap.size V1 w2) := hb2
              clear hb2 x6 y1
              go_wp2_with fail
              refine hR.mono ?_
              rintro x w3 ⟨rfl, hb3⟩
              clear hR y1' y6'
              have HE : Hid (StepPost w0 W n pv dv (.returned (.bool true)) w3) := ⟨rfl, G, ((HS1.out.below HB2.out).below hb3).more⟩
              clear hb3 HB2
              go_wp2_with fail
              refine (num_any 5 w3).mono ?_
              rintro x w' ⟨rfl, hw'⟩
              obtain rfl := hw'.symm
              clear hw'
              go_wp2
              go_ret
              exact HE.out
            · obtain ⟨_, _, hDX, _⟩ := HT.out.dc
              have hd0 := hDX.d0
              clear hDX
              obtain ⟨M, rfl⟩ : ∃ M : Nat, m = t.st + (M : Int) := ⟨(m - t.st).toNat, by omega⟩
              have hM37 : M ≤ 3700 := by omega
              have hMd : day ≤ t.st + (M : Int) := by omega
              clear hday
              have hL4 : L.length ≤ 4000000000000 := by have := HL.out; omega
              have hA := HT.out.prun hL4 M hMd hM37 (HMv.out.below HS1.out.bl) (fun x => by have := HS1.out.ge k _ hk2 (HGG.out.1 _ x); omega)
              go_wp2_with fail
              refine hA.mono ?_
              rintro x w2 ⟨rfl, hk, hM⟩
              clear hA x0 y0 x6 y1
              have hR := hM.drun HT.out.pm hL4 hMd hM37
              have a2 : At w2 N1 [.pointer (some ⟨B, 0, none⟩), .pointer (some ⟨D, 0, none⟩)] := At.keep (v := .pointer (some ⟨B, 0, none⟩)) HA1.out hk (fun x => by have := hFN.out _ x; omega)
              have o2 : At w2 N0 (opl 3 on e (t.st + (M : Int)) sv) := At.keep (v := .int .i64 3) HO1.out hk (fun x => by have := hFN.out _ x; omega)
              have y1 : w2.cell? ⟨N1, 1, none⟩ = some (.pointer (some ⟨D, 0, none⟩)) := a2.cell 1 rfl
              have y6 : w2.cell? ⟨N0, 6, none⟩ = some (.int .i64 (t.st + (M : Int))) := o2.cell 6 rfl
              have HK : Hid (Keep F1 V1 w2) := hk
              clear a2 o2 hk hM
              go_wp2_with fail
              refine hR.mono ?_
              rintro x w3 ⟨rfl, hAg⟩
              clear hR y1 y6
              have HE : Hid (StepPost w0 W n pv dv (.returned (.bool true)) w3) := by
                obtain ⟨hkk, hpp⟩ := pair_again (G := G k) (n := n + 1) HK.out hAg HGG.out.1 HGG.out.2.1 (by have h1 := HL.out; have h2 := bkP_len t.st (fun k => (yOf t E k).am) L M; omega)
                rw [← HPD.out.1, ← HPD.out.2] at hpp
                exact ⟨rfl, _, HS1.out.upd k hk2 hkk hpp⟩
              clear hAg HK
              go_wp2_with fail
              refine (num_any 0 w3).mono ?_
              rintro x w' ⟨rfl, hw'⟩
              obtain rfl := hw'.symm
              clear hw'
              go_wp2
              go_ret
              exact HE.out
          · have e3 : (kind == 3) = false := by simp [h3]
            by_cases h4 : kind = 4
            · subst h4
              have hA := lawbal_any V1 B D t E l g day L F1 F2 HT.out
              have ha1 := HA1.out.range
              go_upto_region 21 with fail
              refine wp_region_lit ?_
              refine wpList_load_mid rfl 31 (.tmp 6) rfl N1 0 rfl [.pointer (some ⟨B, 0, none⟩), .pointer (some ⟨D, 0, none⟩)] _ ha1 Tryz.underlying31 rfl (by kernel_rfl) ?_
              simp only [Act.put, List.setIfInBounds_toArray, List.set_cons_zero, List.set_cons_succ]
              clear x0 x6 y0 ha1
              go_wp2_with fail
              refine hA.mono ?_
              rintro x w2 ⟨rfl, hb2⟩
              have HE : Hid (StepPost w0 W n pv dv (.returned (.bool true)) w2) := ⟨rfl, G, (HS1.out.below hb2).more⟩
              clear hA hb2
              go_wp2
              go_ret
              exact HE.out
            · have e4 : (kind == 4) = false := by simp [h4]
              have e5 : (kind == 5) = false := by simp; omega
              have e6 : (kind == 6) = false := by simp; omega
              have e7 : (kind == 7) = false := by simp; omega
              have e8 : (kind == 8) = false := by simp; omega
              have HE : Hid (StepPost w0 W n pv dv (.returned (.bool true)) V1) := ⟨rfl, G, HS1.out.more⟩
              go_wp2
              go_ret
              exact HE.out
end Go.Proofs.YtanndhoimpnhpaaGreatDoor
