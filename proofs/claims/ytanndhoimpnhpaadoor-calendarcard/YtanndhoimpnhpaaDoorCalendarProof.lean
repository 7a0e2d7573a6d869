/- For all three numbers (brought within bounds by the statement) dates and days go to and fro, in order, weights add up and are not below 0, and a year on the same date is 365 or 366 days later, 360 by thirty-day months; the library's table of powers of ten is as its text lays it (the card ties it). -/
import Derived.Test.YtanndhoimpnhpaaDoorCards
import Derived.Test.YtanndhoimpnhpaaDoorTie
import Derived.Test.YtanndhoimpnhpaaDoorCalT
import Derived.Test.YtanndhoimpnhpaaDoorCalV
import Derived.ShutString
import Derived.ChangeOld
import Derived.LaidMore
import Derived.Stop.Joined
import Derived.Stop.LaidErr
import Derived.Lib.LaidTab
import Derived.SevenTiedAt
namespace Go.Proofs.YtanndhoimpnhpaaDoor.calendar
open Go.ChangeShapes Go.WideShapes Go.ChangeAt Go.RowKit Cal Txt

theorem own : ownKnob Tryd.prog.godebug = none := by kernel_rfl

theorem day_at (y m d : Nat) (hok : Ok y m d) (hy : (y : Int) ≤ 2199) (W : World) :
    Calls Tryd.prog 14 #[.string (dateS y m d)] W fun e w' => e = .returned (.tuple #[.int .i64 (num y m d), .int .i64 0]) ∧ Below W.heap.size W w' := by
  obtain ⟨g, v⟩ := dateS_good y m d hok (by omega)
  have h := accrueDay_any (dateS y m d) W (by rw [dateS_size]; decide)
  rw [v, dayE_yes g] at h
  exact h

theorem walk (a0 a1 a2 : Int) (w0 : (Lit.int .i64 a0).wf = true) (w1 : (Lit.int .i64 a1).wf = true) (w2 : (Lit.int .i64 a2).wf = true) (w : World) (htab : Lib.TabIs Tryd.prog w "internal/strconv.uint64pow10" .u64 Lib.pow10Tab) (hg : 4 < w.heap.size) :
    Calls Tryd.prog 4 #[.int .i64 a0, .int .i64 a1, .int .i64 a2] w fun e w' => e = .returned (.bool true) ∧ Below w.heap.size w w' := by
  obtain ⟨d, d0, d1, hp1⟩ := pick_any a0 109206 w0 (by decide) (by decide)
  obtain ⟨n, n0, n1, hp2⟩ := pick_any a1 400 w1 (by decide) (by decide)
  obtain ⟨k0, kA, kB, hp3⟩ := pick_any a2 3 w2 (by decide) (by decide)
  obtain ⟨y, m, e, hok, hn⟩ := has_date d d0 (by omega)
  obtain ⟨y', m', e', hok', hn'⟩ := has_date (d + 1) (by omega) (by omega)
  have hless := next_less y m e y' m' e' hok hok' (by rw [hn, hn']) (by omega)
  have yfar := year_far y m e hok (by omega)
  obtain ⟨to, hto, t0, t1⟩ : ∃ to : Int, ((d + n ≤ 109572 ∧ d + n = to) ∨ (109572 < d + n ∧ 109572 = to)) ∧ d ≤ to ∧ to ≤ 109572 := by
    by_cases h : d + n ≤ 109572
    · exact ⟨d + n, .inl ⟨h, rfl⟩, by omega, h⟩
    · exact ⟨109572, .inr ⟨by omega, rfl⟩, by omega, by omega⟩
  obtain ⟨x, hx⟩ := wspec_ex (1 + k0) d (d + (to - d) / 2) (by omega) (by omega) d0 (by omega) (by omega)
  obtain ⟨v, hv⟩ := wspec_ex (1 + k0) (d + (to - d) / 2) to (by omega) (by omega) (by omega) (by omega) t1
  obtain ⟨z, hz⟩ := wspec_ex (1 + k0) d to (by omega) (by omega) d0 t0 t1
  obtain ⟨_, _, _, hxyz, x0, y0, x1, y1, hpl⟩ := three_w hx hv hz (by omega) (by omega) d0 (by omega) (by omega) t1
  have hkz : 2 ≤ k0 ∨ (k0 ≤ 1 ∧ x + v = to - d) := by
    by_cases h : 2 ≤ k0
    · exact .inl h
    · exact .inr ⟨by omega, by rw [hxyz]; exact hpl (by omega)⟩
  rw [← hxyz] at hz
  have hD1 := fun (W : World) (hW : Below w.heap.size w W) => accrueDate_yes d W d0 (by omega) y m e hok hn (tab_below htab hg hW) (Nat.lt_of_lt_of_le hg hW.size)
  have hD2 := fun (W : World) (hW : Below w.heap.size w W) => accrueDate_yes (d + 1) W (by omega) (by omega) y' m' e' hok' hn' (tab_below htab hg hW) (Nat.lt_of_lt_of_le hg hW.size)
  have hDay := fun W => day_at y m e hok (by omega) W
  rw [hn] at hDay
  have db := dim_bd y m
  obtain ⟨o1, o2, o3, o4, o5, o6⟩ := id hok
  have h29 := is29 m e (by omega) (by omega)
  rw [← dateS_rest y m e] at h29
  by_cases hx29 : m = 2 ∧ e = 29
  · have h29' : (((dateS y m e).extract 5 10).toList == [48, 50, 45, 50, 57]) = true := by rw [h29]; simp [hx29]
    exact cal_leap a0 a1 a2 d n k0 to x v _ _ w d0 (by omega) n0 n1 kA (by omega) x0 y0 x1 y1 (dateS_size _ _ _) (dateS_size _ _ _) hless hto hkz hp1 hp2 hp3 hD1 hD2 hDay (weight_at hx) (weight_at hv) (weight_at hz) h29'
  · have h29' : (((dateS y m e).extract 5 10).toList == [48, 50, 45, 50, 57]) = false := by
      rw [h29]
      simp
      omega
    obtain ⟨okl, hdif, hlast⟩ := later_ok y m e hok yfar (by omega)
    obtain ⟨c0, c1, c2, c3, c4, c5, c6, c7, hcase⟩ := later_cases y m e (by omega) (by omega)
    have ecast : ((y : Int) + 1) = ((y + 1 : Nat) : Int) := by omega
    rw [ecast] at okl hdif hlast
    rw [hn] at hdif
    have hDay2 := fun W => day_at (y + 1) m e okl (by omega) W
    obtain ⟨v4, hw4⟩ := wspec_ex 3 d (num ((y + 1 : Nat) : Int) m e) (by decide) (by decide) d0 (by omega) hlast
    have h4 := later_w y m e v4 0 hok (by rw [ecast]; exact okl) (by rw [hn, ecast]; exact hw4) (by omega) (by rw [ecast]; omega) (by rw [ecast]; exact hlast)
    rw [h4.2] at hw4
    exact cal_plain a0 a1 a2 d n k0 to x v _ _ w d0 (by omega) n0 n1 kA (by omega) x0 y0 x1 y1 (dateS_size _ _ _) (dateS_size _ _ _) hless hto hkz hp1 hp2 hp3 hD1 hD2 hDay (weight_at hx) (weight_at hv) (weight_at hz)
      (dateS (y + 1) m e) (num ((y + 1 : Nat) : Int) m e) (dateS_size _ _ _) h29' (fun j h4 h10 => byt_rest y m e j h4 h10) ⟨c0, c1⟩ ⟨c2, c3⟩ ⟨c4, c5⟩ ⟨c6, c7⟩ hcase hDay2 (weight_at hw4) (by omega) hlast hdif

/-- The door's own heap meets the condition. -/
theorem door_met (os : Os) (args : Array Value) : laidMetH Tryd.prog Rows.calendarRow.laid ((World.doorLaid Tryd.prog 400 os).forCall (fun _ _ => 0) ⟨#[], args, []⟩).memory :=
  laidMetH_of_parts3 (fuel := 8) (laidMet_of_run' 8 (by kernel_rfl) (by kernel_rfl)) (by kernel_rfl) (by kernel_rfl)
theorem of_laid {W : World} (h : laidMetH Tryd.prog Rows.calendarRow.laid W) : Lib.TabIs Tryd.prog W "internal/strconv.uint64pow10" .u64 Lib.pow10Tab ∧ 4 < W.heap.size := by
  rw [MakeChecks.laidMetH_plain _ _ _ (by kernel_rfl)] at h
  have t := Lib.tabIs_of_head (k := .u64) (zs := Lib.pow10Tab) gPow (by kernel_rfl) Tryd.underlying154 Tryd.underlying77 (by kernel_rfl) (by kernel_rfl) (show laidMet Tryd.prog [("internal/strconv.uint64pow10", Lib.tabData .u64 Lib.pow10Tab)] W from h.tail.tail)
  exact ⟨t, World.block_lt_of_cell? _ _ (t.cell gPow 0 (by decide))⟩

set_option maxRecDepth 100000 in
theorem lifted (os : Os) (started : os.Started) (H : Type) (enc : TypeId × Value → H) :
    ReturnsInHanded {} Tryd.checked os 4 .any (fun w args => (Rows.calendarSpec.pre enc Tryd.prog Tryd.f4 [] false w args ∧ laidMetH Tryd.prog Rows.calendarRow.laid w) ∧ sizedMet enc Tryd.prog Tryd.f4 (OpenSpec.ofChange Rows.calendarSpec) false w args)
      (Rows.calendarSpec.post enc Tryd.prog Tryd.f4 false true false false) := by
  refine returnsInHanded_of_change_and (C := Tryd.checked) (X := fun w _ => laidMetH Tryd.prog Rows.calendarRow.laid w) (fun _ _ _ hh h => h.of_heap hh) own started (by kernel_rfl) Tryd.func4
    (ChangeSpec.witness_shaped (enc := enc) (C := Tryd.checked) (os := os) (X := fun w _ => laidMetH Tryd.prog Rows.calendarRow.laid w) false (World.doorLaid Tryd.prog 400 os) #[.int .i64 0, .int .i64 0, .int .i64 0] 8 rfl (World.shaped_of_RefB (by kernel_rfl) (by kernel_rfl)) (by kernel_rfl) (by kernel_rfl) (by kernel_rfl) (door_met os _)) ?_
  intro W base args ds gs before hval0 hW _ _ hL _
  have hval : ∀ (j : Nat) t v, Tryd.f4.params[j]? = some t → args[j]? = some v → Value.okWide Tryd.prog W .any base t v := hval0
  have hW' := hW
  obtain ⟨p, q, hA0, hV, rfl, hfz, hnd⟩ := hW
  have hA : DataW.TrodAll enc Tryd.prog W 0 (fun _ => true) true Tryd.f4.params.toList args.toList ds p := hA0
  rw [Tryd.params4] at hA hval
  obtain ⟨v0, vs0, d0, ds0, p0, q0, hargs, rfl, rfl, h0, r0⟩ := trodAll_cons hA
  obtain ⟨v1, vs1, d1, ds1, p1, q1, rfl, rfl, rfl, h1, r1⟩ := trodAll_cons r0
  obtain ⟨v2, vs2, d2, ds2, p2, q2, rfl, rfl, rfl, h2, r2⟩ := trodAll_cons r1
  obtain ⟨rfl, rfl, rfl⟩ := trodAll_nil r2
  obtain rfl : args = #[v0, v1, v2] := by cases args; simp_all
  obtain ⟨rfl, rfl⟩ := trodVars_none hV
  obtain ⟨a0, rfl, rfl, rfl, w0⟩ := open_int Tryd.underlying3 (hval 0 3 v0 rfl rfl) h0
  obtain ⟨a1, rfl, rfl, rfl, w1⟩ := open_int Tryd.underlying3 (hval 1 3 v1 rfl rfl) h1
  obtain ⟨a2, rfl, rfl, rfl, w2⟩ := open_int Tryd.underlying3 (hval 2 3 v2 rfl rfl) h2
  obtain ⟨ht, hg⟩ := of_laid hL
  clear hA0 hval0
  refine (walk a0 a1 a2 w0 w1 w2 W ht hg).mono fun e W' ⟨he, bel⟩ => ?_
  subst he
  exact ⟨_, rfl, _, _, _, [], _, [], hW', trodAll_mk1 (shut_bool Tryd.underlying4 _), (trodAll_cons_mk (shut_int Tryd.underlying3 w0) (trodAll_cons_mk (shut_int Tryd.underlying3 w1) (trodAll_cons_mk (shut_int Tryd.underlying3 w2) trodAll_mk0))), rfl, bel.frame _, fun h => by cases h⟩

theorem over : Rows.CalendarSaid :=
  OpenClaim.holds_of_wide 4 Tryd.f4 rfl rfl rfl rfl rfl rfl rfl ⟨rfl, rfl, rfl, rfl, rfl⟩ rfl rfl rfl rfl rfl (by kernel_rfl) Tryd.func4 (by kernel_rfl)
    (of_decide_eq_true (by kernel_rfl)) (by unfold Func.isWrapper; first | (rw [if_pos (by decide +kernel)]; kernel_rfl) | (rw [if_neg (by decide +kernel)]; exact ⟨rfl, rfl⟩))
    (fun os started H enc _ => lifted os started H enc)
end Go.Proofs.YtanndhoimpnhpaaDoor.calendar
namespace Go.Proofs.YtanndhoimpnhpaaDoor
/-- THE STATEMENT, TIED. -/
theorem calendar_card : Rows.CalendarCardSaid :=
  Claim7.holds_tied_plain_at .later [] [.data, .data, .data] true Rows.calendarCard.stood.harness false
    calendar.over (fun _ h => by cases h) (by kernel_rfl) (fun _ h => by cases h) calendar_row_tie rfl ⟨rfl, rfl⟩ (by kernel_rfl) rfl
    (fun f fn hf hfn => by
      obtain rfl : f = 4 := Option.some.inj ((show Tryd.prog.funcNamed Tryd.f4.name = some 4 by kernel_rfl).symm.trans hf) |>.symm
      obtain rfl : fn = Tryd.f4 := (Option.some.inj (Tryd.func4.symm.trans hfn)).symm
      exact ⟨by kernel_rfl, fun j t ht => by
        rw [Tryd.params4] at ht
        have hm : t ∈ [3, 3, 3] := by simpa using Array.mem_of_getElem? ht
        have hall : ([3, 3, 3].all fun u => !Tryd.prog.wantsStandIn u) = true := by kernel_rfl
        exact (show Tryd.prog.wantsStandIn t = false by simpa using List.all_eq_true.1 hall t hm)⟩)
    (by kernel_rfl)
#print axioms calendar_card
end Go.Proofs.YtanndhoimpnhpaaDoor
