/- For every text and every number the program's Day and Date answer as the document's do, answer and error, and the 29th of February 2000 is day 36583; the library's table of powers of ten is as its text lays it (the card ties it). -/
import Derived.Test.YtanndhoimpnhpaaDoorCards
import Derived.Test.YtanndhoimpnhpaaDoorTie
import Derived.Test.YtanndhoimpnhpaaDoorCalO
import Derived.ShutString
import Derived.ChangeOld
import Derived.LaidMore
import Derived.Stop.Joined
import Derived.Stop.LaidErr
import Derived.Lib.LaidTab
import Derived.SevenTiedAt
namespace Go.Proofs.YtanndhoimpnhpaaDoor.dates
open Go.ChangeShapes Go.WideShapes Go.ChangeAt Go.RowKit Cal Txt
open Go.ChangeMaps (open_string shut_string)

theorem own : ownKnob Tryd.prog.godebug = none := by kernel_rfl
theorem laidOut : laidOutB Tryd.prog = true := by kernel_rfl

theorem dated_any (s : ByteArray) (w : World) (hs : s.size ≤ maxLen) :
    Calls Tryd.prog 9 #[.string s] w fun e w' => e = .returned (.bool true) ∧ Below w.heap.size w w' := by
  have h1 := fun w => accrueDay_any s w hs
  have h2 := fun w => refDay_any s w hs
  generalize dayV s = v at h1 h2
  generalize dayE s = c at h1 h2
  go_enter Tryd.func9, Tryd.ntmps9
  go_wp2_with fail
  refine (h1 _).mono ?_
  rintro e w1 ⟨rfl, hb1⟩
  go_wp2_with fail
  refine (h2 _).mono ?_
  rintro e w2 ⟨rfl, hb2⟩
  clear h1 h2
  go_wp2
  go_ret
  exact ⟨rfl, hb1.trans (hb2.mono hb1.size)⟩

theorem leapDay : dateS 2000 2 29 = ⟨#[50, 48, 48, 48, 45, 48, 50, 45, 50, 57]⟩ := by decide +kernel
theorem okLeap : Ok (2000 : Nat) (2 : Nat) (29 : Nat) := ok_mk (by decide) (by decide) (by decide) (by decide) (by decide) (by decide)

set_option maxHeartbeats 400000 in
theorem walk_core (s : ByteArray) (n : Int) (S : ByteArray) (c : Int) (w : World) (hs : s.size ≤ maxLen) (htab : Lib.TabIs Tryd.prog w "internal/strconv.uint64pow10" .u64 Lib.pow10Tab) (hg : 4 < w.heap.size)
    (h1 : ∀ W : World, Below w.heap.size w W → Calls Tryd.prog 10 #[.int .i64 n] W fun e w' => e = .returned (.tuple #[.string S, .int .i64 c]) ∧ Below W.heap.size W w')
    (h2 : ∀ W : World, Calls Tryd.prog 11 #[.int .i64 n] W fun e w' => e = .returned (.tuple #[.string S, .int .i64 c]) ∧ Below W.heap.size W w') :
    Calls Tryd.prog 3 #[.string s, .int .i64 n] w fun e w' => e = .returned (.bool true) ∧ Below w.heap.size w w' := by
  have h0 : ∀ W : World, Below w.heap.size w W → Calls Tryd.prog 10 #[.int .i64 36583] W fun e w' => e = .returned (.tuple #[.string ⟨#[50, 48, 48, 48, 45, 48, 50, 45, 50, 57]⟩, .int .i64 0]) ∧ Below W.heap.size W w' := fun W hW => by
    have := accrueDate_yes 36583 W (by decide) (by decide) 2000 2 29 okLeap (by decide) (tab_below htab hg hW) (Nat.lt_of_lt_of_le hg hW.size)
    rw [leapDay] at this
    exact this
  clear htab
  go_enter Tryd.func3, Tryd.ntmps3
  go_wp2_with fail
  refine (dated_any _ _ (by decide)).mono ?_
  rintro e w1 ⟨rfl, hb1⟩
  go_wp2_with fail
  refine (dated_any s _ hs).mono ?_
  rintro e w2 ⟨rfl, hb2⟩
  have t2 := hb1.trans (hb2.mono hb1.size)
  clear hb1 hb2
  go_wp2_with fail
  refine (h0 _ t2).mono ?_
  rintro e w3 ⟨rfl, hb3⟩
  have t3 := t2.trans (hb3.mono t2.size)
  clear hb3 t2 h0
  go_wp2_with fail
  refine (h1 _ t3).mono ?_
  rintro e w4 ⟨rfl, hb4⟩
  have t4 := t3.trans (hb4.mono t3.size)
  clear hb4 t3 h1
  go_wp2_with fail
  refine (h2 _).mono ?_
  rintro e w5 ⟨rfl, hb5⟩
  have t5 := t4.trans (hb5.mono t4.size)
  clear hb5 t4 h2
  go_wp2
  go_ret
  exact ⟨rfl, t5⟩

theorem walk (s : ByteArray) (n : Int) (w : World) (hs : s.size ≤ maxLen) (htab : Lib.TabIs Tryd.prog w "internal/strconv.uint64pow10" .u64 Lib.pow10Tab) (hg : 4 < w.heap.size) :
    Calls Tryd.prog 3 #[.string s, .int .i64 n] w fun e w' => e = .returned (.bool true) ∧ Below w.heap.size w w' := by
  by_cases h : n < 0 ∨ 109572 < n
  · exact walk_core s n _ _ w hs htab hg (fun W _ => accrueDate_no n W h) (fun W => refDate_no n W h)
  · obtain ⟨y, m, d, hok, hn⟩ := has_date n (by omega) (by omega)
    exact walk_core s n _ _ w hs htab hg (fun W hW => accrueDate_yes n W (by omega) (by omega) y m d hok hn (tab_below htab hg hW) (Nat.lt_of_lt_of_le hg hW.size)) (fun W => refDate_yes n W (by omega) (by omega) y m d hok hn)

/-- The door's own heap meets the condition. -/
theorem door_met (os : Os) (args : Array Value) : laidMetH Tryd.prog Rows.datesRow.laid ((World.doorLaid Tryd.prog 400 os).forCall (fun _ _ => 0) ⟨#[], args, []⟩).memory :=
  laidMetH_of_parts3 (fuel := 8) (laidMet_of_run' 8 (by kernel_rfl) (by kernel_rfl)) (by kernel_rfl) (by kernel_rfl)
theorem of_laid {W : World} (h : laidMetH Tryd.prog Rows.datesRow.laid W) : Lib.TabIs Tryd.prog W "internal/strconv.uint64pow10" .u64 Lib.pow10Tab ∧ 4 < W.heap.size := by
  rw [MakeChecks.laidMetH_plain _ _ _ (by kernel_rfl)] at h
  have t := Lib.tabIs_of_head (k := .u64) (zs := Lib.pow10Tab) gPow (by kernel_rfl) Tryd.underlying154 Tryd.underlying77 (by kernel_rfl) (by kernel_rfl) (show laidMet Tryd.prog [("internal/strconv.uint64pow10", Lib.tabData .u64 Lib.pow10Tab)] W from h.tail.tail)
  exact ⟨t, World.block_lt_of_cell? _ _ (t.cell gPow 0 (by decide))⟩

set_option maxRecDepth 100000 in
theorem lifted (os : Os) (started : os.Started) (H : Type) (enc : TypeId × Value → H) :
    ReturnsInHanded {} Tryd.checked os 3 .any (fun w args => (Rows.datesSpec.pre enc Tryd.prog Tryd.f3 [] false w args ∧ laidMetH Tryd.prog Rows.datesRow.laid w) ∧ sizedMet enc Tryd.prog Tryd.f3 (OpenSpec.ofChange Rows.datesSpec) false w args)
      (Rows.datesSpec.post enc Tryd.prog Tryd.f3 false true false false) := by
  refine returnsInHanded_of_change_and (C := Tryd.checked) (X := fun w _ => laidMetH Tryd.prog Rows.datesRow.laid w) (fun _ _ _ hh h => h.of_heap hh) own started (by kernel_rfl) Tryd.func3
    (ChangeSpec.witness_shaped (enc := enc) (C := Tryd.checked) (os := os) (X := fun w _ => laidMetH Tryd.prog Rows.datesRow.laid w) false (World.doorLaid Tryd.prog 400 os) #[.string ⟨#[]⟩, .int .i64 0] 8 rfl (World.shaped_of_RefB (by kernel_rfl) (by kernel_rfl)) (by kernel_rfl) (by kernel_rfl) (by kernel_rfl) (door_met os _)) ?_
  intro W base args ds gs before hval0 hW _ _ hL _
  have hval : ∀ (j : Nat) t v, Tryd.f3.params[j]? = some t → args[j]? = some v → Value.okWide Tryd.prog W .any base t v := hval0
  have hW' := hW
  obtain ⟨p, q, hA0, hV, rfl, hfz, hnd⟩ := hW
  have hA : DataW.TrodAll enc Tryd.prog W 0 (fun _ => true) true Tryd.f3.params.toList args.toList ds p := hA0
  rw [Tryd.params3] at hA hval
  obtain ⟨v0, vs0, d0, ds0, p0, q0, hargs, rfl, rfl, h0, r0⟩ := trodAll_cons hA
  obtain ⟨v1, vs1, d1, ds1, p1, q1, rfl, rfl, rfl, h1, r1⟩ := trodAll_cons r0
  obtain ⟨rfl, rfl, rfl⟩ := trodAll_nil r1
  obtain rfl : args = #[v0, v1] := by cases args; simp_all
  obtain ⟨rfl, rfl⟩ := trodVars_none hV
  obtain ⟨a0, rfl, rfl, rfl, w0⟩ := open_string Tryd.underlying9 (hval 0 9 v0 rfl rfl) h0
  obtain ⟨a1, rfl, rfl, rfl, w1⟩ := open_int Tryd.underlying3 (hval 1 3 v1 rfl rfl) h1
  obtain ⟨ht, hg⟩ := of_laid hL
  clear hA0 hval0
  refine (walk a0 a1 W w0 ht hg).mono fun e W' ⟨he, bel⟩ => ?_
  subst he
  exact ⟨_, rfl, _, _, _, [], _, [], hW', trodAll_mk1 (shut_bool Tryd.underlying4 _), (trodAll_cons_mk (shut_string Tryd.underlying9 w0) (trodAll_cons_mk (shut_int Tryd.underlying3 w1) trodAll_mk0)), rfl, bel.frame _, fun h => by cases h⟩

theorem over : Rows.DatesSaid :=
  OpenClaim.holds_of_wide 3 Tryd.f3 rfl rfl rfl rfl rfl rfl rfl ⟨rfl, rfl, rfl, rfl, rfl⟩ rfl rfl rfl rfl rfl (by kernel_rfl) Tryd.func3 (by kernel_rfl)
    (of_decide_eq_true (by kernel_rfl)) (by unfold Func.isWrapper; first | (rw [if_pos (by decide +kernel)]; kernel_rfl) | (rw [if_neg (by decide +kernel)]; exact ⟨rfl, rfl⟩))
    (fun os started H enc _ => lifted os started H enc)
end Go.Proofs.YtanndhoimpnhpaaDoor.dates
namespace Go.Proofs.YtanndhoimpnhpaaDoor
/-- THE STATEMENT, TIED. -/
theorem dates_card : Rows.DatesCardSaid :=
  Claim7.holds_tied_plain_at .later [] [.data, .data, .data] true Rows.datesCard.stood.harness false
    dates.over (fun _ h => by cases h) (by kernel_rfl) (fun _ h => by cases h) dates_row_tie rfl ⟨rfl, rfl⟩ (by kernel_rfl) rfl
    (fun f fn hf hfn => by
      obtain rfl : f = 3 := Option.some.inj ((show Tryd.prog.funcNamed Tryd.f3.name = some 3 by kernel_rfl).symm.trans hf) |>.symm
      obtain rfl : fn = Tryd.f3 := (Option.some.inj (Tryd.func3.symm.trans hfn)).symm
      exact ⟨by kernel_rfl, fun j t ht => by
        rw [Tryd.params3] at ht
        have hm : t ∈ [9, 3] := by simpa using Array.mem_of_getElem? ht
        have hall : ([9, 3].all fun u => !Tryd.prog.wantsStandIn u) = true := by kernel_rfl
        exact (show Tryd.prog.wantsStandIn t = false by simpa using List.all_eq_true.1 hall t hm)⟩)
    (by kernel_rfl)
#print axioms dates_card
end Go.Proofs.YtanndhoimpnhpaaDoor
