/- For every basis and all two days (any numbers) the program's Weight answers as the document's does, number and error, and by THIRTY/360 the day 2001-02-28 weighs 3; no condition. -/
import Derived.Test.YtanndhoimpnhpaaRows
import Derived.Test.YtanndhoimpnhpaaCalF
import Derived.Test.YtanndhoimpnhpaaCalJ
import Derived.ShutString
import Derived.ChangeOld
namespace Go.Proofs.Ytanndhoimpnhpaa.weights
open Go.ChangeShapes Go.WideShapes Go.ChangeAt Go.RowKit Cal Txt

theorem own : ownKnob Try.prog.godebug = none := by kernel_rfl

theorem feb28 : dayV ⟨#[50, 48, 48, 49, 45, 48, 50, 45, 50, 56]⟩ = 36948 := by decide +kernel
theorem isT_a : IsT 36948 (t3 2001 2 28) := ⟨2001, 2, 28, ok_mk (by decide) (by decide) (by decide) (by decide) (by decide) (by decide), by decide, rfl⟩
theorem isT_b : IsT 36949 (t3 2001 3 1) := ⟨2001, 3, 1, ok_mk (by decide) (by decide) (by decide) (by decide) (by decide) (by decide), by decide, rfl⟩
theorem three : WSpec 3 36948 36949 3 0 := .inr (.inr ⟨by decide, by decide, by decide, by decide, by decide, rfl, fun _ => ⟨_, _, isT_b, isT_a, by decide⟩, fun h => absurd rfl h⟩)

set_option maxHeartbeats 400000 in
theorem walk (a0 a1 a2 : Int) (w : World) :
    Calls Try.prog 3 #[.int .i64 a0, .int .i64 a1, .int .i64 a2] w fun e w' => e = .returned (.bool true) ∧ Below w.heap.size w w' := by
  go_enter Try.func3, Try.ntmps3
  go_wp2_with fail
  refine (refDay_any _ _ (by decide)).mono ?_
  rintro e w1 ⟨rfl, hb1⟩
  rw [feb28]
  go_wp2_with fail
  refine (accrueWeight_any _ _ _ _).mono ?_
  rintro e w2 ⟨v, c, rfl, hs, hb2⟩
  obtain ⟨rfl, rfl⟩ := three.one hs
  clear hs
  go_wp2_with fail
  refine (accrueWeight_any _ _ _ _).mono ?_
  rintro e w3 ⟨v, c, rfl, hs1, hb3⟩
  go_wp2_with fail
  refine (refWeight_any _ _ _ _).mono ?_
  rintro e w4 ⟨v', c', rfl, hs2, hb4⟩
  obtain ⟨rfl, rfl⟩ := hs1.one hs2
  clear hs1 hs2
  go_wp2
  go_ret
  have t2 := hb1.trans (hb2.mono hb1.size)
  have t3 := t2.trans (hb3.mono t2.size)
  exact ⟨rfl, t3.trans (hb4.mono t3.size)⟩

/-! ### THE ROW's STEP: WRITTEN OUT: LEAVE IT -/
set_option maxRecDepth 100000 in
theorem lifted (os : Os) (started : os.Started) (H : Type) (enc : TypeId × Value → H) :
    ReturnsInHanded {} Try.checked os 3 .any (Rows.weightsSpec.pre6 enc Try.prog Try.f3 Rows.weightsRow.domain false) (Rows.weightsSpec.post enc Try.prog Try.f3 false true false false) := by
  refine returnsInHanded_of_change (C := Try.checked) own started (by kernel_rfl) Try.func3
    (ChangeSpec.witness6 (enc := enc) (C := Try.checked) false ⟨#[], #[.int .i64 0, .int .i64 0, .int .i64 0], []⟩ 8 (by kernel_rfl) (by kernel_rfl) (by kernel_rfl) (by kernel_rfl)) ?_
  intro W base args ds gs before hval0 hW hcnd _
  have hval : ∀ (j : Nat) t v, Try.f3.params[j]? = some t → args[j]? = some v → Value.okWide Try.prog W .any base t v := hval0
  have hW' := hW
  obtain ⟨p, q, hA0, hV, rfl, hfz, hnd⟩ := hW
  have hA : DataW.TrodAll enc Try.prog W 0 (fun _ => true) true Try.f3.params.toList args.toList ds p := hA0
  rw [Try.params3] at hA hval
  obtain ⟨v0, vs0, d0, ds0, p0, q0, hargs, rfl, rfl, h0, r0⟩ := trodAll_cons hA
  obtain ⟨v1, vs1, d1, ds1, p1, q1, rfl, rfl, rfl, h1, r1⟩ := trodAll_cons r0
  obtain ⟨v2, vs2, d2, ds2, p2, q2, rfl, rfl, rfl, h2, r2⟩ := trodAll_cons r1
  obtain ⟨rfl, rfl, rfl⟩ := trodAll_nil r2
  obtain rfl : args = #[v0, v1, v2] := by cases args; simp_all
  obtain ⟨rfl, rfl⟩ := trodVars_none hV
  obtain ⟨a0, rfl, rfl, rfl, w0⟩ := open_int Try.underlying3 (hval 0 3 v0 rfl rfl) h0
  obtain ⟨a1, rfl, rfl, rfl, w1⟩ := open_int Try.underlying3 (hval 1 3 v1 rfl rfl) h1
  obtain ⟨a2, rfl, rfl, rfl, w2⟩ := open_int Try.underlying3 (hval 2 3 v2 rfl rfl) h2
  clear hA0 hval0
  refine (walk a0 a1 a2 W).mono fun e W' ⟨he, hg⟩ => ?_
  subst he
  exact ⟨_, rfl, _, _, _, [], _, [], hW', trodAll_mk1 (shut_bool Try.underlying4 _), (trodAll_cons_mk (shut_int Try.underlying3 w0) (trodAll_cons_mk (shut_int Try.underlying3 w1) (trodAll_cons_mk (shut_int Try.underlying3 w2) trodAll_mk0))), rfl, hg.frame _, fun h => by cases h⟩

theorem over : Rows.weightsRow.holds Try.pinned (OpenSpec.ofChange Rows.weightsSpec) :=
  OpenClaim.holds_of_wide 3 Try.f3 rfl rfl rfl rfl rfl rfl rfl ⟨rfl, rfl, rfl, rfl, rfl⟩ rfl rfl rfl rfl rfl (by kernel_rfl) Try.func3 (by kernel_rfl)
    (of_decide_eq_true (by kernel_rfl)) (by unfold Func.isWrapper; first | (rw [if_pos (by decide +kernel)]; kernel_rfl) | (rw [if_neg (by decide +kernel)]; exact ⟨rfl, rfl⟩))
    (fun os started H enc _ => lifted os started H enc)

end Go.Proofs.Ytanndhoimpnhpaa.weights
namespace Go.Proofs.Ytanndhoimpnhpaa
/-- THE STATEMENT. -/
theorem weights_holds : Rows.WeightsSaid := weights.over
#print axioms weights_holds
end Go.Proofs.Ytanndhoimpnhpaa
