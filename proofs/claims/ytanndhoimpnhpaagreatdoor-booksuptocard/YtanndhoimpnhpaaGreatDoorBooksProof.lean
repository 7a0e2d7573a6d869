/- For all terms and every script of Open, Add, Cancel, Run, Balance, Book, Accounts over two loans whose bulk is at most 1048576 the program answers as the document, and every list that came out stays as its owner left it; the program's tables of moves and of limits are as its text lays them (the card ties them). -/
import Derived.Test.YtanndhoimpnhpaaGreatDoorCards
import Derived.Test.YtanndhoimpnhpaaGreatDoorTie
import Derived.Test.YtanndhoimpnhpaaGreatDoorM37
import Derived.ShutString
import Derived.ChangeOld
import Derived.LaidMore
import Derived.Stop.Joined
import Derived.Stop.LaidErr
import Derived.SevenTiedAt
import Derived.Carry
import Derived.Deep.DeepHandedRow
import Derived.Lay
namespace Go.Proofs.YtanndhoimpnhpaaGreatDoor.books
open Go.ChangeShapes Go.WideShapes Go.ChangeAt Go.RowKit Go.Deep Cal

theorem own : ownKnob Tryz.prog.godebug = none := by kernel_rfl
/-- Each thing weighs at least one. -/
theorem weigh {H : Type} (d : DataW H) : 0 < Rows.uptoBulk d := by
  cases d <;> first | (rename_i l; cases l <;> simp [Rows.uptoBulk]) | simp [Rows.uptoBulk]
theorem many {H : Type} : ∀ l : List (DataW H), l.length ≤ Rows.uptoBulkAll l
  | [] => Nat.zero_le _
  | x :: r => by
    have h1 := many r
    have h2 := weigh x
    simp only [Rows.uptoBulkAll, List.length_cons]
    omega
/-- How long a script can be. -/
theorem script_le {H : Type} {d0 d1 d2 : DataW H} {sc : List Sp} (hk : Rows.uptoSmall H [d0, d1, d2] = true) (hs : sc = [] ∨ ∃ es sp, d2 = .slice es sp ∧ sc.length ≤ es.length + sp.length) : sc.length ≤ 1048576 := by
  rcases hs with rfl | ⟨es, sp, rfl, hl⟩
  · simp
  · have h : Rows.uptoBulkAll [d0, d1, DataW.slice es sp] ≤ 1048576 := of_decide_eq_true hk
    simp only [Rows.uptoBulkAll, Rows.uptoBulk] at h
    have h1 := many es
    have h2 := many sp
    omega
/-- The terms of the witness. -/
def zt : Value := .agg #[.int .i64 0, .int .i64 0, .int .i64 0, .int .i64 0, .int .i64 0, .int .i64 0]
/-- A heap that holds what the row lists. -/
theorem all_met (os : Os) (args : Array Value) : laidMetH Tryz.prog Rows.booksUptoRow.laid ((World.laidAll Tryz.prog os Rows.booksUptoRow.laid).forCall (fun _ _ => 0) ⟨#[], args, []⟩).memory := by
  rw [MakeChecks.laidMetH_plain _ _ _ (by kernel_rfl)]
  exact laidMet_laidAll _ (by kernel_rfl) (by kernel_rfl)
theorem of_laid {W : World} (h : laidMetH Tryz.prog Rows.booksUptoRow.laid W) : Mv W ∧ Lim W := by
  rw [MakeChecks.laidMetH_plain _ _ _ (by kernel_rfl)] at h
  exact ⟨(mv_of_reads (Lib.laidMet.reads h (.tail _ (.tail _ (.tail _ (.tail _ (.tail _ (.tail _ (.head _))))))))).1, lim_of_reads (Lib.laidMet.reads h (.tail _ (.tail _ (.tail _ (.tail _ (.tail _ (.tail _ (.tail _ (.head _)))))))))⟩
def zd {H : Type} : DataW H := .agg [.lit (.int .i64 0), .lit (.int .i64 0), .lit (.int .i64 0), .lit (.int .i64 0), .lit (.int .i64 0), .lit (.int .i64 0)]
theorem reads (os : Os) {H : Type} (enc : TypeId × Value → H) : ∃ places, DataW.whole enc Tryz.prog ((World.laidAll Tryz.prog os Rows.booksUptoRow.laid).forCall (fun _ _ => 0) ⟨#[], #[zt, zt, .slice none 0 0], []⟩).memory Tryz.f4.params.toList Rows.booksSpec.vars false #[zt, zt, Value.slice none 0 0].toList 8 = some ([zd, zd, .nil], [], places) :=
  ⟨[], by kernel_rfl⟩

set_option maxRecDepth 100000 in
/-- What the walk gives, for every argument of that size. -/
theorem contract (H : Type) (enc : TypeId × Value → H) (W : World) (base : Nat) (args : Array Value) (ds gs : List (DataW H)) (before : List MemPlace)
    (hval0 : ∀ (j : Nat) t v, Tryz.f4.params[j]? = some t → args[j]? = some v → Value.okWide Tryz.prog W .any base t v)
    (hW : DataW.Whole enc Tryz.prog Tryz.f4.params.toList Rows.booksSpec.vars false W args.toList ds gs before) (hk : Rows.uptoSmall H (ds ++ gs) = true) (hL : laidMetH Tryz.prog Rows.booksUptoRow.laid W) :
    Calls Tryz.prog 4 args W fun e W' => ∃ v, e = .returned v ∧ Rows.booksSpec.post enc Tryz.prog Tryz.f4 false true false false W args v W' := by
  have hval : ∀ (j : Nat) t v, Tryz.f4.params[j]? = some t → args[j]? = some v → Value.okWide Tryz.prog W .any base t v := hval0
  have hW' := hW
  obtain ⟨p, q, hA0, hV, rfl, hfz, hnd⟩ := hW
  have hA : DataW.TrodAll enc Tryz.prog W 0 (fun _ => true) true Tryz.f4.params.toList args.toList ds p := hA0
  rw [Tryz.params4] at hA hval
  obtain ⟨v0, vs0, d0, ds0, p0, q0, hargs, rfl, rfl, h0, r0⟩ := trodAll_cons hA
  obtain ⟨v1, vs1, d1, ds1, p1, q1, rfl, rfl, rfl, h1, r1⟩ := trodAll_cons r0
  obtain ⟨v2, vs2, d2, ds2, p2, q2, rfl, rfl, rfl, h2, r2⟩ := trodAll_cons r1
  obtain ⟨rfl, rfl, rfl⟩ := trodAll_nil r2
  obtain rfl : args = #[v0, v1, v2] := by cases args; simp_all
  obtain ⟨rfl, rfl⟩ := trodVars_none hV
  obtain ⟨ta, rfl⟩ := open_Terms (hval 0 23 v0 rfl rfl) h0
  obtain ⟨tb, rfl⟩ := open_Terms (hval 1 23 v1 rfl rfl) h1
  obtain ⟨sc, o2, l2⟩ := open_SpV (hval 2 24 v2 rfl rfl) h2
  have hl := script_le hk l2
  obtain ⟨hmv, hlim⟩ := of_laid hL
  refine (books_any W ta tb v2 sc o2 (by omega) hmv hlim).mono fun e W' ⟨he, bel⟩ => ?_
  subst he
  exact ⟨_, rfl, _, _, _, [], _, [], hW', trodAll_mk1 (shut_bool Tryz.underlying4 _), (trodAll_cons_mk (bel.trod (by kernel_rfl) (by kernel_rfl) (of_decide_eq_true (by kernel_rfl)) h0 (fun x hx => DataW.trod_lt h0.choose _ _ _ h0.choose_spec x hx)) (trodAll_cons_mk (bel.trod (by kernel_rfl) (by kernel_rfl) (of_decide_eq_true (by kernel_rfl)) h1 (fun x hx => DataW.trod_lt h1.choose _ _ _ h1.choose_spec x hx)) (trodAll_cons_mk (bel.trod (by kernel_rfl) (by kernel_rfl) (of_decide_eq_true (by kernel_rfl)) h2 (fun x hx => DataW.trod_lt h2.choose _ _ _ h2.choose_spec x hx)) trodAll_mk0))), rfl, bel.frame _, fun h => by cases h⟩

set_option maxRecDepth 100000 in
theorem lifted (os : Os) (started : os.Started) (H : Type) (enc : TypeId × Value → H) (F : Stop.Interp) :
    ReturnsInHanded {} Tryz.checked os 4 .any ((Rows.OpenSpec.upto Rows.booksSpec).preRow enc Tryz.prog Tryz.f4 Rows.booksUptoRow.domain false Rows.booksUptoRow.laid) (((Rows.OpenSpec.upto Rows.booksSpec).at F).post enc Tryz.prog Tryz.f4 false true false false) := by
  obtain ⟨places, hx⟩ := reads os enc
  refine returnsInHanded_of_row (C := Tryz.checked) (s := Rows.OpenSpec.upto Rows.booksSpec) own started (by kernel_rfl) Tryz.func4
    ⟨World.laidAll Tryz.prog os Rows.booksUptoRow.laid, fun _ _ => 0, ⟨#[], #[zt, zt, .slice none 0 0], []⟩, rfl, World.shaped_of_ZipB (by kernel_rfl) (by kernel_rfl), rfl, (Input.okWide_of_okWideB (by kernel_rfl)).2,
      OpenSpec.preRow_of_cond 8 hx (by kernel_rfl) (fun k hk => by cases hk; kernel_rfl) (by kernel_rfl) (all_met os _), by
        simp only [Assume.holds]
        exact ⟨by simp, by simp, fun _ => Modest.zero, by simp, by simp⟩⟩ ?_
  intro W base args ds gs before hval hW _ hcond _ hL _ _
  exact contract H enc W base args ds gs before hval hW (hcond _ rfl) hL

theorem over : Rows.BooksUptoSaid :=
  OpenClaim.holds_of_cond 4 Tryz.f4 rfl rfl rfl rfl rfl rfl rfl ⟨rfl, rfl, rfl, rfl, rfl⟩ rfl rfl rfl rfl rfl (by kernel_rfl) Tryz.func4 (by kernel_rfl)
    (of_decide_eq_true (by kernel_rfl)) (by unfold Func.isWrapper; first | (rw [if_pos (by decide +kernel)]; kernel_rfl) | (rw [if_neg (by decide +kernel)]; exact ⟨rfl, rfl⟩))
    (fun os started H enc _ F => by rw [OpenClaim.pre_eq_preRow]; exact lifted os started H enc F)
end Go.Proofs.YtanndhoimpnhpaaGreatDoor.books
namespace Go.Proofs.YtanndhoimpnhpaaGreatDoor
/-- THE STATEMENT, TIED. -/
theorem books_uptocard : Rows.BooksUptoCardSaid :=
  Claim7.holds_tied_plain_at .later [] _ _ _ _ books.over (fun _ h => by cases h) (by kernel_rfl) (fun _ h => by cases h) booksUpto_row_tie rfl ⟨rfl, rfl⟩ (by kernel_rfl) rfl
    (fun f fn hf hfn => by
      obtain rfl : f = 4 := Option.some.inj ((show Tryz.prog.funcNamed Tryz.f4.name = some 4 by kernel_rfl).symm.trans hf) |>.symm
      obtain rfl : fn = Tryz.f4 := (Option.some.inj (Tryz.func4.symm.trans hfn)).symm
      exact ⟨by kernel_rfl, fun j t ht => by
        rw [Tryz.params4] at ht
        have hm : t ∈ [23, 23, 24] := by simpa using Array.mem_of_getElem? ht
        have hall : ([23, 23, 24].all fun u => !Tryz.prog.wantsStandIn u) = true := by kernel_rfl
        exact (show Tryz.prog.wantsStandIn t = false by simpa using List.all_eq_true.1 hall t hm)⟩)
    (by kernel_rfl)
#print axioms books_uptocard
end Go.Proofs.YtanndhoimpnhpaaGreatDoor
