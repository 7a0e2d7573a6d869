/- Joined by program: CalD, CalR, CalE, Row, LnH, So, Ow. -/
import Derived.Test.YtanndhoimpnhpaaGreatDoorM3
import Derived.Deep.QuietTactic
import Derived.BigQuiet
import Derived.WalkSmall
import Derived.WalkKit
import Derived.Below
import Derived.Deep.WholeRow
import Derived.Deep.MidRow
import Derived.Deep.RegionHeld3
import Derived.Test.YtanndhoimpnhpaaGreatDoorM2
import Derived.Deep.CutRange
import Derived.Test.YtanndhoimpnhpaaGreatDoorM1
import Derived.Maps.AppendAt
import Derived.Deep.AppendLies
/- What the document's next, civil, weight and Weight answer. -/
namespace Go.Proofs.YtanndhoimpnhpaaGreatDoor
open Go.ChangeShapes Go.WideShapes Go.ChangeAt Go.RowKit Cal

theorem bcell {W w1 : World} (hb : Below W.heap.size W w1) : (∀ b o, b < W.heap.size → w1.cell? ⟨b, o, none⟩ = W.cell? ⟨b, o, none⟩) ∧ (∀ b o, b < W.heap.size → w1.frozen? ⟨b, o, none⟩ = W.frozen? ⟨b, o, none⟩) :=
  ⟨fun b o h => hb.cell (p := ⟨b, o, none⟩) h, fun b o h => hb.frozen (p := ⟨b, o, none⟩) h⟩



theorem set_twice (w : World) (b o : Nat) (u v : Value) : (w.setCell ⟨b, o, none⟩ u).setCell ⟨b, o, none⟩ v = w.setCell ⟨b, o, none⟩ v := by
  unfold World.setCell
  congr 1
  apply Array.ext
  · simp
  · intro i h1 h2
    simp only [Array.getElem_modify]
    split
    · cases w.heap[i]'(by simpa using h2) <;> simp
    · rfl

set_option maxHeartbeats 400000 in
theorem next_same (y m d : Int) (w : World) (y0 : 1900 ≤ y) (y1 : y ≤ 2200) (m1 : m ≤ 12) (d0 : 1 ≤ d) (h : d < dim y m) :
    Calls Tryz.prog 96 #[.agg #[.int .i64 y, .int .i64 m, .int .i64 d]] w fun e w' => e = .returned (.agg #[.int .i64 y, .int .i64 m, .int .i64 (d + 1)]) ∧ Below w.heap.size w w' := by
  have db := dim_bd y m
  go_enter Tryz.func96, Tryz.ntmps96
  go_wp2
  go_quiet ((go_at_call 118; exact Calls.quiet_of_same (long_any _ _ _ (by omega) (by omega))))
  go_wp2
  refine bodyPost_ret (v := .agg #[.int .i64 y, .int .i64 m, .int .i64 (d + 1)]) (by simp [results, Tryz.results96, go_sem]) rfl ⟨rfl, ?_⟩
  exact (((below_drewN (((Below.refl _ _).alloc (Nat.le_refl _) _).alloc (by simp) _) _).setCell (by simp) _).setCell (by simp) _).setCell (by simp) _

set_option maxHeartbeats 400000 in
theorem next_month (y m d : Int) (w : World) (y0 : 1900 ≤ y) (y1 : y ≤ 2200) (m0 : 1 ≤ m) (m1 : m < 12) (d1 : d ≤ 31) (d0 : 1 ≤ d) (h : ¬ d < dim y m) :
    Calls Tryz.prog 96 #[.agg #[.int .i64 y, .int .i64 m, .int .i64 d]] w fun e w' => e = .returned (.agg #[.int .i64 y, .int .i64 (m + 1), .int .i64 1]) ∧ Below w.heap.size w w' := by
  have db := dim_bd y m
  go_enter Tryz.func96, Tryz.ntmps96
  go_wp2
  go_quiet ((go_at_call 118; exact Calls.quiet_of_same (long_any _ _ _ (by omega) (by omega))))
  go_wp2
  refine bodyPost_ret (v := .agg #[.int .i64 y, .int .i64 (m + 1), .int .i64 1]) (by simp [results, Tryz.results96, go_sem]) rfl ⟨rfl, ?_⟩
  exact (((((below_drewN (((Below.refl _ _).alloc (Nat.le_refl _) _).alloc (by simp) _) _).setCell (by simp) _).setCell (by simp) _).setCell (by simp) _).setCell (by simp) _).setCell (by simp) _

set_option maxHeartbeats 400000 in
theorem next_year (y m d : Int) (w : World) (y0 : 1900 ≤ y) (y1 : y ≤ 2200) (m0 : 12 ≤ m) (m1 : m ≤ 12) (d1 : d ≤ 31) (d0 : 1 ≤ d) (h : ¬ d < dim y m) :
    Calls Tryz.prog 96 #[.agg #[.int .i64 y, .int .i64 m, .int .i64 d]] w fun e w' => e = .returned (.agg #[.int .i64 (y + 1), .int .i64 1, .int .i64 1]) ∧ Below w.heap.size w w' := by
  have db := dim_bd y m
  have ss := set_twice
  go_enter Tryz.func96, Tryz.ntmps96
  go_wp2
  go_quiet ((go_at_call 118; exact Calls.quiet_of_same (long_any _ _ _ (by omega) (by omega))))
  go_wp2
  refine bodyPost_ret (v := .agg #[.int .i64 (y + 1), .int .i64 1, .int .i64 1]) (by simp [results, Tryz.results96, go_sem]) rfl ⟨rfl, ?_⟩
  exact ((((((below_drewN (((Below.refl _ _).alloc (Nat.le_refl _) _).alloc (by simp) _) _).setCell (by simp) _).setCell (by simp) _).setCell (by simp) _).setCell (by simp) _).setCell (by simp) _).setCell (by simp) _

theorem next_any (y m d : Int) (w : World) (h : Ok y m d) :
    Calls Tryz.prog 96 #[.agg #[.int .i64 y, .int .i64 m, .int .i64 d]] w fun e w' => e = .returned (.agg #[.int .i64 (ny y m d), .int .i64 (nm y m d), .int .i64 (nd y m d)]) ∧ Below w.heap.size w w' := by
  obtain ⟨a1, a2, a3, a4, a5, a6⟩ := h
  have db := dim_bd y m
  by_cases h1 : d < dim y m
  · have e1 : ny y m d = y := by simp [ny, h1]
    have e2 : nm y m d = m := by simp [nm, h1]
    have e3 : nd y m d = d + 1 := by simp [nd, h1]
    rw [e1, e2, e3]
    exact next_same y m d w a1 a2 a4 a5 h1
  · by_cases h2 : m < 12
    · have e1 : ny y m d = y := by simp [ny, h1, h2]
      have e2 : nm y m d = m + 1 := by simp [nm, h1, h2]
      have e3 : nd y m d = 1 := by simp [nd, h1]
      rw [e1, e2, e3]
      exact next_month y m d w a1 a2 a3 h2 (by omega) a5 h1
    · have e1 : ny y m d = y + 1 := by simp [ny, h1, h2]
      have e2 : nm y m d = 1 := by simp [nm, h1, h2]
      have e3 : nd y m d = 1 := by simp [nd, h1]
      rw [e1, e2, e3]
      exact next_year y m d w a1 a2 (by omega) a4 (by omega) a5 h1
end Go.Proofs.YtanndhoimpnhpaaGreatDoor

/- What the document's civil answers for every day up to the one behind the last: the date of that number. -/
namespace Go.Proofs.YtanndhoimpnhpaaGreatDoor
open Go.ChangeShapes Go.WideShapes Go.ChangeAt Go.RowKit Cal

theorem dim_two (y : Int) : dim y 2 = 28 + lp y := by simp [dim]

set_option maxHeartbeats 1000000 in
theorem refcivil_any (n : Int) (w : World) (h0 : 0 ≤ n) (h1 : n ≤ 109573) :
    Calls Tryz.prog 94 #[.int .i64 n] w fun e w' => ∃ y m d : Int, e = .returned (.agg #[.int .i64 y, .int .i64 m, .int .i64 d]) ∧ Ok y m d ∧ num y m d = n ∧ Below w.heap.size w w' := by
  have y1 := ys_first
  have Y1 : Hid (ys 1900 = 0) := y1
  clear y1
  go_enter Tryz.func94, Tryz.ntmps94
  go_wp2
  go_loopw [0] (fun t wr => ∃ y : Int, 1900 ≤ y ∧ y ≤ 2200 ∧ ys y ≤ n ∧ t = .int .i64 (n - ys y) ∧ wr = (w.alloc (.cells #[.int .i64 0, .int .i64 0, .int .i64 0] 169)).alloc (.cells #[.int .i64 y, .int .i64 1, .int .i64 1] 169)) (fun t _ => (intOf t).toNat)
  case atStart => exact ⟨1900, by omega, by omega, by rw [Y1.out]; omega, by rw [Y1.out]; simp, rfl⟩
  case round =>
    obtain ⟨y, hy1, hy2, hy3, rfl, rfl⟩ := hrel
    have hl := lp_01 y
    have hb := ys_bd y hy1 (by omega)
    have HS : Hid (ys (y + 1) = ys y + 365 + lp y) := ys_succ y
    have HD : Hid (dim y 2 = 28 + lp y) := dim_two y
    have db := dim_bd y 2
    by_cases hd : 337 + dim y 2 ≤ n - ys y
    · have hlt : y < 2200 := by
        apply Int.not_le.mp
        intro h
        obtain rfl : y = 2200 := by omega
        have := ys_last
        have := HD.out
        omega
      go_wp2_with (go_at_call 118; refine (long_any _ _ _ (by omega) (by omega)).mono ?_; rintro e w' ⟨rfl, rfl⟩)
      go_roundw
      case rel => exact ⟨y + 1, by omega, by omega, by rw [HS.out]; have := HD.out; omega, by rw [HS.out]; have := HD.out; go_num, rfl⟩
      case measure => simp [intOf]; omega
    · have hz : n < ys (y + 1) := by rw [HS.out]; have := HD.out; omega
      go_wp2_with (go_at_call 118; refine (long_any _ _ _ (by omega) (by omega)).mono ?_; rintro e w' ⟨rfl, rfl⟩)
      clear hd db
      go_loopw [0] (fun r wr => ∃ m : Int, 1 ≤ m ∧ m ≤ 12 ∧ 0 ≤ n - ys y - cum y m ∧ r = .int .i64 (n - ys y - cum y m) ∧ wr = (w.alloc (.cells #[.int .i64 0, .int .i64 0, .int .i64 0] 169)).alloc (.cells #[.int .i64 y, .int .i64 m, .int .i64 1] 169)) (fun r _ => (intOf r).toNat)
      case atStart => exact ⟨1, by omega, by omega, by rw [cum_one]; omega, by rw [cum_one]; simp, rfl⟩
      case round =>
        obtain ⟨m, hm1, hm2, hr, rfl, rfl⟩ := hrel
        have cb := cum_bd y m hm1 (by omega)
        have db := dim_bd y m
        have CS : Hid (cum y (m + 1) = cum y m + dim y m) := cum_succ y m hm1 hm2
        by_cases hd : dim y m ≤ n - ys y - cum y m
        · have hm := month_end n y m hm1 hm2 hz hd
          go_wp2_with (go_at_call 118; refine (long_any _ _ _ (by omega) (by omega)).mono ?_; rintro e w' ⟨rfl, rfl⟩)
          go_roundw
          case rel => exact ⟨m + 1, by omega, by omega, by rw [CS.out]; omega, by rw [CS.out]; go_num, rfl⟩
          case measure => simp [intOf]; omega
        · have hv : n - ys y - cum y m < dim y m := by omega
          clear hd
          go_wp2_with (go_at_call 118; refine (long_any _ _ _ (by omega) (by omega)).mono ?_; rintro e w' ⟨rfl, rfl⟩)
          refine bodyPost_ret (v := .agg #[.int .i64 y, .int .i64 m, .int .i64 (n - ys y - cum y m + 1)]) (by simp [results, Tryz.results94, go_sem]) rfl ⟨y, m, _, rfl, ok_mk hy1 hy2 hm1 hm2 (by omega) (by omega), by unfold num; omega, ?_⟩
          exact ((Below.refl _ _).alloc (Nat.le_refl _) _).alloc (by simp) _
end Go.Proofs.YtanndhoimpnhpaaGreatDoor

/- What the document's weight of a day answers. -/
namespace Go.Proofs.YtanndhoimpnhpaaGreatDoor
open Go.ChangeShapes Go.WideShapes Go.ChangeAt Go.RowKit Cal

theorem refweight_one (b y m d : Int) (w : World) (h : ¬ b = 3) :
    Calls Tryz.prog 121 #[.int .i64 b, .agg #[.int .i64 y, .int .i64 m, .int .i64 d]] w fun e w' => e = .returned (.int .i64 1) ∧ Below w.heap.size w w' := by
  go_enter Tryz.func121, Tryz.ntmps121
  go_wp2
  go_ret
  exact ⟨rfl, (Below.refl _ _).alloc (Nat.le_refl _) _⟩

set_option maxHeartbeats 1000000 in
theorem refweight_core (y m d Y M D : Int) (w : World) (y0 : 1900 ≤ y) (y1 : y ≤ 2200) (m0 : 1 ≤ m) (m1 : m ≤ 12) (d0 : 1 ≤ d) (d1 : d ≤ 31) (Y0 : 1900 ≤ Y) (Y1 : Y ≤ 2201) (M0 : 1 ≤ M) (M1 : M ≤ 12) (D0 : 1 ≤ D) (D1 : D ≤ 31)
    (hnext : ∀ w : World, Calls Tryz.prog 96 #[.agg #[.int .i64 y, .int .i64 m, .int .i64 d]] w fun e w' => e = .returned (.agg #[.int .i64 Y, .int .i64 M, .int .i64 D]) ∧ Below w.heap.size w w') :
    Calls Tryz.prog 121 #[.int .i64 3, .agg #[.int .i64 y, .int .i64 m, .int .i64 d]] w fun e w' => e = .returned (.int .i64 (t3 Y M D - t3 y m d)) ∧ Below w.heap.size w w' := by
  by_cases hd : 30 < d
  all_goals
    by_cases hD : 30 < D
    all_goals
      have E : Hid (t3 Y M D - t3 y m d = 360 * (Y - y) + 30 * (M - m) + cap D - cap d) := by unfold t3 Hid; omega
      have C1 : Hid (cap d = if d ≤ 30 then d else 30) := rfl
      have C2 : Hid (cap D = if D ≤ 30 then D else 30) := rfl
      go_enter Tryz.func121, Tryz.ntmps121
      go_wp2_with (go_at_call 96; refine (hnext _).mono ?_; rintro e w1 ⟨rfl, hb⟩; obtain ⟨hc, hf⟩ := bcell hb; have hz : w.heap.size < w1.heap.size := by (have := hb.size; simp at this; omega))
      go_ret
      refine ⟨ret_int (E.out.trans (by rw [C1.out, C2.out]; (repeat' split) <;> omega)).symm, ?_⟩
      have hbw : Below w.heap.size w w1 := ((Below.refl _ _).alloc (Nat.le_refl _) _).trans (hb.mono (by simp))
      first
        | exact hbw.alloc hbw.size _
        | exact (hbw.setCell (Nat.le_refl _) _).alloc (hbw.setCell (Nat.le_refl _) _).size _

theorem refweight_three (y m d : Int) (w : World) (h : Ok y m d) (hn : num y m d ≤ 109572) :
    Calls Tryz.prog 121 #[.int .i64 3, .agg #[.int .i64 y, .int .i64 m, .int .i64 d]] w fun e w' => e = .returned (.int .i64 (t3 (ny y m d) (nm y m d) (nd y m d) - t3 y m d)) ∧ Below w.heap.size w w' := by
  obtain ⟨b1, b2, b3, b4, b5, b6⟩ := next_ok y m d h hn
  have hnx := fun w => next_any y m d w h
  have g1 := dim_bd (ny y m d) (nm y m d)
  have g2 := dim_bd y m
  obtain ⟨a1, a2, a3, a4, a5, a6⟩ := h
  exact refweight_core y m d _ _ _ w a1 a2 a3 a4 a5 (by omega) b1 (by omega) b3 b4 b5 (by omega) hnx
end Go.Proofs.YtanndhoimpnhpaaGreatDoor

/- Whole structs stored into and loaded out of memory, as one step. -/
namespace Go.Proofs.YtanndhoimpnhpaaGreatDoor
open Go.RowKit

theorem size_alloc (w : World) (o : Obj) : (w.alloc o).heap.size = w.heap.size + 1 := by simp
/-- A whole struct into the block that was made last. -/
theorem wpList_store_new {P : Program} {ops : Array Oper} {rest : List Oper} {o : Oper} {a : Act} {W : World} {Q : Exit → Act → World → Prop} (hgd : o.guard = none) (ty : TypeId) (x y : Operand) (ho : o.op = .store ty x y)
    (cells c : Array Value) (hx : a.eval x = .pointer (some ⟨W.heap.size, 0, none⟩)) (hy : a.eval y = .agg cells) (hi : (P.info? ty).map (·.size) = some cells.size) (hc : c.size = cells.size) (h1 : cells.all (·.oneCell') = true)
    (h : wpList P ops Q rest (a.put o.dst undef) (W.alloc (.cells cells ty))) : wpList P ops Q (o :: rest) a (W.alloc (.cells c ty)) := by
  refine wpList_store_row hgd ty x y ho W.heap.size cells hx hy ty c (heap_alloc_last W _) hi hc h1 ?_
  rw [World.setRow_alloc_new]
  exact h
/-- One operation that yields a value. -/
theorem wpList_val {P : Program} {ops : Array Oper} {rest : List Oper} {o : Oper} {a : Act} {w : World} {Q : Exit → Act → World → Prop} (v : Value) (w' : World) (hg : o.guard = none) (hrun : (execOp a.eval o).run P w = .ok (.value v) w')
    (h : wpList P ops Q rest (a.put o.dst v) w') : wpList P ops Q (o :: rest) a w :=
  wpList_plain hg fun K hK => by
    unfold Oper.wp
    rw [hrun]
    exact hK _ _ h
theorem At.range {w : World} {b : Nat} {l : List Value} (h : At w b l) : w.rangeAt b 0 l := fun j v hv => by
  have := (h j v hv).1
  rw [Nat.zero_add]
  exact this
/-- A piece of a block. -/
theorem At.mid {w : World} {b : Nat} {l : List Value} (h : At w b l) (o : Nat) (m : List Value) (hm : ∀ j v, m[j]? = some v → l[o + j]? = some v) : w.rangeAt b o m := fun j v hv => (h (o + j) v (hm j v hv)).1
theorem At.there {w : World} {b : Nat} {l : List Value} (h : At w b l) (n : Nat) (hn : n = l.length) : w.there b 0 n := fun j hj => by
  subst hn
  obtain ⟨h1, h2⟩ := h j l[j] (List.getElem?_eq_getElem hj)
  rw [Nat.zero_add]
  exact ⟨by rw [h1]; rfl, h2⟩
theorem At.allocs (W : World) (l : List Value) (T : TypeId) {B : Nat} (h : W.heap.size = B) : At (W.alloc (.cells l.toArray T)) B l := h ▸ At.alloc W l T
theorem At.over {W : World} {b : Nat} {v : Value} {l : List Value} (h : At W b (v :: l)) (o : Obj) : At (W.alloc o) b (v :: l) :=
  h.keep (S := fun _ => False) (Keep.below ((Below.refl _ _).alloc (Nat.le_refl _) o)) (fun x => x)
theorem At.setCells_same {w : World} {b : Nat} {l m : List Value} (h : At w b l) (hl : m.length = l.length) : At (w.setCells b 0 m) b m := by
  have ht : w.there b 0 m.length := h.there _ hl
  intro i v hi
  have hr := World.rangeAt_setCells_same w b 0 m ht i v hi
  rw [Nat.zero_add] at hr
  have hil : i < l.length := by
    have := (List.getElem?_eq_some_iff.1 hi).1
    omega
  refine ⟨hr, ?_⟩
  rw [World.frozen?_setCells]
  exact (h i l[i] (List.getElem?_eq_getElem hil)).2
theorem Keep.setCells {S : Nat → Prop} {a : World} {b : Nat} (hb : S b) : ∀ (vs : List Value) (o : Nat) (w : World), Keep S a w → Keep S a (w.setCells b o vs)
  | [], _, _, h => h
  | v :: vs, o, _, h => Keep.setCells hb vs (o + 1) _ (h.set hb o v)
theorem At.apart {w : World} {b c : Nat} {v : Value} {l : List Value} (h : At w c (v :: l)) (hne : ¬ c = b) (o : Nat) (m : List Value) : At (w.setCells b o m) c (v :: l) :=
  h.keep (S := fun x => x = b) (Keep.setCells (S := fun x => x = b) rfl m o w (Keep.refl _ w)) hne
/-- What a function with two structs as results hands back. -/
theorem results_two {Pr : Program} {fn : Func} {p q : Tmp} {ty uy : TypeId} (h : fn.results = #[.cell p ty, .cell q uy]) (tmps : Array Value) (w : World) (g k : Nat) (cs ds : List Value) (d e : TypeDesc)
    (hp : tmps.getD p undef = .pointer (some ⟨g, 0, none⟩)) (hq : tmps.getD q undef = .pointer (some ⟨k, 0, none⟩)) (hg : w.rangeAt g 0 cs) (hk : w.rangeAt k 0 ds)
    (hu : Pr.underlying ty = some d) (hv : Pr.underlying uy = some e) (hd : d.isRow = true) (he : e.isRow = true) (hi : (Pr.info? ty).map (·.size) = some cs.length) (hj : (Pr.info? uy).map (·.size) = some ds.length) :
    (results fn tmps).run Pr w = .ok (.tuple #[.agg cs.toArray, .agg ds.toArray]) w := by
  have hp' : tmps[p]?.getD undef = .pointer (some ⟨g, 0, none⟩) := by simpa using hp
  have hq' : tmps[q]?.getD undef = .pointer (some ⟨k, 0, none⟩) := by simpa using hq
  simp [results, h, hp', hq', asAddr, run_loadVar_mid w g 0 ty cs d hg hu hd hi, run_loadVar_mid w k 0 uy ds e hk hv he hj]
end Go.Proofs.YtanndhoimpnhpaaGreatDoor

/- A day's parts, as the document goes through it. -/
namespace Go.Proofs.YtanndhoimpnhpaaGreatDoor
open Go.ChangeShapes Go.WideShapes Go.ChangeAt Go.RowKit Lg

theorem mk13 (w : World) : (Instr.makeSlice 38 (.int .i64 13) (.int .i64 13)).run Tryz.prog w = .ok (.slice (some ⟨w.heap.size, 0, none⟩) 13 13) (w.alloc (.cells #[.int .i64 0, .int .i64 0, .int .i64 0, .int .i64 0, .int .i64 0, .int .i64 0, .int .i64 0, .int .i64 0, .int .i64 0, .int .i64 0, .int .i64 0, .int .i64 0, .int .i64 0] 3)) := by kernel_rfl
def zero13 : List Value := [.int .i64 0, .int .i64 0, .int .i64 0, .int .i64 0, .int .i64 0, .int .i64 0, .int .i64 0, .int .i64 0, .int .i64 0, .int .i64 0, .int .i64 0, .int .i64 0, .int .i64 0]

/-- The world behind a day's first steps: a box for the date, new amounts. -/
theorem day_world (w : World) (G : Nat) (t : Ln.Terms) (g : Ln.St) (dy : Int) (ev fv av : Value) (cy cm cd : Int) (T1 T2 : TypeId) (hG : At w G (gl t g dy ev fv av)) :
    Gon (((w.setCell ⟨G, 17, none⟩ (.slice (some ⟨w.heap.size + 1, 0, none⟩) 13 13)).alloc (.cells #[.int .i64 cy, .int .i64 cm, .int .i64 cd] T1)).alloc (.cells #[.int .i64 0, .int .i64 0, .int .i64 0, .int .i64 0, .int .i64 0, .int .i64 0, .int .i64 0, .int .i64 0, .int .i64 0, .int .i64 0, .int .i64 0, .int .i64 0, .int .i64 0] T2)) G (w.heap.size + 1) t ⟨g, fun _ => 0⟩ dy ev fv ∧
    At (((w.setCell ⟨G, 17, none⟩ (.slice (some ⟨w.heap.size + 1, 0, none⟩) 13 13)).alloc (.cells #[.int .i64 cy, .int .i64 cm, .int .i64 cd] T1)).alloc (.cells #[.int .i64 0, .int .i64 0, .int .i64 0, .int .i64 0, .int .i64 0, .int .i64 0, .int .i64 0, .int .i64 0, .int .i64 0, .int .i64 0, .int .i64 0, .int .i64 0, .int .i64 0] T2)) w.heap.size [.int .i64 cy, .int .i64 cm, .int .i64 cd] ∧
    Keep (fun b => b = G) w (((w.setCell ⟨G, 17, none⟩ (.slice (some ⟨w.heap.size + 1, 0, none⟩) 13 13)).alloc (.cells #[.int .i64 cy, .int .i64 cm, .int .i64 cd] T1)).alloc (.cells #[.int .i64 0, .int .i64 0, .int .i64 0, .int .i64 0, .int .i64 0, .int .i64 0, .int .i64 0, .int .i64 0, .int .i64 0, .int .i64 0, .int .i64 0, .int .i64 0, .int .i64 0] T2)) ∧
    (((w.setCell ⟨G, 17, none⟩ (.slice (some ⟨w.heap.size + 1, 0, none⟩) 13 13)).alloc (.cells #[.int .i64 cy, .int .i64 cm, .int .i64 cd] T1)).alloc (.cells #[.int .i64 0, .int .i64 0, .int .i64 0, .int .i64 0, .int .i64 0, .int .i64 0, .int .i64 0, .int .i64 0, .int .i64 0, .int .i64 0, .int .i64 0, .int .i64 0, .int .i64 0] T2)).heap.size = w.heap.size + 2 := by
  have hl := hG.lt
  have hs1 : (w.setCell ⟨G, 17, none⟩ (.slice (some ⟨w.heap.size + 1, 0, none⟩) 13 13)).heap.size = w.heap.size := by simp [World.setCell]
  have hg1 : At (w.setCell ⟨G, 17, none⟩ (.slice (some ⟨w.heap.size + 1, 0, none⟩) 13 13)) G (gl t g dy ev fv (.slice (some ⟨w.heap.size + 1, 0, none⟩) 13 13)) := hG.set 17 (show 17 < 18 by decide) _
  have hk1 : Keep (fun b => b = G) w (w.setCell ⟨G, 17, none⟩ (.slice (some ⟨w.heap.size + 1, 0, none⟩) 13 13)) := (Keep.refl (fun b => b = G) w).set (S := fun b => b = G) rfl 17 _
  generalize w.setCell ⟨G, 17, none⟩ (.slice (some ⟨w.heap.size + 1, 0, none⟩) 13 13) = w1 at *
  have hb2 : Below w1.heap.size w1 (w1.alloc (.cells #[.int .i64 cy, .int .i64 cm, .int .i64 cd] T1)) := (Below.refl _ _).alloc (Nat.le_refl _) _
  have ha2 : At (w1.alloc (.cells #[.int .i64 cy, .int .i64 cm, .int .i64 cd] T1)) w1.heap.size [.int .i64 cy, .int .i64 cm, .int .i64 cd] := At.alloc w1 _ T1
  have hs2 : (w1.alloc (.cells #[.int .i64 cy, .int .i64 cm, .int .i64 cd] T1)).heap.size = w1.heap.size + 1 := by simp
  generalize w1.alloc (.cells #[.int .i64 cy, .int .i64 cm, .int .i64 cd] T1) = w2 at *
  have hb3 : Below w2.heap.size w2 (w2.alloc (.cells #[.int .i64 0, .int .i64 0, .int .i64 0, .int .i64 0, .int .i64 0, .int .i64 0, .int .i64 0, .int .i64 0, .int .i64 0, .int .i64 0, .int .i64 0, .int .i64 0, .int .i64 0] T2)) := (Below.refl _ _).alloc (Nat.le_refl _) _
  have ha3 : At (w2.alloc (.cells #[.int .i64 0, .int .i64 0, .int .i64 0, .int .i64 0, .int .i64 0, .int .i64 0, .int .i64 0, .int .i64 0, .int .i64 0, .int .i64 0, .int .i64 0, .int .i64 0, .int .i64 0] T2)) w2.heap.size zero13 := At.alloc w2 zero13 T2
  have hs3 : (w2.alloc (.cells #[.int .i64 0, .int .i64 0, .int .i64 0, .int .i64 0, .int .i64 0, .int .i64 0, .int .i64 0, .int .i64 0, .int .i64 0, .int .i64 0, .int .i64 0, .int .i64 0, .int .i64 0] T2)).heap.size = w2.heap.size + 1 := by simp
  generalize w2.alloc (.cells #[.int .i64 0, .int .i64 0, .int .i64 0, .int .i64 0, .int .i64 0, .int .i64 0, .int .i64 0, .int .i64 0, .int .i64 0, .int .i64 0, .int .i64 0, .int .i64 0, .int .i64 0] T2) = w3 at *
  have e1 : w2.heap.size = w.heap.size + 1 := by omega
  rw [e1] at ha3
  rw [hs1] at ha2
  have k2 : Keep (fun _ => False) w1 w2 := Keep.below hb2
  have k3 : Keep (fun _ => False) w2 w3 := Keep.below hb3
  refine ⟨⟨by omega, ⟨13, (hg1.keep k2 (fun x => x)).keep k3 (fun x => x)⟩, ha3⟩, ha2.keep k3 (fun x => x), (hk1.trans (k2.mono (fun _ _ h => h.elim))).trans (k3.mono (fun _ _ h => h.elim)), by omega⟩

/-- The day's state ahead of event k. -/
def upto (t : Ln.Terms) (n cd : Int) (l : List Ln.Ev) (g : Ln.St) (k : Nat) : Ln.Dy := (l.take k).foldl (Ln.event n) (Ln.early t n cd g)
theorem upto_succ (t : Ln.Terms) (n cd : Int) (l : List Ln.Ev) (g : Ln.St) (k : Nat) (h : k < l.length) : upto t n cd l g (k + 1) = Ln.event n (upto t n cd l g k) l[k] := by
  unfold upto
  rw [List.take_succ_eq_append_getElem h, List.foldl_append]
  rfl

theorem early_start (t : Ln.Terms) (n cd : Int) (g : Ln.St) (h : n = t.st) : Ln.early t n cd g = Ln.enter ⟨g, fun _ => 0⟩ 1 t.pr := by
  unfold Ln.early
  simp [h]
theorem early_none (t : Ln.Terms) (n cd : Int) (g : Ln.St) (h : ¬ n = t.st) (h2 : ¬ (cd = t.du ∧ g.fr ≤ n)) : Ln.early t n cd g = ⟨g, fun _ => 0⟩ := by
  unfold Ln.early
  simp only [h, if_false]
  rw [if_neg (fun x => h2 ⟨x.2.1, x.2.2⟩)]
theorem early_due (t : Ln.Terms) (n cd : Int) (g : Ln.St) (h : ¬ n = t.st) (h2 : cd = t.du) (h3 : g.fr ≤ n) : Ln.early t n cd g = Ln.enter (Ln.enter ⟨g, fun _ => 0⟩ 2 g.du) 3 g.it := by
  unfold Ln.early
  simp only [h, if_false]
  rw [if_pos ⟨h, h2, h3⟩]
  rfl
theorem ev_skip (n : Int) (y : Ln.Dy) (e : Ln.Ev) (h : ¬ e.d = n) : Ln.event n y e = y := by simp [Ln.event, h]
theorem ev_1 (n : Int) (y : Ln.Dy) (e : Ln.Ev) (h : e.d = n) (k : e.k = 1) : Ln.event n y e = Ln.enter y 1 e.a := by simp [Ln.event, h, k]
theorem ev_2 (n : Int) (y : Ln.Dy) (e : Ln.Ev) (h : e.d = n) (k : e.k = 2) : Ln.event n y e = { y with g := { y.g with rt := e.a } } := by simp [Ln.event, h, k]
theorem ev_3 (n : Int) (y : Ln.Dy) (e : Ln.Ev) (h : e.d = n) (k : e.k = 3) (f : y.g.fr < n + e.a) : Ln.event n y e = { y with g := { y.g with fr := n + e.a } } := by simp [Ln.event, h, k, f]
theorem ev_3n (n : Int) (y : Ln.Dy) (e : Ln.Ev) (h : e.d = n) (k : e.k = 3) (f : ¬ y.g.fr < n + e.a) : Ln.event n y e = y := by simp [Ln.event, h, k, f]
theorem ev_4 (n : Int) (y : Ln.Dy) (e : Ln.Ev) (h : e.d = n) (k : e.k = 4) : Ln.event n y e = Ln.enter y 4 y.g.it := by simp [Ln.event, h, k]
theorem ev_5 (n : Int) (y : Ln.Dy) (e : Ln.Ev) (h : e.d = n) (k : e.k = 5) : Ln.event n y e = Ln.pay y e.a := by simp [Ln.event, h, k]
theorem Gon.set {w : World} {G A : Nat} {t : Ln.Terms} {y y' : Ln.Dy} {dy : Int} {ev fv : Value} (h : Gon w G A t y dy ev fv) (i : Nat) (hi : i < 18) (v : Value) (ha : y'.am = y.am) (he : ∀ av, (gl t y.g dy ev fv av).set i v = gl t y'.g dy ev fv av) : Gon (w.setCell ⟨G, i, none⟩ v) G A t y' dy ev fv := by
  obtain ⟨ne, ⟨cap, hg⟩, hA⟩ := h
  refine ⟨ne, ⟨cap, ?_⟩, ?_⟩
  · rw [← he]
    exact hg.set i hi v
  · rw [ha]
    exact hA.other (fun x => ne x.symm) i v
theorem Gon.drewN {w : World} {G A : Nat} {t : Ln.Terms} {y : Ln.Dy} {dy : Int} {ev fv : Value} (h : Gon w G A t y dy ev fv) (n : Nat) : Gon (w.drewN n) G A t y dy ev fv := h.below (below_drewN (Below.refl _ _) n)
theorem Keep.drewN {S : Nat → Prop} {a w : World} (h : Keep S a w) (n : Nat) : Keep S a (w.drewN n) := ⟨h.os, h.tape, h.output, h.size, h.block⟩

/-- The day's first step. -/
def first (t : Ln.Terms) (n : Int) (g : Ln.St) : Ln.Dy := if n = t.st then Ln.enter ⟨g, fun _ => 0⟩ 1 t.pr else ⟨g, fun _ => 0⟩
/-- Does something fall due? -/
def due (t : Ln.Terms) (n cd : Int) (g : Ln.St) : Bool := !(n == t.st) && (cd == t.du) && decide (g.fr ≤ n)
theorem first_fr (t : Ln.Terms) (n : Int) (g : Ln.St) : (first t n g).g.fr = g.fr := by unfold first; split <;> rfl
theorem early_first (t : Ln.Terms) (n cd : Int) (g : Ln.St) (h : due t n cd g = false) : Ln.early t n cd g = first t n g := by
  unfold first
  split
  · rename_i hn
    exact early_start t n cd g hn
  · rename_i hn
    refine early_none t n cd g hn ?_
    intro x
    simp [due, hn, x.1, x.2] at h
theorem early_then (t : Ln.Terms) (n cd : Int) (g : Ln.St) (h : due t n cd g = true) : first t n g = ⟨g, fun _ => 0⟩ ∧ Ln.early t n cd g = Ln.enter (Ln.enter ⟨g, fun _ => 0⟩ 2 g.du) 3 g.it := by
  simp only [due, Bool.and_eq_true, Bool.not_eq_true', beq_eq_false_iff_ne, beq_iff_eq, decide_eq_true_eq] at h
  obtain ⟨⟨h1, h2⟩, h3⟩ := h
  exact ⟨by unfold first; rw [if_neg h1], early_due t n cd g h1 h2 h3⟩

end Go.Proofs.YtanndhoimpnhpaaGreatDoor

/- Events put in order one by one (what is plain lies in Ev). -/

/- Slices that a call owns: where they lie, what keeps them; append at a region's operation. (Plain: of neither side.) -/
namespace Go.Proofs.YtanndhoimpnhpaaGreatDoor
open Go.RowKit

theorem wp_valD {Pr : Program} {o : Oper} {a : Act} {w : World} {K : Act → World → Prop} {Q : Exit → Act → World → Prop} (v : Value) (w' : World) (hrun : (execOp a.eval o).run Pr w = .ok (.value v) w') (h : K (a.put o.dst v) w') : Oper.wp Pr o a w K Q := by
  unfold Oper.wp
  rw [hrun]
  exact h

theorem wp_append_at {Pr : Program} {o : Oper} {a : Act} (w : World) {K : Act → World → Prop} {Q : Exit → Act → World → Prop} (s x : Operand) (t : TypeId)
    (ho : o.op = .call { callee := .builtin .append, args := #[s, x], argTypes := #[t, t] })
    (base : Nat) (e : TypeId) (i : TypeInfo) (z : Value) (size bytes : Nat) (ht : Pr.underlying t = some (.slice e)) (hi : Pr.info? e = some i) (hz : i.zero = some z)
    (hsize : i.size = size) (hby : i.bytes = bytes) (hzs : z.cells.size = size) (hsz : 0 < size)
    (v : Value) (n : Nat) (xs : List Value) (hs : a.eval s = v) (hown : w.ownsRow base e size v n xs)
    (ad : Addr) (m c : Nat) (news : List Value) (hx : a.eval x = .slice (some ad) m c) (hl : news.length = m * size) (hnews : ∀ j u, news[j]? = some u → w.cell? (ad.add j) = some u) (h1 : ∀ u ∈ news, u.oneCell' = true)
    (h63 : n + m ≤ maxLen) (hbytes : (n + m) * bytes ≤ 140737488355328) (hbase : base ≤ w.heap.size)
    (h : ∀ v' w', w'.ownsRow base e size v' (n + m) (xs ++ news) → w.grownBy w' v.ownBlock → (v'.ownBlock = v.ownBlock ∨ v'.ownBlock = some w.heap.size) → K (a.put o.dst v') w') : o.wp Pr a w K Q := by
  obtain ⟨v', w', hr, h2, h3, _, h5⟩ := run_append_own_at (P := Pr) w base t o.type e i z size bytes ht hi hz hsize hby hzs hsz v n xs hown ad m c news hl hnews h1 h63 hbytes hbase
  unfold Oper.wp execOp
  simp only [ho, resolve, invoke, builtin, Sem.run_bind, Sem.run_pure, Result.andThen_ok, List.map_toArray, List.map_cons, List.map_nil, hs, hx, hr]
  exact h v' w' h2 h3 h5
/-- A slice that lies where the first one lay, or in memory that is new. -/
def OwnNew (w : World) (v0 v : Value) : Prop := v.ownBlock = v0.ownBlock ∨ ∃ b, v.ownBlock = some b ∧ w.heap.size ≤ b
theorem own_slice {w : World} {base : Nat} {e : TypeId} {size : Nat} {v : Value} {n : Nat} {xs : List Value} (h : w.ownsRow base e size v n xs) : ∃ p cap, v = .slice p n cap := by
  obtain ⟨_, ⟨rfl, rfl⟩ | ⟨g, cap, cur, rfl, _⟩⟩ := h
  · exact ⟨_, _, rfl⟩
  · exact ⟨_, _, rfl⟩
theorem own_base {w : World} {base : Nat} {T : TypeId} {size : Nat} {v : Value} {n : Nat} {xs : List Value} (h : w.ownsRow base T size v n xs) {b : Nat} (hb : v.ownBlock = some b) : base ≤ b ∧ b < w.heap.size := by
  obtain ⟨_, ⟨rfl, rfl⟩ | ⟨g, cap, cur, rfl, h4, h5, _⟩⟩ := h
  · cases hb
  · simp only [Value.ownBlock, Option.some.injEq] at hb
    subst hb
    refine ⟨h4, ?_⟩
    rcases Nat.lt_or_ge g w.heap.size with h | h
    · exact h
    · rw [Array.getElem?_eq_none h] at h5
      cases h5
theorem own_keep {S : Nat → Prop} {w w' : World} {base : Nat} {T : TypeId} {size : Nat} {v : Value} {n : Nat} {xs : List Value} (h : w.ownsRow base T size v n xs) (hk : Keep S w w') (hs : ∀ b, v.ownBlock = some b → ¬ S b) : w'.ownsRow base T size v n xs := by
  have hl := fun b hb => (own_base h (b := b) hb).2
  obtain ⟨h1, ⟨h2, h3⟩ | ⟨g, cap, cur, rfl, h4, h5, h6⟩⟩ := h
  · exact ⟨h1, .inl ⟨h2, h3⟩⟩
  · exact ⟨h1, .inr ⟨g, cap, cur, rfl, h4, (hk.block g (hl g rfl) (hs g rfl)).trans h5, h6⟩⟩
theorem OwnNew.apart {W0 : World} {bk0 bkv : Value} (h : OwnNew W0 bk0 bkv) {X : Nat} (hX : X < W0.heap.size) (h0 : ∀ b, bk0.ownBlock = some b → ¬ b = X) : ∀ b, bkv.ownBlock = some b → ¬ b = X := by
  intro b hb hbx
  rcases h with h | ⟨c, h1, h2⟩
  · exact h0 b (h.symm.trans hb) hbx
  · rw [h1] at hb
    cases hb
    omega
end Go.Proofs.YtanndhoimpnhpaaGreatDoor
