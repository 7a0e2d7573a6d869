/- What the program's Format answers: the date of a day as a text. -/
import Derived.Test.YtanndhoimpnhpaaDoorCalC
import Derived.Test.YtanndhoimpnhpaaDoorCalM
import Derived.Deep.RegionHeld3
namespace Go.Proofs.YtanndhoimpnhpaaDoor
open Go.ChangeShapes Go.WideShapes Go.ChangeAt Go.RowKit Cal Txt

theorem gPow : Tryd.prog.globalNamed "internal/strconv.uint64pow10" = some 4 := by kernel_rfl
theorem tab_below {w W : World} (h : Lib.TabIs Tryd.prog w "internal/strconv.uint64pow10" .u64 Lib.pow10Tab) (hg : 4 < w.heap.size) (hb : Below w.heap.size w W) : Lib.TabIs Tryd.prog W "internal/strconv.uint64pow10" .u64 Lib.pow10Tab :=
  var?_below hb gPow hg h

theorem keepF {w W W' : World} {B : Nat} {a b c : Value} (hb : Below W.heap.size W W')
    (h : W.cell? ⟨B, 0, none⟩ = some a ∧ W.cell? ⟨B, 1, none⟩ = some b ∧ W.cell? ⟨B, 2, none⟩ = some c ∧ Below w.heap.size w W ∧ B < W.heap.size) :
    W'.cell? ⟨B, 0, none⟩ = some a ∧ W'.cell? ⟨B, 1, none⟩ = some b ∧ W'.cell? ⟨B, 2, none⟩ = some c ∧ Below w.heap.size w W' ∧ B < W'.heap.size := by
  obtain ⟨c0, c1, c2, hw, hB⟩ := h
  exact ⟨(hb.cell (p := ⟨B, 0, none⟩) hB).trans c0, (hb.cell (p := ⟨B, 1, none⟩) hB).trans c1, (hb.cell (p := ⟨B, 2, none⟩) hB).trans c2, hw.trans (hb.mono hw.size), Nat.lt_of_lt_of_le hB hb.size⟩

set_option maxHeartbeats 1000000 in
theorem format_core (n : Int) (y m d : Nat) (w : World) (X Y Z : ByteArray) (hX : X.size ≤ 10) (hY : Y.size ≤ 10) (hZ : Z.size ≤ 10)
    (hciv : ∀ w : World, Calls Tryd.prog 57 #[.int .i64 n] w fun e w' => e = .returned (.agg #[.int .i64 y, .int .i64 m, .int .i64 d]) ∧ Below w.heap.size w w')
    (hI : ∀ W : World, Below w.heap.size w W → Calls Tryd.prog 58 #[.int .i64 y] W fun e w' => e = .returned (.string X) ∧ Below W.heap.size W w')
    (hM : ∀ W : World, Calls Tryd.prog 59 #[.int .i64 m] W fun e w' => e = .returned (.string Y) ∧ w' = W)
    (hD : ∀ W : World, Calls Tryd.prog 59 #[.int .i64 d] W fun e w' => e = .returned (.string Z) ∧ w' = W) :
    Calls Tryd.prog 31 #[.int .i64 n] w fun e w' => e = .returned (.string (X ++ dash ++ Y ++ dash ++ Z)) ∧ Below w.heap.size w w' := by
  go_enter Tryd.func31, Tryd.ntmps31
  go_wp2_with fail
  refine (hciv _).mono ?_
  rintro e w1 ⟨rfl, hb⟩
  clear hciv
  have HB := hb.size
  have n1 : ¬ 9223372036854775807 < X.size + 1 := by omega
  have n2 : ¬ 9223372036854775807 < X.size + 1 + Y.size := by omega
  have n3 : ¬ 9223372036854775807 < X.size + 1 + Y.size + 1 := by omega
  have n4 : ¬ 9223372036854775807 < X.size + 1 + Y.size + 1 + Z.size := by omega
  have hB1 : ∀ o, Below w.heap.size w (w1.alloc o).drew := fun o => (hb.alloc HB o).drew
  go_wp2_with fail
  go_region_held3 (fun w' => w'.cell? ⟨w1.heap.size, 0, none⟩ = some (.int .i64 y) ∧ w'.cell? ⟨w1.heap.size, 1, none⟩ = some (.int .i64 m) ∧ w'.cell? ⟨w1.heap.size, 2, none⟩ = some (.int .i64 d) ∧ Below w.heap.size w w' ∧ w1.heap.size < w'.heap.size) (first | go_keep | exact keepF (by assumption) (by assumption))
    (first
      | (go_at_call 58; refine (hI _ ?_).mono ?_; exact (‹_ ∧ _ ∧ _ ∧ Below _ _ _ ∧ _›).2.2.2.1; rintro e w' ⟨rfl, hb'⟩)
      | (go_at_call_of 59 (Value.int .i64 (m : Int)); refine (hM _).mono ?_; rintro e w' ⟨rfl, rfl⟩)
      | (go_at_call_of 59 (Value.int .i64 (d : Int)); refine (hD _).mono ?_; rintro e w' ⟨rfl, rfl⟩))
  have hw := (‹_ ∧ _ ∧ _ ∧ Below _ _ _ ∧ _›).2.2.2.1
  go_wp2
  go_ret
  exact ⟨rfl, hw⟩

theorem tw_size (i : Nat) : (tw i).size = 2 := rfl
theorem format_any (n : Int) (w : World) (h0 : 0 ≤ n) (h1 : n ≤ 109572) (y m d : Nat) (hok : Ok y m d) (hn : num y m d = n) (htab : Lib.TabIs Tryd.prog w "internal/strconv.uint64pow10" .u64 Lib.pow10Tab) (hg : 4 < w.heap.size) :
    Calls Tryd.prog 31 #[.int .i64 n] w fun e w' => e = .returned (.string (dateS y m d)) ∧ Below w.heap.size w w' := by
  have hciv : ∀ w : World, Calls Tryd.prog 57 #[.int .i64 n] w fun e w' => e = .returned (.agg #[.int .i64 y, .int .i64 m, .int .i64 d]) ∧ Below w.heap.size w w' := fun w => by
    refine (civilOf_any n w h0 (by omega)).mono ?_
    rintro e w' ⟨y', m', d', rfl, hok', hn', hb⟩
    obtain ⟨e1, e2, e3⟩ := one_date _ _ _ _ _ _ hok' hok (hn'.trans hn.symm)
    rw [e1, e2, e3]
    exact ⟨rfl, hb⟩
  have db := dim_bd y m
  obtain ⟨a1, a2, a3, a4, a5, a6⟩ := hok
  have hX : (tw (y / 100) ++ tw (y % 100)).size ≤ 10 := by rw [ByteArray.size_append, tw_size, tw_size]; omega
  have := format_core n y m d w (tw (y / 100) ++ tw (y % 100)) (tw m) (tw d) hX (by rw [tw_size]; omega) (by rw [tw_size]; omega) hciv
    (fun W hW => itoaYear y (by omega) (by omega) W (tab_below htab hg hW)) (fun W => twoDigits_any m (by omega) W) (fun W => twoDigits_any d (by omega) W)
  exact this

theorem accrueDate_yes (n : Int) (w : World) (h0 : 0 ≤ n) (h1 : n ≤ 109572) (y m d : Nat) (hok : Ok y m d) (hn : num y m d = n) (htab : Lib.TabIs Tryd.prog w "internal/strconv.uint64pow10" .u64 Lib.pow10Tab) (hg : 4 < w.heap.size) :
    Calls Tryd.prog 10 #[.int .i64 n] w fun e w' => e = .returned (.tuple #[.string (dateS y m d), .int .i64 0]) ∧ Below w.heap.size w w' := by
  have hf := format_any n w h0 h1 y m d hok hn htab hg
  have kf := dayB_yes h0 h1
  generalize dateS y m d = S at hf ⊢
  clear hok hn htab
  go_enter Tryd.func10, Tryd.ntmps10
  go_wp2_with fail
  refine (isDay_any _ _).mono ?_
  rintro e w' ⟨rfl, rfl⟩
  rw [kf]
  go_wp2_with fail
  refine hf.mono ?_
  rintro e w1 ⟨rfl, hb⟩
  clear hf
  go_wp2
  go_ret2
  exact ⟨rfl, hb⟩

theorem accrueDate_no (n : Int) (w : World) (h : n < 0 ∨ 109572 < n) :
    Calls Tryd.prog 10 #[.int .i64 n] w fun e w' => e = .returned (.tuple #[.string ⟨#[]⟩, .int .i64 1]) ∧ Below w.heap.size w w' := by
  have kf := dayB_no h
  go_enter Tryd.func10, Tryd.ntmps10
  go_wp2_with fail
  refine (isDay_any _ _).mono ?_
  rintro e w' ⟨rfl, rfl⟩
  rw [kf]
  go_wp2
  go_ret2
  exact ⟨rfl, Below.refl _ _⟩
end Go.Proofs.YtanndhoimpnhpaaDoor
