/- What the document's two and Date answer. -/
import Derived.Test.YtanndhoimpnhpaaDoorCalN
import Derived.Test.YtanndhoimpnhpaaDoorCalR
import Derived.Laws.IdiomStrings
namespace Go.Proofs.YtanndhoimpnhpaaDoor
open Go.ChangeShapes Go.WideShapes Go.ChangeAt Go.RowKit Cal Txt

theorem digit_byte (j : Nat) (h : j < 10) : ((UInt8.ofNat (48 + j)).toNat : Int) = 48 + (j : Int) := by
  rw [UInt8.toNat_ofNat_of_lt' (show 48 + j < 256 by omega)]
  omega
theorem two_text (i : Nat) (hi : i < 100) (w : World) :
    (convert 34 9 (.slice (some ⟨w.heap.size, 0, none⟩) 2 2)).run Tryd.prog (w.alloc (.cells #[.int .u8 (48 + (i : Int) / 10), .int .u8 (48 + (i : Int) % 10)] 5)) = .ok (.string (tw i)) (w.alloc (.cells #[.int .u8 (48 + (i : Int) / 10), .int .u8 (48 + (i : Int) % 10)] 5)) := by
  refine run_convert_bytes_back (P := Tryd.prog) _ 34 9 5 ⟨w.heap.size, 0, none⟩ 2 [UInt8.ofNat (48 + i / 10), UInt8.ofNat (48 + i % 10)] Tryd.underlying34 Tryd.underlying5 Tryd.underlying9 ?_
  intro j hj
  match j, hj with
  | 0, _ =>
    have e := digit_byte (i / 10) (by omega)
    simp only [List.getElem_cons_zero]
    rw [e]
    simp [Addr.add]
  | 1, _ =>
    have e := digit_byte (i % 10) (by omega)
    simp only [List.getElem_cons_succ, List.getElem_cons_zero]
    rw [e]
    simp [Addr.add]

set_option maxHeartbeats 400000 in
theorem two_any (i : Nat) (hi : i < 100) (w : World) :
    Calls Tryd.prog 33 #[.int .i64 i] w fun e w' => e = .returned (.string (tw i)) ∧ Below w.heap.size w w' := by
  have hcv := two_text i hi w
  generalize tw i = S at hcv ⊢
  go_enter Tryd.func33, Tryd.ntmps33
  go_wp2
  go_ret
  exact ⟨rfl, (Below.refl _ _).alloc (Nat.le_refl _) _⟩

def twI (i : Int) : ByteArray := tw i.toNat
theorem twI_size (i : Int) : (twI i).size = 2 := rfl
theorem twI_any (i : Int) (h0 : 0 ≤ i) (h1 : i ≤ 99) (w : World) :
    Calls Tryd.prog 33 #[.int .i64 i] w fun e w' => e = .returned (.string (twI i)) ∧ Below w.heap.size w w' := by
  have h := two_any i.toNat (by omega) w
  rw [Int.toNat_of_nonneg h0] at h
  exact h

set_option maxHeartbeats 1000000 in
theorem refDate_core (n y m d : Int) (w : World) (h0 : 0 ≤ n) (h1 : n ≤ 109572) (y0 : 0 ≤ y) (hy : y ≤ 9999) (m0 : 0 ≤ m) (m1 : m ≤ 99) (d0 : 0 ≤ d) (d1 : d ≤ 99)
    (hciv : ∀ w : World, Calls Tryd.prog 32 #[.int .i64 n] w fun e w' => e = .returned (.agg #[.int .i64 y, .int .i64 m, .int .i64 d]) ∧ Below w.heap.size w w') :
    Calls Tryd.prog 11 #[.int .i64 n] w fun e w' => e = .returned (.tuple #[.string (twI (y / 100) ++ twI (y % 100) ++ dash ++ twI m ++ dash ++ twI d), .int .i64 0]) ∧ Below w.heap.size w w' := by
  have hts := twI_size
  go_enter Tryd.func11, Tryd.ntmps11
  go_wp2_with fail
  refine (hciv _).mono ?_
  rintro e w1 ⟨rfl, hb⟩
  clear hciv
  have HB := hb.size
  have q1 : IntKind.i64.wrap (y.tdiv 100) = y / 100 := by rw [Int.tdiv_eq_ediv_of_nonneg y0, IntKind.wrap_i64]; omega
  have q2 : y.tmod 100 = y % 100 := Int.tmod_eq_emod_of_nonneg y0
  have hB1 : ∀ o, Below w.heap.size w (w1.alloc o).drew := fun o => (hb.alloc HB o).drew
  go_wp2_with fail
  go_region_held3 (fun w' => w'.cell? ⟨w1.heap.size, 0, none⟩ = some (.int .i64 y) ∧ w'.cell? ⟨w1.heap.size, 1, none⟩ = some (.int .i64 m) ∧ w'.cell? ⟨w1.heap.size, 2, none⟩ = some (.int .i64 d) ∧ Below w.heap.size w w' ∧ w1.heap.size < w'.heap.size) (first | go_keep | exact keepF (by assumption) (by assumption))
    (first
      | (go_at_call 33; refine (twI_any _ ?_ ?_ _).mono ?_; omega; omega; rintro e w' ⟨rfl, hb'⟩))
  have hw := (‹_ ∧ _ ∧ _ ∧ Below _ _ _ ∧ _›).2.2.2.1
  go_wp2
  go_ret2
  exact ⟨rfl, hw⟩

theorem twI_nat (i : Nat) : twI (i : Int) = tw i := by unfold twI; simp
theorem refDate_yes (n : Int) (w : World) (h0 : 0 ≤ n) (h1 : n ≤ 109572) (y m d : Nat) (hok : Ok y m d) (hn : num y m d = n) :
    Calls Tryd.prog 11 #[.int .i64 n] w fun e w' => e = .returned (.tuple #[.string (dateS y m d), .int .i64 0]) ∧ Below w.heap.size w w' := by
  have hciv : ∀ w : World, Calls Tryd.prog 32 #[.int .i64 n] w fun e w' => e = .returned (.agg #[.int .i64 y, .int .i64 m, .int .i64 d]) ∧ Below w.heap.size w w' := fun w => by
    refine (refcivil_any n w h0 (by omega)).mono ?_
    rintro e w' ⟨y', m', d', rfl, hok', hn', hb⟩
    obtain ⟨e1, e2, e3⟩ := one_date _ _ _ _ _ _ hok' hok (hn'.trans hn.symm)
    rw [e1, e2, e3]
    exact ⟨rfl, hb⟩
  have db := dim_bd y m
  obtain ⟨a1, a2, a3, a4, a5, a6⟩ := hok
  have h := refDate_core n y m d w h0 h1 (by omega) (by omega) (by omega) (by omega) (by omega) (by omega) hciv
  have e1 : ((y : Int) / 100) = ((y / 100 : Nat) : Int) := by omega
  have e2 : ((y : Int) % 100) = ((y % 100 : Nat) : Int) := by omega
  rw [e1, e2, twI_nat, twI_nat, twI_nat, twI_nat] at h
  exact h
theorem refDate_no (n : Int) (w : World) (h : n < 0 ∨ 109572 < n) :
    Calls Tryd.prog 11 #[.int .i64 n] w fun e w' => e = .returned (.tuple #[.string ⟨#[]⟩, .int .i64 1]) ∧ Below w.heap.size w w' := by
  by_cases h0 : n < 0
  · clear h
    go_enter Tryd.func11, Tryd.ntmps11
    go_wp2
    go_ret2
    exact ⟨rfl, Below.refl _ _⟩
  · have h1 : 109572 < n := by omega
    clear h
    go_enter Tryd.func11, Tryd.ntmps11
    go_wp2
    go_ret2
    exact ⟨rfl, Below.refl _ _⟩

theorem has_dateI : ∀ n : Nat, n ≤ 109572 → ∃ y m d : Int, Ok y m d ∧ num y m d = n
  | 0, _ => ⟨1900, 1, 1, ok_mk (by decide) (by decide) (by decide) (by decide) (by decide) (by decide), by decide⟩
  | n + 1, h => by
    obtain ⟨y, m, d, hok, hn⟩ := has_dateI n (by omega)
    exact ⟨_, _, _, next_ok y m d hok (by omega), by rw [next_num y m d hok, hn]; omega⟩
theorem has_date (n : Int) (h0 : 0 ≤ n) (h1 : n ≤ 109572) : ∃ y m d : Nat, Ok y m d ∧ num y m d = n := by
  obtain ⟨y, m, d, hok, hn⟩ := has_dateI n.toNat (by omega)
  rw [Int.toNat_of_nonneg h0] at hn
  obtain ⟨a1, a2, a3, a4, a5, a6⟩ := hok
  refine ⟨y.toNat, m.toNat, d.toNat, ?_, ?_⟩
  · rw [Int.toNat_of_nonneg (by omega), Int.toNat_of_nonneg (by omega), Int.toNat_of_nonneg (by omega)]
    exact ⟨a1, a2, a3, a4, a5, a6⟩
  · rw [Int.toNat_of_nonneg (by omega), Int.toNat_of_nonneg (by omega), Int.toNat_of_nonneg (by omega)]
    exact hn
end Go.Proofs.YtanndhoimpnhpaaDoor
