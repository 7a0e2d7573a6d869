/- What the document's Weight answers: what the program's Weight must answer. -/
import Derived.Test.YtanndhoimpnhpaaCalE
import Derived.Test.YtanndhoimpnhpaaCalC
namespace Go.Proofs.Ytanndhoimpnhpaa
open Go.ChangeShapes Go.WideShapes Go.ChangeAt Go.RowKit Cal

set_option maxHeartbeats 400000 in
theorem refWeight_bad (b f t : Int) (w : World) (h : (b < 1 ∨ 3 < b) ∨ (1 ≤ b ∧ b ≤ 3 ∧ (f < 0 ∨ 109572 < f ∨ t < f ∨ 109572 < t))) :
    Calls Try.prog 6 #[.int .i64 b, .int .i64 f, .int .i64 t] w fun e w' => ∃ v c : Int, e = .returned (.tuple #[.int .i64 v, .int .i64 c]) ∧ WSpec b f t v c ∧ Below w.heap.size w w' := by
  rcases h with h | ⟨b0, b1, h⟩
  · have W : Hid (WSpec b f t 0 2) := .inl ⟨h, rfl, rfl⟩
    by_cases h1 : b < 1
    · clear h
      go_enter Try.func6, Try.ntmps6
      go_wp2
      go_ret2
      exact ⟨_, _, rfl, W.out, Below.refl _ _⟩
    · have h2 : 3 < b := by omega
      clear h
      go_enter Try.func6, Try.ntmps6
      go_wp2
      go_ret2
      exact ⟨_, _, rfl, W.out, Below.refl _ _⟩
  · have W : Hid (WSpec b f t 0 1) := .inr (.inl ⟨b0, b1, h, rfl, rfl⟩)
    rcases (show f < 0 ∨ (0 ≤ f ∧ 109572 < f) ∨ (0 ≤ f ∧ f ≤ 109572 ∧ t < f) ∨ (0 ≤ f ∧ f ≤ 109572 ∧ f ≤ t ∧ 109572 < t) by omega) with h1 | ⟨g1, h1⟩ | ⟨g1, g2, h1⟩ | ⟨g1, g2, g3, h1⟩
    all_goals
      clear h
      go_enter Try.func6, Try.ntmps6
      go_wp2
      go_ret2
      exact ⟨_, _, rfl, W.out, Below.refl _ _⟩

theorem put_other (W : World) (b i j : Nat) (v : Value) (h : i ≠ j) : (W.setCell ⟨b, i, none⟩ v).cell? ⟨b, j, none⟩ = W.cell? ⟨b, j, none⟩ :=
  World.cell?_setCell_other _ _ _ _ (fun e => h (by injection e))
theorem put3 (W : World) (b : Nat) {x y z u0 u1 u2 : Value} (h0 : W.cell? ⟨b, 0, none⟩ = some u0) (h1 : W.cell? ⟨b, 1, none⟩ = some u1) (h2 : W.cell? ⟨b, 2, none⟩ = some u2) :
    (((W.setCell ⟨b, 0, none⟩ x).setCell ⟨b, 1, none⟩ y).setCell ⟨b, 2, none⟩ z).cell? ⟨b, 0, none⟩ = some x ∧
    (((W.setCell ⟨b, 0, none⟩ x).setCell ⟨b, 1, none⟩ y).setCell ⟨b, 2, none⟩ z).cell? ⟨b, 1, none⟩ = some y ∧
    (((W.setCell ⟨b, 0, none⟩ x).setCell ⟨b, 1, none⟩ y).setCell ⟨b, 2, none⟩ z).cell? ⟨b, 2, none⟩ = some z ∧
    (∀ a, (((W.setCell ⟨b, 0, none⟩ x).setCell ⟨b, 1, none⟩ y).setCell ⟨b, 2, none⟩ z).frozen? a = W.frozen? a) ∧
    (((W.setCell ⟨b, 0, none⟩ x).setCell ⟨b, 1, none⟩ y).setCell ⟨b, 2, none⟩ z).heap.size = W.heap.size := by
  refine ⟨?_, ?_, ?_, fun a => by simp only [World.frozen?_setCell], by simp [World.setCell]⟩
  · exact (put_other _ b 2 0 z (by decide)).trans ((put_other _ b 1 0 y (by decide)).trans (World.cell?_setCell_same _ _ _ h0))
  · exact (put_other _ b 2 1 z (by decide)).trans (World.cell?_setCell_same _ _ _ (u := u1) ((put_other _ b 0 1 x (by decide)).trans h1))
  · exact World.cell?_setCell_same _ _ _ (u := u2) ((put_other _ b 1 2 y (by decide)).trans ((put_other _ b 0 2 x (by decide)).trans h2))

set_option maxHeartbeats 1000000 in
theorem refWeight_three (f t : Int) (w : World) (f0 : 0 ≤ f) (ft : f ≤ t) (t1 : t ≤ 109572) :
    Calls Try.prog 6 #[.int .i64 3, .int .i64 f, .int .i64 t] w fun e w' => ∃ v c : Int, e = .returned (.tuple #[.int .i64 v, .int .i64 c]) ∧ WSpec 3 f t v c ∧ Below w.heap.size w w' := by
  go_enter Try.func6, Try.ntmps6
  go_wp2_with (go_at_call 14; refine (refcivil_any _ _ f0 (by omega)).mono ?_; rintro e w1 ⟨y0, m0, d0, rfl, hok, hn, hb⟩; have HN := (show Hid _ from hn); clear hn)
  have HB := hb.size
  go_loopw [8, 10] (fun s i wr => ∃ n y m d : Int, s = .int .i64 (t3 y m d - t3 y0 m0 d0) ∧ i = .int .i64 n ∧ f ≤ n ∧ n ≤ t ∧ Ok y m d ∧ num y m d = n ∧
      wr.cell? ⟨w1.heap.size, 0, none⟩ = some (.int .i64 y) ∧ wr.cell? ⟨w1.heap.size, 1, none⟩ = some (.int .i64 m) ∧ wr.cell? ⟨w1.heap.size, 2, none⟩ = some (.int .i64 d) ∧
      wr.frozen? ⟨w1.heap.size, 0, none⟩ = false ∧ wr.frozen? ⟨w1.heap.size, 1, none⟩ = false ∧ wr.frozen? ⟨w1.heap.size, 2, none⟩ = false ∧ Below w.heap.size w wr ∧ w1.heap.size < wr.heap.size) (fun _ i _ => (t - intOf i).toNat)
  case atStart => exact ⟨f, y0, m0, d0, by simp, rfl, by omega, by omega, hok, HN.out, by simp, by simp, by simp, by simp, by simp, by simp, hb.alloc HB _, by simp⟩
  case round =>
    obtain ⟨n, y, m, d, rfl, rfl, n0, n1, ok, hnum, c0, c1, c2, z0, z1, z2, hbel, hsz⟩ := hrel
    have HN' := (show Hid _ from hnum)
    clear hnum
    have b1 := t3_bd y m d ok
    have b2 := t3_bd y0 m0 d0 hok
    by_cases hlt : n < t
    · have hok' := next_ok y m d ok (by rw [HN'.out]; omega)
      have b3 := t3_bd _ _ _ hok'
      have NN := (show Hid _ from next_num y m d ok)
      go_wp2_with (first | (go_at_call 15; refine (refweight_three _ _ _ _ ok (by rw [HN'.out]; omega)).mono ?_; rintro e w2 ⟨rfl, hb2⟩; obtain ⟨hc2, hf2⟩ := bcell hb2; have hs2 := hb2.size) | (go_at_call 16; refine (next_any _ _ _ _ ok).mono ?_; rintro e w3 ⟨rfl, hb3⟩; obtain ⟨hc3, hf3⟩ := bcell hb3; have hs3 := hb3.size; have hs4 : w1.heap.size < w2.heap.size := by omega))
      have hbw := (hbel.trans (hb2.mono hbel.size)).trans (hb3.mono (Nat.le_trans hbel.size hs2))
      obtain ⟨p0, p1, p2, pf, ps⟩ := put3 w3 w1.heap.size (x := .int .i64 (ny y m d)) (y := .int .i64 (nm y m d)) (z := .int .i64 (nd y m d)) (((hc3 _ _ hs4).trans (hc2 _ _ hsz)).trans c0) (((hc3 _ _ hs4).trans (hc2 _ _ hsz)).trans c1) (((hc3 _ _ hs4).trans (hc2 _ _ hsz)).trans c2)
      have q0 := ((hf3 w1.heap.size 0 hs4).trans (hf2 _ _ hsz)).trans z0
      have q1 := ((hf3 w1.heap.size 1 hs4).trans (hf2 _ _ hsz)).trans z1
      have q2 := ((hf3 w1.heap.size 2 hs4).trans (hf2 _ _ hsz)).trans z2
      go_roundw
      case rel => exact ⟨n + 1, ny y m d, nm y m d, nd y m d, by go_num, rfl, by omega, by omega, hok', by rw [NN.out, HN'.out], p0, p1, p2, (pf _).trans q0, (pf _).trans q1, (pf _).trans q2, ((hbw.setCell HB _).setCell HB _).setCell HB _, by rw [ps]; omega⟩
      case measure => simp [intOf]; omega
    · have en : n = t := by omega
      have EN : Hid (n = t) := en
      clear en
      go_wp2
      go_ret2
      exact ⟨_, _, rfl, .inr (.inr ⟨by omega, by omega, f0, ft, t1, rfl, fun _ => ⟨t3 y m d, t3 y0 m0 d0, ⟨y, m, d, ok, HN'.out.trans EN.out, rfl⟩, ⟨y0, m0, d0, hok, HN.out, rfl⟩, rfl⟩, fun h => by simp at h⟩), hbel⟩

set_option maxHeartbeats 1000000 in
theorem refWeight_plain (b f t : Int) (w : World) (b0 : 1 ≤ b) (b1 : b < 3) (f0 : 0 ≤ f) (ft : f ≤ t) (t1 : t ≤ 109572) :
    Calls Try.prog 6 #[.int .i64 b, .int .i64 f, .int .i64 t] w fun e w' => ∃ v c : Int, e = .returned (.tuple #[.int .i64 v, .int .i64 c]) ∧ WSpec b f t v c ∧ Below w.heap.size w w' := by
  go_enter Try.func6, Try.ntmps6
  go_wp2_with (go_at_call 14; refine (refcivil_any _ _ f0 (by omega)).mono ?_; rintro e w1 ⟨y0, m0, d0, rfl, hok, hn, hb⟩; have HN := (show Hid _ from hn); clear hn)
  have HB := hb.size
  go_loopw [8, 10] (fun s i wr => ∃ n y m d : Int, s = .int .i64 (n - f) ∧ i = .int .i64 n ∧ f ≤ n ∧ n ≤ t ∧ Ok y m d ∧ num y m d = n ∧
      wr.cell? ⟨w1.heap.size, 0, none⟩ = some (.int .i64 y) ∧ wr.cell? ⟨w1.heap.size, 1, none⟩ = some (.int .i64 m) ∧ wr.cell? ⟨w1.heap.size, 2, none⟩ = some (.int .i64 d) ∧
      wr.frozen? ⟨w1.heap.size, 0, none⟩ = false ∧ wr.frozen? ⟨w1.heap.size, 1, none⟩ = false ∧ wr.frozen? ⟨w1.heap.size, 2, none⟩ = false ∧ Below w.heap.size w wr ∧ w1.heap.size < wr.heap.size) (fun _ i _ => (t - intOf i).toNat)
  case atStart => exact ⟨f, y0, m0, d0, by simp, rfl, by omega, by omega, hok, HN.out, by simp, by simp, by simp, by simp, by simp, by simp, hb.alloc HB _, by simp⟩
  case round =>
    obtain ⟨n, y, m, d, rfl, rfl, n0, n1, ok, hnum, c0, c1, c2, z0, z1, z2, hbel, hsz⟩ := hrel
    have HN' := (show Hid _ from hnum)
    clear hnum
    by_cases hlt : n < t
    · have hok' := next_ok y m d ok (by rw [HN'.out]; omega)
      have NN := (show Hid _ from next_num y m d ok)
      go_wp2_with (first | (go_at_call 15; refine (refweight_one _ _ _ _ _ (by omega)).mono ?_; rintro e w2 ⟨rfl, hb2⟩; obtain ⟨hc2, hf2⟩ := bcell hb2; have hs2 := hb2.size) | (go_at_call 16; refine (next_any _ _ _ _ ok).mono ?_; rintro e w3 ⟨rfl, hb3⟩; obtain ⟨hc3, hf3⟩ := bcell hb3; have hs3 := hb3.size; have hs4 : w1.heap.size < w2.heap.size := by omega))
      have hbw := (hbel.trans (hb2.mono hbel.size)).trans (hb3.mono (Nat.le_trans hbel.size hs2))
      obtain ⟨p0, p1, p2, pf, ps⟩ := put3 w3 w1.heap.size (x := .int .i64 (ny y m d)) (y := .int .i64 (nm y m d)) (z := .int .i64 (nd y m d)) (((hc3 _ _ hs4).trans (hc2 _ _ hsz)).trans c0) (((hc3 _ _ hs4).trans (hc2 _ _ hsz)).trans c1) (((hc3 _ _ hs4).trans (hc2 _ _ hsz)).trans c2)
      have q0 := ((hf3 w1.heap.size 0 hs4).trans (hf2 _ _ hsz)).trans z0
      have q1 := ((hf3 w1.heap.size 1 hs4).trans (hf2 _ _ hsz)).trans z1
      have q2 := ((hf3 w1.heap.size 2 hs4).trans (hf2 _ _ hsz)).trans z2
      go_roundw
      case rel => exact ⟨n + 1, ny y m d, nm y m d, nd y m d, by go_num, rfl, by omega, by omega, hok', by rw [NN.out, HN'.out], p0, p1, p2, (pf _).trans q0, (pf _).trans q1, (pf _).trans q2, ((hbw.setCell HB _).setCell HB _).setCell HB _, by rw [ps]; omega⟩
      case measure => simp [intOf]; omega
    · have en : n = t := by omega
      have EN : Hid (n = t) := en
      clear en
      go_wp2
      go_ret2
      exact ⟨_, _, rfl, .inr (.inr ⟨by omega, by omega, f0, ft, t1, rfl, fun h => by omega, fun _ => by rw [EN.out]⟩), hbel⟩

theorem refWeight_any (b f t : Int) (w : World) :
    Calls Try.prog 6 #[.int .i64 b, .int .i64 f, .int .i64 t] w fun e w' => ∃ v c : Int, e = .returned (.tuple #[.int .i64 v, .int .i64 c]) ∧ WSpec b f t v c ∧ Below w.heap.size w w' := by
  by_cases h : (b < 1 ∨ 3 < b) ∨ (1 ≤ b ∧ b ≤ 3 ∧ (f < 0 ∨ 109572 < f ∨ t < f ∨ 109572 < t))
  · exact refWeight_bad b f t w h
  · obtain ⟨h1, h2, h3, h4, h5⟩ : 1 ≤ b ∧ b ≤ 3 ∧ 0 ≤ f ∧ f ≤ t ∧ t ≤ 109572 := by omega
    by_cases e : b = 3
    · subst e
      exact refWeight_three f t w h3 h4 h5
    · exact refWeight_plain b f t w h1 (by omega) h3 h4 h5
end Go.Proofs.Ytanndhoimpnhpaa
