/- What Calendar answers, where its parts answer as they must. -/
import Derived.Test.YtanndhoimpnhpaaDoorCalU
import Derived.LoopN
namespace Go.Proofs.YtanndhoimpnhpaaDoor
open Go.ChangeShapes Go.WideShapes Go.ChangeAt Go.RowKit Cal Txt

set_option maxRecDepth 100000 in
set_option maxHeartbeats 4000000 in
theorem cal_leap (day more basis d n k0 to x y : Int) (S T : ByteArray) (w : World) (d0 : 0 ≤ d) (d1 : d ≤ 109205) (n0 : 0 ≤ n) (n1 : n < 400) (kA : 0 ≤ k0) (kB : k0 ≤ 2) (x0 : 0 ≤ x) (y0 : 0 ≤ y) (x1 : x ≤ 200000) (y1 : y ≤ 200000)
    (hS : S.size = 10) (hT : T.size = 10) (hless : Op.bytesLess S.toList T.toList = true) (hto : (d + n ≤ 109572 ∧ d + n = to) ∨ (109572 < d + n ∧ 109572 = to)) (hkz : 2 ≤ k0 ∨ (k0 ≤ 1 ∧ x + y = to - d))
    (hp1 : ∀ W : World, Calls Tryd.prog 13 #[.int .i64 day, .int .i64 109206] W fun e w' => e = .returned (.int .i64 d) ∧ w' = W)
    (hp2 : ∀ W : World, Calls Tryd.prog 13 #[.int .i64 more, .int .i64 400] W fun e w' => e = .returned (.int .i64 n) ∧ w' = W)
    (hp3 : ∀ W : World, Calls Tryd.prog 13 #[.int .i64 basis, .int .i64 3] W fun e w' => e = .returned (.int .i64 k0) ∧ w' = W)
    (hD1 : ∀ W : World, Below w.heap.size w W → Calls Tryd.prog 10 #[.int .i64 d] W fun e w' => e = .returned (.tuple #[.string S, .int .i64 0]) ∧ Below W.heap.size W w')
    (hD2 : ∀ W : World, Below w.heap.size w W → Calls Tryd.prog 10 #[.int .i64 (d + 1)] W fun e w' => e = .returned (.tuple #[.string T, .int .i64 0]) ∧ Below W.heap.size W w')
    (hDay : ∀ W : World, Calls Tryd.prog 14 #[.string S] W fun e w' => e = .returned (.tuple #[.int .i64 d, .int .i64 0]) ∧ Below W.heap.size W w')
    (hW1 : ∀ W : World, Calls Tryd.prog 15 #[.int .i64 (1 + k0), .int .i64 d, .int .i64 (d + (to - d) / 2)] W fun e w' => e = .returned (.tuple #[.int .i64 x, .int .i64 0]) ∧ Below W.heap.size W w')
    (hW2 : ∀ W : World, Calls Tryd.prog 15 #[.int .i64 (1 + k0), .int .i64 (d + (to - d) / 2), .int .i64 to] W fun e w' => e = .returned (.tuple #[.int .i64 y, .int .i64 0]) ∧ Below W.heap.size W w')
    (hW3 : ∀ W : World, Calls Tryd.prog 15 #[.int .i64 (1 + k0), .int .i64 d, .int .i64 to] W fun e w' => e = .returned (.tuple #[.int .i64 (x + y), .int .i64 0]) ∧ Below W.heap.size W w')
    (h29 : ((S.extract 5 10).toList == [48, 50, 45, 50, 57]) = true) :
    Calls Tryd.prog 4 #[.int .i64 day, .int .i64 more, .int .i64 basis] w fun e w' => e = .returned (.bool true) ∧ Below w.heap.size w w' := by
  have HZ : Hid (2 ≤ k0 ∨ (k0 ≤ 1 ∧ x + y = to - d)) := hkz
  clear hkz
  rcases hto with ⟨hto, rfl⟩ | ⟨hto, rfl⟩
  all_goals
    go_enter Tryd.func4, Tryd.ntmps4
    go_wp2_with fail
    refine (hp1 _).mono ?_
    rintro e w' ⟨rfl, rfl⟩
    go_wp2_with fail
    refine (hp2 _).mono ?_
    rintro e w' ⟨rfl, rfl⟩
    go_wp2_with fail
    refine (hp3 _).mono ?_
    rintro e w' ⟨rfl, rfl⟩
    go_wp2_with fail
    refine (hD1 _ (Below.refl _ _)).mono ?_
    rintro e w1 ⟨rfl, t1⟩
    go_wp2_with fail
    refine (hD2 _ t1).mono ?_
    rintro e w2 ⟨rfl, hb2⟩
    have t2 := t1.trans (hb2.mono t1.size)
    clear hb2 t1
    go_wp2_with fail
    refine (hDay _).mono ?_
    rintro e w3 ⟨rfl, hb3⟩
    have t3 := t2.trans (hb3.mono t2.size)
    clear hb3 t2
    go_wp2_with fail
    refine (hW1 _).mono ?_
    rintro e w4 ⟨rfl, hb4⟩
    have t4 := t3.trans (hb4.mono t3.size)
    clear hb4 t3
    go_wp2_with fail
    refine (hW2 _).mono ?_
    rintro e w5 ⟨rfl, hb5⟩
    have t5 := t4.trans (hb5.mono t4.size)
    clear hb5 t4
    go_wp2_with fail
    refine (hW3 _).mono ?_
    rintro e w6 ⟨rfl, hb6⟩
    have t6 := t5.trans (hb6.mono t5.size)
    clear hb6 t5 hp1 hp2 hp3 hD1 hD2 hDay hW1 hW2 hW3
    rcases HZ.out with hk | ⟨hk, hz⟩
    all_goals
      clear HZ
      go_wp2_with fail
      go_ret
      exact ⟨rfl, t6⟩
end Go.Proofs.YtanndhoimpnhpaaDoor
