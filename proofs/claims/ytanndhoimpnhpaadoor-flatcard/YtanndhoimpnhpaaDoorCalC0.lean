/- What the program's calendar.Weight answers: the difference of the ends. -/
import Derived.Test.YtanndhoimpnhpaaDoorCalB
namespace Go.Proofs.YtanndhoimpnhpaaDoor
open Go.ChangeShapes Go.WideShapes Go.ChangeAt Go.RowKit Cal

set_option maxHeartbeats 400000 in
theorem thirty_any (n : Int) (w : World) (h0 : 0 ≤ n) (h1 : n ≤ 109573) :
    Calls Tryd.prog 63 #[.int .i64 n] w fun e w' => ∃ t : Int, e = .returned (.int .i64 t) ∧ IsT n t ∧ Below w.heap.size w w' := by
  go_enter Tryd.func63, Tryd.ntmps63
  go_wp2_with (go_at_call 57; refine (civilOf_any _ _ h0 h1).mono ?_; rintro e w1 ⟨y, m, d, rfl, hok, hn, hb⟩; obtain ⟨a1, a2, a3, a4, a5, a6⟩ := hok; have db := dim_bd y m)
  all_goals
    go_ret
    exact ⟨_, rfl, ⟨y, m, d, ok_mk a1 a2 a3 a4 a5 a6, hn, by unfold t3 cap; split <;> omega⟩, hb.alloc hb.size _⟩

theorem weight_any (b f t : Int) (w : World) (f0 : 0 ≤ f) (f1 : f ≤ 109573) (t0 : 0 ≤ t) (t1 : t ≤ 109573) :
    Calls Tryd.prog 36 #[.int .i64 b, .int .i64 f, .int .i64 t] w fun e w' => ∃ v : Int, e = .returned (.int .i64 v) ∧ (b = 3 → ∃ p q, IsT t p ∧ IsT f q ∧ v = p - q) ∧ (¬ b = 3 → v = t - f) ∧ Below w.heap.size w w' := by
  by_cases hb : b = 3
  · subst hb
    go_enter Tryd.func36, Tryd.ntmps36
    go_wp2_with (go_at_call 63; refine (thirty_any _ _ (by omega) (by omega)).mono ?_; rintro e w1 ⟨p, rfl, hp, hb⟩; have bp := hp.bd)
    go_ret
    rename_i w0 p0 hp0 hb0 bp0
    exact ⟨_, rfl, fun _ => ⟨p0, p, hp0, hp, rfl⟩, fun h => by simp at h, hb0.trans (hb.mono hb0.size)⟩
  · go_enter Tryd.func36, Tryd.ntmps36
    go_wp2
    go_ret
    exact ⟨_, rfl, fun h => absurd h hb, fun _ => rfl, Below.refl _ _⟩

end Go.Proofs.YtanndhoimpnhpaaDoor
