/- What pick answers; a Weight as one answer. -/
import Derived.Test.YtanndhoimpnhpaaDoorCalQ
import Derived.WalkLawsBesides
namespace Go.Proofs.YtanndhoimpnhpaaDoor
open Go.ChangeShapes Go.WideShapes Go.ChangeAt Go.RowKit Cal Txt

theorem pick_any (c n : Int) (hc : (Lit.int .i64 c).wf = true) (n0 : 1 ≤ n) (n1 : n ≤ 1000000) :
    ∃ r, 0 ≤ r ∧ r < n ∧ ∀ w : World, Calls Tryd.prog 13 #[.int .i64 c, .int .i64 n] w fun e w' => e = .returned (.int .i64 r) ∧ w' = w := by
  have hb := bounds_i64 hc
  by_cases h : c < 0
  · refine ⟨(-(c + 1)) % n, Int.emod_nonneg _ (by omega), Int.emod_lt_of_pos _ (by omega), fun w => ?_⟩
    go_enter Tryd.func13, Tryd.ntmps13
    go_wp2
    go_ret
    exact ⟨ret_int (by rw [← Int.neg_tmod, Int.tmod_eq_emod_of_nonneg (by omega)]), rfl⟩
  · have h' : 0 ≤ c := by omega
    refine ⟨c % n, Int.emod_nonneg _ (by omega), Int.emod_lt_of_pos _ (by omega), fun w => ?_⟩
    go_enter Tryd.func13, Tryd.ntmps13
    go_wp2
    go_ret
    exact ⟨rfl, rfl⟩

theorem weight_at {b f t v c : Int} (h : WSpec b f t v c) (W : World) :
    Calls Tryd.prog 15 #[.int .i64 b, .int .i64 f, .int .i64 t] W fun e w' => e = .returned (.tuple #[.int .i64 v, .int .i64 c]) ∧ Below W.heap.size W w' := by
  refine (accrueWeight_any b f t W).mono ?_
  rintro e w' ⟨v', c', rfl, h', hb⟩
  obtain ⟨rfl, rfl⟩ := h.one h'
  exact ⟨rfl, hb⟩
theorem isT_ex (n : Int) (h0 : 0 ≤ n) (h1 : n ≤ 109572) : ∃ t, IsT n t := by
  obtain ⟨y, m, d, hok, hn⟩ := has_date n h0 h1
  exact ⟨_, _, _, _, hok, hn, rfl⟩
theorem wspec_ex (b f t : Int) (b0 : 1 ≤ b) (b1 : b ≤ 3) (f0 : 0 ≤ f) (ft : f ≤ t) (t1 : t ≤ 109572) : ∃ v, WSpec b f t v 0 := by
  by_cases e : b = 3
  · obtain ⟨p, hp⟩ := isT_ex t (by omega) t1
    obtain ⟨q, hq⟩ := isT_ex f f0 (by omega)
    exact ⟨p - q, .inr (.inr ⟨b0, b1, f0, ft, t1, rfl, fun _ => ⟨p, q, hp, hq, rfl⟩, fun h => absurd e h⟩)⟩
  · exact ⟨t - f, .inr (.inr ⟨b0, b1, f0, ft, t1, rfl, fun h => absurd h e, fun _ => rfl⟩)⟩
end Go.Proofs.YtanndhoimpnhpaaDoor
