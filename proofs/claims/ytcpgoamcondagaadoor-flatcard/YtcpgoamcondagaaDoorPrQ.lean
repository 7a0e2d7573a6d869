/- The document's loan, as the statements without the document's answer ask it; and what pick answers. -/
import Derived.Test.YtcpgoamcondagaaDoorPrP
import Derived.Test.YtcpgoamcondagaaDoorFl
import Derived.WalkLawsBesides
namespace Go.Proofs.YtcpgoamcondagaaDoor
open Go.RowKit Cal

theorem pick_all (c n : Int) (hc : (Lit.int .i64 c).wf = true) (n0 : 1 ≤ n) (n1 : n ≤ 1000000000000) :
    ∃ r, 0 ≤ r ∧ r < n ∧ ∀ w : World, Calls Tryd.prog 12 #[.int .i64 c, .int .i64 n] w fun e w' => e = .returned (.int .i64 r) ∧ w' = w := by
  have hb := bounds_i64 hc
  by_cases h : c < 0
  · refine ⟨(-(c + 1)) % n, Int.emod_nonneg _ (by omega), Int.emod_lt_of_pos _ (by omega), fun w => ?_⟩
    go_enter Tryd.func12, Tryd.ntmps12
    go_wp2
    go_ret
    exact ⟨ret_int (by rw [← Int.neg_tmod, Int.tmod_eq_emod_of_nonneg (by omega)]), rfl⟩
  · have h' : 0 ≤ c := by omega
    refine ⟨c % n, Int.emod_nonneg _ (by omega), Int.emod_lt_of_pos _ (by omega), fun w => ?_⟩
    go_enter Tryd.func12, Tryd.ntmps12
    go_wp2
    go_ret
    exact ⟨rfl, rfl⟩

theorem Keep.new {w w1 w2 : World} {B : Nat} (h1 : Below w.heap.size w w1) (h2 : Keep (fun b => b = B ∨ w1.heap.size ≤ b) w1 w2) (hB : w.heap.size ≤ B) : Below w.heap.size w w2 :=
  ⟨h2.os.trans h1.os, h2.tape.trans h1.tape, h2.output.trans h1.output, Nat.le_trans h1.size h2.size, fun k hk => (h2.block k (Nat.lt_of_lt_of_le hk h1.size) (by have := h1.size; omega)).trans (h1.block k hk)⟩
theorem Mv.below {w w1 : World} (h : Mv w) (hb : Below w.heap.size w w1) : Mv w1 := h.keep (S := fun _ => False) (Keep.below hb) (fun x => x)

theorem okT_aT : Ln.OkT Ln.aT := ⟨by decide, by decide, by decide, by decide, by decide, by decide, by decide, by decide, by decide, by decide⟩
set_option maxRecDepth 10000 in
set_option maxHeartbeats 1000000 in
theorem awake_any (w : World) (hmv : Mv w) (hgl : 1 < w.heap.size) :
    Calls Tryd.prog 15 #[] w fun e w' => e = .returned (.bool true) ∧ Below w.heap.size w w' := by
  have hO := open_good Ln.aT w (by decide)
  go_enter Tryd.func15, Tryd.ntmps15
  go_wp2_with fail
  refine hO.mono ?_
  rintro e w1 ⟨⟨B, rfl, hBw, hA⟩, hb1⟩
  clear hO
  have hR := run_nil w1 B Ln.aT _ _ 15 hA (by decide) (by decide) okT_aT (hmv.below hb1) (Nat.lt_of_lt_of_le hgl hb1.size)
  rw [show Ln.aT.st + ((15 : Nat) : Int) = 36539 from rfl, show wtOf Ln.aT.ba = wtOf 1 from rfl, Ln.run_awake] at hR
  clear hA
  go_wp2_with fail
  refine hR.mono ?_
  rintro e w2 ⟨rfl, hA2, k2⟩
  clear hR
  have hB2 := Keep.new hb1 k2 hBw
  have hL := loanBal_any w2 B Ln.aT _ _ _ hA2
  clear hA2 k2 hb1
  go_wp2_with fail
  refine hL.mono ?_
  rintro e w3 ⟨rfl, hb3⟩
  have hB3 := hB2.trans (hb3.mono hB2.size)
  clear hL hB2 hb3
  unfold blV
  go_wp2
  go_ret
  exact ⟨rfl, hB3.alloc hB3.size _⟩
end Go.Proofs.YtcpgoamcondagaaDoor
