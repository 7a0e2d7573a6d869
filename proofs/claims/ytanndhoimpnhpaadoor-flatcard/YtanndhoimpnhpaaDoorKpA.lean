/- The document's loan, as the statements without the document's answer ask it; and what pick answers. -/
import Derived.Test.YtanndhoimpnhpaaDoorBo
import Derived.Test.YtanndhoimpnhpaaDoorFl
import Derived.WalkLawsBesides
namespace Go.Proofs.YtanndhoimpnhpaaDoor
open Go.RowKit Cal

theorem pick_all (c n : Int) (hc : (Lit.int .i64 c).wf = true) (n0 : 1 ≤ n) (n1 : n ≤ 1000000000000) :
    ∃ r, 0 ≤ r ∧ r < n ∧ ∀ w : World, Calls Tryd.prog 13 #[.int .i64 c, .int .i64 n] w fun e w' => e = .returned (.int .i64 r) ∧ w' = w := by
  have hb := bounds_i64 hc
  by_cases h : c < 0
  · refine ⟨(-(c + 1)) % n, Int.emod_nonneg _ (by omega), Int.emod_lt_of_pos _ (by omega), fun w => ?_⟩
    go_enter Tryd.func13, Tryd.ntmps13
    go_wp2
    go_ret
    exact ⟨ret_int (by rw [← Int.neg_tmod, Int.tmod_eq_emod_of_nonneg (by omega)]), rfl⟩
  · have h' : 0 ≤ c := by omega
    refine ⟨c % n, Int.emod_nonneg _ (by omega), Int.emod_lt_of_pos _ (by omega), fun w => ?_⟩
    go_enter Tryd.func13, Tryd.ntmps13
    go_wp2
    go_ret
    exact ⟨rfl, rfl⟩

theorem Keep.fresh {F : Nat → Prop} {w w1 w2 : World} (h1 : Below w.heap.size w w1) (h2 : Keep F w1 w2) (hF : ∀ b, F b → w.heap.size ≤ b) : Below w.heap.size w w2 :=
  ⟨h2.os.trans h1.os, h2.tape.trans h1.tape, h2.output.trans h1.output, Nat.le_trans h1.size h2.size, fun k hk => (h2.block k (Nat.lt_of_lt_of_le hk h1.size) (fun x => by have := hF k x; omega)).trans (h1.block k hk)⟩
theorem Mv.below {w w1 : World} (h : Mv w) (hb : Below w.heap.size w w1) : Mv w1 := h.keep (S := fun _ => False) (Keep.below hb) (fun x => x)
theorem Mv.lt {w : World} (h : Mv w) : 1 < w.heap.size := World.block_lt_of_cell? _ _ (h 0 _ rfl)
theorem Wd.fresh {w w1 : World} {b : Nat} (h : Wd (fun _ => False) w w1 b) : w.heap.size ≤ b := h.elim (fun x => x.elim) (fun x => x.1)

theorem okT_aT : Ln.OkT Ln.aT := ⟨by decide, by decide, by decide, by decide, by decide, by decide, by decide, by decide, by decide, by decide⟩
set_option maxRecDepth 10000 in
set_option maxHeartbeats 1000000 in
theorem awake_any (w : World) (hmv : Mv w) :
    Calls Tryd.prog 16 #[] w fun e w' => e = .returned (.bool true) ∧ Below w.heap.size w w' := by
  have hgl := hmv.lt
  have hO := openL Ln.aT w (by decide)
  go_enter Tryd.func16, Tryd.ntmps16
  go_wp2_with fail
  refine hO.mono ?_
  rintro e w1 ⟨B, rfl, hLo, hb1⟩
  clear hO
  have hR := runL w1 B Ln.aT [] _ _ [] _ hLo (by simp) 15 (by decide) (by decide) (hmv.below hb1) (fun x => by have := Wd.fresh x; omega)
  rw [show Ln.aT.st + ((15 : Nat) : Int) = 36539 from rfl, show wtOf Ln.aT.ba = wtOf 1 from rfl, Ln.run_awake] at hR
  clear hLo
  go_wp2_with fail
  refine hR.mono ?_
  rintro e w2 ⟨rfl, hA2, k2⟩
  clear hR
  have hB2 := Keep.fresh hb1 k2 (fun b x => Wd.fresh x)
  have hL := balanceL w2 B _ _ _ _ _ _ hA2
  clear hA2 k2 hb1
  go_wp2_with fail
  refine hL.mono ?_
  rintro e w3 ⟨rfl, hb3⟩
  have hB3 := hB2.trans (hb3.mono hB2.size)
  clear hL hB2 hb3
  unfold blV
  go_wp2
  go_ret
  exact ⟨rfl, hB3.alloc hB3.size _⟩
end Go.Proofs.YtanndhoimpnhpaaDoor
