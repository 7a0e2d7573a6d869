/- A loan without events that is run to a day is that of the document's arithmetic. -/
import Derived.Test.YtcpgoamcondagaaDoorPrO
namespace Go.Proofs.YtcpgoamcondagaaDoor
open Go.RowKit Cal

theorem run_nil (w : World) (B : Nat) (t : Ln.Terms) (g0 : Ln.St) (day0 : Int) (m : Nat) (hA : At w B (ll t (.slice none 0 0) g0 day0)) (h0 : day0 ≤ t.st + m) (hm : m ≤ 3700) (ht : Ln.OkT t) (hmv : Mv w) (hgl : 1 < w.heap.size) :
    Calls Tryd.prog 17 #[.pointer (some ⟨B, 0, none⟩), .int .i64 (t.st + m)] w fun e w' => e = .returned (.int .i64 0) ∧ At w' B (ll t (.slice none 0 0) (Ln.run t cdOf (wtOf t.ba) [] m) (t.st + m)) ∧ Keep (fun b => b = B ∨ w.heap.size ≤ b) w w' := by
  have s0 := ht.st0
  have s1 := ht.st1
  have hn : ∀ e ∈ ([] : List Ln.Ev), Ln.OkE t e := fun e he => by cases he
  have hinv := Ln.run_inv ht cdOf (wtOf t.ba) (wsOf t.ba t.st) (wsOf_le _ _) (wsOf_eq _ _) [] hn
  refine run_core w B t g0 day0 m (Ln.run t cdOf (wtOf t.ba) []) hA h0 hm s0 s1 (fun W => first_any t W) ?_ ?_
  · intro k W c i f hk kW
    have hs := sw_bd t.ba t.st s0 s1 (k + 1) (by omega)
    have hs' : Ln.sw (wsOf t.ba t.st) k + wsOf t.ba t.st k ≤ 4320 := hs
    have hb := Ln.tot_bound ht [] hn (Nat.zero_le _) (k + 1)
    have ts := Ln.tot_succ t k []
    have hL : (if 0 < k then t.pr else 0) + Ln.tot t k [] + (if t.st + (k : Int) = t.st then t.pr else 0) + Ln.lents (t.st + k) [] ≤ 4100000000000 := by
      rw [if_pos (Nat.succ_pos k)] at hb
      have hp := ht.pr0
      by_cases hz : 0 < k
      · rw [if_pos hz, if_neg (by omega)]; omega
      · rw [if_neg hz, if_pos (by omega)]; omega
    have hfn := Ln.run_fn_bd ht [] hn (Nat.zero_le _) (k + 1) (by omega)
    have hpass := pass_any W t (t.st + k) (Ln.run t cdOf (wtOf t.ba) [] k) c i f [] none 0 (fun j hj => absurd hj (Nat.not_lt_zero j)) (Nat.zero_le _) (hmv.keep kW (by omega)) (Nat.lt_of_lt_of_le hgl kW.size) (by omega) (by omega) _ _ (hinv k) ht hn (fun e he => by cases he)
      (wsOf t.ba t.st k) (wsOf_eq t.ba t.st k) (wsOf_le t.ba t.st k) hs' hL (by rw [← wsOf_eq]; exact hfn)
    rw [← wsOf_eq] at hpass
    refine hpass.mono ?_
    rintro e w' ⟨⟨c', i', f', rfl⟩, hb'⟩
    exact ⟨⟨c', i', f', _, rfl⟩, hb'⟩
  · intro W c i f
    have hI := hinv m
    have hc := hI.cr
    have hc1 := hI.cr1
    have hb := Ln.tot_bound ht [] hn (Nat.zero_le _) m
    exact balance_any t _ c i f (t.st + m) W hc (by omega)
end Go.Proofs.YtcpgoamcondagaaDoor
