/- What a loan without events earns: the statement Flat, walked. -/
import Derived.Test.YtanndhoimpnhpaaDoorKpA
namespace Go.Proofs.YtanndhoimpnhpaaDoor
open Go.RowKit Cal

theorem okT_fT (p r b : Int) (p0 : 0 ≤ p) (p1 : p < 1000000) (r0 : 0 ≤ r) (r1 : r ≤ 1000000) (hb : b = 1 ∨ b = 2) : Ln.OkT (Ln.fT p r b) :=
  ⟨by show (0 : Int) ≤ 0; decide, by show (0 : Int) ≤ _; decide, p0, by show p ≤ _; omega, r0, r1, by show (0 : Int) ≤ 1000000; decide, by show (1000000 : Int) ≤ 1000000; decide, by show 1 ≤ b; omega, by show b ≤ 3; omega⟩
theorem rt_fT (p r b : Int) (p0 : 0 ≤ p) (p1 : p < 1000000) (r0 : 0 ≤ r) (r1 : r ≤ 1000000) (hb : b = 1 ∨ b = 2) : rtB (Ln.fT p r b) = true := by
  unfold rtB Ln.fT
  simp
  omega
/-- The state behind some days. -/
theorem flat_state (p r b : Int) (hb : b = 1 ∨ b = 2) (m : Nat) (hm : m ≤ 27) : Ln.run (Ln.fT p r b) cdOf (wtOf b) [] m = if m = 0 then ⟨0, 0, 0, 0, 0, 0, r, 0, 0, 0⟩ else Ln.fS p r b (p * (r * 1) * m) := by
  by_cases h : m = 0
  · subst h
    rfl
  · rw [if_neg h]
    obtain ⟨k, rfl⟩ : ∃ k, m = k + 1 := ⟨m - 1, by omega⟩
    exact Ln.run_flat p r b (by omega) k (by omega)

set_option maxRecDepth 10000 in
set_option maxHeartbeats 2000000 in
theorem flat_core (c1 c2 c3 c4 p r k0 b : Int) (m : Nat) (Z V : Int) (w : World) (p0 : 0 ≤ p) (p1 : p < 1000000) (r0 : 0 ≤ r) (r1 : r ≤ 1000000) (hk0 : 0 ≤ k0) (hb : 1 + k0 = b) (hbb : b = 1 ∨ b = 2) (hm : m ≤ 27)
    (m0 : 0 ≤ p * r) (m1 : p * r ≤ 1000000000000) (m2 : 0 ≤ p * r * m) (m3 : p * r * m ≤ 27000000000000) (hmv : Mv w)
    (h1 : ∀ W : World, Calls Tryd.prog 13 #[.int .i64 c1, .int .i64 1000000] W fun e w' => e = .returned (.int .i64 p) ∧ w' = W)
    (h2 : ∀ W : World, Calls Tryd.prog 13 #[.int .i64 c2, .int .i64 1000001] W fun e w' => e = .returned (.int .i64 r) ∧ w' = W)
    (h3 : ∀ W : World, Calls Tryd.prog 13 #[.int .i64 c3, .int .i64 2] W fun e w' => e = .returned (.int .i64 k0) ∧ w' = W)
    (h4 : ∀ W : World, Calls Tryd.prog 13 #[.int .i64 c4, .int .i64 28] W fun e w' => e = .returned (.int .i64 m) ∧ w' = W)
    (hZ : Z = if m = 0 then 0 else p) (hV : V = p * r * m / (1000000 * (if b = 2 then 360 else 365)))
    (hS : ∃ g : Ln.St, Ln.run (Ln.fT p r b) cdOf (wtOf b) [] m = g ∧ blV g m = .agg #[.int .i64 Z, .int .i64 V, .int .i64 0, .int .i64 0, .int .i64 0, .int .i64 0, .int .i64 r, .int .i64 m]) :
    Calls Tryd.prog 5 #[.int .i64 c1, .int .i64 c2, .int .i64 c3, .int .i64 c4] w fun e w' => e = .returned (.bool true) ∧ Below w.heap.size w w' := by
  have hgl := hmv.lt
  have hAw := awake_any w hmv
  have hO := fun W => openL (Ln.fT p r b) W (rt_fT p r b p0 p1 r0 r1 hbb)
  have ht := okT_fT p r b p0 p1 r0 r1 hbb
  obtain ⟨g, hg, hbl⟩ := hS
  go_enter Tryd.func5, Tryd.ntmps5
  go_wp2_with fail
  refine hAw.mono ?_
  rintro e w1 ⟨rfl, hb1⟩
  clear hAw
  go_wp2_with fail
  refine (h1 _).mono ?_
  rintro e w' ⟨rfl, rfl⟩
  go_wp2_with fail
  refine (h2 _).mono ?_
  rintro e w' ⟨rfl, rfl⟩
  go_wp2_with fail
  refine (h3 _).mono ?_
  rintro e w' ⟨rfl, rfl⟩
  go_wp2_with fail
  refine (h4 _).mono ?_
  rintro e w' ⟨rfl, rfl⟩
  clear h1 h2 h3 h4
  go_wp2_with fail
  refine (hO _).mono ?_
  rintro e w2 ⟨B, rfl, hA, hb2⟩
  clear hO
  have hB2 := hb1.trans (hb2.mono hb1.size)
  have hFr : ∀ x, Wd (fun _ => False) w' w2 x → w.heap.size ≤ x := fun x hx => Nat.le_trans hb1.size (Wd.fresh hx)
  have hR := runL w2 B (Ln.fT p r b) [] _ _ [] _ hA (by simp) m (by show (0 : Int) ≤ 0 + m; omega) (by omega) (hmv.below hB2) (fun x => by have := hFr _ x; omega)
  rw [show (Ln.fT p r b).st + (m : Int) = m from Int.zero_add _, show wtOf (Ln.fT p r b).ba = wtOf b from rfl, hg] at hR
  clear hA hb2 hg ht
  go_wp2_with fail
  refine hR.mono ?_
  rintro e w3 ⟨rfl, hA3, k3⟩
  clear hR
  have hB3 := Keep.fresh hB2 k3 hFr
  have hL := balanceL w3 B _ _ _ _ _ _ hA3
  rw [hbl] at hL
  clear hA3 k3 hB2 hbl
  go_wp2_with fail
  refine hL.mono ?_
  rintro e w4 ⟨rfl, hb4⟩
  have hB4 := hB3.trans (hb4.mono hB3.size)
  clear hL hB3 hb4 hmv hgl
  clear hb hk0
  rcases hbb with rfl | rfl
  · have hV' : V = p * r * m / 365000000 := by rw [hV]; rfl
    clear hV
    subst hV'
    by_cases hm0 : m = 0
    · rw [if_pos hm0] at hZ
      subst hZ hm0
      simp at m2 m3
      go_wp2
      go_ret
      exact ⟨rfl, hB4.alloc hB4.size _⟩
    · rw [if_neg hm0] at hZ
      subst hZ
      have e1 : ((m : Int) == 0) = false := by simp; omega
      go_wp2
      go_ret
      exact ⟨rfl, hB4.alloc hB4.size _⟩
  · have hV' : V = p * r * m / 360000000 := by rw [hV]; rfl
    clear hV
    subst hV'
    by_cases hm0 : m = 0
    · rw [if_pos hm0] at hZ
      subst hZ hm0
      simp at m2 m3
      go_wp2
      go_ret
      exact ⟨rfl, hB4.alloc hB4.size _⟩
    · rw [if_neg hm0] at hZ
      subst hZ
      have e1 : ((m : Int) == 0) = false := by simp; omega
      go_wp2
      go_ret
      exact ⟨rfl, hB4.alloc hB4.size _⟩
end Go.Proofs.YtanndhoimpnhpaaDoor
