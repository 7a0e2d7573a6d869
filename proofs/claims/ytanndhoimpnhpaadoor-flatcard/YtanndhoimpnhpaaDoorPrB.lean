/- owed.perYear: what is earned of a product and what was left, divided by a million years; and what is left now. -/
import Derived.Test.YtanndhoimpnhpaaDoorPrA
namespace Go.Proofs.YtanndhoimpnhpaaDoor
open Go.RowKit Go.Lib

theorem add64_0 (x y : Int) (hx : 0 ≤ x) (hy : 0 ≤ y) (w : World) : (callFunc 94 #[.int .u64 x, .int .u64 y, .int .u64 0]).run Tryd.prog w =
    .ok (.value (.tuple #[.int .u64 ((x + y) % 18446744073709551616), .int .u64 ((x + y) / 18446744073709551616)])) w := by
  rw [run_callFunc_extern Tryd.func94 (by kernel_rfl) (by kernel_rfl) (by kernel_rfl) (e := add64Entry) (by kernel_rfl), run_add64 x y 0 hx hy (by decide) (by decide)]
  simp only [Result.andThen, Int.add_zero]
theorem mul64_int (x y p : Int) (hx : 0 ≤ x) (hx1 : x < 18446744073709551616) (hy : 0 ≤ y) (hy1 : y < 18446744073709551616) (hp : x * y = p) (w : World) :
    Calls Tryd.prog 93 #[.int .u64 x, .int .u64 y] w fun e w' => e = .returned (.tuple #[.int .u64 (p / 18446744073709551616), .int .u64 (p % 18446744073709551616)]) ∧ w' = w := by
  obtain ⟨a, rfl⟩ := Int.eq_ofNat_of_zero_le hx
  obtain ⟨b, rfl⟩ := Int.eq_ofNat_of_zero_le hy
  subst hp
  refine (mul64_any a b (by omega) (by omega) w).mono ?_
  rintro e w' ⟨rfl, rfl⟩
  refine ⟨?_, rfl⟩
  rw [← Int.natCast_mul]
  generalize a * b = n
  have e1 : ((n / 18446744073709551616 : Nat) : Int) = (n : Int) / 18446744073709551616 := by omega
  have e2 : ((n % 18446744073709551616 : Nat) : Int) = (n : Int) % 18446744073709551616 := by omega
  rw [e1, e2]
/-- Div64 at one of the two divisors, whatever the high word. -/
theorem div64_any (d hi lo N : Int) (hd : d = 365000000 ∨ d = 360000000) (h0 : 0 ≤ hi) (h1 : hi < 360000000) (l0 : 0 ≤ lo) (l1 : lo < 18446744073709551616) (hN : hi * 18446744073709551616 + lo = N) (w : World) :
    Calls Tryd.prog 95 #[.int .u64 hi, .int .u64 lo, .int .u64 d] w fun e w' => e = .returned (.tuple #[.int .u64 (N / d), .int .u64 (N % d)]) ∧ ∃ n, w' = w.drewN n := by
  subst hN
  rcases hd with rfl | rfl
  · by_cases hz : hi = 0
    · subst hz
      have := div64_365_0 lo l0 l1 w
      simpa using this
    · refine (div64_365 hi lo (by omega) (by omega) l0 l1 w).mono ?_
      rintro e w' ⟨rfl, rfl⟩
      exact ⟨rfl, 0, rfl⟩
  · by_cases hz : hi = 0
    · subst hz
      have := div64_360_0 lo l0 l1 w
      simpa using this
    · refine (div64_360 hi lo (by omega) (by omega) l0 l1 w).mono ?_
      rintro e w' ⟨rfl, rfl⟩
      exact ⟨rfl, 0, rfl⟩
theorem prod_bd (a r : Int) (a0 : 0 ≤ a) (a1 : a ≤ 4000000000000000000) (r0 : 0 ≤ r) (r1 : r ≤ 3000000) : 0 ≤ a * r ∧ a * r ≤ 12000000000000000000000000 :=
  ⟨Int.mul_nonneg a0 r0, Int.le_trans (Int.mul_le_mul a1 r1 r0 (by decide)) (by decide)⟩
set_option maxHeartbeats 1000000 in
theorem perYear_any (a r yr q : Int) (hy : yr = 365 ∨ yr = 360) (a0 : 0 ≤ a) (a1 : a ≤ 4000000000000000000) (r0 : 0 ≤ r) (r1 : r ≤ 3000000) (q0 : 0 ≤ q) (q1 : q < 1000000 * yr) (w : World) :
    Calls Tryd.prog 86 #[.int .i64 a, .int .i64 r, .int .i64 yr, .int .u64 q] w fun e w' => e = .returned (.tuple #[.int .i64 ((q + a * r) / (1000000 * yr)), .int .u64 ((q + a * r) % (1000000 * yr))]) ∧ ∃ n, w' = w.drewN n := by
  obtain ⟨p0, p1⟩ := prod_bd a r a0 a1 r0 r1
  have hM := fun w => mul64_int a r (a * r) a0 (by omega) r0 (by omega) rfl w
  generalize a * r = p at *
  have _hp := add64_0 (p % 18446744073709551616) q (by omega) q0
  have hd : 1000000 * yr = 365000000 ∨ 1000000 * yr = 360000000 := by omega
  have hD := fun w => div64_any (1000000 * yr) (p / 18446744073709551616 + (p % 18446744073709551616 + q) / 18446744073709551616) ((p + q) % 18446744073709551616) (q + p) hd (by omega) (by omega) (by omega) (by omega) (by omega) w
  have hq : Hid (0 ≤ (q + p) / (1000000 * yr) ∧ (q + p) / (1000000 * yr) ≤ 9000000000000000000) := by
    rcases hy with rfl | rfl <;> exact ⟨by omega, by omega⟩
  obtain ⟨z0, z1⟩ := hq.out
  generalize (q + p) / (1000000 * yr) = Z at *
  generalize (q + p) % (1000000 * yr) = R at *
  go_enter Tryd.func86, Tryd.ntmps86
  go_wp2_with fail
  refine (hM _).mono ?_
  rintro e w' ⟨rfl, rfl⟩
  go_wp2_with fail
  refine (hD _).mono ?_
  rintro e w1 ⟨rfl, n, rfl⟩
  clear hM hD
  go_wp2
  go_ret2
  exact ⟨rfl, n, rfl⟩
end Go.Proofs.YtanndhoimpnhpaaDoor
