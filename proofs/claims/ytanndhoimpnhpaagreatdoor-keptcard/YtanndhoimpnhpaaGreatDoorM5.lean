/- Joined by program: PrA, PrB, CalC0. -/
import Derived.Test.YtanndhoimpnhpaaGreatDoorM4
import Derived.Test.YtanndhoimpnhpaaGreatDoorProg
import Derived.WalkKit
import Derived.Lib.Mul64
import Derived.Laws.Bits64b
import Derived.Laws.Externs
import Derived.Deep.QuietTactic
import Derived.BigQuiet
import Derived.Test.YtanndhoimpnhpaaGreatDoorM3
namespace Go.Proofs.YtanndhoimpnhpaaGreatDoor
open Go.RowKit Go.Lib
namespace Q64
theorem maskN (a : Nat) (ha : a < 18446744073709551616) : bits .and .u64 (a : Int) 4294967295 = ((a % 4294967296 : Nat) : Int) := by
  have h := bits_and_u64_nat a 4294967295 ha (by omega)
  have e : a &&& 4294967295 = a % 4294967296 := Nat.and_two_pow_sub_one_eq_mod a 32
  rw [e] at h
  exact h
theorem divN (a : Nat) : (a : Int) / 4294967296 = ((a / 4294967296 : Nat) : Int) := by omega
theorem mulN (a b : Nat) : (a : Int) * (b : Int) = ((a * b : Nat) : Int) := (Int.natCast_mul a b).symm
theorem addN (a b : Nat) : (a : Int) + (b : Int) = ((a + b : Nat) : Int) := (Int.natCast_add a b).symm
theorem wrapN (a : Nat) (ha : a < 18446744073709551616) : IntKind.u64.wrap (a : Int) = (a : Int) := by rw [IntKind.wrap_u64]; omega
theorem wrapM (a : Nat) : IntKind.u64.wrap (a : Int) = ((a % 18446744073709551616 : Nat) : Int) := by rw [IntKind.wrap_u64]; omega
end Q64
set_option maxHeartbeats 1000000 in
theorem mul64_any (x y : Nat) (hx : x < 18446744073709551616) (hy : y < 18446744073709551616) (w : World) :
    Calls Tryz.prog 133 #[.int .u64 x, .int .u64 y] w fun e w' => e = .returned (.tuple #[.int .u64 ((x * y / 18446744073709551616 : Nat) : Int), .int .u64 ((x * y % 18446744073709551616 : Nat) : Int)]) ∧ w' = w := by
  obtain ⟨bd, bt, bw, hhi⟩ := Lib.mul64_hi x y hx hy
  have ba := Lib.half_mul_le (a := x / 4294967296) (b := y / 4294967296) (by omega) (by omega)
  have bb := Lib.half_mul_le (a := x / 4294967296) (b := y % 4294967296) (by omega) (by omega)
  have bc := Lib.half_mul_le (a := x % 4294967296) (b := y / 4294967296) (by omega) (by omega)
  have ba' : x / 4294967296 * (y / 4294967296) < 18446744073709551616 := by omega
  have bb' : x / 4294967296 * (y % 4294967296) < 18446744073709551616 := by omega
  have bc' : x % 4294967296 * (y / 4294967296) < 18446744073709551616 := by omega
  have bh1 : x / 4294967296 * (y / 4294967296) + (x / 4294967296 * (y % 4294967296) + x % 4294967296 * (y % 4294967296) / 4294967296) / 4294967296 < 18446744073709551616 := by omega
  have bh : x / 4294967296 * (y / 4294967296) + (x / 4294967296 * (y % 4294967296) + x % 4294967296 * (y % 4294967296) / 4294967296) / 4294967296 + ((x / 4294967296 * (y % 4294967296) + x % 4294967296 * (y % 4294967296) / 4294967296) % 4294967296 + x % 4294967296 * (y / 4294967296)) / 4294967296 < 18446744073709551616 := by omega
  go_enter Tryz.func133, Tryz.ntmps133
  go_wp2
  simp only [Q64.maskN x hx, Q64.maskN y hy, Q64.divN, Q64.mulN, Q64.addN, Q64.wrapN _ bd, Q64.wrapN _ bb', Q64.wrapN _ bt, Q64.maskN _ bt, Q64.wrapN _ bc', Q64.wrapN _ bw, Q64.wrapN _ ba', Q64.wrapN _ bh1, Q64.wrapN _ bh, Q64.wrapM (x * y)]
  rw [hhi]
  go_ret2
  exact ⟨rfl, rfl⟩
set_option maxRecDepth 20000 in
theorem len64_365 (w : World) : Calls Tryz.prog 166 #[.int .u64 365000000] w fun e w' => e = .returned (.int .i64 29) ∧ w' = w := by
  go_enter Tryz.func166, Tryz.ntmps166
  go_wp2
  go_ret
  exact ⟨by kernel_rfl, rfl⟩
set_option maxRecDepth 20000 in
theorem len64_360 (w : World) : Calls Tryz.prog 166 #[.int .u64 360000000] w fun e w' => e = .returned (.int .i64 29) ∧ w' = w := by
  go_enter Tryz.func166, Tryz.ntmps166
  go_wp2
  go_ret
  exact ⟨by kernel_rfl, rfl⟩
theorem lz64_365 (w : World) : Calls Tryz.prog 146 #[.int .u64 365000000] w fun e w' => e = .returned (.int .i64 35) ∧ w' = w := by
  go_enter Tryz.func146, Tryz.ntmps146
  go_wp2_with (go_at_call 166; refine (len64_365 _).mono ?_; rintro e w' ⟨rfl, rfl⟩)
  go_ret
  exact ⟨rfl, rfl⟩
theorem lz64_360 (w : World) : Calls Tryz.prog 146 #[.int .u64 360000000] w fun e w' => e = .returned (.int .i64 35) ∧ w' = w := by
  go_enter Tryz.func146, Tryz.ntmps146
  go_wp2_with (go_at_call 166; refine (len64_360 _).mono ?_; rintro e w' ⟨rfl, rfl⟩)
  go_ret
  exact ⟨rfl, rfl⟩
theorem or35 (hi lo : Int) (h0 : 0 ≤ hi) (h1 : hi < 536870912) (l0 : 0 ≤ lo) (l1 : lo < 18446744073709551616) : bits .or .u64 (hi * 34359738368) (lo / 536870912) = hi * 34359738368 + lo / 536870912 := by
  obtain ⟨a, rfl⟩ := Int.eq_ofNat_of_zero_le h0
  obtain ⟨b, rfl⟩ := Int.eq_ofNat_of_zero_le l0
  have e := bits_or_u64_nat (a * 34359738368) (b / 536870912) (by omega) (by omega)
  have e2 : a * 34359738368 ||| b / 536870912 = a * 34359738368 + b / 536870912 := by
    have h35 : (2 : Nat) ^ 35 = 34359738368 := by decide +kernel
    have := Nat.two_pow_add_eq_or_of_lt (i := 35) (b := b / 536870912) (by rw [h35]; omega) a
    rw [h35, Nat.mul_comm] at this
    exact this.symm
  rw [e2] at e
  have c1 : ((a * 34359738368 : Nat) : Int) = (a : Int) * 34359738368 := by omega
  have c2 : ((b / 536870912 : Nat) : Int) = (b : Int) / 536870912 := by omega
  rw [Int.natCast_add, c1, c2] at e
  exact e
theorem and35 (L : Int) (h0 : 0 ≤ L) (h1 : L < 536870912) : bits .and .u64 (L * 34359738368) 4294967295 = 0 := by
  obtain ⟨a, rfl⟩ := Int.eq_ofNat_of_zero_le h0
  have e := Q64.maskN (a * 34359738368) (by omega)
  have c1 : ((a * 34359738368 : Nat) : Int) = (a : Int) * 34359738368 := by omega
  rw [c1] at e
  rw [e]
  omega
theorem div64_365_0 (lo : Int) (l0 : 0 ≤ lo) (l1 : lo < 18446744073709551616) (w : World) :
    Calls Tryz.prog 135 #[.int .u64 0, .int .u64 lo, .int .u64 365000000] w fun e w' => e = .returned (.tuple #[.int .u64 (lo / 365000000), .int .u64 (lo % 365000000)]) ∧ ∃ n, w' = w.drewN n := by
  go_enter Tryz.func135, Tryz.ntmps135
  go_wp2
  go_region
  go_wp2
  go_ret2
  exact ⟨rfl, 1, rfl⟩
theorem wr_365 (U L : Int) (L0 : 0 ≤ L) (L1 : L < 536870912) :
    IntKind.u64.wrap (IntKind.u64.wrap (IntKind.u64.wrap (U * 4294967296) + L * 8) - IntKind.u64.wrap (U / 2920000000 * 12541304504320000000)) = U % 2920000000 * 4294967296 + L * 8 := by
  simp only [IntKind.wrap_u64]
  omega
theorem wq_365 (V : Int) :
    IntKind.u64.wrap (IntKind.u64.wrap (IntKind.u64.wrap (V * 4294967296)) - IntKind.u64.wrap (V / 2920000000 * 12541304504320000000)) = V % 2920000000 * 4294967296 := by
  simp only [IntKind.wrap_u64]
  omega
theorem fin_365 (hi lo U L V : Int) (eU : U = hi * 34359738368 + lo / 536870912) (eL : L = lo % 536870912) (eV : V = U % 2920000000 * 4294967296 + L * 8) :
    U / 2920000000 * 4294967296 + V / 2920000000 = (hi * 18446744073709551616 + lo) / 365000000 ∧ V % 2920000000 * 4294967296 / 34359738368 = (hi * 18446744073709551616 + lo) % 365000000 := by
  have e8 : U * 4294967296 + L * 8 = 8 * (hi * 18446744073709551616 + lo) := by omega
  generalize hi * 18446744073709551616 + lo = N at *
  have eV' : V = 8 * N - U / 2920000000 * 12541304504320000000 := by omega
  omega
set_option maxRecDepth 4000 in
set_option maxHeartbeats 1000000 in
theorem div64_365 (hi lo : Int) (h0 : 0 < hi) (h1 : hi < 365000000) (l0 : 0 ≤ lo) (l1 : lo < 18446744073709551616) (w : World) :
    Calls Tryz.prog 135 #[.int .u64 hi, .int .u64 lo, .int .u64 365000000] w fun e w' => e = .returned (.tuple #[.int .u64 ((hi * 18446744073709551616 + lo) / 365000000), .int .u64 ((hi * 18446744073709551616 + lo) % 365000000)]) ∧ w' = w := by
  have hA : bits .and .u64 12541304504320000000 4294967295 = 0 := by decide +kernel
  have hO := or35 hi lo (by omega) (by omega) l0 l1
  have hW : IntKind.u64.wrap (lo * 34359738368) = lo % 536870912 * 34359738368 := by rw [IntKind.wrap_u64]; omega
  have hL := and35 (lo % 536870912) (by omega) (by omega)
  have hL8 : lo % 536870912 * 34359738368 / 4294967296 = lo % 536870912 * 8 := by omega
  have HU : Hid (∃ U, U = hi * 34359738368 + lo / 536870912 ∧ 0 ≤ U ∧ U < 12541304504320000000) := ⟨_, rfl, by omega, by omega⟩
  have HL : Hid (∃ L, L = lo % 536870912 ∧ 0 ≤ L ∧ L < 536870912) := ⟨_, rfl, by omega, by omega⟩
  obtain ⟨U, eU, U0, U1⟩ := HU.out
  obtain ⟨L, eL, L0, L1⟩ := HL.out
  rw [← eU] at hO
  rw [← eL] at hW hL hL8
  have HV : Hid (∃ V, V = U % 2920000000 * 4294967296 + L * 8 ∧ 0 ≤ V ∧ V < 12541304504320000000) := ⟨_, rfl, by omega, by omega⟩
  obtain ⟨V, eV, V0, V1⟩ := HV.out
  have hV := wr_365 U L L0 L1
  rw [← eV] at hV
  have hR := wq_365 V
  have HF : Hid (U / 2920000000 * 4294967296 + V / 2920000000 = (hi * 18446744073709551616 + lo) / 365000000 ∧ V % 2920000000 * 4294967296 / 34359738368 = (hi * 18446744073709551616 + lo) % 365000000) := fin_365 hi lo U L V eU eL eV
  clear eU eL eV HU HL HV
  have bq : U / 2920000000 * 4294967296 + V / 2920000000 < 18446744073709551616 := by have := HF.out.1; omega
  go_enter Tryz.func135, Tryz.ntmps135
  go_wp2_with (go_at_call 146; refine (lz64_365 _).mono ?_; rintro e w' ⟨rfl, rfl⟩)
  go_loop [15, 16] (fun q r => q = .int .u64 (U / 2920000000) ∧ r = .int .u64 (U - U / 2920000000 * 2920000000)) (fun _ _ => 0)
  case atStart => exact ⟨rfl, rfl⟩
  case round =>
    obtain ⟨rfl, rfl⟩ := hrel
    go_wp2
    go_loop [18, 16] (fun q r => q = .int .u64 (V / 2920000000) ∧ r = .int .u64 (V - V / 2920000000 * 2920000000)) (fun _ _ => 0)
    case atStart => exact ⟨rfl, rfl⟩
    case round =>
      obtain ⟨rfl, rfl⟩ := hrel
      go_wp2
      go_ret2
      rw [← HF.out.1, ← HF.out.2]
      exact ⟨rfl, rfl⟩
theorem div64_360_0 (lo : Int) (l0 : 0 ≤ lo) (l1 : lo < 18446744073709551616) (w : World) :
    Calls Tryz.prog 135 #[.int .u64 0, .int .u64 lo, .int .u64 360000000] w fun e w' => e = .returned (.tuple #[.int .u64 (lo / 360000000), .int .u64 (lo % 360000000)]) ∧ ∃ n, w' = w.drewN n := by
  go_enter Tryz.func135, Tryz.ntmps135
  go_wp2
  go_region
  go_wp2
  go_ret2
  exact ⟨rfl, 1, rfl⟩
theorem wr_360 (U L : Int) (L0 : 0 ≤ L) (L1 : L < 536870912) :
    IntKind.u64.wrap (IntKind.u64.wrap (IntKind.u64.wrap (U * 4294967296) + L * 8) - IntKind.u64.wrap (U / 2880000000 * 12369505812480000000)) = U % 2880000000 * 4294967296 + L * 8 := by
  simp only [IntKind.wrap_u64]
  omega
theorem wq_360 (V : Int) :
    IntKind.u64.wrap (IntKind.u64.wrap (IntKind.u64.wrap (V * 4294967296)) - IntKind.u64.wrap (V / 2880000000 * 12369505812480000000)) = V % 2880000000 * 4294967296 := by
  simp only [IntKind.wrap_u64]
  omega
theorem fin_360 (hi lo U L V : Int) (eU : U = hi * 34359738368 + lo / 536870912) (eL : L = lo % 536870912) (eV : V = U % 2880000000 * 4294967296 + L * 8) :
    U / 2880000000 * 4294967296 + V / 2880000000 = (hi * 18446744073709551616 + lo) / 360000000 ∧ V % 2880000000 * 4294967296 / 34359738368 = (hi * 18446744073709551616 + lo) % 360000000 := by
  have e8 : U * 4294967296 + L * 8 = 8 * (hi * 18446744073709551616 + lo) := by omega
  generalize hi * 18446744073709551616 + lo = N at *
  have eV' : V = 8 * N - U / 2880000000 * 12369505812480000000 := by omega
  omega
set_option maxRecDepth 4000 in
set_option maxHeartbeats 1000000 in
theorem div64_360 (hi lo : Int) (h0 : 0 < hi) (h1 : hi < 360000000) (l0 : 0 ≤ lo) (l1 : lo < 18446744073709551616) (w : World) :
    Calls Tryz.prog 135 #[.int .u64 hi, .int .u64 lo, .int .u64 360000000] w fun e w' => e = .returned (.tuple #[.int .u64 ((hi * 18446744073709551616 + lo) / 360000000), .int .u64 ((hi * 18446744073709551616 + lo) % 360000000)]) ∧ w' = w := by
  have hA : bits .and .u64 12369505812480000000 4294967295 = 0 := by decide +kernel
  have hO := or35 hi lo (by omega) (by omega) l0 l1
  have hW : IntKind.u64.wrap (lo * 34359738368) = lo % 536870912 * 34359738368 := by rw [IntKind.wrap_u64]; omega
  have hL := and35 (lo % 536870912) (by omega) (by omega)
  have hL8 : lo % 536870912 * 34359738368 / 4294967296 = lo % 536870912 * 8 := by omega
  have HU : Hid (∃ U, U = hi * 34359738368 + lo / 536870912 ∧ 0 ≤ U ∧ U < 12369505812480000000) := ⟨_, rfl, by omega, by omega⟩
  have HL : Hid (∃ L, L = lo % 536870912 ∧ 0 ≤ L ∧ L < 536870912) := ⟨_, rfl, by omega, by omega⟩
  obtain ⟨U, eU, U0, U1⟩ := HU.out
  obtain ⟨L, eL, L0, L1⟩ := HL.out
  rw [← eU] at hO
  rw [← eL] at hW hL hL8
  have HV : Hid (∃ V, V = U % 2880000000 * 4294967296 + L * 8 ∧ 0 ≤ V ∧ V < 12369505812480000000) := ⟨_, rfl, by omega, by omega⟩
  obtain ⟨V, eV, V0, V1⟩ := HV.out
  have hV := wr_360 U L L0 L1
  rw [← eV] at hV
  have hR := wq_360 V
  have HF : Hid (U / 2880000000 * 4294967296 + V / 2880000000 = (hi * 18446744073709551616 + lo) / 360000000 ∧ V % 2880000000 * 4294967296 / 34359738368 = (hi * 18446744073709551616 + lo) % 360000000) := fin_360 hi lo U L V eU eL eV
  clear eU eL eV HU HL HV
  have bq : U / 2880000000 * 4294967296 + V / 2880000000 < 18446744073709551616 := by have := HF.out.1; omega
  go_enter Tryz.func135, Tryz.ntmps135
  go_wp2_with (go_at_call 146; refine (lz64_360 _).mono ?_; rintro e w' ⟨rfl, rfl⟩)
  go_loop [15, 16] (fun q r => q = .int .u64 (U / 2880000000) ∧ r = .int .u64 (U - U / 2880000000 * 2880000000)) (fun _ _ => 0)
  case atStart => exact ⟨rfl, rfl⟩
  case round =>
    obtain ⟨rfl, rfl⟩ := hrel
    go_wp2
    go_loop [18, 16] (fun q r => q = .int .u64 (V / 2880000000) ∧ r = .int .u64 (V - V / 2880000000 * 2880000000)) (fun _ _ => 0)
    case atStart => exact ⟨rfl, rfl⟩
    case round =>
      obtain ⟨rfl, rfl⟩ := hrel
      go_wp2
      go_ret2
      rw [← HF.out.1, ← HF.out.2]
      exact ⟨rfl, rfl⟩
end Go.Proofs.YtanndhoimpnhpaaGreatDoor
namespace Go.Proofs.YtanndhoimpnhpaaGreatDoor
open Go.RowKit Go.Lib
theorem add64_0 (x y : Int) (hx : 0 ≤ x) (hy : 0 ≤ y) (w : World) : (callFunc 134 #[.int .u64 x, .int .u64 y, .int .u64 0]).run Tryz.prog w =
    .ok (.value (.tuple #[.int .u64 ((x + y) % 18446744073709551616), .int .u64 ((x + y) / 18446744073709551616)])) w := by
  rw [run_callFunc_extern Tryz.func134 (by kernel_rfl) (by kernel_rfl) (by kernel_rfl) (e := add64Entry) (by kernel_rfl), run_add64 x y 0 hx hy (by decide) (by decide)]
  simp only [Result.andThen, Int.add_zero]
theorem mul64_int (x y p : Int) (hx : 0 ≤ x) (hx1 : x < 18446744073709551616) (hy : 0 ≤ y) (hy1 : y < 18446744073709551616) (hp : x * y = p) (w : World) :
    Calls Tryz.prog 133 #[.int .u64 x, .int .u64 y] w fun e w' => e = .returned (.tuple #[.int .u64 (p / 18446744073709551616), .int .u64 (p % 18446744073709551616)]) ∧ w' = w := by
  obtain ⟨a, rfl⟩ := Int.eq_ofNat_of_zero_le hx
  obtain ⟨b, rfl⟩ := Int.eq_ofNat_of_zero_le hy
  subst hp
  refine (mul64_any a b (by omega) (by omega) w).mono ?_
  rintro e w' ⟨rfl, rfl⟩
  refine ⟨?_, rfl⟩
  rw [← Int.natCast_mul]
  generalize a * b = n
  have e1 : ((n / 18446744073709551616 : Nat) : Int) = (n : Int) / 18446744073709551616 := by omega
  have e2 : ((n % 18446744073709551616 : Nat) : Int) = (n : Int) % 18446744073709551616 := by omega
  rw [e1, e2]
theorem div64_any (d hi lo N : Int) (hd : d = 365000000 ∨ d = 360000000) (h0 : 0 ≤ hi) (h1 : hi < 360000000) (l0 : 0 ≤ lo) (l1 : lo < 18446744073709551616) (hN : hi * 18446744073709551616 + lo = N) (w : World) :
    Calls Tryz.prog 135 #[.int .u64 hi, .int .u64 lo, .int .u64 d] w fun e w' => e = .returned (.tuple #[.int .u64 (N / d), .int .u64 (N % d)]) ∧ ∃ n, w' = w.drewN n := by
  subst hN
  rcases hd with rfl | rfl
  · by_cases hz : hi = 0
    · subst hz
      have := div64_365_0 lo l0 l1 w
      simpa using this
    · refine (div64_365 hi lo (by omega) (by omega) l0 l1 w).mono ?_
      rintro e w' ⟨rfl, rfl⟩
      exact ⟨rfl, 0, rfl⟩
  · by_cases hz : hi = 0
    · subst hz
      have := div64_360_0 lo l0 l1 w
      simpa using this
    · refine (div64_360 hi lo (by omega) (by omega) l0 l1 w).mono ?_
      rintro e w' ⟨rfl, rfl⟩
      exact ⟨rfl, 0, rfl⟩
theorem prod_bd (a r : Int) (a0 : 0 ≤ a) (a1 : a ≤ 4000000000000000000) (r0 : 0 ≤ r) (r1 : r ≤ 3000000) : 0 ≤ a * r ∧ a * r ≤ 12000000000000000000000000 :=
  ⟨Int.mul_nonneg a0 r0, Int.le_trans (Int.mul_le_mul a1 r1 r0 (by decide)) (by decide)⟩
set_option maxHeartbeats 1000000 in
theorem perYear_any (a r yr q : Int) (hy : yr = 365 ∨ yr = 360) (a0 : 0 ≤ a) (a1 : a ≤ 4000000000000000000) (r0 : 0 ≤ r) (r1 : r ≤ 3000000) (q0 : 0 ≤ q) (q1 : q < 1000000 * yr) (w : World) :
    Calls Tryz.prog 114 #[.int .i64 a, .int .i64 r, .int .i64 yr, .int .u64 q] w fun e w' => e = .returned (.tuple #[.int .i64 ((q + a * r) / (1000000 * yr)), .int .u64 ((q + a * r) % (1000000 * yr))]) ∧ ∃ n, w' = w.drewN n := by
  obtain ⟨p0, p1⟩ := prod_bd a r a0 a1 r0 r1
  have hM := fun w => mul64_int a r (a * r) a0 (by omega) r0 (by omega) rfl w
  generalize a * r = p at *
  have _hp := add64_0 (p % 18446744073709551616) q (by omega) q0
  have hd : 1000000 * yr = 365000000 ∨ 1000000 * yr = 360000000 := by omega
  have hD := fun w => div64_any (1000000 * yr) (p / 18446744073709551616 + (p % 18446744073709551616 + q) / 18446744073709551616) ((p + q) % 18446744073709551616) (q + p) hd (by omega) (by omega) (by omega) (by omega) (by omega) w
  have hq : Hid (0 ≤ (q + p) / (1000000 * yr) ∧ (q + p) / (1000000 * yr) ≤ 9000000000000000000) := by
    rcases hy with rfl | rfl <;> exact ⟨by omega, by omega⟩
  obtain ⟨z0, z1⟩ := hq.out
  generalize (q + p) / (1000000 * yr) = Z at *
  generalize (q + p) % (1000000 * yr) = R at *
  go_enter Tryz.func114, Tryz.ntmps114
  go_wp2_with fail
  refine (hM _).mono ?_
  rintro e w' ⟨rfl, rfl⟩
  go_wp2_with fail
  refine (hD _).mono ?_
  rintro e w1 ⟨rfl, n, rfl⟩
  clear hM hD
  go_wp2
  go_ret2
  exact ⟨rfl, n, rfl⟩
end Go.Proofs.YtanndhoimpnhpaaGreatDoor
namespace Go.Proofs.YtanndhoimpnhpaaGreatDoor
open Go.ChangeShapes Go.WideShapes Go.ChangeAt Go.RowKit Cal
set_option maxHeartbeats 400000 in
theorem thirty_any (n : Int) (w : World) (h0 : 0 ≤ n) (h1 : n ≤ 109573) :
    Calls Tryz.prog 132 #[.int .i64 n] w fun e w' => ∃ t : Int, e = .returned (.int .i64 t) ∧ IsT n t ∧ Below w.heap.size w w' := by
  go_enter Tryz.func132, Tryz.ntmps132
  go_wp2_with (go_at_call 145; refine (civilOf_any _ _ h0 h1).mono ?_; rintro e w1 ⟨y, m, d, rfl, hok, hn, hb⟩; obtain ⟨a1, a2, a3, a4, a5, a6⟩ := hok; have db := dim_bd y m)
  all_goals
    go_ret
    exact ⟨_, rfl, ⟨y, m, d, ok_mk a1 a2 a3 a4 a5 a6, hn, by unfold t3 cap; split <;> omega⟩, hb.alloc hb.size _⟩
theorem weight_any (b f t : Int) (w : World) (f0 : 0 ≤ f) (f1 : f ≤ 109573) (t0 : 0 ≤ t) (t1 : t ≤ 109573) :
    Calls Tryz.prog 112 #[.int .i64 b, .int .i64 f, .int .i64 t] w fun e w' => ∃ v : Int, e = .returned (.int .i64 v) ∧ (b = 3 → ∃ p q, IsT t p ∧ IsT f q ∧ v = p - q) ∧ (¬ b = 3 → v = t - f) ∧ Below w.heap.size w w' := by
  by_cases hb : b = 3
  · subst hb
    go_enter Tryz.func112, Tryz.ntmps112
    go_wp2_with (go_at_call 132; refine (thirty_any _ _ (by omega) (by omega)).mono ?_; rintro e w1 ⟨p, rfl, hp, hb⟩; have bp := hp.bd)
    go_ret
    rename_i w0 p0 hp0 hb0 bp0
    exact ⟨_, rfl, fun _ => ⟨p0, p, hp0, hp, rfl⟩, fun h => by simp at h, hb0.trans (hb.mono hb0.size)⟩
  · go_enter Tryz.func112, Tryz.ntmps112
    go_wp2
    go_ret
    exact ⟨_, rfl, fun h => absurd h hb, fun _ => rfl, Below.refl _ _⟩
end Go.Proofs.YtanndhoimpnhpaaGreatDoor
