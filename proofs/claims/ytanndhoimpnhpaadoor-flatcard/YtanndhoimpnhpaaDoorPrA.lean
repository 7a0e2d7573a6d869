/- The program's quotient of long numbers: math/bits' Mul64, Div64 at the two divisors, owed.perYear. -/
import Derived.Test.YtanndhoimpnhpaaDoorProg
import Derived.WalkKit
import Derived.Lib.Mul64
import Derived.Laws.Bits64b
import Derived.Laws.Externs
import Derived.Deep.QuietTactic
import Derived.BigQuiet
namespace Go.Proofs.YtanndhoimpnhpaaDoor
open Go.RowKit Go.Lib

namespace Q64
theorem maskN (a : Nat) (ha : a < 18446744073709551616) : bits .and .u64 (a : Int) 4294967295 = ((a % 4294967296 : Nat) : Int) := by
  have h := bits_and_u64_nat a 4294967295 ha (by omega)
  have e : a &&& 4294967295 = a % 4294967296 := Nat.and_two_pow_sub_one_eq_mod a 32
  rw [e] at h
  exact h
theorem divN (a : Nat) : (a : Int) / 4294967296 = ((a / 4294967296 : Nat) : Int) := by omega
theorem mulN (a b : Nat) : (a : Int) * (b : Int) = ((a * b : Nat) : Int) := (Int.natCast_mul a b).symm
theorem addN (a b : Nat) : (a : Int) + (b : Int) = ((a + b : Nat) : Int) := (Int.natCast_add a b).symm
theorem wrapN (a : Nat) (ha : a < 18446744073709551616) : IntKind.u64.wrap (a : Int) = (a : Int) := by rw [IntKind.wrap_u64]; omega
theorem wrapM (a : Nat) : IntKind.u64.wrap (a : Int) = ((a % 18446744073709551616 : Nat) : Int) := by rw [IntKind.wrap_u64]; omega
end Q64

set_option maxHeartbeats 1000000 in
theorem mul64_any (x y : Nat) (hx : x < 18446744073709551616) (hy : y < 18446744073709551616) (w : World) :
    Calls Tryd.prog 93 #[.int .u64 x, .int .u64 y] w fun e w' => e = .returned (.tuple #[.int .u64 ((x * y / 18446744073709551616 : Nat) : Int), .int .u64 ((x * y % 18446744073709551616 : Nat) : Int)]) ∧ w' = w := by
  obtain ⟨bd, bt, bw, hhi⟩ := Lib.mul64_hi x y hx hy
  have ba := Lib.half_mul_le (a := x / 4294967296) (b := y / 4294967296) (by omega) (by omega)
  have bb := Lib.half_mul_le (a := x / 4294967296) (b := y % 4294967296) (by omega) (by omega)
  have bc := Lib.half_mul_le (a := x % 4294967296) (b := y / 4294967296) (by omega) (by omega)
  have ba' : x / 4294967296 * (y / 4294967296) < 18446744073709551616 := by omega
  have bb' : x / 4294967296 * (y % 4294967296) < 18446744073709551616 := by omega
  have bc' : x % 4294967296 * (y / 4294967296) < 18446744073709551616 := by omega
  have bh1 : x / 4294967296 * (y / 4294967296) + (x / 4294967296 * (y % 4294967296) + x % 4294967296 * (y % 4294967296) / 4294967296) / 4294967296 < 18446744073709551616 := by omega
  have bh : x / 4294967296 * (y / 4294967296) + (x / 4294967296 * (y % 4294967296) + x % 4294967296 * (y % 4294967296) / 4294967296) / 4294967296 + ((x / 4294967296 * (y % 4294967296) + x % 4294967296 * (y % 4294967296) / 4294967296) % 4294967296 + x % 4294967296 * (y / 4294967296)) / 4294967296 < 18446744073709551616 := by omega
  go_enter Tryd.func93, Tryd.ntmps93
  go_wp2
  simp only [Q64.maskN x hx, Q64.maskN y hy, Q64.divN, Q64.mulN, Q64.addN, Q64.wrapN _ bd, Q64.wrapN _ bb', Q64.wrapN _ bt, Q64.maskN _ bt, Q64.wrapN _ bc', Q64.wrapN _ bw, Q64.wrapN _ ba', Q64.wrapN _ bh1, Q64.wrapN _ bh, Q64.wrapM (x * y)]
  rw [hhi]
  go_ret2
  exact ⟨rfl, rfl⟩

set_option maxRecDepth 20000 in
theorem len64_365 (w : World) : Calls Tryd.prog 103 #[.int .u64 365000000] w fun e w' => e = .returned (.int .i64 29) ∧ w' = w := by
  go_enter Tryd.func103, Tryd.ntmps103
  go_wp2
  go_ret
  exact ⟨by kernel_rfl, rfl⟩
set_option maxRecDepth 20000 in
theorem len64_360 (w : World) : Calls Tryd.prog 103 #[.int .u64 360000000] w fun e w' => e = .returned (.int .i64 29) ∧ w' = w := by
  go_enter Tryd.func103, Tryd.ntmps103
  go_wp2
  go_ret
  exact ⟨by kernel_rfl, rfl⟩
theorem lz64_365 (w : World) : Calls Tryd.prog 101 #[.int .u64 365000000] w fun e w' => e = .returned (.int .i64 35) ∧ w' = w := by
  go_enter Tryd.func101, Tryd.ntmps101
  go_wp2_with (go_at_call 103; refine (len64_365 _).mono ?_; rintro e w' ⟨rfl, rfl⟩)
  go_ret
  exact ⟨rfl, rfl⟩
theorem lz64_360 (w : World) : Calls Tryd.prog 101 #[.int .u64 360000000] w fun e w' => e = .returned (.int .i64 35) ∧ w' = w := by
  go_enter Tryd.func101, Tryd.ntmps101
  go_wp2_with (go_at_call 103; refine (len64_360 _).mono ?_; rintro e w' ⟨rfl, rfl⟩)
  go_ret
  exact ⟨rfl, rfl⟩
theorem or35 (hi lo : Int) (h0 : 0 ≤ hi) (h1 : hi < 536870912) (l0 : 0 ≤ lo) (l1 : lo < 18446744073709551616) : bits .or .u64 (hi * 34359738368) (lo / 536870912) = hi * 34359738368 + lo / 536870912 := by
  obtain ⟨a, rfl⟩ := Int.eq_ofNat_of_zero_le h0
  obtain ⟨b, rfl⟩ := Int.eq_ofNat_of_zero_le l0
  have e := bits_or_u64_nat (a * 34359738368) (b / 536870912) (by omega) (by omega)
  have e2 : a * 34359738368 ||| b / 536870912 = a * 34359738368 + b / 536870912 := by
    have h35 : (2 : Nat) ^ 35 = 34359738368 := by decide +kernel
    have := Nat.two_pow_add_eq_or_of_lt (i := 35) (b := b / 536870912) (by rw [h35]; omega) a
    rw [h35, Nat.mul_comm] at this
    exact this.symm
  rw [e2] at e
  have c1 : ((a * 34359738368 : Nat) : Int) = (a : Int) * 34359738368 := by omega
  have c2 : ((b / 536870912 : Nat) : Int) = (b : Int) / 536870912 := by omega
  rw [Int.natCast_add, c1, c2] at e
  exact e
theorem and35 (L : Int) (h0 : 0 ≤ L) (h1 : L < 536870912) : bits .and .u64 (L * 34359738368) 4294967295 = 0 := by
  obtain ⟨a, rfl⟩ := Int.eq_ofNat_of_zero_le h0
  have e := Q64.maskN (a * 34359738368) (by omega)
  have c1 : ((a * 34359738368 : Nat) : Int) = (a : Int) * 34359738368 := by omega
  rw [c1] at e
  rw [e]
  omega
theorem div64_365_0 (lo : Int) (l0 : 0 ≤ lo) (l1 : lo < 18446744073709551616) (w : World) :
    Calls Tryd.prog 95 #[.int .u64 0, .int .u64 lo, .int .u64 365000000] w fun e w' => e = .returned (.tuple #[.int .u64 (lo / 365000000), .int .u64 (lo % 365000000)]) ∧ ∃ n, w' = w.drewN n := by
  go_enter Tryd.func95, Tryd.ntmps95
  go_wp2
  go_region
  go_wp2
  go_ret2
  exact ⟨rfl, 1, rfl⟩
theorem wr_365 (U L : Int) (L0 : 0 ≤ L) (L1 : L < 536870912) :
    IntKind.u64.wrap (IntKind.u64.wrap (IntKind.u64.wrap (U * 4294967296) + L * 8) - IntKind.u64.wrap (U / 2920000000 * 12541304504320000000)) = U % 2920000000 * 4294967296 + L * 8 := by
  simp only [IntKind.wrap_u64]
  omega
theorem wq_365 (V : Int) :
    IntKind.u64.wrap (IntKind.u64.wrap (IntKind.u64.wrap (V * 4294967296)) - IntKind.u64.wrap (V / 2920000000 * 12541304504320000000)) = V % 2920000000 * 4294967296 := by
  simp only [IntKind.wrap_u64]
  omega
theorem fin_365 (hi lo U L V : Int) (eU : U = hi * 34359738368 + lo / 536870912) (eL : L = lo % 536870912) (eV : V = U % 2920000000 * 4294967296 + L * 8) :
    U / 2920000000 * 4294967296 + V / 2920000000 = (hi * 18446744073709551616 + lo) / 365000000 ∧ V % 2920000000 * 4294967296 / 34359738368 = (hi * 18446744073709551616 + lo) % 365000000 := by
  have e8 : U * 4294967296 + L * 8 = 8 * (hi * 18446744073709551616 + lo) := by omega
  generalize hi * 18446744073709551616 + lo = N at *
  have eV' : V = 8 * N - U / 2920000000 * 12541304504320000000 := by omega
  omega
set_option maxRecDepth 4000 in
set_option maxHeartbeats 1000000 in
theorem div64_365 (hi lo : Int) (h0 : 0 < hi) (h1 : hi < 365000000) (l0 : 0 ≤ lo) (l1 : lo < 18446744073709551616) (w : World) :
    Calls Tryd.prog 95 #[.int .u64 hi, .int .u64 lo, .int .u64 365000000] w fun e w' => e = .returned (.tuple #[.int .u64 ((hi * 18446744073709551616 + lo) / 365000000), .int .u64 ((hi * 18446744073709551616 + lo) % 365000000)]) ∧ w' = w := by
  have hA : bits .and .u64 12541304504320000000 4294967295 = 0 := by decide +kernel
  have hO := or35 hi lo (by omega) (by omega) l0 l1
  have hW : IntKind.u64.wrap (lo * 34359738368) = lo % 536870912 * 34359738368 := by rw [IntKind.wrap_u64]; omega
  have hL := and35 (lo % 536870912) (by omega) (by omega)
  have hL8 : lo % 536870912 * 34359738368 / 4294967296 = lo % 536870912 * 8 := by omega
  have HU : Hid (∃ U, U = hi * 34359738368 + lo / 536870912 ∧ 0 ≤ U ∧ U < 12541304504320000000) := ⟨_, rfl, by omega, by omega⟩
  have HL : Hid (∃ L, L = lo % 536870912 ∧ 0 ≤ L ∧ L < 536870912) := ⟨_, rfl, by omega, by omega⟩
  obtain ⟨U, eU, U0, U1⟩ := HU.out
  obtain ⟨L, eL, L0, L1⟩ := HL.out
  rw [← eU] at hO
  rw [← eL] at hW hL hL8
  have HV : Hid (∃ V, V = U % 2920000000 * 4294967296 + L * 8 ∧ 0 ≤ V ∧ V < 12541304504320000000) := ⟨_, rfl, by omega, by omega⟩
  obtain ⟨V, eV, V0, V1⟩ := HV.out
  have hV := wr_365 U L L0 L1
  rw [← eV] at hV
  have hR := wq_365 V
  have HF : Hid (U / 2920000000 * 4294967296 + V / 2920000000 = (hi * 18446744073709551616 + lo) / 365000000 ∧ V % 2920000000 * 4294967296 / 34359738368 = (hi * 18446744073709551616 + lo) % 365000000) := fin_365 hi lo U L V eU eL eV
  clear eU eL eV HU HL HV
  have bq : U / 2920000000 * 4294967296 + V / 2920000000 < 18446744073709551616 := by have := HF.out.1; omega
  go_enter Tryd.func95, Tryd.ntmps95
  go_wp2_with (go_at_call 101; refine (lz64_365 _).mono ?_; rintro e w' ⟨rfl, rfl⟩)
  go_loop [15, 16] (fun q r => q = .int .u64 (U / 2920000000) ∧ r = .int .u64 (U - U / 2920000000 * 2920000000)) (fun _ _ => 0)
  case atStart => exact ⟨rfl, rfl⟩
  case round =>
    obtain ⟨rfl, rfl⟩ := hrel
    go_wp2
    go_loop [18, 16] (fun q r => q = .int .u64 (V / 2920000000) ∧ r = .int .u64 (V - V / 2920000000 * 2920000000)) (fun _ _ => 0)
    case atStart => exact ⟨rfl, rfl⟩
    case round =>
      obtain ⟨rfl, rfl⟩ := hrel
      go_wp2
      go_ret2
      rw [← HF.out.1, ← HF.out.2]
      exact ⟨rfl, rfl⟩
theorem div64_360_0 (lo : Int) (l0 : 0 ≤ lo) (l1 : lo < 18446744073709551616) (w : World) :
    Calls Tryd.prog 95 #[.int .u64 0, .int .u64 lo, .int .u64 360000000] w fun e w' => e = .returned (.tuple #[.int .u64 (lo / 360000000), .int .u64 (lo % 360000000)]) ∧ ∃ n, w' = w.drewN n := by
  go_enter Tryd.func95, Tryd.ntmps95
  go_wp2
  go_region
  go_wp2
  go_ret2
  exact ⟨rfl, 1, rfl⟩
theorem wr_360 (U L : Int) (L0 : 0 ≤ L) (L1 : L < 536870912) :
    IntKind.u64.wrap (IntKind.u64.wrap (IntKind.u64.wrap (U * 4294967296) + L * 8) - IntKind.u64.wrap (U / 2880000000 * 12369505812480000000)) = U % 2880000000 * 4294967296 + L * 8 := by
  simp only [IntKind.wrap_u64]
  omega
theorem wq_360 (V : Int) :
    IntKind.u64.wrap (IntKind.u64.wrap (IntKind.u64.wrap (V * 4294967296)) - IntKind.u64.wrap (V / 2880000000 * 12369505812480000000)) = V % 2880000000 * 4294967296 := by
  simp only [IntKind.wrap_u64]
  omega
theorem fin_360 (hi lo U L V : Int) (eU : U = hi * 34359738368 + lo / 536870912) (eL : L = lo % 536870912) (eV : V = U % 2880000000 * 4294967296 + L * 8) :
    U / 2880000000 * 4294967296 + V / 2880000000 = (hi * 18446744073709551616 + lo) / 360000000 ∧ V % 2880000000 * 4294967296 / 34359738368 = (hi * 18446744073709551616 + lo) % 360000000 := by
  have e8 : U * 4294967296 + L * 8 = 8 * (hi * 18446744073709551616 + lo) := by omega
  generalize hi * 18446744073709551616 + lo = N at *
  have eV' : V = 8 * N - U / 2880000000 * 12369505812480000000 := by omega
  omega
set_option maxRecDepth 4000 in
set_option maxHeartbeats 1000000 in
theorem div64_360 (hi lo : Int) (h0 : 0 < hi) (h1 : hi < 360000000) (l0 : 0 ≤ lo) (l1 : lo < 18446744073709551616) (w : World) :
    Calls Tryd.prog 95 #[.int .u64 hi, .int .u64 lo, .int .u64 360000000] w fun e w' => e = .returned (.tuple #[.int .u64 ((hi * 18446744073709551616 + lo) / 360000000), .int .u64 ((hi * 18446744073709551616 + lo) % 360000000)]) ∧ w' = w := by
  have hA : bits .and .u64 12369505812480000000 4294967295 = 0 := by decide +kernel
  have hO := or35 hi lo (by omega) (by omega) l0 l1
  have hW : IntKind.u64.wrap (lo * 34359738368) = lo % 536870912 * 34359738368 := by rw [IntKind.wrap_u64]; omega
  have hL := and35 (lo % 536870912) (by omega) (by omega)
  have hL8 : lo % 536870912 * 34359738368 / 4294967296 = lo % 536870912 * 8 := by omega
  have HU : Hid (∃ U, U = hi * 34359738368 + lo / 536870912 ∧ 0 ≤ U ∧ U < 12369505812480000000) := ⟨_, rfl, by omega, by omega⟩
  have HL : Hid (∃ L, L = lo % 536870912 ∧ 0 ≤ L ∧ L < 536870912) := ⟨_, rfl, by omega, by omega⟩
  obtain ⟨U, eU, U0, U1⟩ := HU.out
  obtain ⟨L, eL, L0, L1⟩ := HL.out
  rw [← eU] at hO
  rw [← eL] at hW hL hL8
  have HV : Hid (∃ V, V = U % 2880000000 * 4294967296 + L * 8 ∧ 0 ≤ V ∧ V < 12369505812480000000) := ⟨_, rfl, by omega, by omega⟩
  obtain ⟨V, eV, V0, V1⟩ := HV.out
  have hV := wr_360 U L L0 L1
  rw [← eV] at hV
  have hR := wq_360 V
  have HF : Hid (U / 2880000000 * 4294967296 + V / 2880000000 = (hi * 18446744073709551616 + lo) / 360000000 ∧ V % 2880000000 * 4294967296 / 34359738368 = (hi * 18446744073709551616 + lo) % 360000000) := fin_360 hi lo U L V eU eL eV
  clear eU eL eV HU HL HV
  have bq : U / 2880000000 * 4294967296 + V / 2880000000 < 18446744073709551616 := by have := HF.out.1; omega
  go_enter Tryd.func95, Tryd.ntmps95
  go_wp2_with (go_at_call 101; refine (lz64_360 _).mono ?_; rintro e w' ⟨rfl, rfl⟩)
  go_loop [15, 16] (fun q r => q = .int .u64 (U / 2880000000) ∧ r = .int .u64 (U - U / 2880000000 * 2880000000)) (fun _ _ => 0)
  case atStart => exact ⟨rfl, rfl⟩
  case round =>
    obtain ⟨rfl, rfl⟩ := hrel
    go_wp2
    go_loop [18, 16] (fun q r => q = .int .u64 (V / 2880000000) ∧ r = .int .u64 (V - V / 2880000000 * 2880000000)) (fun _ _ => 0)
    case atStart => exact ⟨rfl, rfl⟩
    case round =>
      obtain ⟨rfl, rfl⟩ := hrel
      go_wp2
      go_ret2
      rw [← HF.out.1, ← HF.out.2]
      exact ⟨rfl, rfl⟩
end Go.Proofs.YtanndhoimpnhpaaDoor
