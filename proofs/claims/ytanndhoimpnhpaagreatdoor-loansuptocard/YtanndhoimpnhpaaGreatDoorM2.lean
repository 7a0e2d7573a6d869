/- Joined by program: LnG, Lg, LnA, LnB, At. -/
import Derived.Test.YtanndhoimpnhpaaGreatDoorChecked
import Derived.Test.YtanndhoimpnhpaaGreatDoorM1
import Derived.WalkKit
import Derived.ProofKit
import Derived.OpenShut
import Derived.Below
import Derived.Laws.AppendOwn
/- What the document's fits, ahead and right answer. -/
namespace Go.Proofs.YtanndhoimpnhpaaGreatDoor
open Go.ChangeShapes Go.WideShapes Go.ChangeAt Go.RowKit

theorem ret_bool {a b : Bool} (h : a = b) : Ending.returned (.bool a) = .returned (.bool b) := by rw [h]

set_option maxHeartbeats 1000000 in
theorem fits_any (k a : Int) (w : World) :
    Calls Tryz.prog 91 #[.int .i64 k, .int .i64 a] w fun e w' => e = .returned (.bool (fitsB k a)) ∧ w' = w := by
  by_cases h15 : k = 1 ∨ k = 5
  · have E : Hid (fitsB k a = (decide (1 ≤ a) && decide (a ≤ 100000000000))) := by simp [fitsB, h15, Hid]
    by_cases h : 1 ≤ a
    · have hd : decide (1 ≤ a) = true := by simp [h]
      rcases h15 with h1 | h1
      all_goals
        subst h1
        go_enter Tryz.func91, Tryz.ntmps91
        go_wp2
        go_ret
        exact ⟨ret_bool (by rw [E.out, hd]; rfl), rfl⟩
    · have hd : decide (1 ≤ a) = false := by simp [h]
      rcases h15 with h1 | h1
      all_goals
        subst h1
        go_enter Tryz.func91, Tryz.ntmps91
        go_wp2
        go_ret
        exact ⟨ret_bool (by rw [E.out, hd]; rfl), rfl⟩
  · obtain ⟨n1, n5⟩ : ¬ k = 1 ∧ ¬ k = 5 := by omega
    by_cases h2 : k = 2
    · have E : Hid (fitsB k a = (decide (0 ≤ a) && decide (a ≤ 1000000))) := by simp [fitsB, h2, Hid]
      subst h2
      clear h15
      by_cases h : 0 ≤ a
      · have hd : decide (0 ≤ a) = true := by simp [h]
        go_enter Tryz.func91, Tryz.ntmps91
        go_wp2
        go_ret
        exact ⟨ret_bool (by rw [E.out, hd]; rfl), rfl⟩
      · have hd : decide (0 ≤ a) = false := by simp [h]
        go_enter Tryz.func91, Tryz.ntmps91
        go_wp2
        go_ret
        exact ⟨ret_bool (by rw [E.out, hd]; rfl), rfl⟩
    · by_cases h3 : k = 3
      · have E : Hid (fitsB k a = (decide (1 ≤ a) && decide (a ≤ 400))) := by simp [fitsB, h3, Hid]
        subst h3
        clear h15
        by_cases h : 1 ≤ a
        · have hd : decide (1 ≤ a) = true := by simp [h]
          go_enter Tryz.func91, Tryz.ntmps91
          go_wp2
          go_ret
          exact ⟨ret_bool (by rw [E.out, hd]; rfl), rfl⟩
        · have hd : decide (1 ≤ a) = false := by simp [h]
          go_enter Tryz.func91, Tryz.ntmps91
          go_wp2
          go_ret
          exact ⟨ret_bool (by rw [E.out, hd]; rfl), rfl⟩
      · have E : Hid (fitsB k a = (a == 0)) := by simp [fitsB, h15, h2, h3, Hid]; rfl
        clear h15
        go_enter Tryz.func91, Tryz.ntmps91
        go_wp2
        go_ret
        exact ⟨ret_bool (by rw [E.out]), rfl⟩

/-- Is event a ahead of b? -/
def evc (e : Ln.Ev) : Value := .agg #[.int .i64 e.d, .int .i64 e.k, .int .i64 e.s, .int .i64 e.a]
set_option maxHeartbeats 1000000 in
theorem ahead_any (a b : Ln.Ev) (w : World) :
    Calls Tryz.prog 100 #[evc a, evc b] w fun e w' => e = .returned (.bool (aheadB a b)) ∧ Below w.heap.size w w' := by
  obtain ⟨d, k, s, x⟩ := a
  obtain ⟨d', k', s', x'⟩ := b
  unfold evc
  by_cases h1 : d = d'
  · by_cases h2 : k = k'
    · have E : Hid (aheadB ⟨d, k, s, x⟩ ⟨d', k', s', x'⟩ = decide (s < s')) := by simp [aheadB, h1, h2, Hid]
      have e1 : (d != d') = false := by simp [h1]
      have e2 : (k != k') = false := by simp [h2]
      clear h1 h2
      go_enter Tryz.func100, Tryz.ntmps100
      go_wp2
      go_ret
      exact ⟨ret_bool (by rw [E.out]), ((Below.refl _ _).alloc (Nat.le_refl _) _).alloc (by simp) _⟩
    · have E : Hid (aheadB ⟨d, k, s, x⟩ ⟨d', k', s', x'⟩ = decide (k < k')) := by simp [aheadB, h1, h2, Hid]
      have e1 : (d != d') = false := by simp [h1]
      have e2 : (k != k') = true := by simp [h2]
      clear h1 h2
      go_enter Tryz.func100, Tryz.ntmps100
      go_wp2
      go_ret
      exact ⟨ret_bool (by rw [E.out]), ((Below.refl _ _).alloc (Nat.le_refl _) _).alloc (by simp) _⟩
  · have E : Hid (aheadB ⟨d, k, s, x⟩ ⟨d', k', s', x'⟩ = decide (d < d')) := by simp [aheadB, h1, Hid]
    have e1 : (d != d') = true := by simp [h1]
    clear h1
    go_enter Tryz.func100, Tryz.ntmps100
    go_wp2
    go_ret
    exact ⟨ret_bool (by rw [E.out]), ((Below.refl _ _).alloc (Nat.le_refl _) _).alloc (by simp) _⟩
end Go.Proofs.YtanndhoimpnhpaaGreatDoor

/- Long numbers: digits below a million, the least first. -/
namespace Go.Proofs.YtanndhoimpnhpaaGreatDoor.Lg

def lv : List Int → Int
  | [] => 0
  | d :: r => d + 1000000 * lv r
def Dig (l : List Int) : Prop := ∀ d ∈ l, 0 ≤ d ∧ d < 1000000
theorem lv_nn : ∀ l : List Int, Dig l → 0 ≤ lv l
  | [], _ => Int.le_refl _
  | d :: r, h => by
    have h1 := h d (by simp)
    have h2 := lv_nn r (fun x hx => h x (by simp [hx]))
    show 0 ≤ d + 1000000 * lv r
    omega
theorem lv_drop (l : List Int) (k : Nat) (h : k < l.length) : lv (l.drop k) = l.getD k 0 + 1000000 * lv (l.drop (k + 1)) := by
  rw [List.drop_eq_getElem_cons h]
  show l[k] + 1000000 * lv (l.drop (k + 1)) = _
  rw [List.getD_eq_getElem?_getD, List.getElem?_eq_getElem h]
  rfl
theorem dig_drop {l : List Int} (h : Dig l) (k : Nat) : Dig (l.drop k) := fun d hd => h d (List.mem_of_mem_drop hd)
theorem dig_at {l : List Int} (h : Dig l) (k : Nat) (hk : k < l.length) : 0 ≤ l.getD k 0 ∧ l.getD k 0 < 1000000 := by
  rw [List.getD_eq_getElem?_getD, List.getElem?_eq_getElem hk]
  exact h _ (List.getElem_mem hk)
/-- Division, digit by digit. -/
theorem div_step (H n y : Int) (hy : 0 < y) : (n + 1000000 * H) / y = 1000000 * (H / y) + (1000000 * (H % y) + n) / y ∧ (n + 1000000 * H) % y = (1000000 * (H % y) + n) % y := by
  have e : n + 1000000 * H = (1000000 * (H % y) + n) + (1000000 * (H / y)) * y := by
    have := Int.mul_ediv_add_emod H y
    have h2 : 1000000 * (y * (H / y)) = 1000000 * (H / y) * y := by rw [Int.mul_comm y, Int.mul_assoc]
    omega
  rw [e]
  refine ⟨?_, ?_⟩
  · rw [Int.add_mul_ediv_right _ _ (by omega)]; omega
  · rw [Int.add_mul_emod_self_right]
theorem lv_low (d : Int) (r : List Int) (h0 : 0 ≤ d) (h1 : d < 1000000) : lv (d :: r) / 1000000 = lv r := by
  show (d + 1000000 * lv r) / 1000000 = lv r
  omega
/-- The digits of n more by a times b: the carry c goes along. -/
def addTo (c a b : Int) : List Int → List Int
  | [] => []
  | d :: r => (c + d + a % 1000000 * b) % 1000000 :: addTo ((c + d + a % 1000000 * b) / 1000000) (a / 1000000) b r
theorem addTo_dig (b : Int) : ∀ (l : List Int) (c a : Int), Dig (addTo c a b l)
  | [], _, _ => by intro d hd; simp [addTo] at hd
  | d :: r, c, a => by
    intro x hx
    simp only [addTo, List.mem_cons] at hx
    rcases hx with rfl | hx
    · omega
    · exact addTo_dig b r _ _ x hx
theorem addTo_len (b : Int) : ∀ (l : List Int) (c a : Int), (addTo c a b l).length = l.length
  | [], _, _ => rfl
  | _ :: r, c, a => by simp [addTo, addTo_len b r]
/-- The sum, if it has no more digits. -/
theorem addTo_lv (b : Int) (hb : 0 ≤ b) : ∀ (l : List Int) (c a : Int), Dig l → 0 ≤ c → 0 ≤ a → c + lv l + a * b < 1000000 ^ l.length → lv (addTo c a b l) = c + lv l + a * b
  | [], c, a, _, hc, ha, hs => by
    have hm := Int.mul_nonneg ha hb
    have h1 : c + 0 + a * b < 1 := hs
    show (0 : Int) = c + 0 + a * b
    omega
  | d :: r, c, a, hd, hc, ha, hs => by
    have h1 := hd d (by simp)
    have hr : Dig r := fun x hx => hd x (by simp [hx])
    have hn := lv_nn r hr
    have q0 : 0 ≤ a / 1000000 := Int.ediv_nonneg ha (by decide)
    have m0 : 0 ≤ a % 1000000 * b := Int.mul_nonneg (Int.emod_nonneg _ (by decide)) hb
    have e1 : a * b = a % 1000000 * b + 1000000 * (a / 1000000 * b) := by
      have := Int.mul_ediv_add_emod a 1000000
      rw [← Int.mul_assoc, ← Int.add_mul]
      congr 1
      omega
    have hs2 : c + (d + 1000000 * lv r) + a * b < 1000000 ^ r.length * 1000000 := by
      have : (1000000 : Int) ^ (d :: r).length = 1000000 ^ r.length * 1000000 := by rw [List.length_cons, Int.pow_succ]
      rw [← this]
      exact hs
    generalize hx : c + d + a % 1000000 * b = x at *
    have hx0 : 0 ≤ x := by omega
    have ih := addTo_lv b hb r (x / 1000000) (a / 1000000) hr (Int.ediv_nonneg hx0 (by decide)) q0 (by
      generalize a / 1000000 * b = z at *
      generalize (1000000 : Int) ^ r.length = p at *
      omega)
    show lv ((c + d + a % 1000000 * b) % 1000000 :: addTo ((c + d + a % 1000000 * b) / 1000000) (a / 1000000) b r) = _
    rw [hx]
    show x % 1000000 + 1000000 * lv (addTo (x / 1000000) (a / 1000000) b r) = c + (d + 1000000 * lv r) + a * b
    rw [ih]
    generalize a / 1000000 * b = z at *
    omega
end Go.Proofs.YtanndhoimpnhpaaGreatDoor.Lg

/- What the document's long numbers answer: the whole part, and a sum. -/
namespace Go.Proofs.YtanndhoimpnhpaaGreatDoor
open Go.ChangeShapes Go.WideShapes Go.ChangeAt Go.RowKit Lg

/-- A row of integers at the head of a block. -/
def Ints (w : World) (b : Nat) (l : List Int) : Prop := ∀ j, j < l.length → w.cell? ⟨b, j, none⟩ = some (.int .i64 (l.getD j 0))

theorem part_nil (year : Int) (cap : Nat) (w : World) :
    Calls Tryz.prog 122 #[.slice none 0 cap, .int .i64 year] w fun e w' => e = .returned (.int .i64 0) ∧ w' = w := by
  go_enter Tryz.func122, Tryz.ntmps122
  go_wp2
  go_loop [5, 7] (fun o i => o = .int .i64 0 ∧ i = .int .i64 (-1)) (fun _ _ => 0)
  case atStart => exact ⟨rfl, rfl⟩
  case round =>
    obtain ⟨rfl, rfl⟩ := hrel
    go_wp2
    go_ret
    exact ⟨rfl, rfl⟩

set_option maxHeartbeats 400000 in
theorem part_any (l : List Int) (b cap : Nat) (year : Int) (w : World) (hl : l.length = 6) (hD : Dig l) (hc : Ints w b l) (y0 : 1 ≤ year) (y1 : year ≤ 400) (hb : lv (l.drop 1) / year ≤ 9000000000000000000) :
    Calls Tryz.prog 122 #[.slice (some ⟨b, 0, none⟩) 6 cap, .int .i64 year] w fun e w' => e = .returned (.int .i64 (lv l / 1000000 / year)) ∧ w' = w := by
  have hlow : lv l / 1000000 = lv (l.drop 1) := by
    match l, hl with
    | d :: r, _ => exact lv_low d r (hD d (by simp)).1 (hD d (by simp)).2
  rw [hlow]
  clear hlow
  go_enter Tryz.func122, Tryz.ntmps122
  go_wp2
  go_loop [5, 6, 7] (fun o r i => ∃ k : Nat, k ≤ 5 ∧ i = .int .i64 k ∧ o = .int .i64 (lv (l.drop (k + 1)) / year) ∧ r = .int .i64 (lv (l.drop (k + 1)) % year)) (fun _ _ i => (intOf i).toNat)
  case atStart => exact ⟨5, by omega, rfl, by rw [List.drop_of_length_le (by omega)]; simp [lv], by rw [List.drop_of_length_le (by omega)]; simp [lv]⟩
  case round =>
    obtain ⟨k, hk, rfl, rfl, rfl⟩ := hrel
    by_cases h1 : 1 ≤ k
    · have hcell := hc k (by omega)
      obtain ⟨g0, g1⟩ := dig_at hD k (by omega)
      have hd := lv_drop l k (by omega)
      have hs := div_step (lv (l.drop (k + 1))) (l.getD k 0) year (by omega)
      rw [← hd] at hs
      have hn := lv_nn _ (dig_drop hD (k + 1))
      have hm0 := Int.emod_nonneg (lv (l.drop (k + 1))) (show year ≠ 0 by omega)
      have hm1 := Int.emod_lt_of_pos (lv (l.drop (k + 1))) (show 0 < year by omega)
      have hq0 : 0 ≤ lv (l.drop (k + 1)) / year := Int.ediv_nonneg hn (by omega)
      have hmono : ∀ j : Nat, 1 ≤ j → j ≤ 5 → lv (l.drop j) / year ≤ 9000000000000000000 := by
        intro j j1 j5
        have step : ∀ i : Nat, i < 6 → lv (l.drop (i + 1)) / year ≤ lv (l.drop i) / year := fun i hi => by
          have e1 := lv_drop l i (by omega)
          have e2 := dig_at hD i (by omega)
          have e3 := lv_nn _ (dig_drop hD (i + 1))
          exact Int.ediv_le_ediv (by omega) (by omega)
        have a1 : lv (l.drop 2) / year ≤ lv (l.drop 1) / year := step 1 (by omega)
        have a2 : lv (l.drop 3) / year ≤ lv (l.drop 2) / year := step 2 (by omega)
        have a3 : lv (l.drop 4) / year ≤ lv (l.drop 3) / year := step 3 (by omega)
        have a4 : lv (l.drop 5) / year ≤ lv (l.drop 4) / year := step 4 (by omega)
        rcases (show j = 1 ∨ j = 2 ∨ j = 3 ∨ j = 4 ∨ j = 5 by omega) with rfl | rfl | rfl | rfl | rfl <;> omega
      have hbk := hmono k h1 hk
      have HS := (show Hid _ from hs)
      have hq1 : 1000000 * (lv (l.drop (k + 1)) / year) ≤ 9000000000000000000 := by
        have := hs.1
        have : 0 ≤ (1000000 * (lv (l.drop (k + 1)) % year) + l.getD k 0) / year := Int.ediv_nonneg (by omega) (by omega)
        omega
      have hq2 : 1000000 * (lv (l.drop (k + 1)) / year) + (1000000 * (lv (l.drop (k + 1)) % year) + l.getD k 0) / year ≤ 9000000000000000000 := by rw [← hs.1]; exact hbk
      have hq3 : 0 ≤ (1000000 * (lv (l.drop (k + 1)) % year) + l.getD k 0) / year := Int.ediv_nonneg (by omega) (by omega)
      clear hs hd hmono hbk hb
      generalize lv (l.drop (k + 1)) % year = m at *
      generalize lv (l.drop (k + 1)) / year = q at *
      generalize l.getD k 0 = v at *
      have hk' : (0 : Int) ≤ (k : Int) ∧ (k : Int) < 6 := by omega
      go_wp2
      go_round
      case rel => exact ⟨k - 1, by omega, by go_num, by rw [show k - 1 + 1 = k by omega, HS.out.1], by rw [show k - 1 + 1 = k by omega, HS.out.2]⟩
      case measure => simp [intOf]; omega
    · obtain rfl : k = 0 := by omega
      go_wp2
      go_ret
      exact ⟨rfl, rfl⟩
end Go.Proofs.YtanndhoimpnhpaaGreatDoor

/- What the document's long sum answers. -/
namespace Go.Proofs.YtanndhoimpnhpaaGreatDoor
open Go.ChangeShapes Go.WideShapes Go.ChangeAt Go.RowKit Lg

theorem infoInt : (Tryz.prog.info? 3).map (fun i => (i.zero, i.size, i.bytes)) = some (some (.int .i64 0), 1, 8) := by kernel_rfl

/-- The carry and what is left of a ahead of digit k. -/
def cy (L : Nat → Int) (a b : Int) : Nat → Int × Int
  | 0 => (0, a)
  | k + 1 => (((cy L a b k).1 + L k + (cy L a b k).2 % 1000000 * b) / 1000000, (cy L a b k).2 / 1000000)
def od (L : Nat → Int) (a b : Int) (k : Nat) : Int := ((cy L a b k).1 + L k + (cy L a b k).2 % 1000000 * b) % 1000000
def ods (L : Nat → Int) (a b : Int) (k : Nat) : List Int := (List.range k).map (od L a b)
theorem ods_six (l : List Int) (a b : Int) (h : l.length = 6) : ods (fun j => l.getD j 0) a b 6 = addTo 0 a b l := by
  match l, h with
  | [d0, d1, d2, d3, d4, d5], _ => rfl
theorem ods_succ (L : Nat → Int) (a b : Int) (k : Nat) : ods L a b (k + 1) = ods L a b k ++ [od L a b k] := by
  simp [ods, List.range_succ]
theorem ods_len (L : Nat → Int) (a b : Int) (k : Nat) : (ods L a b k).length = k := by simp [ods]
theorem cy_bd (L : Nat → Int) (a b : Int) (hL : ∀ j, 0 ≤ L j ∧ L j < 1000000) (ha : 0 ≤ a) (hb0 : 0 ≤ b) (hb1 : b ≤ 4000000) : ∀ k, 0 ≤ (cy L a b k).1 ∧ (cy L a b k).1 ≤ 5000000 ∧ 0 ≤ (cy L a b k).2 ∧ (cy L a b k).2 ≤ a
  | 0 => ⟨Int.le_refl _, by show (0 : Int) ≤ 5000000; decide, ha, Int.le_refl _⟩
  | k + 1 => by
    obtain ⟨h1, h2, h3, h4⟩ := cy_bd L a b hL ha hb0 hb1 k
    have h5 := hL k
    have m0 : 0 ≤ (cy L a b k).2 % 1000000 := Int.emod_nonneg _ (by decide)
    have m1 : (cy L a b k).2 % 1000000 ≤ 999999 := by omega
    have p0 := Int.mul_nonneg m0 hb0
    have p1 : (cy L a b k).2 % 1000000 * b ≤ 999999 * 4000000 := Int.mul_le_mul m1 hb1 hb0 (by decide)
    show 0 ≤ ((cy L a b k).1 + L k + (cy L a b k).2 % 1000000 * b) / 1000000 ∧ ((cy L a b k).1 + L k + (cy L a b k).2 % 1000000 * b) / 1000000 ≤ 5000000 ∧ 0 ≤ (cy L a b k).2 / 1000000 ∧ (cy L a b k).2 / 1000000 ≤ a
    omega

/-- Integers as cells. -/
def icells (l : List Int) : List Value := l.map (Value.int .i64)

theorem own_from {w : World} {base : Nat} {e : TypeId} {size : Nat} {v : Value} {n : Nat} {xs : List Value} (h : w.ownsRow base e size v n xs) {k : Nat} (hk : v.ownBlock = some k) : base ≤ k := by
  obtain ⟨_, ⟨rfl, _⟩ | ⟨g, cap, cur, rfl, hg, _⟩⟩ := h
  · simp [Value.ownBlock] at hk
  · simp [Value.ownBlock] at hk
    omega

set_option maxRecDepth 10000 in
set_option maxHeartbeats 1000000 in
theorem plus_core (v : Value) (n : Nat) (L : Nat → Int) (a b : Int) (w : World) (hn : n ≤ 6) (hL : ∀ j, 0 ≤ L j ∧ L j < 1000000) (ha : 0 ≤ a) (ha1 : a ≤ 4000000000000000000) (hb0 : 0 ≤ b) (hb1 : b ≤ 4000000)
    (hv : (n = 0 ∧ v = .slice none 0 0 ∧ ∀ j, L j = 0) ∨ ∃ g cap, n = 6 ∧ v = .slice (some ⟨g, 0, none⟩) 6 cap ∧ g < w.heap.size ∧ ∀ j, j < 6 → w.cell? ⟨g, j, none⟩ = some (.int .i64 (L j))) :
    Calls Tryz.prog 123 #[v, .int .i64 a, .int .i64 b] w fun e w' => ∃ r, e = .returned r ∧ w'.ownsRow w.heap.size 3 1 r 6 (icells (ods L a b 6)) ∧ Below w.heap.size w w' := by
  obtain ⟨i0, hi, hz0, hz1, hz2⟩ := info_parts infoInt
  rcases hv with ⟨rfl, rfl, hz⟩ | ⟨g, cap, rfl, rfl, hg, hc⟩
  · go_enter Tryz.func123, Tryz.ntmps123
    go_wp2
    go_loopw [1, 7, 8, 9] (fun q o c i wr => ∃ k : Nat, k ≤ 6 ∧ i = .int .i64 k ∧ q = .int .i64 (cy L a b k).2 ∧ c = .int .i64 (cy L a b k).1 ∧ wr.ownsRow w.heap.size 3 1 o k (icells (ods L a b k)) ∧ Below w.heap.size w wr) (fun _ _ _ i _ => 6 - (intOf i).toNat)
    case atStart => exact ⟨0, by omega, rfl, rfl, rfl, World.ownsRow_nil _ _ _ _, Below.refl _ _⟩
    case round =>
      obtain ⟨k, hk, rfl, rfl, rfl, hown, hbel⟩ := hrel
      obtain ⟨b1, b2, b3, b4⟩ := cy_bd L a b hL ha hb0 hb1 k
      have hLk := hL k
      have hcy : Hid (cy L a b (k + 1) = (((cy L a b k).1 + L k + (cy L a b k).2 % 1000000 * b) / 1000000, (cy L a b k).2 / 1000000)) := rfl
      have hod : Hid (od L a b k = ((cy L a b k).1 + L k + (cy L a b k).2 % 1000000 * b) % 1000000) := rfl
      have m0 : 0 ≤ (cy L a b k).2 % 1000000 := Int.emod_nonneg _ (by decide)
      have m1 : (cy L a b k).2 % 1000000 ≤ 999999 := by omega
      have p0 := Int.mul_nonneg m0 hb0
      have p1 : (cy L a b k).2 % 1000000 * b ≤ 3999996000000 := Int.mul_le_mul m1 hb1 hb0 (by decide)
      by_cases hlt : k < 6
      · have hLz := hz k
        rw [hLz, Int.add_zero] at hcy hod
        generalize (cy L a b k).1 = c at *
        generalize (cy L a b k).2 = q at *
        clear hL hLk hLz hz
        have hk6 : (k : Int) < 6 := by omega
        go_wp2_with (at_builtin; refine wpList_append_own _ rfl _ _ 164 rfl w.heap.size 3 i0 (.int .i64 0) 1 8 Tryz.underlying164 hi hz0 hz1 hz2 rfl (by decide) _ _ _ rfl (hown.alloc _) ⟨wr.heap.size, 0, none⟩ 1 1 [.int .i64 ((c + q % 1000000 * b) % 1000000)] rfl rfl ?c1 ?c2 ?c3 ?c4 ?c5 ?_)
        case c1 =>
          intro j u hj
          match j, hj with
          | 0, hj => simp at hj; subst hj; simp [Addr.add]
        case c2 => intro u hu; simp at hu; subst hu; rfl
        case c3 => unfold maxLen; omega
        case c4 => omega
        case c5 => have := hbel.size; simp; omega
        · intro v' w1 hown' hgrow _
          have hb1 : Below w.heap.size w w1 := (hbel.alloc hbel.size _).grown hgrow (by simp; exact Nat.le_succ_of_le hbel.size) (fun j hj => own_from hown hj)
          have hown2 : w1.ownsRow w.heap.size 3 1 v' (k + 1) (icells (ods L a b (k + 1))) := by
            rw [ods_succ, hod.out]
            simpa [icells] using hown'
          clear hown' hgrow hown hbel
          go_wp2
          go_roundw
          case rel => exact ⟨k + 1, by omega, by go_num, by rw [hcy.out], by rw [hcy.out], hown2, hb1⟩
          case measure => simp [intOf]; omega
      · obtain rfl : k = 6 := by omega
        clear hL hcy hod hz
        go_wp2
        go_ret
        exact ⟨_, rfl, hown, hbel⟩
  · go_enter Tryz.func123, Tryz.ntmps123
    go_wp2
    go_loopw [1, 7, 8, 9] (fun q o c i wr => ∃ k : Nat, k ≤ 6 ∧ i = .int .i64 k ∧ q = .int .i64 (cy L a b k).2 ∧ c = .int .i64 (cy L a b k).1 ∧ wr.ownsRow w.heap.size 3 1 o k (icells (ods L a b k)) ∧ Below w.heap.size w wr) (fun _ _ _ i _ => 6 - (intOf i).toNat)
    case atStart => exact ⟨0, by omega, rfl, rfl, rfl, World.ownsRow_nil _ _ _ _, Below.refl _ _⟩
    case round =>
      obtain ⟨k, hk, rfl, rfl, rfl, hown, hbel⟩ := hrel
      obtain ⟨b1, b2, b3, b4⟩ := cy_bd L a b hL ha hb0 hb1 k
      have hLk := hL k
      have hcy : Hid (cy L a b (k + 1) = (((cy L a b k).1 + L k + (cy L a b k).2 % 1000000 * b) / 1000000, (cy L a b k).2 / 1000000)) := rfl
      have hod : Hid (od L a b k = ((cy L a b k).1 + L k + (cy L a b k).2 % 1000000 * b) % 1000000) := rfl
      have m0 : 0 ≤ (cy L a b k).2 % 1000000 := Int.emod_nonneg _ (by decide)
      have m1 : (cy L a b k).2 % 1000000 ≤ 999999 := by omega
      have p0 := Int.mul_nonneg m0 hb0
      have p1 : (cy L a b k).2 % 1000000 * b ≤ 3999996000000 := Int.mul_le_mul m1 hb1 hb0 (by decide)
      by_cases hlt : k < 6
      · have hcell : wr.cell? ⟨g, k, none⟩ = some (.int .i64 (L k)) := (hbel.cell (p := ⟨g, k, none⟩) hg).trans (hc k hlt)
        generalize (cy L a b k).1 = c at *
        generalize (cy L a b k).2 = q at *
        clear hc hL hg
        have hk6 : (k : Int) < 6 := by omega
        generalize L k = d at *
        go_wp2_with (at_builtin; refine wpList_append_own _ rfl _ _ 164 rfl w.heap.size 3 i0 (.int .i64 0) 1 8 Tryz.underlying164 hi hz0 hz1 hz2 rfl (by decide) _ _ _ rfl (hown.alloc _) ⟨wr.heap.size, 0, none⟩ 1 1 [.int .i64 ((c + d + q % 1000000 * b) % 1000000)] rfl rfl ?c1 ?c2 ?c3 ?c4 ?c5 ?_)
        case c1 =>
          intro j u hj
          match j, hj with
          | 0, hj => simp at hj; subst hj; simp [Addr.add]
        case c2 => intro u hu; simp at hu; subst hu; rfl
        case c3 => unfold maxLen; omega
        case c4 => omega
        case c5 => have := hbel.size; simp; omega
        · intro v' w1 hown' hgrow _
          have hb1 : Below w.heap.size w w1 := (hbel.alloc hbel.size _).grown hgrow (by simp; exact Nat.le_succ_of_le hbel.size) (fun j hj => own_from hown hj)
          have hown2 : w1.ownsRow w.heap.size 3 1 v' (k + 1) (icells (ods L a b (k + 1))) := by
            rw [ods_succ, hod.out]
            simpa [icells] using hown'
          clear hown' hgrow hown hbel
          go_wp2
          go_roundw
          case rel => exact ⟨k + 1, by omega, by go_num, by rw [hcy.out], by rw [hcy.out], hown2, hb1⟩
          case measure => simp [intOf]; omega
      · obtain rfl : k = 6 := by omega
        clear hc hL hg hcy hod
        go_wp2
        go_ret
        exact ⟨_, rfl, hown, hbel⟩
end Go.Proofs.YtanndhoimpnhpaaGreatDoor

/- Cells of one block, all of them known and none frozen: what a store, a draw and new memory do to that. -/
namespace Go.Proofs.YtanndhoimpnhpaaGreatDoor
open Go.RowKit

/-- Block b begins with these cells, none of which is frozen. -/
def At (w : World) (b : Nat) (l : List Value) : Prop := ∀ i v, l[i]? = some v → w.cell? ⟨b, i, none⟩ = some v ∧ w.frozen? ⟨b, i, none⟩ = false
theorem At.cell {w : World} {b : Nat} {l : List Value} (h : At w b l) (i : Nat) {v : Value} (hi : l[i]? = some v) : w.cell? ⟨b, i, none⟩ = some v := (h i v hi).1
theorem At.free {w : World} {b : Nat} {l : List Value} (h : At w b l) (i : Nat) {v : Value} (hi : l[i]? = some v) : w.frozen? ⟨b, i, none⟩ = false := (h i v hi).2
theorem At.lt {w : World} {b : Nat} {v : Value} {l : List Value} (h : At w b (v :: l)) : b < w.heap.size := World.block_lt_of_cell? _ _ (h 0 v rfl).1
theorem At.set {w : World} {b : Nat} {l : List Value} (h : At w b l) (i : Nat) (hi : i < l.length) (v : Value) : At (w.setCell ⟨b, i, none⟩ v) b (l.set i v) := by
  intro j u hj
  rw [World.frozen?_setCell]
  by_cases e : j = i
  · subst e
    rw [List.getElem?_set_self hi] at hj
    obtain rfl := Option.some.inj hj
    obtain ⟨h1, h2⟩ := h j l[j] (List.getElem?_eq_getElem hi)
    exact ⟨World.cell?_setCell_same _ _ _ h1, h2⟩
  · rw [List.getElem?_set_ne (Ne.symm e)] at hj
    obtain ⟨h1, h2⟩ := h j u hj
    rw [World.cell?_setCell_other _ _ _ _ (fun x => e (by injection x with _ y; exact y.symm))]
    exact ⟨h1, h2⟩
theorem At.other {w : World} {b c : Nat} {l : List Value} (h : At w b l) (hne : ¬ c = b) (i : Nat) (v : Value) : At (w.setCell ⟨c, i, none⟩ v) b l := by
  intro j u hj
  obtain ⟨h1, h2⟩ := h j u hj
  rw [World.frozen?_setCell, World.cell?_setCell_other _ _ _ _ (fun x => hne (by injection x))]
  exact ⟨h1, h2⟩
theorem At.block {w w' : World} {b : Nat} {l : List Value} (h : At w b l) (e : w'.heap[b]? = w.heap[b]?) : At w' b l := by
  intro j u hj
  obtain ⟨h1, h2⟩ := h j u hj
  rw [World.cell?_of_block (w := w) (a := ⟨b, j, none⟩) e, World.frozen?_of_block (w := w) (a := ⟨b, j, none⟩) e]
  exact ⟨h1, h2⟩
theorem At.drew {w : World} {b : Nat} {l : List Value} (h : At w b l) : At w.drew b l := h.block rfl

/-- All blocks but those of S are as they were. -/
structure Keep (S : Nat → Prop) (w w' : World) : Prop where
  os : w'.os = w.os
  tape : w'.tape = w.tape
  output : w'.output = w.output
  size : w.heap.size ≤ w'.heap.size
  block : ∀ k, k < w.heap.size → ¬ S k → w'.heap[k]? = w.heap[k]?
theorem Keep.refl (S : Nat → Prop) (w : World) : Keep S w w := ⟨rfl, rfl, rfl, Nat.le_refl _, fun _ _ _ => rfl⟩
theorem Keep.trans {S : Nat → Prop} {a b c : World} (h : Keep S a b) (k : Keep S b c) : Keep S a c :=
  ⟨k.os.trans h.os, k.tape.trans h.tape, k.output.trans h.output, Nat.le_trans h.size k.size, fun i hi hs => (k.block i (Nat.lt_of_lt_of_le hi h.size) hs).trans (h.block i hi hs)⟩
theorem Keep.mono {S T : Nat → Prop} {w w' : World} (h : Keep S w w') (hst : ∀ k, k < w.heap.size → S k → T k) : Keep T w w' :=
  ⟨h.os, h.tape, h.output, h.size, fun k hk ht => h.block k hk (fun s => ht (hst k hk s))⟩
theorem Keep.drew {S : Nat → Prop} {a w : World} (h : Keep S a w) : Keep S a w.drew := ⟨h.os, h.tape, h.output, h.size, h.block⟩
theorem Keep.set {S : Nat → Prop} {a w : World} (h : Keep S a w) {b : Nat} (hb : S b) (i : Nat) (v : Value) : Keep S a (w.setCell ⟨b, i, none⟩ v) :=
  ⟨h.os, h.tape, h.output, by simpa [World.setCell] using h.size, fun k hk hs => by
    rw [Below.heap_setCell _ _ _ _ (fun e => hs (by rw [e]; exact hb))]
    exact h.block k hk hs⟩
theorem Keep.below {S : Nat → Prop} {w w' : World} (h : Below w.heap.size w w') : Keep S w w' := ⟨h.os, h.tape, h.output, h.size, fun k hk _ => h.block k hk⟩
theorem At.keep {S : Nat → Prop} {w w' : World} {b : Nat} {v : Value} {l : List Value} (h : At w b (v :: l)) (k : Keep S w w') (hs : ¬ S b) : At w' b (v :: l) := h.block (k.block b h.lt hs)
theorem At.alloc (w : World) (l : List Value) (T : TypeId) : At (w.alloc (.cells l.toArray T)) w.heap.size l := by
  intro i v hi
  have hb : (w.alloc (.cells l.toArray T)).heap[w.heap.size]? = some (.cells l.toArray T) := (MapKept.heap_alloc w _).1
  refine ⟨?_, ?_⟩
  · simp only [World.cell?, hb]
    simpa using hi
  · simp only [World.frozen?, hb]
    simp
end Go.Proofs.YtanndhoimpnhpaaGreatDoor
