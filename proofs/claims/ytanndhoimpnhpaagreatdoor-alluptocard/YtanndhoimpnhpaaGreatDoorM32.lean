import Derived.Test.YtanndhoimpnhpaaGreatDoorM31
import Derived.Test.YtanndhoimpnhpaaGreatDoorM6
import Derived.Test.YtanndhoimpnhpaaGreatDoorM28
import Derived.Test.YtanndhoimpnhpaaGreatDoorM30
import Derived.Deep.CutRange
import Derived.Deep.CutBlock
namespace Go.Proofs.YtanndhoimpnhpaaGreatDoor
open Go.ChangeShapes Go.WideShapes Go.ChangeAt Go.RowKit Go.WideMaps Go.Maps Lg Cal
def LoadPost (w : World) (s : List UInt8) (e : Ending) (w' : World) : Prop :=
  Below w.heap.size w w' ∧ ((∃ sv B, told s = some sv ∧ e = .returned (.tuple #[.pointer (some ⟨B, 0, none⟩), .int .i64 0]) ∧ IsD w' B sv (Wd (fun _ => False) w w')) ∨ (told s = none ∧ e = .returned (.tuple #[.pointer none, .int .i64 10])))
def LdP (w2 : World) (s : List UInt8) (v4 : Value) (j : Int) (σ : Option Sv) (f : Nat) (wr : World) : Prop :=
  Below w2.heap.size w2 wr ∧ LdT s f j σ ∧ -1 ≤ j ∧ j ≤ 5 ∧ ((σ = none ∧ j = -1 ∧ v4 = .pointer none) ∨ ∃ sv B, σ = some sv ∧ 0 ≤ j ∧ v4 = .pointer (some ⟨B, 0, none⟩) ∧ IsD wr B sv (Wd (fun _ => False) w2 wr) ∧ sv.L.length ≤ f ∧ (j < 4 → sv.L = []))
def LdI (w2 : World) (s : List UInt8) (v4 v7 v8 v9 : Value) (wr : World) : Prop :=
  ∃ (i f : Nat) (j : Int) (σ : Option Sv), v9 = .int .i64 i ∧ v8 = .int .i64 f ∧ v7 = .int .i64 j ∧ f ≤ i ∧ i ≤ s.length ∧ NoL ((s.drop f).take (i - f)) ∧ LdP w2 s v4 j σ f wr
def sameK (j : Int) (k : Nat) : Bool := ((k : Int) == 1 || (k : Int) == 4) && (k : Int) == j
def nextK (j : Int) (k : Nat) : Bool := (k : Int) == j + 1 || ((k : Int) == j + 2 && ((k : Int) == 2 || (k : Int) == 5))
theorem nextOk_eq (j : Int) (k : Nat) : nextOk j k = (sameK j k || nextK j k) := by
  unfold nextOk sameK nextK
  rw [Bool.eq_iff_iff]
  simp only [decide_eq_true_eq, Bool.or_eq_true, Bool.and_eq_true, beq_iff_eq]
  omega
theorem read_more {sv s' : Sv} {k : Nat} {ns : List Int} (h : sv.read k ns = some s') : s'.L.length ≤ sv.L.length + 1 ∧ (k < 4 → s'.L = sv.L) := by
  unfold Sv.read at h
  split at h
  · split at h
    · injection h with h; subst h; exact ⟨Nat.le_succ _, fun _ => rfl⟩
    · cases h
  · split at h
    · injection h with h; subst h; exact ⟨Nat.le_succ _, fun _ => rfl⟩
    · cases h
  · injection h with h; subst h; exact ⟨Nat.le_succ _, fun _ => rfl⟩
  · split at h
    · injection h with h; subst h; exact ⟨by simp, fun x => absurd x (by omega)⟩
    · cases h
  · injection h with h; subst h; exact ⟨Nat.le_succ _, fun _ => rfl⟩
  · cases h
theorem refread_any (w : World) (B : Nat) (sv : Sv) (v : Value) (k : Nat) (ns : List Int) (F : Nat → Prop) (h : IsD w B sv F) (hk0 : 1 ≤ k) (hk1 : k < 6) (hn : ns.length = cnk k) (hL : k < 4 → sv.L = []) (hL2 : sv.L.length ≤ 4000000000000) (hv : IsV w v ns) (hd : ∀ b, v.ownBlock = some b → ¬ F b) :
    Calls Tryz.prog 72 #[.pointer (some ⟨B, 0, none⟩), .int .i64 (k : Int), v] w (ReadPost w B sv F k ns) := by
  have hF : F B := by obtain ⟨_, _, _, hF, _⟩ := id h; exact hF
  have hd' : ∀ b, v.ownBlock = some b → ¬ b = B := fun b hb e => hd b hb (by rw [e]; exact hF)
  match k, hk0, hk1 with
  | 1, _, _ =>
    match ns, hn with
    | [a, b, c, d], _ => exact refread1 w B sv v ⟨a, b, c, d⟩ F h hv
  | 2, _, _ =>
    match ns, hn with
    | [a], _ => exact refread2 w B sv v a F h (hL (by omega)) hv hd'
  | 3, _, _ =>
    match ns, hn with
    | [a0, a1, a2, a3, a4, a5, a6], _ => exact refread3 w B sv v a0 a1 a2 a3 a4 a5 a6 F h hv hd'
  | 4, _, _ =>
    match ns, hn with
    | [a, b, c], _ => exact refread4 w B sv v a b c F h hL2 hv hd
  | 5, _, _ =>
    match ns, hn with
    | [], _ => exact refread5 w B sv v F h
theorem six_of {l : List Int} (h : l.length = 6) : ∃ a0 a1 a2 a3 a4 a5, l = [a0, a1, a2, a3, a4, a5] := by
  match l, h with
  | [a0, a1, a2, a3, a4, a5], _ => exact ⟨a0, a1, a2, a3, a4, a5, rfl⟩
set_option maxRecDepth 10000 in
set_option maxHeartbeats 8000000 in
theorem refload_any (w : World) (s : List UInt8) (hs : s.length ≤ 1000000000000) :
    Calls Tryz.prog 31 #[.string (bs s)] w (LoadPost w s) := by
  have a1 : At (w.alloc (.cells #[.string ⟨#[108, 111, 97, 110]⟩, .string ⟨#[101, 118, 101, 110, 116]⟩, .string ⟨#[97, 116]⟩, .string ⟨#[110, 111, 119]⟩, .string ⟨#[101, 110, 116, 114, 121]⟩, .string ⟨#[101, 110, 100]⟩] 9)) w.heap.size [.string ⟨#[108, 111, 97, 110]⟩, .string ⟨#[101, 118, 101, 110, 116]⟩, .string ⟨#[97, 116]⟩, .string ⟨#[110, 111, 119]⟩, .string ⟨#[101, 110, 116, 114, 121]⟩, .string ⟨#[101, 110, 100]⟩] := At.alloc w [.string ⟨#[108, 111, 97, 110]⟩, .string ⟨#[101, 118, 101, 110, 116]⟩, .string ⟨#[97, 116]⟩, .string ⟨#[110, 111, 119]⟩, .string ⟨#[101, 110, 116, 114, 121]⟩, .string ⟨#[101, 110, 100]⟩] _
  have a2 : At ((w.alloc (.cells #[.string ⟨#[108, 111, 97, 110]⟩, .string ⟨#[101, 118, 101, 110, 116]⟩, .string ⟨#[97, 116]⟩, .string ⟨#[110, 111, 119]⟩, .string ⟨#[101, 110, 116, 114, 121]⟩, .string ⟨#[101, 110, 100]⟩] 9)).alloc (.cells #[.int .i64 6, .int .i64 4, .int .i64 1, .int .i64 7, .int .i64 3, .int .i64 0] 3)) (w.heap.size + 1) [.int .i64 6, .int .i64 4, .int .i64 1, .int .i64 7, .int .i64 3, .int .i64 0] := At.allocs (w.alloc (.cells #[.string ⟨#[108, 111, 97, 110]⟩, .string ⟨#[101, 118, 101, 110, 116]⟩, .string ⟨#[97, 116]⟩, .string ⟨#[110, 111, 119]⟩, .string ⟨#[101, 110, 116, 114, 121]⟩, .string ⟨#[101, 110, 100]⟩] 9)) [.int .i64 6, .int .i64 4, .int .i64 1, .int .i64 7, .int .i64 3, .int .i64 0] _ (by simp)
  have b1 : Below w.heap.size w (w.alloc (.cells #[.string ⟨#[108, 111, 97, 110]⟩, .string ⟨#[101, 118, 101, 110, 116]⟩, .string ⟨#[97, 116]⟩, .string ⟨#[110, 111, 119]⟩, .string ⟨#[101, 110, 116, 114, 121]⟩, .string ⟨#[101, 110, 100]⟩] 9)) := (Below.refl _ _).alloc (Nat.le_refl _) _
  have b2 : Below (w.alloc (.cells #[.string ⟨#[108, 111, 97, 110]⟩, .string ⟨#[101, 118, 101, 110, 116]⟩, .string ⟨#[97, 116]⟩, .string ⟨#[110, 111, 119]⟩, .string ⟨#[101, 110, 116, 114, 121]⟩, .string ⟨#[101, 110, 100]⟩] 9)).heap.size (w.alloc (.cells #[.string ⟨#[108, 111, 97, 110]⟩, .string ⟨#[101, 118, 101, 110, 116]⟩, .string ⟨#[97, 116]⟩, .string ⟨#[110, 111, 119]⟩, .string ⟨#[101, 110, 116, 114, 121]⟩, .string ⟨#[101, 110, 100]⟩] 9)) ((w.alloc (.cells #[.string ⟨#[108, 111, 97, 110]⟩, .string ⟨#[101, 118, 101, 110, 116]⟩, .string ⟨#[97, 116]⟩, .string ⟨#[110, 111, 119]⟩, .string ⟨#[101, 110, 116, 114, 121]⟩, .string ⟨#[101, 110, 100]⟩] 9)).alloc (.cells #[.int .i64 6, .int .i64 4, .int .i64 1, .int .i64 7, .int .i64 3, .int .i64 0] 3)) := (Below.refl _ _).alloc (Nat.le_refl _) _
  have b3 : Below w.heap.size w ((w.alloc (.cells #[.string ⟨#[108, 111, 97, 110]⟩, .string ⟨#[101, 118, 101, 110, 116]⟩, .string ⟨#[97, 116]⟩, .string ⟨#[110, 111, 119]⟩, .string ⟨#[101, 110, 116, 114, 121]⟩, .string ⟨#[101, 110, 100]⟩] 9)).alloc (.cells #[.int .i64 6, .int .i64 4, .int .i64 1, .int .i64 7, .int .i64 3, .int .i64 0] 3)) := b1.trans (b2.mono b1.size)
  have a3 : At ((w.alloc (.cells #[.string ⟨#[108, 111, 97, 110]⟩, .string ⟨#[101, 118, 101, 110, 116]⟩, .string ⟨#[97, 116]⟩, .string ⟨#[110, 111, 119]⟩, .string ⟨#[101, 110, 116, 114, 121]⟩, .string ⟨#[101, 110, 100]⟩] 9)).alloc (.cells #[.int .i64 6, .int .i64 4, .int .i64 1, .int .i64 7, .int .i64 3, .int .i64 0] 3)) w.heap.size [.string ⟨#[108, 111, 97, 110]⟩, .string ⟨#[101, 118, 101, 110, 116]⟩, .string ⟨#[97, 116]⟩, .string ⟨#[110, 111, 119]⟩, .string ⟨#[101, 110, 116, 114, 121]⟩, .string ⟨#[101, 110, 100]⟩] := At.keep (S := fun _ => False) a1 (Keep.below b2) (fun x => x)
  obtain ⟨S, hS⟩ : ∃ S, S = bs s := ⟨_, rfl⟩
  have HSz : Hid (S.size = s.length) := by show _ = _; rw [hS, bs_size]
  have HEx : Hid (∀ a b, S.extract a b = bs ((s.drop a).take (b - a))) := fun a b => by rw [hS, bs_extract]
  have HGet : Hid (∀ i (h : i < s.length) (h2 : i < S.size), S[i] = s[i]) := fun i h h2 => by subst hS; exact bs_get _ i h _
  have zS : S.size ≤ 1000000000000 := by rw [hS, bs_size]; exact hs
  rw [← hS]
  clear hS
  go_enter Tryz.func31, Tryz.ntmps31
  go_wp2
  have HW2 : Hid (Below w.heap.size w ((w.alloc (.cells #[.string ⟨#[108, 111, 97, 110]⟩, .string ⟨#[101, 118, 101, 110, 116]⟩, .string ⟨#[97, 116]⟩, .string ⟨#[110, 111, 119]⟩, .string ⟨#[101, 110, 116, 114, 121]⟩, .string ⟨#[101, 110, 100]⟩] 9)).alloc (.cells #[.int .i64 6, .int .i64 4, .int .i64 1, .int .i64 7, .int .i64 3, .int .i64 0] 3))) := b3
  clear b1 b2 a1 b3
  generalize ((w.alloc (.cells #[.string ⟨#[108, 111, 97, 110]⟩, .string ⟨#[101, 118, 101, 110, 116]⟩, .string ⟨#[97, 116]⟩, .string ⟨#[110, 111, 119]⟩, .string ⟨#[101, 110, 116, 114, 121]⟩, .string ⟨#[101, 110, 100]⟩] 9)).alloc (.cells #[.int .i64 6, .int .i64 4, .int .i64 1, .int .i64 7, .int .i64 3, .int .i64 0] 3)) = w2 at *
  generalize w.heap.size = X at a2 a3
  have HX : Hid (∀ wx, Below w2.heap.size w2 wx → ∀ k, k < 6 → wx.cell? ⟨X, k, none⟩ = some (.string (bs (wdk k)))) := fun wx hx k hk => by
    have hA : At wx X [.string ⟨#[108, 111, 97, 110]⟩, .string ⟨#[101, 118, 101, 110, 116]⟩, .string ⟨#[97, 116]⟩, .string ⟨#[110, 111, 119]⟩, .string ⟨#[101, 110, 116, 114, 121]⟩, .string ⟨#[101, 110, 100]⟩] := At.keep (S := fun _ => False) a3 (Keep.below hx) (fun x => x)
    match k, hk with
    | 0, _ => exact hA.cell 0 rfl
    | 1, _ => exact hA.cell 1 rfl
    | 2, _ => exact hA.cell 2 rfl
    | 3, _ => exact hA.cell 3 rfl
    | 4, _ => exact hA.cell 4 rfl
    | 5, _ => exact hA.cell 5 rfl
  have HY : Hid (∀ wx, Below w2.heap.size w2 wx → ∀ k, k < 6 → wx.cell? ⟨X + 1, k, none⟩ = some (.int .i64 (cnk k : Nat))) := fun wx hx k hk => by
    have hA : At wx (X + 1) [.int .i64 6, .int .i64 4, .int .i64 1, .int .i64 7, .int .i64 3, .int .i64 0] := At.keep (S := fun _ => False) a2 (Keep.below hx) (fun x => x)
    match k, hk with
    | 0, _ => exact hA.cell 0 rfl
    | 1, _ => exact hA.cell 1 rfl
    | 2, _ => exact hA.cell 2 rfl
    | 3, _ => exact hA.cell 3 rfl
    | 4, _ => exact hA.cell 4 rfl
    | 5, _ => exact hA.cell 5 rfl
  clear a2 a3
  have HBad : Hid (∀ wx, Below w2.heap.size w2 wx → told s = none → LoadPost w s (.returned (.tuple #[.pointer none, .int .i64 10])) wx) := fun wx hx hn => ⟨HW2.out.trans (hx.mono HW2.out.size), .inr ⟨hn, rfl⟩⟩
  go_loopw [4, 7, 8, 9, 10, 11, 12, 13, 14, 15, 16] (fun s4 s7 s8 s9 _ _ _ _ _ _ _ wr => LdI w2 s s4 s7 s8 s9 wr) (fun _ _ _ s9 _ _ _ _ _ _ _ _ => s.length - (intOf s9).toNat)
  case atStart => exact ⟨0, 0, -1, none, rfl, rfl, rfl, Nat.le_refl _, Nat.zero_le _, NoL.zero s 0, Below.refl _ _, LdT.start s, by decide, by decide, .inl ⟨rfl, rfl, rfl⟩⟩
  case round =>
    obtain ⟨i, f, j, σ, rfl, rfl, rfl, hfi, hin, hnl, hp⟩ := hrel
    have HNl : Hid (NoL ((s.drop f).take (i - f))) := hnl
    have HP : Hid (LdP w2 s _ j σ f wr) := hp
    have hj0 : -1 ≤ j := hp.2.2.1
    have hj1 : j ≤ 5 := hp.2.2.2.1
    clear hnl hp
    by_cases hlt : i < s.length
    · have zi : (i : Int) < (S.size : Int) := by rw [HSz.out]; omega
      have zi2 : i < S.size := by rw [HSz.out]; exact hlt
      have hg : S[i] = s[i] := HGet.out i hlt zi2
      have HC : Hid (∀ c, s[i] = c → S[i] = c) := fun c hc => hg.trans hc
      by_cases hc : s[i] = 10
      · have zc : ((S[i].toNat : Int) != 10) = false := by rw [hg, hc]; rfl
        have HCc : Hid (s[i] = 10) := hc
        clear hg hc HC
        obtain ⟨word, P, hline, hw, hPb⟩ := cut_blanks ((s.drop f).take (i - f))
        have HPa : Calls Tryz.prog 71 #[.string (S.extract f i)] wr (PartsPost wr word P) := by
          rw [HEx.out, hline]
          exact parts_any wr word P hw hPb (by rw [← hline, List.length_take, List.length_drop]; omega)
        have HLine : Hid ((s.drop f).take (i - f) = word ++ bj P ∧ NoB word ∧ ∀ p ∈ P, NoB p) := ⟨hline, hw, hPb⟩
        clear hline hw hPb
        have zf : (f : Int) ≤ (i : Int) := by omega
        have zi3 : (i : Int) ≤ (S.size : Int) := by omega
        go_wp2_with fail
        refine HPa.mono ?_
        rintro e w1 ⟨hb1, hor⟩
        clear HPa
        obtain ⟨v, ok, rfl, HOr⟩ : ∃ v ok, e = .returned (.tuple #[.string (bs word), v, .bool ok]) ∧ Hid ((ok = true ∧ ∃ ns, Says P ns ∧ IsV w1 v ns ∧ ∀ b, v.ownBlock = some b → wr.heap.size ≤ b) ∨ (ok = false ∧ ¬ ∃ ns, Says P ns)) := by
          rcases hor with ⟨ns, v, h1, rfl, h2, h3⟩ | ⟨h1, v, rfl⟩
          · exact ⟨v, true, rfl, .inl ⟨rfl, ns, h1, h2, h3⟩⟩
          · exact ⟨v, false, rfl, .inr ⟨rfl, h1⟩⟩
        have HB1 : Hid (Below w2.heap.size w2 w1) := HP.out.1.trans (hb1.mono HP.out.1.size)
        have HBr : Hid (Below wr.heap.size wr w1) := hb1
        clear hor hb1
        obtain ⟨Wo, hWo⟩ : ∃ Wo, Wo = bs word := ⟨_, rfl⟩
        have HWo : Hid (∀ l, (bs l = Wo ↔ l = word)) := fun l => ⟨fun h => by rw [hWo] at h; have := bs_eq h; rwa [bs_list] at this, fun h => by rw [hWo, h]⟩
        rw [← hWo]
        clear hWo
        go_upto_block 2 with fail
        go_cut [13] from 19 to 137 (fun s13 wx => ∃ k : Nat, k ≤ 6 ∧ s13 = .int .i64 k ∧ (k < 6 → wdk k = word) ∧ (∀ x, x < k → ¬ wdk x = word) ∧ w1 = wx)
        case first =>
          go_wp2_with fail
          go_loop [13] (fun s13 => ∃ k : Nat, k ≤ 6 ∧ s13 = .int .i64 k ∧ ∀ x, x < k → ¬ wdk x = word) (fun s13 => 6 - (intOf s13).toNat)
          case atStart => exact ⟨0, by omega, rfl, fun x hx => absurd hx (Nat.not_lt_zero x)⟩
          case round =>
            obtain ⟨k, hk, rfl, hkx⟩ := hrel
            have HKx : Hid (∀ x, x < k → ¬ wdk x = word) := hkx
            clear hkx
            by_cases hk6 : k < 6
            · have zk : (k : Int) < 6 := by omega
              have ck : w1.cell? ⟨X, k, none⟩ = some (.string (bs (wdk k))) := HX.out w1 HB1.out k hk6
              have hiff := HWo.out (wdk k)
              by_cases hm : wdk k = word
              · have HM : Hid (wdk k = word) := hm
                have hq : ((bs (wdk k)).toList == Wo.toList) = true := by rw [ba_beq]; exact decide_eq_true (hiff.2 hm)
                have hq2 : ((bs (wdk k)).toList != Wo.toList) = false := by rw [bne, hq]; rfl
                clear hiff hm
                generalize bs (wdk k) = Ak at *
                go_wp2_with fail
                go_meet
                case rel => exact ⟨k, hk, rfl, fun _ => HM.out, HKx.out, rfl⟩
              · have HM : Hid (¬ wdk k = word) := hm
                have hq : ((bs (wdk k)).toList == Wo.toList) = false := by rw [ba_beq]; exact decide_eq_false (fun x => hm (hiff.1 x))
                have hq2 : ((bs (wdk k)).toList != Wo.toList) = true := by rw [bne, hq]; rfl
                clear hiff hm
                generalize bs (wdk k) = Ak at *
                go_wp2_with fail
                exact ⟨⟨k + 1, hk6, rfl, fun x hx => by
                  rcases Nat.lt_or_ge x k with h | h
                  · exact HKx.out x h
                  · obtain rfl : x = k := by omega
                    exact HM.out⟩, by simp [intOf]; omega⟩
            · obtain rfl : k = 6 := by omega
              go_wp2_with fail
              go_meet
              case rel => exact ⟨6, Nat.le_refl _, rfl, fun h => absurd h (Nat.lt_irrefl 6), HKx.out, rfl⟩
        case rest =>
          obtain ⟨k, hk, rfl, hkm, hkx, rfl⟩ := hcut
          have HKm : Hid (k < 6 → wdk k = word) := hkm
          have HKx : Hid (∀ x, x < k → ¬ wdk x = word) := hkx
          clear hkm hkx
          go_upto_region 15 with fail
          go_cut [14] from 19 to 137 (fun s14 wx => s14 = .bool (sameK j k) ∧ w1 = wx)
          case first =>
            have HS : Hid (sameK j k = (((k : Int) == 1 || (k : Int) == 4) && (k : Int) == j)) := rfl
            obtain ⟨x1, e1⟩ : ∃ b, ((k : Int) == 1) = b := ⟨_, rfl⟩
            obtain ⟨x2, e2⟩ : ∃ b, ((k : Int) == 4) = b := ⟨_, rfl⟩
            obtain ⟨x3, e3⟩ : ∃ b, ((k : Int) == j) = b := ⟨_, rfl⟩
            have HS : Hid (sameK j k = ((x1 || x2) && x3)) := by show _ = _; rw [HS.out, e1, e2, e3]
            cases x1 <;> cases x2 <;> cases x3 <;> (go_wp2_with fail; go_meet; case rel => exact ⟨by rw [HS.out]; rfl, rfl⟩)
          case rest =>
            obtain ⟨rfl, rfl⟩ := hcut
            go_upto_region 16 with fail
            go_cut [15] from 19 to 137 (fun s15 wx => s15 = .bool (nextK j k) ∧ w1 = wx)
            case first =>
              have y1 : IntKind.i64.wrap (j + 1) = j + 1 := by rw [IntKind.wrap_i64]; omega
              have y2 : IntKind.i64.wrap (j + 2) = j + 2 := by rw [IntKind.wrap_i64]; omega
              have HS : Hid (nextK j k = ((k : Int) == j + 1 || ((k : Int) == j + 2 && ((k : Int) == 2 || (k : Int) == 5)))) := rfl
              obtain ⟨x1, e1⟩ : ∃ b, ((k : Int) == j + 1) = b := ⟨_, rfl⟩
              obtain ⟨x2, e2⟩ : ∃ b, ((k : Int) == j + 2) = b := ⟨_, rfl⟩
              obtain ⟨x3, e3⟩ : ∃ b, ((k : Int) == 2) = b := ⟨_, rfl⟩
              obtain ⟨x4, e4⟩ : ∃ b, ((k : Int) == 5) = b := ⟨_, rfl⟩
              have HS : Hid (nextK j k = (x1 || (x2 && (x3 || x4)))) := by show _ = _; rw [HS.out, e1, e2, e3, e4]
              cases x1
              · cases x2
                · go_wp2_with fail
                  go_meet
                  case rel => exact ⟨by rw [HS.out]; rfl, rfl⟩
                · cases x3
                  · cases x4
                    · go_wp2_with fail
                      go_meet
                      case rel => exact ⟨by rw [HS.out]; rfl, rfl⟩
                    · go_wp2_with fail
                      go_meet
                      case rel => exact ⟨by rw [HS.out]; rfl, rfl⟩
                  · go_wp2_with fail
                    go_meet
                    case rel => exact ⟨by rw [HS.out]; rfl, rfl⟩
              · go_wp2_with fail
                go_meet
                case rel => exact ⟨by rw [HS.out]; rfl, rfl⟩
            case rest =>
              obtain ⟨rfl, rfl⟩ := hcut
              go_upto_region 17 with fail
              go_cut [103] from 19 to 102 (fun s103 wx => ∃ bad : Bool, s103 = .bool bad ∧ w1 = wx ∧ Hid ((bad = true ∧ told s = none) ∨ (bad = false ∧ k < 6 ∧ nextOk j k = true ∧ ∃ ns, Says P ns ∧ IsV w1 v ns ∧ (∀ b, v.ownBlock = some b → wr.heap.size ≤ b) ∧ ns.length = cnk k)))
              case first =>
                have HNo : Hid ((∀ k ns, ¬ Lnk k ns (word ++ bj P)) → told s = none) := fun h => HP.out.2.1.none hfi hlt HCc.out HNl.out (fun r => by rw [HLine.out.1]; exact fin_bad h)
                rcases HOr.out with ⟨rfl, ns, hsay, hv, hvb⟩ | ⟨rfl, hno⟩
                · by_cases hk6 : k = 6
                  · have HE : Hid (told s = none) := HNo.out (no_word HLine.out.2.1 HLine.out.2.2 (fun x hx => HKx.out x (by omega)))
                    have e6 : ((k : Int) == 6) = true := by rw [hk6]; rfl
                    clear hk6
                    go_wp2_with fail
                    go_meet
                    case rel => exact ⟨true, rfl, rfl, .inl ⟨rfl, HE.out⟩⟩
                  · have hk6 : k < 6 := by omega
                    have e6 : ((k : Int) == 6) = false := by rw [beq_eq_false_iff_ne]; omega
                    have HSay : Hid (Says P ns) := hsay
                    have HV : Hid (IsV w1 v ns ∧ ∀ b, v.ownBlock = some b → wr.heap.size ≤ b) := ⟨hv, hvb⟩
                    obtain ⟨pv, cv, rfl, _, _⟩ := hv
                    clear hsay hvb
                    have ck : w1.cell? ⟨X + 1, k, none⟩ = some (.int .i64 (cnk k : Nat)) := HY.out w1 HB1.out k hk6
                    have zk0 : (k : Int) < 6 := by omega
                    have HN : Hid (nextOk j k = (sameK j k || nextK j k)) := nextOk_eq j k
                    have HNot : Hid (nextOk j k = false → told s = none) := fun hn => by
                      by_cases hc : ns.length = cnk k
                      · exact HP.out.2.1.none hfi hlt HCc.out HNl.out (fun r => by rw [HLine.out.1]; exact fin_not (lnk_of HSay.out hk6 (HKm.out hk6) hc) hn)
                      · exact HNo.out (no_count HLine.out.2.1 HLine.out.2.2 HSay.out hk6 (HKm.out hk6) hc)
                    have HCt : Hid (¬ ns.length = cnk k → told s = none) := fun hc => HNo.out (no_count HLine.out.2.1 HLine.out.2.2 HSay.out hk6 (HKm.out hk6) hc)
                    have HK6 : Hid (k < 6) := hk6
                    by_cases hc : ns.length = cnk k
                    · have ec : ((ns.length : Int) != ((cnk k : Nat) : Int)) = false := by rw [hc]; simp
                      have HC : Hid (ns.length = cnk k) := hc
                      clear hc
                      generalize sameK j k = sm at *
                      generalize nextK j k = nx at *
                      cases sm
                      · cases nx
                        · go_wp2_with fail
                          go_meet
                          case rel => exact ⟨true, rfl, rfl, .inl ⟨rfl, HNot.out HN.out⟩⟩
                        · go_wp2_with fail
                          go_meet
                          case rel => exact ⟨false, rfl, rfl, .inr ⟨rfl, HK6.out, HN.out, ns, HSay.out, HV.out.1, HV.out.2, HC.out⟩⟩
                      · go_wp2_with fail
                        go_meet
                        case rel => exact ⟨false, rfl, rfl, .inr ⟨rfl, HK6.out, HN.out, ns, HSay.out, HV.out.1, HV.out.2, HC.out⟩⟩
                    · have ec : ((ns.length : Int) != ((cnk k : Nat) : Int)) = true := by rw [bne_iff_ne]; omega
                      have HE : Hid (told s = none) := HCt.out hc
                      clear hc
                      generalize sameK j k = sm at *
                      generalize nextK j k = nx at *
                      cases sm
                      · cases nx
                        · go_wp2_with fail
                          go_meet
                          case rel => exact ⟨true, rfl, rfl, .inl ⟨rfl, HE.out⟩⟩
                        · go_wp2_with fail
                          go_meet
                          case rel => exact ⟨true, rfl, rfl, .inl ⟨rfl, HE.out⟩⟩
                      · go_wp2_with fail
                        go_meet
                        case rel => exact ⟨true, rfl, rfl, .inl ⟨rfl, HE.out⟩⟩
                · have HE : Hid (told s = none) := HNo.out (no_says HLine.out.2.1 HLine.out.2.2 hno)
                  clear hno
                  go_wp2_with fail
                  go_meet
                  case rel => exact ⟨true, rfl, rfl, .inl ⟨rfl, HE.out⟩⟩
              case rest =>
                obtain ⟨bad, rfl, rfl, HG⟩ := hcut
                rcases HG.out with ⟨rfl, hn⟩ | ⟨rfl, hk6, hnx, ns, hsay, hv, hvb, hcn⟩
                · have HE : Hid (LoadPost w s (.returned (.tuple #[.pointer none, .int .i64 10])) w1) := HBad.out _ HB1.out hn
                  clear hn
                  go_wp2
                  go_ret2
                  exact HE.out
                · clear HG HOr
                  obtain rfl | hk1 : k = 0 ∨ 1 ≤ k := by omega
                  · have hj : j = -1 := by
                      unfold nextOk at hnx
                      rw [decide_eq_true_eq] at hnx
                      omega
                    have hσ : σ = none := by
                      rcases HP.out.2.2.2.2 with ⟨h1, _⟩ | ⟨_, _, _, h0, _⟩
                      · exact h1
                      · omega
                    subst hσ
                    obtain ⟨a0, a1, a2, a3, a4, a5, rfl⟩ := six_of hcn
                    have HLk : Hid (Lnk 0 [a0, a1, a2, a3, a4, a5] (word ++ bj P)) := lnk_of hsay (by omega) (HKm.out (by omega)) hcn
                    have HNx : Hid (∀ sv, Sv.first [a0, a1, a2, a3, a4, a5] = some sv → LdT s (i + 1) 0 (some sv)) := fun sv h => HP.out.2.1.next hfi hlt HCc.out HNl.out (fun r => by rw [HLine.out.1]; exact fin_step HLk.out hnx (by simpa [stepK] using h))
                    have HNo : Hid (Sv.first [a0, a1, a2, a3, a4, a5] = none → told s = none) := fun h => HP.out.2.1.none hfi hlt HCc.out HNl.out (fun r => by rw [HLine.out.1]; exact fin_fail HLk.out (by simpa [stepK] using h))
                    obtain ⟨b, o, c, rfl, hbl, hcl⟩ := hv.first
                    have HCl : Hid (∀ wx, Below w1.heap.size w1 wx → ∀ x (hx : x < [a0, a1, a2, a3, a4, a5].length), wx.cell? ⟨b, o + x, none⟩ = some (.int .i64 [a0, a1, a2, a3, a4, a5][x])) := fun wx hx x hx2 => (World.cell?_of_block (w := w1) (a := ⟨b, o + x, none⟩) (hx.block b hbl)).trans (hcl x hx2)
                    clear hv hvb hcn hsay hnx hcl hbl HLk hj
                    go_upto_region 22 with fail
                    refine wp_region_held_drew (S := fun wx => Below w1.heap.size w1 wx) (by kernel_rfl) (Below.refl _ _).drew (fun hHeld => ?_)
                    refine wpAnyH_take (i := 0) (v := (.slice (some ⟨b, o, none⟩) [a0, a1, a2, a3, a4, a5].length c)) rfl (by kernel_rfl) (by kernel_rfl) (by kernel_rfl) (fun _ _ _ h => h) (Or.inl ⟨by rfl, fun wx hSw => by kernel_rfl⟩) (by assumption) ?_
                    simp only [Act.put, List.getElem_toArray, List.getElem_cons_zero, List.setIfInBounds_toArray, List.set_cons_zero, List.set_cons_succ]
                    refine wpAnyH_take (i := 1) (v := (.pointer (some ⟨b, o, none⟩))) rfl (by kernel_rfl) (by kernel_rfl) (by kernel_rfl) (fun _ _ _ h => h) (Or.inl ⟨by rfl, fun wx hSw => by ((try dsimp only at hSw); go_simp)⟩) (by assumption) ?_
                    simp only [Act.put, List.getElem_toArray, List.getElem_cons_succ, List.getElem_cons_zero, List.setIfInBounds_toArray, List.set_cons_zero, List.set_cons_succ]
                    refine wpAnyH_take (i := 2) (v := (.int .i64 a0)) rfl (by kernel_rfl) (by kernel_rfl) (by kernel_rfl) (fun _ _ _ h => h) (Or.inl ⟨by rfl, fun wx hSw => by (have hc := (show wx.cell? ⟨b, o, none⟩ = some (.int .i64 a0) from HCl.out wx hSw 0 (by simp)); go_simp)⟩) (by assumption) ?_
                    simp only [Act.put, List.getElem_toArray, List.getElem_cons_succ, List.getElem_cons_zero, List.setIfInBounds_toArray, List.set_cons_zero, List.set_cons_succ]
                    refine wpAnyH_take (i := 3) (v := (.slice (some ⟨b, o, none⟩) [a0, a1, a2, a3, a4, a5].length c)) rfl (by kernel_rfl) (by kernel_rfl) (by kernel_rfl) (fun _ _ _ h => h) (Or.inl ⟨by rfl, fun wx hSw => by kernel_rfl⟩) (by assumption) ?_
                    simp only [Act.put, List.getElem_toArray, List.getElem_cons_succ, List.getElem_cons_zero, List.setIfInBounds_toArray, List.set_cons_zero, List.set_cons_succ]
                    refine wpAnyH_take (i := 4) (v := (.pointer (some ⟨b, o + 1, none⟩))) rfl (by kernel_rfl) (by kernel_rfl) (by kernel_rfl) (fun _ _ _ h => h) (Or.inl ⟨by rfl, fun wx hSw => by ((try dsimp only at hSw); go_simp)⟩) (by assumption) ?_
                    simp only [Act.put, List.getElem_toArray, List.getElem_cons_succ, List.getElem_cons_zero, List.setIfInBounds_toArray, List.set_cons_zero, List.set_cons_succ]
                    refine wpAnyH_take (i := 5) (v := (.int .i64 a1)) rfl (by kernel_rfl) (by kernel_rfl) (by kernel_rfl) (fun _ _ _ h => h) (Or.inl ⟨by rfl, fun wx hSw => by (have hc := (show wx.cell? ⟨b, o + 1, none⟩ = some (.int .i64 a1) from HCl.out wx hSw 1 (by simp)); go_simp)⟩) (by assumption) ?_
                    simp only [Act.put, List.getElem_toArray, List.getElem_cons_succ, List.getElem_cons_zero, List.setIfInBounds_toArray, List.set_cons_zero, List.set_cons_succ]
                    refine wpAnyH_take (i := 6) (v := (.slice (some ⟨b, o, none⟩) [a0, a1, a2, a3, a4, a5].length c)) rfl (by kernel_rfl) (by kernel_rfl) (by kernel_rfl) (fun _ _ _ h => h) (Or.inl ⟨by rfl, fun wx hSw => by kernel_rfl⟩) (by assumption) ?_
                    simp only [Act.put, List.getElem_toArray, List.getElem_cons_succ, List.getElem_cons_zero, List.setIfInBounds_toArray, List.set_cons_zero, List.set_cons_succ]
                    refine wpAnyH_take (i := 7) (v := (.pointer (some ⟨b, o + 2, none⟩))) rfl (by kernel_rfl) (by kernel_rfl) (by kernel_rfl) (fun _ _ _ h => h) (Or.inl ⟨by rfl, fun wx hSw => by ((try dsimp only at hSw); go_simp)⟩) (by assumption) ?_
                    simp only [Act.put, List.getElem_toArray, List.getElem_cons_succ, List.getElem_cons_zero, List.setIfInBounds_toArray, List.set_cons_zero, List.set_cons_succ]
                    refine wpAnyH_take (i := 8) (v := (.int .i64 a2)) rfl (by kernel_rfl) (by kernel_rfl) (by kernel_rfl) (fun _ _ _ h => h) (Or.inl ⟨by rfl, fun wx hSw => by (have hc := (show wx.cell? ⟨b, o + 2, none⟩ = some (.int .i64 a2) from HCl.out wx hSw 2 (by simp)); go_simp)⟩) (by assumption) ?_
                    simp only [Act.put, List.getElem_toArray, List.getElem_cons_succ, List.getElem_cons_zero, List.setIfInBounds_toArray, List.set_cons_zero, List.set_cons_succ]
                    refine wpAnyH_take (i := 9) (v := (.slice (some ⟨b, o, none⟩) [a0, a1, a2, a3, a4, a5].length c)) rfl (by kernel_rfl) (by kernel_rfl) (by kernel_rfl) (fun _ _ _ h => h) (Or.inl ⟨by rfl, fun wx hSw => by kernel_rfl⟩) (by assumption) ?_
                    simp only [Act.put, List.getElem_toArray, List.getElem_cons_succ, List.getElem_cons_zero, List.setIfInBounds_toArray, List.set_cons_zero, List.set_cons_succ]
                    refine wpAnyH_take (i := 10) (v := (.pointer (some ⟨b, o + 3, none⟩))) rfl (by kernel_rfl) (by kernel_rfl) (by kernel_rfl) (fun _ _ _ h => h) (Or.inl ⟨by rfl, fun wx hSw => by ((try dsimp only at hSw); go_simp)⟩) (by assumption) ?_
                    simp only [Act.put, List.getElem_toArray, List.getElem_cons_succ, List.getElem_cons_zero, List.setIfInBounds_toArray, List.set_cons_zero, List.set_cons_succ]
                    refine wpAnyH_take (i := 11) (v := (.int .i64 a3)) rfl (by kernel_rfl) (by kernel_rfl) (by kernel_rfl) (fun _ _ _ h => h) (Or.inl ⟨by rfl, fun wx hSw => by (have hc := (show wx.cell? ⟨b, o + 3, none⟩ = some (.int .i64 a3) from HCl.out wx hSw 3 (by simp)); go_simp)⟩) (by assumption) ?_
                    simp only [Act.put, List.getElem_toArray, List.getElem_cons_succ, List.getElem_cons_zero, List.setIfInBounds_toArray, List.set_cons_zero, List.set_cons_succ]
                    refine wpAnyH_take (i := 12) (v := (.slice (some ⟨b, o, none⟩) [a0, a1, a2, a3, a4, a5].length c)) rfl (by kernel_rfl) (by kernel_rfl) (by kernel_rfl) (fun _ _ _ h => h) (Or.inl ⟨by rfl, fun wx hSw => by kernel_rfl⟩) (by assumption) ?_
                    simp only [Act.put, List.getElem_toArray, List.getElem_cons_succ, List.getElem_cons_zero, List.setIfInBounds_toArray, List.set_cons_zero, List.set_cons_succ]
                    refine wpAnyH_take (i := 13) (v := (.pointer (some ⟨b, o + 4, none⟩))) rfl (by kernel_rfl) (by kernel_rfl) (by kernel_rfl) (fun _ _ _ h => h) (Or.inl ⟨by rfl, fun wx hSw => by ((try dsimp only at hSw); go_simp)⟩) (by assumption) ?_
                    simp only [Act.put, List.getElem_toArray, List.getElem_cons_succ, List.getElem_cons_zero, List.setIfInBounds_toArray, List.set_cons_zero, List.set_cons_succ]
                    refine wpAnyH_take (i := 14) (v := (.int .i64 a4)) rfl (by kernel_rfl) (by kernel_rfl) (by kernel_rfl) (fun _ _ _ h => h) (Or.inl ⟨by rfl, fun wx hSw => by (have hc := (show wx.cell? ⟨b, o + 4, none⟩ = some (.int .i64 a4) from HCl.out wx hSw 4 (by simp)); go_simp)⟩) (by assumption) ?_
                    simp only [Act.put, List.getElem_toArray, List.getElem_cons_succ, List.getElem_cons_zero, List.setIfInBounds_toArray, List.set_cons_zero, List.set_cons_succ]
                    refine wpAnyH_take (i := 15) (v := (.slice (some ⟨b, o, none⟩) [a0, a1, a2, a3, a4, a5].length c)) rfl (by kernel_rfl) (by kernel_rfl) (by kernel_rfl) (fun _ _ _ h => h) (Or.inl ⟨by rfl, fun wx hSw => by kernel_rfl⟩) (by assumption) ?_
                    simp only [Act.put, List.getElem_toArray, List.getElem_cons_succ, List.getElem_cons_zero, List.setIfInBounds_toArray, List.set_cons_zero, List.set_cons_succ]
                    refine wpAnyH_take (i := 16) (v := (.pointer (some ⟨b, o + 5, none⟩))) rfl (by kernel_rfl) (by kernel_rfl) (by kernel_rfl) (fun _ _ _ h => h) (Or.inl ⟨by rfl, fun wx hSw => by ((try dsimp only at hSw); go_simp)⟩) (by assumption) ?_
                    simp only [Act.put, List.getElem_toArray, List.getElem_cons_succ, List.getElem_cons_zero, List.setIfInBounds_toArray, List.set_cons_zero, List.set_cons_succ]
                    refine wpAnyH_take (i := 17) (v := (.int .i64 a5)) rfl (by kernel_rfl) (by kernel_rfl) (by kernel_rfl) (fun _ _ _ h => h) (Or.inl ⟨by rfl, fun wx hSw => by (have hc := (show wx.cell? ⟨b, o + 5, none⟩ = some (.int .i64 a5) from HCl.out wx hSw 5 (by simp)); go_simp)⟩) (by assumption) ?_
                    simp only [Act.put, List.getElem_toArray, List.getElem_cons_succ, List.getElem_cons_zero, List.setIfInBounds_toArray, List.set_cons_zero, List.set_cons_succ]
                    refine wpAnyH_take (i := 18) (v := (.agg #[.int .i64 a0, .int .i64 a1, .int .i64 a2, .int .i64 a3, .int .i64 a4, .int .i64 a5])) rfl (by kernel_rfl) (by kernel_rfl) (by kernel_rfl) (fun _ _ _ h => h) (Or.inl ⟨by rfl, fun wx hSw => by go_simp⟩) (by assumption) ?_
                    simp only [Act.put, List.getElem_toArray, List.getElem_cons_succ, List.getElem_cons_zero, List.setIfInBounds_toArray, List.set_cons_zero, List.set_cons_succ]
                    refine wpAnyH_ready (rs := [19]) (by kernel_rfl) (by simp) ?_
                    refine AllReadyH.cons rfl (fun K hK => ?_) AllReadyH.nil
                    generalize w1.drew = U2 at *
                    cases hr : rtB ⟨a0, a1, a2, a3, a4, a5⟩ with
                    | true =>
                      have hO := refopenD ⟨a0, a1, a2, a3, a4, a5⟩ U2 hr
                      have hT := HNx.out ⟨⟨a0, a1, a2, a3, a4, a5⟩, [], Ln.start ⟨a0, a1, a2, a3, a4, a5⟩, a0, []⟩ (by simp only [Sv.first]; rw [if_pos hr])
                      unfold tmV at hO
                      dsimp only at hO
                      go_simp
                      refine hO.mono ?_
                      rintro e W2 ⟨B, rfl, hD, hb3⟩
                      go_wp2_with fail
                      have hb4 : Below w1.heap.size w1 W2 := hHeld.trans (hb3.mono hHeld.size)
                      refine hK.out _ _ hb4 (fun _ => ?_)
                      have hb5 : Below w2.heap.size w2 W2 := HB1.out.trans (hb4.mono HB1.out.size)
                      have HI : Hid (LdI w2 s (.pointer (some ⟨B, 0, none⟩)) (.int .i64 0) (.int .i64 ((i : Int) + 1)) (.int .i64 ((i : Int) + 1)) W2) := by
                        refine ⟨i + 1, i + 1, 0, _, rfl, rfl, rfl, Nat.le_refl _, hlt, NoL.zero s (i + 1), hb5, hT, by decide, by decide, .inr ⟨_, B, rfl, by decide, rfl, Dc.mono hD (fun x hx => ?_), Nat.zero_le _, fun _ => rfl⟩⟩
                        rcases hx with h | ⟨h1, h2⟩
                        · exact h.elim
                        · exact .inr ⟨Nat.le_trans (Nat.le_trans HB1.out.size hHeld.size) h1, h2⟩
                      clear hK K hO hD hb3 hb4 hb5 hHeld hT hr
                      try simp only [Act.put, List.getElem_toArray, List.getElem_cons_succ, List.getElem_cons_zero, List.setIfInBounds_toArray, List.set_cons_zero, List.set_cons_succ]
                      refine wpAnyH_take (i := 20) (v := (.tuple #[.pointer (some ⟨B, 0, none⟩), .int .i64 0])) rfl (by kernel_rfl) (by kernel_rfl) (by kernel_rfl) (fun _ _ _ h => h) (Or.inl ⟨by rfl, fun wx hSw => by kernel_rfl⟩) (by assumption) ?_
                      simp only [Act.put, List.getElem_toArray, List.getElem_cons_succ, List.getElem_cons_zero, List.setIfInBounds_toArray, List.set_cons_zero, List.set_cons_succ]
                      refine wpAnyH_take (i := 21) (v := (.pointer (some ⟨B, 0, none⟩))) rfl (by kernel_rfl) (by kernel_rfl) (by kernel_rfl) (fun _ _ _ h => h) (Or.inl ⟨by rfl, fun wx hSw => by ((try dsimp only at hSw); go_simp)⟩) (by assumption) ?_
                      simp only [Act.put, List.getElem_toArray, List.getElem_cons_succ, List.getElem_cons_zero, List.setIfInBounds_toArray, List.set_cons_zero, List.set_cons_succ]
                      refine wpAnyH_take (i := 22) (v := (.int .i64 0)) rfl (by kernel_rfl) (by kernel_rfl) (by kernel_rfl) (fun _ _ _ h => h) (Or.inl ⟨by rfl, fun wx hSw => by ((try dsimp only at hSw); go_simp)⟩) (by assumption) ?_
                      simp only [Act.put, List.getElem_toArray, List.getElem_cons_succ, List.getElem_cons_zero, List.setIfInBounds_toArray, List.set_cons_zero, List.set_cons_succ]
                      refine wpAnyH_take (i := 23) (v := (.pointer (some ⟨B, 0, none⟩))) rfl (by kernel_rfl) (by kernel_rfl) (by kernel_rfl) (fun _ _ _ h => h) (Or.inl ⟨by rfl, fun wx hSw => by kernel_rfl⟩) (by assumption) ?_
                      simp only [Act.put, List.getElem_toArray, List.getElem_cons_succ, List.getElem_cons_zero, List.setIfInBounds_toArray, List.set_cons_zero, List.set_cons_succ]
                      refine wpAnyH_done (by kernel_rfl) ?_ _
                      go_wp2
                      exact ⟨HI.out, by simp [intOf]; omega⟩
                    | false =>
                      have hO := refopen_bad ⟨a0, a1, a2, a3, a4, a5⟩ U2 hr
                      have hT := HNo.out (by simp only [Sv.first]; rw [hr]; rfl)
                      unfold tmV at hO
                      dsimp only at hO
                      go_simp
                      refine hO.mono ?_
                      rintro e W2 ⟨rfl, hb3⟩
                      go_wp2_with fail
                      have hb4 : Below w1.heap.size w1 W2 := hHeld.trans (hb3.mono hHeld.size)
                      refine hK.out _ _ hb4 (fun _ => ?_)
                      have HE : Hid (LoadPost w s (.returned (.tuple #[.pointer none, .int .i64 10])) W2) := HBad.out _ (HB1.out.trans (hb4.mono HB1.out.size)) hT
                      clear hK K hO hb3 hb4 hHeld hT hr
                      try simp only [Act.put, List.getElem_toArray, List.getElem_cons_succ, List.getElem_cons_zero, List.setIfInBounds_toArray, List.set_cons_zero, List.set_cons_succ]
                      refine wpAnyH_take (i := 20) (v := (.tuple #[.pointer none, .int .i64 3])) rfl (by kernel_rfl) (by kernel_rfl) (by kernel_rfl) (fun _ _ _ h => h) (Or.inl ⟨by rfl, fun wx hSw => by kernel_rfl⟩) (by assumption) ?_
                      simp only [Act.put, List.getElem_toArray, List.getElem_cons_succ, List.getElem_cons_zero, List.setIfInBounds_toArray, List.set_cons_zero, List.set_cons_succ]
                      refine wpAnyH_take (i := 21) (v := (.pointer none)) rfl (by kernel_rfl) (by kernel_rfl) (by kernel_rfl) (fun _ _ _ h => h) (Or.inl ⟨by rfl, fun wx hSw => by ((try dsimp only at hSw); go_simp)⟩) (by assumption) ?_
                      simp only [Act.put, List.getElem_toArray, List.getElem_cons_succ, List.getElem_cons_zero, List.setIfInBounds_toArray, List.set_cons_zero, List.set_cons_succ]
                      refine wpAnyH_take (i := 22) (v := (.int .i64 3)) rfl (by kernel_rfl) (by kernel_rfl) (by kernel_rfl) (fun _ _ _ h => h) (Or.inl ⟨by rfl, fun wx hSw => by ((try dsimp only at hSw); go_simp)⟩) (by assumption) ?_
                      simp only [Act.put, List.getElem_toArray, List.getElem_cons_succ, List.getElem_cons_zero, List.setIfInBounds_toArray, List.set_cons_zero, List.set_cons_succ]
                      refine wpAnyH_take (i := 23) (v := (.pointer none)) rfl (by kernel_rfl) (by kernel_rfl) (by kernel_rfl) (fun _ _ _ h => h) (Or.inl ⟨by rfl, fun wx hSw => by kernel_rfl⟩) (by assumption) ?_
                      simp only [Act.put, List.getElem_toArray, List.getElem_cons_succ, List.getElem_cons_zero, List.setIfInBounds_toArray, List.set_cons_zero, List.set_cons_succ]
                      refine wpAnyH_done (by kernel_rfl) ?_ _
                      go_wp2
                      go_ret2
                      exact HE.out
                  · have hjk : 0 ≤ j ∧ (k < 4 → j < 4) := by
                      unfold nextOk at hnx
                      rw [decide_eq_true_eq] at hnx
                      omega
                    have ek : ((k : Int) == 0) = false := by rw [beq_eq_false_iff_ne]; omega
                    obtain ⟨_, _, _, _, hx⟩ := id HP.out
                    rcases hx with ⟨_, h1, _⟩ | ⟨sv, B, rfl, _, rfl, hD, hLl, hL0⟩
                    · omega
                    have HLk : Hid (Lnk k ns (word ++ bj P)) := lnk_of hsay hk6 (HKm.out hk6) hcn
                    have HNx : Hid (∀ s', sv.read k ns = some s' → LdT s (i + 1) k (some s')) := fun s' h => HP.out.2.1.next hfi hlt HCc.out HNl.out (fun r => by rw [HLine.out.1]; exact fin_step HLk.out hnx (by unfold stepK; rw [if_neg (by omega)]; exact h))
                    have HNo : Hid (sv.read k ns = none → told s = none) := fun h => HP.out.2.1.none hfi hlt HCc.out HNl.out (fun r => by rw [HLine.out.1]; exact fin_fail HLk.out (by unfold stepK; rw [if_neg (by omega)]; exact h))
                    have hRd := refread_any w1 B sv v k ns (Wd (fun _ => False) w2 wr) (hD.keep (S := fun _ => False) (Keep.below HBr.out) (fun _ _ x => x)) hk1 hk6 hcn (fun h => hL0 (hjk.2 h)) (by omega) hv (fun b hb hF => by
                      rcases hF with h | ⟨_, h2⟩
                      · exact h
                      · have := hvb b hb; omega)
                    have HLl : Hid (sv.L.length ≤ f ∧ (k < 4 → sv.L = [])) := ⟨hLl, fun h => hL0 (hjk.2 h)⟩
                    clear hv hvb hcn hsay hnx HLk hD hLl hL0 hjk
                    go_wp2_with fail
                    refine hRd.mono ?_
                    rintro e W2 ⟨hkp, hx⟩
                    have hb5 : Below w2.heap.size w2 W2 := Keep.fresh HB1.out hkp (fun b hb => by
                      rcases hb with h | ⟨h1, _⟩
                      · exact h.elim
                      · exact h1)
                    rcases hx with ⟨s', hs', rfl, hD'⟩ | ⟨hs', rfl⟩
                    · have HI : Hid (LdI w2 s (.pointer (some ⟨B, 0, none⟩)) (.int .i64 (k : Int)) (.int .i64 ((i : Int) + 1)) (.int .i64 ((i : Int) + 1)) W2) := by
                        have hm := read_more hs'
                        refine ⟨i + 1, i + 1, k, _, rfl, rfl, rfl, Nat.le_refl _, hlt, NoL.zero s (i + 1), hb5, HNx.out s' hs', by omega, by omega, .inr ⟨s', B, rfl, by omega, rfl, Dc.mono hD' (fun x hx => ?_), ?_, fun h => ?_⟩⟩
                        · rcases hx with (h | ⟨h1, h2⟩) | ⟨h1, h2⟩
                          · exact h.elim
                          · exact .inr ⟨h1, Nat.lt_of_lt_of_le h2 (Nat.le_trans HBr.out.size hkp.size)⟩
                          · exact .inr ⟨Nat.le_trans HB1.out.size h1, h2⟩
                        · have := HLl.out.1; omega
                        · rw [hm.2 (by omega), HLl.out.2 (by omega)]
                      clear hRd hkp hb5 hs' hD' HNx HNo HLl
                      go_wp2
                      exact ⟨HI.out, by simp [intOf]; omega⟩
                    · have HE : Hid (LoadPost w s (.returned (.tuple #[.pointer none, .int .i64 10])) W2) := HBad.out _ hb5 (HNo.out hs')
                      clear hRd hkp hb5 hs' HNx HNo HLl
                      go_wp2
                      go_ret2
                      exact HE.out
      · have zc : ((S[i].toNat : Int) != 10) = true := by
          rw [hg, bne_iff_ne]
          intro e
          exact hc (UInt8.toNat_inj.1 (by show s[i].toNat = 10; omega))
        have HI : Hid (LdI w2 s _ (.int .i64 j) (.int .i64 (f : Int)) (.int .i64 ((i + 1 : Nat) : Int)) wr) := ⟨i + 1, f, j, σ, rfl, rfl, rfl, by omega, hlt, HNl.out.more hfi hlt hc, HP.out⟩
        clear hg hc HC HP HNl
        go_wp2
        exact ⟨HI.out, by simp [intOf]; omega⟩
    · obtain rfl : i = s.length := by omega
      have zi : ¬ (s.length : Int) < (S.size : Int) := by rw [HSz.out]; omega
      by_cases hj5 : j = 5
      · by_cases hf : f = s.length
        · have zf : ((f : Int) != (S.size : Int)) = false := by rw [HSz.out, hf]; simp
          have hst : told s = σ := by
            rw [HP.out.2.1.stop hfi HNl.out, if_pos ⟨hf, hj5⟩]
          obtain ⟨hb, _, _, _, hx⟩ := HP.out
          rcases hx with ⟨_, h1, _⟩ | ⟨sv, B, rfl, _, rfl, hD, _, _⟩
          · omega
          have HE : Hid (LoadPost w s (.returned (.tuple #[.pointer (some ⟨B, 0, none⟩), .int .i64 0])) wr) :=
            ⟨HW2.out.trans (hb.mono HW2.out.size), .inl ⟨sv, B, hst, rfl, hD.mono (fun b hb => by
              rcases hb with h | ⟨h1, h2⟩
              · exact h.elim
              · exact .inr ⟨Nat.le_trans HW2.out.size h1, h2⟩)⟩⟩
          subst hj5
          clear hst hb hD hf HP HNl
          go_wp2
          go_ret2
          exact HE.out
        · have zf : ((f : Int) != (S.size : Int)) = true := by rw [HSz.out, bne_iff_ne]; omega
          have HE : Hid (LoadPost w s (.returned (.tuple #[.pointer none, .int .i64 10])) wr) := HBad.out _ HP.out.1 (by rw [HP.out.2.1.stop hfi HNl.out, if_neg (fun x => hf x.1)])
          subst hj5
          clear hf HP HNl
          go_wp2
          go_ret2
          exact HE.out
      · have zj : (j != (5 : Int)) = true := by rw [bne_iff_ne]; exact hj5
        have HE : Hid (LoadPost w s (.returned (.tuple #[.pointer none, .int .i64 10])) wr) := HBad.out _ HP.out.1 (by rw [HP.out.2.1.stop hfi HNl.out, if_neg (fun x => hj5 x.2)])
        clear hj5 HP HNl
        go_wp2
        go_ret2
        exact HE.out
end Go.Proofs.YtanndhoimpnhpaaGreatDoor
