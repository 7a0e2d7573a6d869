/- Joined by program: TxK, TxL. -/
import Derived.Test.YtanndhoimpnhpaaGreatDoorM29
import Derived.Test.YtanndhoimpnhpaaGreatDoorM6
import Derived.Test.YtanndhoimpnhpaaGreatDoorM2
import Derived.Test.YtanndhoimpnhpaaGreatDoorM1
import Derived.BigQuiet
import Derived.Deep.RegionHeld3
import Derived.Test.YtanndhoimpnhpaaGreatDoorM13
import Derived.Test.YtanndhoimpnhpaaGreatDoorM24
namespace Go.Proofs.YtanndhoimpnhpaaGreatDoor
open Go.ChangeShapes Go.WideShapes Go.ChangeAt Go.RowKit Go.WideMaps Go.Maps Lg Cal
def ReadPost (w : World) (B : Nat) (s : Sv) (F : Nat → Prop) (k : Nat) (ns : List Int) (e : Ending) (w' : World) : Prop :=
  Keep F w w' ∧ ((∃ s', s.read k ns = some s' ∧ e = .returned (.bool true) ∧ Dc w' B s'.t s'.l s'.g s'.day s'.L (Wd F w w')) ∨ (s.read k ns = none ∧ e = .returned (.bool false)))
def IsD (w : World) (B : Nat) (s : Sv) (F : Nat → Prop) : Prop := Dc w B s.t s.l s.g s.day s.L F
theorem IsV.first {w : World} {v : Value} {n : Int} {ns : List Int} (h : IsV w v (n :: ns)) : ∃ b o c, v = .slice (some ⟨b, o, none⟩) (n :: ns).length c ∧ b < w.heap.size ∧ ∀ k (hk : k < (n :: ns).length), w.cell? ⟨b, o + k, none⟩ = some (.int .i64 (n :: ns)[k]) := by
  obtain ⟨p, c, rfl, _, h3⟩ := h
  obtain ⟨b, o, rfl, hb, _⟩ := h3 0 (by simp)
  refine ⟨b, o, c, rfl, hb, fun k hk => ?_⟩
  obtain ⟨b', o', e, _, hc⟩ := h3 k hk
  injection e with e
  injection e with e1 e2
  subst e1 e2
  exact hc
set_option maxRecDepth 10000 in
theorem refread5 (w : World) (B : Nat) (s : Sv) (v : Value) (F : Nat → Prop) (h : IsD w B s F) :
    Calls Tryz.prog 72 #[.pointer (some ⟨B, 0, none⟩), .int .i64 5, v] w (ReadPost w B s F 5 []) := by
  have HE : Hid (ReadPost w B s F 5 [] (.returned (.bool true)) w) := ⟨Keep.refl _ _, .inl ⟨s, rfl, rfl, h.mono (fun b hb => .inl hb)⟩⟩
  clear h
  go_enter Tryz.func72, Tryz.ntmps72
  go_wp2
  go_ret
  exact HE.out
theorem Dc.day {w : World} {B : Nat} {t : Ln.Terms} {l : List Ln.Ev} {g : Ln.St} {day : Int} {F : Nat → Prop} (h : Dc w B t l g day [] F) (n : Int) (h0 : t.st ≤ n) (h1 : n ≤ t.st + 3700) (q : Nat) :
    Dc ((w.setCell ⟨B, 14, none⟩ (.int .i64 n)).drewN q) B t l g n [] F := by
  obtain ⟨evv, bkv, h2, h3, h4, h5⟩ := h
  have hk : Keep (fun b => b = B) w ((w.setCell ⟨B, 14, none⟩ (.int .i64 n)).drewN q) := ((Keep.refl (fun b => b = B) w).set (S := fun b => b = B) rfl 14 _).drewN q
  have hn : ∀ {T : TypeId} {sz k : Nat} {v : Value} {xs : List Value}, w.ownsRow (B + 1) T sz v k xs → ∀ b, v.ownBlock = some b → ¬ b = B := fun ho b hb e => by
    have := (own_base ho hb).1
    omega
  exact ⟨evv, bkv, ⟨(h2.ln.set 14 (show 14 < 16 by decide) _).drewN q, own_keep h2.ev hk (hn h2.ev), own_keep h2.bk hk (hn h2.bk), h2.ap, h2.ds, h2.ok, h2.le, h2.ot, fun e he => absurd he (List.not_mem_nil), h0, h1⟩, h3, h4, h5⟩
set_option maxRecDepth 10000 in
set_option maxHeartbeats 2000000 in
theorem refread2 (w : World) (B : Nat) (s : Sv) (v : Value) (n : Int) (F : Nat → Prop) (h : IsD w B s F) (hL : s.L = []) (hv : IsV w v [n]) (hd : ∀ b, v.ownBlock = some b → ¬ b = B) :
    Calls Tryz.prog 72 #[.pointer (some ⟨B, 0, none⟩), .int .i64 2, v] w (ReadPost w B s F 2 [n]) := by
  obtain ⟨b, o, c, rfl, _, hc⟩ := hv.first
  have hc0 : w.cell? ⟨b, o, none⟩ = some (.int .i64 n) := hc 0 (by simp)
  have hne : ¬ b = B := hd b rfl
  obtain ⟨t, l, g, day, L⟩ := s
  obtain rfl : L = [] := hL
  have hD : Dc w B t l g day [] F := h
  have hk : ∀ q, Keep F w ((w.setCell ⟨B, 14, none⟩ (.int .i64 n)).drewN q) := fun q => ((Keep.refl F w).set (by obtain ⟨_, _, _, h3, _⟩ := hD; exact h3) 14 _).drewN q
  obtain ⟨evv, bkv, hX, _⟩ := id hD
  have c14 : w.cell? ⟨B, 14, none⟩ = some (.int .i64 day) := hX.ln.cell 14 rfl
  have f14 : w.frozen? ⟨B, 14, none⟩ = false := hX.ln.free 14 rfl
  have HW : Hid (∀ W, W = w.setCell ⟨B, 14, none⟩ (.int .i64 n) → W.cell? ⟨b, o, none⟩ = some (.int .i64 n) ∧ W.cell? ⟨B, 0, none⟩ = some (.int .i64 t.st)) := by
    rintro W rfl
    exact ⟨(World.cell?_setCell_far _ _ _ _ (show B ≠ b from fun e => hne e.symm)).trans hc0, (hX.ln.set 14 (show 14 < 16 by decide) _).cell 0 rfl⟩
  have ho0 := hX.ot.st0
  have ho1 := hX.ot.st1
  have HG : Hid (∀ q, t.st ≤ n → n ≤ t.st + 3700 → ReadPost w B ⟨t, l, g, day, []⟩ F 2 [n] (.returned (.bool true)) ((w.setCell ⟨B, 14, none⟩ (.int .i64 n)).drewN q)) := fun q h0 h1 =>
    ⟨hk q, .inl ⟨⟨t, l, g, n, []⟩, by simp [Sv.read, h0, h1], rfl, (hD.day n h0 h1 q).mono (fun b hb => .inl hb)⟩⟩
  have HN : Hid (∀ q, ¬ (t.st ≤ n ∧ n ≤ t.st + 3700) → ReadPost w B ⟨t, l, g, day, []⟩ F 2 [n] (.returned (.bool false)) ((w.setCell ⟨B, 14, none⟩ (.int .i64 n)).drewN q)) := fun q h0 =>
    ⟨hk q, .inr ⟨by simp only [Sv.read]; rw [if_neg h0], rfl⟩⟩
  clear h hv hd hc hD hk hX hne
  go_enter Tryz.func72, Tryz.ntmps72
  go_upto_region 12 with fail
  obtain ⟨hw0, hw1⟩ := HW.out _ rfl
  have HU : Hid (∃ W, W = w.setCell ⟨B, 14, none⟩ (.int .i64 n)) := ⟨_, rfl⟩
  generalize w.setCell ⟨B, 14, none⟩ (.int .i64 n) = W at *
  clear c14 f14 hc0 HW
  have z3 : IntKind.i64.wrap (t.st + 3700) = t.st + 3700 := by rw [IntKind.wrap_i64]; omega
  by_cases h0 : t.st ≤ n
  · by_cases h1 : n ≤ t.st + 3700
    · go_quiet (fail)
      go_wp2
      go_ret
      exact HG.out _ h0 h1
    · go_quiet (fail)
      go_wp2
      go_ret
      exact HN.out _ (by omega)
  · go_quiet (fail)
    go_wp2
    go_ret
    exact HN.out _ (by omega)
set_option maxRecDepth 10000 in
set_option maxHeartbeats 2000000 in
theorem refread3 (w : World) (B : Nat) (s : Sv) (v : Value) (a0 a1 a2 a3 a4 a5 a6 : Int) (F : Nat → Prop) (h : IsD w B s F) (hv : IsV w v [a0, a1, a2, a3, a4, a5, a6]) (hd : ∀ b, v.ownBlock = some b → ¬ b = B) :
    Calls Tryz.prog 72 #[.pointer (some ⟨B, 0, none⟩), .int .i64 3, v] w (ReadPost w B s F 3 [a0, a1, a2, a3, a4, a5, a6]) := by
  obtain ⟨b, o, c, rfl, hbl, hc⟩ := hv.first
  have hne : ¬ b = B := hd b rfl
  obtain ⟨t, l, g, day, L⟩ := s
  have hD : Dc w B t l g day L F := h
  obtain ⟨evv, bkv, hX, hF, hF1, hF2⟩ := hD
  obtain ⟨m, hm⟩ : ∃ m : List Value, m = [.int .i64 a0, .int .i64 a1, .int .i64 a2, .int .i64 a3, .int .i64 a4, .int .i64 a5, .int .i64 a6, .int .i64 day] := ⟨_, rfl⟩
  have hkB : ∀ W, W.heap = w.heap → Keep (fun b => b = B) W (W.setCells B 7 m) := fun W _ => Keep.setCells (S := fun b => b = B) rfl m 7 W (Keep.refl _ _)
  have hn : ∀ {T : TypeId} {sz k : Nat} {v : Value} {xs : List Value}, w.ownsRow (B + 1) T sz v k xs → ∀ b, v.ownBlock = some b → ¬ b = B := fun ho b hb e => by
    have := (own_base ho hb).1
    omega
  have hA : At (w.drew.setCells B 7 m) B (dl t evv ⟨a0, a1, a2, a3, a4, a5, a6, 0, 0, 0⟩ day bkv) := by
    have := At.setCells m 7 _ _ hX.ln.drew (by rw [hm]; show 7 + 8 ≤ 16; decide)
    rw [hm] at this ⊢
    exact this
  have hk1 : Keep (fun b => b = B) w (w.drew.setCells B 7 m) := Keep.undrew (hkB w.drew rfl)
  have HE : Hid (ReadPost w B ⟨t, l, g, day, L⟩ F 3 [a0, a1, a2, a3, a4, a5, a6] (.returned (.bool true)) (w.drew.setCells B 7 m)) :=
    ⟨hk1.mono (fun k _ e => by subst e; exact hF), .inl ⟨⟨t, l, ⟨a0, a1, a2, a3, a4, a5, a6, 0, 0, 0⟩, day, L⟩, rfl, rfl, evv, bkv, ⟨hA, own_keep hX.ev hk1 (hn hX.ev), own_keep hX.bk hk1 (hn hX.bk), hX.ap, hX.ds, hX.ok, hX.le, hX.ot, hX.inl, hX.d0, hX.d1⟩, .inl hF, fun b hb => .inl (hF1 b hb), fun b hb => .inl (hF2 b hb)⟩⟩
  have HT : Hid (w.drew.there B 7 8) := hX.ln.drew.there_mid 7 8 (show 7 + 8 ≤ 16 by decide)
  have HS2 : Hid ((∀ k (hk : k < [a0, a1, a2, a3, a4, a5, a6].length), (w.drew.setCells B 7 m).cell? ⟨b, o + k, none⟩ = some (.int .i64 [a0, a1, a2, a3, a4, a5, a6][k])) ∧ (w.drew.setCells B 7 m).cell? ⟨B, 14, none⟩ = some (.int .i64 day)) :=
    ⟨fun k hk => (World.cell?_of_block (w := w) (a := ⟨b, o + k, none⟩) (hk1.block b hbl hne)).trans (hc k hk), hA.cell 14 rfl⟩
  have HS1 : Hid ((∀ k (hk : k < [a0, a1, a2, a3, a4, a5, a6].length), w.drew.cell? ⟨b, o + k, none⟩ = some (.int .i64 [a0, a1, a2, a3, a4, a5, a6][k])) ∧ w.drew.cell? ⟨B, 14, none⟩ = some (.int .i64 day)) := ⟨hc, hX.ln.cell 14 rfl⟩
  have HM : Hid (m = [.int .i64 a0, .int .i64 a1, .int .i64 a2, .int .i64 a3, .int .i64 a4, .int .i64 a5, .int .i64 a6, .int .i64 day]) := hm
  clear h hv hd hc hkB hn hA hk1 hX hm hF hF1 hF2 hbl hne
  go_enter Tryz.func72, Tryz.ntmps72
  go_upto_region 14 with fail
  refine wp_region_held_drew (S := fun wx => (∀ k (hk : k < [a0, a1, a2, a3, a4, a5, a6].length), wx.cell? ⟨b, o + k, none⟩ = some (.int .i64 [a0, a1, a2, a3, a4, a5, a6][k])) ∧ wx.cell? ⟨B, 14, none⟩ = some (.int .i64 day)) (by kernel_rfl) HS1.out (fun hHeld => ?_)
  generalize w.drew = U0 at *
  refine wpAnyH_take (i := 0) (v := (.pointer (some ⟨B, 0, none⟩))) rfl (by kernel_rfl) (by kernel_rfl) (by kernel_rfl) (fun _ _ _ h => h) (Or.inl ⟨by rfl, fun wx hSw => by kernel_rfl⟩) (by assumption) ?_
  simp only [Act.put, List.getElem_toArray, List.getElem_cons_zero, List.setIfInBounds_toArray, List.set_cons_zero, List.set_cons_succ]
  refine wpAnyH_take (i := 1) (v := (.slice (some ⟨b, o, none⟩) [a0, a1, a2, a3, a4, a5, a6].length c)) rfl (by kernel_rfl) (by kernel_rfl) (by kernel_rfl) (fun _ _ _ h => h) (Or.inl ⟨by rfl, fun wx hSw => by kernel_rfl⟩) (by assumption) ?_
  simp only [Act.put, List.getElem_toArray, List.getElem_cons_succ, List.getElem_cons_zero, List.setIfInBounds_toArray, List.set_cons_zero, List.set_cons_succ]
  refine wpAnyH_take (i := 2) (v := (.pointer (some ⟨b, o, none⟩))) rfl (by kernel_rfl) (by kernel_rfl) (by kernel_rfl) (fun _ _ _ h => h) (Or.inl ⟨by rfl, fun wx hSw => by ((try dsimp only at hSw); go_simp)⟩) (by assumption) ?_
  simp only [Act.put, List.getElem_toArray, List.getElem_cons_succ, List.getElem_cons_zero, List.setIfInBounds_toArray, List.set_cons_zero, List.set_cons_succ]
  refine wpAnyH_take (i := 3) (v := (.int .i64 a0)) rfl (by kernel_rfl) (by kernel_rfl) (by kernel_rfl) (fun _ _ _ h => h) (Or.inl ⟨by rfl, fun wx hSw => by (have hc := (show wx.cell? ⟨b, o, none⟩ = some (.int .i64 a0) from hSw.1 0 (by simp)); go_simp)⟩) (by assumption) ?_
  simp only [Act.put, List.getElem_toArray, List.getElem_cons_succ, List.getElem_cons_zero, List.setIfInBounds_toArray, List.set_cons_zero, List.set_cons_succ]
  refine wpAnyH_take (i := 4) (v := (.slice (some ⟨b, o, none⟩) [a0, a1, a2, a3, a4, a5, a6].length c)) rfl (by kernel_rfl) (by kernel_rfl) (by kernel_rfl) (fun _ _ _ h => h) (Or.inl ⟨by rfl, fun wx hSw => by kernel_rfl⟩) (by assumption) ?_
  simp only [Act.put, List.getElem_toArray, List.getElem_cons_succ, List.getElem_cons_zero, List.setIfInBounds_toArray, List.set_cons_zero, List.set_cons_succ]
  refine wpAnyH_take (i := 5) (v := (.pointer (some ⟨b, o + 1, none⟩))) rfl (by kernel_rfl) (by kernel_rfl) (by kernel_rfl) (fun _ _ _ h => h) (Or.inl ⟨by rfl, fun wx hSw => by ((try dsimp only at hSw); go_simp)⟩) (by assumption) ?_
  simp only [Act.put, List.getElem_toArray, List.getElem_cons_succ, List.getElem_cons_zero, List.setIfInBounds_toArray, List.set_cons_zero, List.set_cons_succ]
  refine wpAnyH_take (i := 6) (v := (.int .i64 a1)) rfl (by kernel_rfl) (by kernel_rfl) (by kernel_rfl) (fun _ _ _ h => h) (Or.inl ⟨by rfl, fun wx hSw => by (have hc := (show wx.cell? ⟨b, o + 1, none⟩ = some (.int .i64 a1) from hSw.1 1 (by simp)); go_simp)⟩) (by assumption) ?_
  simp only [Act.put, List.getElem_toArray, List.getElem_cons_succ, List.getElem_cons_zero, List.setIfInBounds_toArray, List.set_cons_zero, List.set_cons_succ]
  refine wpAnyH_take (i := 7) (v := (.slice (some ⟨b, o, none⟩) [a0, a1, a2, a3, a4, a5, a6].length c)) rfl (by kernel_rfl) (by kernel_rfl) (by kernel_rfl) (fun _ _ _ h => h) (Or.inl ⟨by rfl, fun wx hSw => by kernel_rfl⟩) (by assumption) ?_
  simp only [Act.put, List.getElem_toArray, List.getElem_cons_succ, List.getElem_cons_zero, List.setIfInBounds_toArray, List.set_cons_zero, List.set_cons_succ]
  refine wpAnyH_take (i := 8) (v := (.pointer (some ⟨b, o + 2, none⟩))) rfl (by kernel_rfl) (by kernel_rfl) (by kernel_rfl) (fun _ _ _ h => h) (Or.inl ⟨by rfl, fun wx hSw => by ((try dsimp only at hSw); go_simp)⟩) (by assumption) ?_
  simp only [Act.put, List.getElem_toArray, List.getElem_cons_succ, List.getElem_cons_zero, List.setIfInBounds_toArray, List.set_cons_zero, List.set_cons_succ]
  refine wpAnyH_take (i := 9) (v := (.int .i64 a2)) rfl (by kernel_rfl) (by kernel_rfl) (by kernel_rfl) (fun _ _ _ h => h) (Or.inl ⟨by rfl, fun wx hSw => by (have hc := (show wx.cell? ⟨b, o + 2, none⟩ = some (.int .i64 a2) from hSw.1 2 (by simp)); go_simp)⟩) (by assumption) ?_
  simp only [Act.put, List.getElem_toArray, List.getElem_cons_succ, List.getElem_cons_zero, List.setIfInBounds_toArray, List.set_cons_zero, List.set_cons_succ]
  refine wpAnyH_take (i := 10) (v := (.slice (some ⟨b, o, none⟩) [a0, a1, a2, a3, a4, a5, a6].length c)) rfl (by kernel_rfl) (by kernel_rfl) (by kernel_rfl) (fun _ _ _ h => h) (Or.inl ⟨by rfl, fun wx hSw => by kernel_rfl⟩) (by assumption) ?_
  simp only [Act.put, List.getElem_toArray, List.getElem_cons_succ, List.getElem_cons_zero, List.setIfInBounds_toArray, List.set_cons_zero, List.set_cons_succ]
  refine wpAnyH_take (i := 11) (v := (.pointer (some ⟨b, o + 3, none⟩))) rfl (by kernel_rfl) (by kernel_rfl) (by kernel_rfl) (fun _ _ _ h => h) (Or.inl ⟨by rfl, fun wx hSw => by ((try dsimp only at hSw); go_simp)⟩) (by assumption) ?_
  simp only [Act.put, List.getElem_toArray, List.getElem_cons_succ, List.getElem_cons_zero, List.setIfInBounds_toArray, List.set_cons_zero, List.set_cons_succ]
  refine wpAnyH_take (i := 12) (v := (.int .i64 a3)) rfl (by kernel_rfl) (by kernel_rfl) (by kernel_rfl) (fun _ _ _ h => h) (Or.inl ⟨by rfl, fun wx hSw => by (have hc := (show wx.cell? ⟨b, o + 3, none⟩ = some (.int .i64 a3) from hSw.1 3 (by simp)); go_simp)⟩) (by assumption) ?_
  simp only [Act.put, List.getElem_toArray, List.getElem_cons_succ, List.getElem_cons_zero, List.setIfInBounds_toArray, List.set_cons_zero, List.set_cons_succ]
  refine wpAnyH_take (i := 13) (v := (.slice (some ⟨b, o, none⟩) [a0, a1, a2, a3, a4, a5, a6].length c)) rfl (by kernel_rfl) (by kernel_rfl) (by kernel_rfl) (fun _ _ _ h => h) (Or.inl ⟨by rfl, fun wx hSw => by kernel_rfl⟩) (by assumption) ?_
  simp only [Act.put, List.getElem_toArray, List.getElem_cons_succ, List.getElem_cons_zero, List.setIfInBounds_toArray, List.set_cons_zero, List.set_cons_succ]
  refine wpAnyH_take (i := 14) (v := (.pointer (some ⟨b, o + 4, none⟩))) rfl (by kernel_rfl) (by kernel_rfl) (by kernel_rfl) (fun _ _ _ h => h) (Or.inl ⟨by rfl, fun wx hSw => by ((try dsimp only at hSw); go_simp)⟩) (by assumption) ?_
  simp only [Act.put, List.getElem_toArray, List.getElem_cons_succ, List.getElem_cons_zero, List.setIfInBounds_toArray, List.set_cons_zero, List.set_cons_succ]
  refine wpAnyH_take (i := 15) (v := (.int .i64 a4)) rfl (by kernel_rfl) (by kernel_rfl) (by kernel_rfl) (fun _ _ _ h => h) (Or.inl ⟨by rfl, fun wx hSw => by (have hc := (show wx.cell? ⟨b, o + 4, none⟩ = some (.int .i64 a4) from hSw.1 4 (by simp)); go_simp)⟩) (by assumption) ?_
  simp only [Act.put, List.getElem_toArray, List.getElem_cons_succ, List.getElem_cons_zero, List.setIfInBounds_toArray, List.set_cons_zero, List.set_cons_succ]
  refine wpAnyH_take (i := 16) (v := (.slice (some ⟨b, o, none⟩) [a0, a1, a2, a3, a4, a5, a6].length c)) rfl (by kernel_rfl) (by kernel_rfl) (by kernel_rfl) (fun _ _ _ h => h) (Or.inl ⟨by rfl, fun wx hSw => by kernel_rfl⟩) (by assumption) ?_
  simp only [Act.put, List.getElem_toArray, List.getElem_cons_succ, List.getElem_cons_zero, List.setIfInBounds_toArray, List.set_cons_zero, List.set_cons_succ]
  refine wpAnyH_take (i := 17) (v := (.pointer (some ⟨b, o + 5, none⟩))) rfl (by kernel_rfl) (by kernel_rfl) (by kernel_rfl) (fun _ _ _ h => h) (Or.inl ⟨by rfl, fun wx hSw => by ((try dsimp only at hSw); go_simp)⟩) (by assumption) ?_
  simp only [Act.put, List.getElem_toArray, List.getElem_cons_succ, List.getElem_cons_zero, List.setIfInBounds_toArray, List.set_cons_zero, List.set_cons_succ]
  refine wpAnyH_take (i := 18) (v := (.int .i64 a5)) rfl (by kernel_rfl) (by kernel_rfl) (by kernel_rfl) (fun _ _ _ h => h) (Or.inl ⟨by rfl, fun wx hSw => by (have hc := (show wx.cell? ⟨b, o + 5, none⟩ = some (.int .i64 a5) from hSw.1 5 (by simp)); go_simp)⟩) (by assumption) ?_
  simp only [Act.put, List.getElem_toArray, List.getElem_cons_succ, List.getElem_cons_zero, List.setIfInBounds_toArray, List.set_cons_zero, List.set_cons_succ]
  refine wpAnyH_take (i := 19) (v := (.slice (some ⟨b, o, none⟩) [a0, a1, a2, a3, a4, a5, a6].length c)) rfl (by kernel_rfl) (by kernel_rfl) (by kernel_rfl) (fun _ _ _ h => h) (Or.inl ⟨by rfl, fun wx hSw => by kernel_rfl⟩) (by assumption) ?_
  simp only [Act.put, List.getElem_toArray, List.getElem_cons_succ, List.getElem_cons_zero, List.setIfInBounds_toArray, List.set_cons_zero, List.set_cons_succ]
  refine wpAnyH_take (i := 20) (v := (.pointer (some ⟨b, o + 6, none⟩))) rfl (by kernel_rfl) (by kernel_rfl) (by kernel_rfl) (fun _ _ _ h => h) (Or.inl ⟨by rfl, fun wx hSw => by ((try dsimp only at hSw); go_simp)⟩) (by assumption) ?_
  simp only [Act.put, List.getElem_toArray, List.getElem_cons_succ, List.getElem_cons_zero, List.setIfInBounds_toArray, List.set_cons_zero, List.set_cons_succ]
  refine wpAnyH_take (i := 21) (v := (.int .i64 a6)) rfl (by kernel_rfl) (by kernel_rfl) (by kernel_rfl) (fun _ _ _ h => h) (Or.inl ⟨by rfl, fun wx hSw => by (have hc := (show wx.cell? ⟨b, o + 6, none⟩ = some (.int .i64 a6) from hSw.1 6 (by simp)); go_simp)⟩) (by assumption) ?_
  simp only [Act.put, List.getElem_toArray, List.getElem_cons_succ, List.getElem_cons_zero, List.setIfInBounds_toArray, List.set_cons_zero, List.set_cons_succ]
  refine wpAnyH_take (i := 22) (v := (.pointer (some ⟨B, 0, none⟩))) rfl (by kernel_rfl) (by kernel_rfl) (by kernel_rfl) (fun _ _ _ h => h) (Or.inl ⟨by rfl, fun wx hSw => by kernel_rfl⟩) (by assumption) ?_
  simp only [Act.put, List.getElem_toArray, List.getElem_cons_succ, List.getElem_cons_zero, List.setIfInBounds_toArray, List.set_cons_zero, List.set_cons_succ]
  refine wpAnyH_take (i := 23) (v := (.pointer (some ⟨B, 0, none⟩))) rfl (by kernel_rfl) (by kernel_rfl) (by kernel_rfl) (fun _ _ _ h => h) (Or.inl ⟨by rfl, fun wx hSw => by ((try dsimp only at hSw); go_simp)⟩) (by assumption) ?_
  simp only [Act.put, List.getElem_toArray, List.getElem_cons_succ, List.getElem_cons_zero, List.setIfInBounds_toArray, List.set_cons_zero, List.set_cons_succ]
  refine wpAnyH_take (i := 24) (v := (.pointer (some ⟨B, 7, none⟩))) rfl (by kernel_rfl) (by kernel_rfl) (by kernel_rfl) (fun _ _ _ h => h) (Or.inl ⟨by rfl, fun wx hSw => by ((try dsimp only at hSw); go_simp)⟩) (by assumption) ?_
  simp only [Act.put, List.getElem_toArray, List.getElem_cons_succ, List.getElem_cons_zero, List.setIfInBounds_toArray, List.set_cons_zero, List.set_cons_succ]
  refine wpAnyH_take (i := 25) (v := (.pointer (some ⟨B, 14, none⟩))) rfl (by kernel_rfl) (by kernel_rfl) (by kernel_rfl) (fun _ _ _ h => h) (Or.inl ⟨by rfl, fun wx hSw => by ((try dsimp only at hSw); go_simp)⟩) (by assumption) ?_
  simp only [Act.put, List.getElem_toArray, List.getElem_cons_succ, List.getElem_cons_zero, List.setIfInBounds_toArray, List.set_cons_zero, List.set_cons_succ]
  refine wpAnyH_take (i := 26) (v := (.int .i64 day)) rfl (by kernel_rfl) (by kernel_rfl) (by kernel_rfl) (fun _ _ _ h => h) (Or.inl ⟨by rfl, fun wx hSw => by (have hc := (show wx.cell? ⟨B, 14, none⟩ = some (.int .i64 day) from hSw.2); go_simp)⟩) (by assumption) ?_
  simp only [Act.put, List.getElem_toArray, List.getElem_cons_succ, List.getElem_cons_zero, List.setIfInBounds_toArray, List.set_cons_zero, List.set_cons_succ]
  refine wpAnyH_take (i := 27) (v := (.agg #[.int .i64 a0, .int .i64 a1, .int .i64 a2, .int .i64 a3, .int .i64 a4, .int .i64 a5, .int .i64 a6, .int .i64 day])) rfl (by kernel_rfl) (by kernel_rfl) (by kernel_rfl) (fun _ _ _ h => h) (Or.inl ⟨by rfl, fun wx hSw => by go_simp⟩) (by assumption) ?_
  simp only [Act.put, List.getElem_toArray, List.getElem_cons_succ, List.getElem_cons_zero, List.setIfInBounds_toArray, List.set_cons_zero, List.set_cons_succ]
  refine wpAnyH_take (i := 28) (v := (.pointer (some ⟨B, 0, none⟩))) rfl (by kernel_rfl) (by kernel_rfl) (by kernel_rfl) (fun _ _ _ h => h) (Or.inl ⟨by rfl, fun wx hSw => by ((try dsimp only at hSw); go_simp)⟩) (by assumption) ?_
  simp only [Act.put, List.getElem_toArray, List.getElem_cons_succ, List.getElem_cons_zero, List.setIfInBounds_toArray, List.set_cons_zero, List.set_cons_succ]
  refine wpAnyH_take (i := 29) (v := (.pointer (some ⟨B, 7, none⟩))) rfl (by kernel_rfl) (by kernel_rfl) (by kernel_rfl) (fun _ _ _ h => h) (Or.inl ⟨by rfl, fun wx hSw => by ((try dsimp only at hSw); go_simp)⟩) (by assumption) ?_
  simp only [Act.put, List.getElem_toArray, List.getElem_cons_succ, List.getElem_cons_zero, List.setIfInBounds_toArray, List.set_cons_zero, List.set_cons_succ]
  refine wpAnyH_ready (rs := [30]) (by kernel_rfl) (by simp) ?_
  refine AllReadyH.cons rfl (fun K hK => ?_) AllReadyH.nil
  rw [if_pos (by rfl)]
  refine wp_store_mid 52 (.tmp 110) (.tmp 108) rfl B 7 #[.int .i64 a0, .int .i64 a1, .int .i64 a2, .int .i64 a3, .int .i64 a4, .int .i64 a5, .int .i64 a6, .int .i64 day] rfl rfl HT.out (by kernel_rfl) (by kernel_rfl) ?_
  rw [show (#[.int .i64 a0, .int .i64 a1, .int .i64 a2, .int .i64 a3, .int .i64 a4, .int .i64 a5, .int .i64 a6, .int .i64 day] : Array Value).toList = m from HM.out.symm]
  refine hK.out _ _ HS2.out (fun _ => ?_)
  clear hK K hHeld HS1 HT HS2
  generalize U0.setCells B 7 m = U1 at *
  refine wpAnyH_done (by kernel_rfl) ?_ _
  go_wp2
  go_ret
  exact HE.out
end Go.Proofs.YtanndhoimpnhpaaGreatDoor
namespace Go.Proofs.YtanndhoimpnhpaaGreatDoor
open Go.ChangeShapes Go.WideShapes Go.ChangeAt Go.RowKit Go.WideMaps Go.Maps Lg Cal
set_option maxRecDepth 10000 in
set_option maxHeartbeats 4000000 in
theorem refread4 (w : World) (B : Nat) (s : Sv) (v : Value) (d k a : Int) (F : Nat → Prop) (h : IsD w B s F) (hL : s.L.length ≤ 4000000000000) (hv : IsV w v [d, k, a]) (hd : ∀ b, v.ownBlock = some b → ¬ F b) :
    Calls Tryz.prog 72 #[.pointer (some ⟨B, 0, none⟩), .int .i64 4, v] w (ReadPost w B s F 4 [d, k, a]) := by
  obtain ⟨b, o, c, rfl, hbl, hc⟩ := hv.first
  have hnF : ¬ F b := hd b rfl
  obtain ⟨t, l, g, day, L⟩ := s
  have hD : Dc w B t l g day L F := h
  obtain ⟨evv, bkv, hX, hF, hF1, hF2⟩ := hD
  have hL : L.length ≤ 4000000000000 := hL
  have HN : Hid (∀ q, ¬ (t.st ≤ d ∧ d < day ∧ 1 ≤ k ∧ k ≤ 12 ∧ ¬ a = 0) → ReadPost w B ⟨t, l, g, day, L⟩ F 4 [d, k, a] (.returned (.bool false)) (w.drewN q)) := fun q h0 =>
    ⟨(Keep.refl F w).drewN q, .inr ⟨by simp only [Sv.read]; rw [if_neg h0], rfl⟩⟩
  have HX : Hid (DcX w B t l g day L evv bkv) := hX
  have HF : Hid (F B ∧ (∀ b, evv.ownBlock = some b → F b) ∧ (∀ b, bkv.ownBlock = some b → F b)) := ⟨hF, hF1, hF2⟩
  have HSU0 : Hid (∀ j (hj : j < [d, k, a].length), w.cell? ⟨b, o + j, none⟩ = some (.int .i64 [d, k, a][j])) := hc
  have c0 : w.cell? ⟨b, o, none⟩ = some (.int .i64 d) := hc 0 (by simp)
  have c1 : w.cell? ⟨b, o + 1, none⟩ = some (.int .i64 k) := hc 1 (by simp)
  have c2 : w.cell? ⟨b, o + 2, none⟩ = some (.int .i64 a) := hc 2 (by simp)
  have c3 : w.cell? ⟨B, 0, none⟩ = some (.int .i64 t.st) := hX.ln.cell 0 rfl
  have c4 : w.cell? ⟨B, 14, none⟩ = some (.int .i64 day) := hX.ln.cell 14 rfl
  obtain ⟨p0, cap0, rfl⟩ := own_slice hX.bk
  obtain ⟨i0, hi, hz0, hz1, hz2⟩ := info_parts infoEn
  clear h hv hd hc hX hF hF1 hF2
  go_enter Tryz.func72, Tryz.ntmps72
  go_upto_region 16 with fail
  by_cases b0 : d < t.st
  · go_quiet (fail)
    go_wp2
    go_ret
    exact HN.out _ (by omega)
  by_cases b1 : day ≤ d
  · go_quiet (fail)
    go_wp2
    go_ret
    exact HN.out _ (by omega)
  by_cases b2 : k < 1
  · go_quiet (fail)
    go_wp2
    go_ret
    exact HN.out _ (by omega)
  by_cases b3 : 12 < k
  · go_quiet (fail)
    go_wp2
    go_ret
    exact HN.out _ (by omega)
  by_cases b4 : a = 0
  · subst b4
    go_quiet (fail)
    go_wp2
    go_ret
    exact HN.out _ (by simp)
  have b5 : (a == (0 : Int)) = false := by simp [b4]
  have HR : Hid (t.st ≤ d ∧ d < day ∧ 1 ≤ k ∧ k ≤ 12 ∧ ¬ a = 0) := ⟨by omega, by omega, by omega, by omega, b4⟩
  go_quiet (fail)
  clear c0 c1 c2 c3 c4 b0 b1 b2 b3 b4 b5 HN
  go_upto_region 18 with fail
  have hkU : Below w.heap.size w (w.drewN nq).drew := ⟨rfl, rfl, rfl, Nat.le_refl _, fun _ _ => rfl⟩
  generalize hU : (w.drewN nq).drew = U0 at hkU
  have HSU : Hid (∀ j (hj : j < [d, k, a].length), U0.cell? ⟨b, o + j, none⟩ = some (.int .i64 [d, k, a][j])) := fun j hj => (World.cell?_of_block (w := w) (a := ⟨b, o + j, none⟩) (hkU.block b hbl)).trans (HSU0.out j hj)
  have hk1 : Below w.heap.size w (U0.alloc (.cells #[.int .i64 d, .int .i64 k, .int .i64 a] 114)) := hkU.alloc hkU.size _
  have HS2 : Hid (∀ j (hj : j < [d, k, a].length), (U0.alloc (.cells #[.int .i64 d, .int .i64 k, .int .i64 a] 114)).cell? ⟨b, o + j, none⟩ = some (.int .i64 [d, k, a][j])) := fun j hj => (World.cell?_of_block (w := w) (a := ⟨b, o + j, none⟩) (hk1.block b hbl)).trans (HSU0.out j hj)
  have HA0 : Hid (At U0 B (dl t evv g day (.slice p0 L.length cap0))) := At.keep (S := fun _ => False) (v := .int .i64 t.st) HX.out.ln (Keep.below hkU) (fun x => x)
  have HA1 : Hid (At (U0.alloc (.cells #[.int .i64 d, .int .i64 k, .int .i64 a] 114)) B (dl t evv g day (.slice p0 L.length cap0))) := At.keep (S := fun _ => False) (v := .int .i64 t.st) HX.out.ln (Keep.below hk1) (fun x => x)
  have HC1 : Hid (U0.cell? ⟨B, 15, none⟩ = some (.slice p0 L.length cap0)) := HA0.out.cell 15 rfl
  have HC2 : Hid ((U0.alloc (.cells #[.int .i64 d, .int .i64 k, .int .i64 a] 114)).cell? ⟨B, 15, none⟩ = some (.slice p0 L.length cap0)) := HA1.out.cell 15 rfl
  have HO : Hid ((U0.alloc (.cells #[.int .i64 d, .int .i64 k, .int .i64 a] 114)).ownsRow (B + 1) 114 3 (.slice p0 L.length cap0) L.length (ens L)) := own_keep (S := fun _ => False) HX.out.bk (Keep.below hk1) (fun _ _ x => x)
  have HNe : Hid (∀ j u, [Value.int .i64 d, .int .i64 k, .int .i64 a][j]? = some u → (U0.alloc (.cells #[.int .i64 d, .int .i64 k, .int .i64 a] 114)).cell? ((⟨U0.heap.size, 0, none⟩ : Addr).add j) = some u) := fun j u hu => by
    have := (At.alloc U0 [.int .i64 d, .int .i64 k, .int .i64 a] 114 j u hu).1
    rw [Addr.add_lit, Nat.zero_add]
    exact this
  have hBU : B + 1 ≤ U0.heap.size := Nat.le_trans (At.lt (v := .int .i64 t.st) HX.out.ln) hkU.size
  have HP : Hid (∀ v' w4, w4.ownsRow (B + 1) 114 3 v' (L.length + 1) (ens L ++ [.int .i64 d, .int .i64 k, .int .i64 a]) → (U0.alloc (.cells #[.int .i64 d, .int .i64 k, .int .i64 a] 114)).grownBy w4 (Value.slice p0 L.length cap0).ownBlock → (v'.ownBlock = (Value.slice p0 L.length cap0).ownBlock ∨ v'.ownBlock = some (U0.alloc (.cells #[.int .i64 d, .int .i64 k, .int .i64 a] 114)).heap.size) →
      At w4 B (dl t evv g day (.slice p0 L.length cap0)) ∧ (∀ j (hj : j < [d, k, a].length), w4.cell? ⟨b, o + j, none⟩ = some (.int .i64 [d, k, a][j])) ∧ Hid ((∀ j (hj : j < [d, k, a].length), (w4.setCell ⟨B, 15, none⟩ v').cell? ⟨b, o + j, none⟩ = some (.int .i64 [d, k, a][j])) ∧ ReadPost w B ⟨t, l, g, day, L⟩ F 4 [d, k, a] (.returned (.bool true)) (w4.setCell ⟨B, 15, none⟩ v'))) := by
    intro v' w4 ho4 hg4 hat4
    have hnb : ∀ b, (Value.slice p0 L.length cap0).ownBlock = some b → ¬ b = B := fun b hb => by have := own_base HX.out.bk hb; omega
    obtain ⟨aw, kw, bkv', hA, hO, hON, hK⟩ := BkW.put (V := w) (bk0 := .slice p0 L.length cap0) ⟨d, k, a⟩ HA1.out (Keep.below hk1) (.inl rfl) hnb ho4 hg4 hat4
    have hcell : ∀ {W : World}, Keep (fun b => b = B ∨ (Value.slice p0 L.length cap0).ownBlock = some b) w W → ∀ j (hj : j < [d, k, a].length), W.cell? ⟨b, o + j, none⟩ = some (.int .i64 [d, k, a][j]) := fun hk j hj =>
      (World.cell?_of_block (w := w) (a := ⟨b, o + j, none⟩) (hk.block b hbl (fun h => by
        rcases h with rfl | h
        · exact hnF HF.out.1
        · exact hnF (HF.out.2.2 b h)))).trans (HSU0.out j hj)
    refine ⟨aw, hcell kw, hcell hK, hK.mono (fun k _ h => ?_), .inl ⟨⟨t, l, g, day, L ++ [⟨d, k, a⟩]⟩, by simp only [Sv.read]; rw [if_pos HR.out], rfl, evv, bkv', ⟨hA, ?_, hO, ?_, HX.out.ds, HX.out.ok, HX.out.le, HX.out.ot, ?_, HX.out.d0, HX.out.d1⟩, .inl HF.out.1, fun b hb => .inl (HF.out.2.1 b hb), own_new hON HF.out.2.2 hO⟩⟩
    · rcases h with rfl | h
      · exact HF.out.1
      · exact HF.out.2.2 k h
    · refine own_keep HX.out.ev hK (fun b hb h => ?_)
      rcases h with rfl | h
      · have := own_base HX.out.ev hb; omega
      · exact HX.out.ap b hb h
    · intro b hb h
      rcases hON with h4 | ⟨x, h5, h6⟩
      · exact HX.out.ap b hb (h4.symm.trans h)
      · rw [h5] at h
        injection h with h
        have := (own_base HX.out.ev hb).2
        omega
    · intro e he
      rcases List.mem_append.1 he with h | h
      · exact HX.out.inl e h
      · rw [List.mem_singleton] at h
        subst h
        exact ⟨HR.out.1, HR.out.2.1, HR.out.2.2.1, HR.out.2.2.2.1⟩
  refine wp_region_held_drew (S := fun wx => ∀ j (hj : j < [d, k, a].length), wx.cell? ⟨b, o + j, none⟩ = some (.int .i64 [d, k, a][j])) (by kernel_rfl) (by rw [hU]; exact HSU.out) (fun hHeld => ?_)
  rw [hU]
  rw [hU] at hHeld
  clear hU HX HF HR HA0 HA1 hk1 hkU HSU0 hbl hnF
  refine wpAnyH_take (i := 0) (v := (.pointer (some ⟨B, 0, none⟩))) rfl (by kernel_rfl) (by kernel_rfl) (by kernel_rfl) (fun _ _ _ h => h) (Or.inl ⟨by rfl, fun wx hSw => by kernel_rfl⟩) (by assumption) ?_
  simp only [Act.put, List.getElem_toArray, List.getElem_cons_zero, List.setIfInBounds_toArray, List.set_cons_zero, List.set_cons_succ]
  refine wpAnyH_take (i := 1) (v := (.pointer (some ⟨B, 0, none⟩))) rfl (by kernel_rfl) (by kernel_rfl) (by kernel_rfl) (fun _ _ _ h => h) (Or.inl ⟨by rfl, fun wx hSw => by kernel_rfl⟩) (by assumption) ?_
  simp only [Act.put, List.getElem_toArray, List.getElem_cons_succ, List.getElem_cons_zero, List.setIfInBounds_toArray, List.set_cons_zero, List.set_cons_succ]
  refine wpAnyH_take (i := 2) (v := (.pointer (some ⟨B, 0, none⟩))) rfl (by kernel_rfl) (by kernel_rfl) (by kernel_rfl) (fun _ _ _ h => h) (Or.inl ⟨by rfl, fun wx hSw => by ((try dsimp only at hSw); go_simp)⟩) (by assumption) ?_
  simp only [Act.put, List.getElem_toArray, List.getElem_cons_succ, List.getElem_cons_zero, List.setIfInBounds_toArray, List.set_cons_zero, List.set_cons_succ]
  refine wpAnyH_take (i := 3) (v := (.pointer (some ⟨B, 15, none⟩))) rfl (by kernel_rfl) (by kernel_rfl) (by kernel_rfl) (fun _ _ _ h => h) (Or.inl ⟨by rfl, fun wx hSw => by ((try dsimp only at hSw); go_simp)⟩) (by assumption) ?_
  simp only [Act.put, List.getElem_toArray, List.getElem_cons_succ, List.getElem_cons_zero, List.setIfInBounds_toArray, List.set_cons_zero, List.set_cons_succ]
  refine wpAnyH_take (i := 5) (v := (.slice (some ⟨b, o, none⟩) [d, k, a].length c)) rfl (by kernel_rfl) (by kernel_rfl) (by kernel_rfl) (fun _ _ _ h => h) (Or.inl ⟨by rfl, fun wx hSw => by kernel_rfl⟩) (by assumption) ?_
  simp only [Act.put, List.getElem_toArray, List.getElem_cons_succ, List.getElem_cons_zero, List.setIfInBounds_toArray, List.set_cons_zero, List.set_cons_succ]
  refine wpAnyH_take (i := 6) (v := (.pointer (some ⟨b, o, none⟩))) rfl (by kernel_rfl) (by kernel_rfl) (by kernel_rfl) (fun _ _ _ h => h) (Or.inl ⟨by rfl, fun wx hSw => by ((try dsimp only at hSw); go_simp)⟩) (by assumption) ?_
  simp only [Act.put, List.getElem_toArray, List.getElem_cons_succ, List.getElem_cons_zero, List.setIfInBounds_toArray, List.set_cons_zero, List.set_cons_succ]
  refine wpAnyH_take (i := 7) (v := (.int .i64 d)) rfl (by kernel_rfl) (by kernel_rfl) (by kernel_rfl) (fun _ _ _ h => h) (Or.inl ⟨by rfl, fun wx hSw => by (have hc := (show wx.cell? ⟨b, o, none⟩ = some (.int .i64 d) from hSw 0 (by simp)); go_simp)⟩) (by assumption) ?_
  simp only [Act.put, List.getElem_toArray, List.getElem_cons_succ, List.getElem_cons_zero, List.setIfInBounds_toArray, List.set_cons_zero, List.set_cons_succ]
  refine wpAnyH_take (i := 8) (v := (.slice (some ⟨b, o, none⟩) [d, k, a].length c)) rfl (by kernel_rfl) (by kernel_rfl) (by kernel_rfl) (fun _ _ _ h => h) (Or.inl ⟨by rfl, fun wx hSw => by kernel_rfl⟩) (by assumption) ?_
  simp only [Act.put, List.getElem_toArray, List.getElem_cons_succ, List.getElem_cons_zero, List.setIfInBounds_toArray, List.set_cons_zero, List.set_cons_succ]
  refine wpAnyH_take (i := 9) (v := (.pointer (some ⟨b, o + 1, none⟩))) rfl (by kernel_rfl) (by kernel_rfl) (by kernel_rfl) (fun _ _ _ h => h) (Or.inl ⟨by rfl, fun wx hSw => by ((try dsimp only at hSw); go_simp)⟩) (by assumption) ?_
  simp only [Act.put, List.getElem_toArray, List.getElem_cons_succ, List.getElem_cons_zero, List.setIfInBounds_toArray, List.set_cons_zero, List.set_cons_succ]
  refine wpAnyH_take (i := 10) (v := (.int .i64 k)) rfl (by kernel_rfl) (by kernel_rfl) (by kernel_rfl) (fun _ _ _ h => h) (Or.inl ⟨by rfl, fun wx hSw => by (have hc := (show wx.cell? ⟨b, o + 1, none⟩ = some (.int .i64 k) from hSw 1 (by simp)); go_simp)⟩) (by assumption) ?_
  simp only [Act.put, List.getElem_toArray, List.getElem_cons_succ, List.getElem_cons_zero, List.setIfInBounds_toArray, List.set_cons_zero, List.set_cons_succ]
  refine wpAnyH_take (i := 11) (v := (.slice (some ⟨b, o, none⟩) [d, k, a].length c)) rfl (by kernel_rfl) (by kernel_rfl) (by kernel_rfl) (fun _ _ _ h => h) (Or.inl ⟨by rfl, fun wx hSw => by kernel_rfl⟩) (by assumption) ?_
  simp only [Act.put, List.getElem_toArray, List.getElem_cons_succ, List.getElem_cons_zero, List.setIfInBounds_toArray, List.set_cons_zero, List.set_cons_succ]
  refine wpAnyH_take (i := 12) (v := (.pointer (some ⟨b, o + 2, none⟩))) rfl (by kernel_rfl) (by kernel_rfl) (by kernel_rfl) (fun _ _ _ h => h) (Or.inl ⟨by rfl, fun wx hSw => by ((try dsimp only at hSw); go_simp)⟩) (by assumption) ?_
  simp only [Act.put, List.getElem_toArray, List.getElem_cons_succ, List.getElem_cons_zero, List.setIfInBounds_toArray, List.set_cons_zero, List.set_cons_succ]
  refine wpAnyH_take (i := 13) (v := (.int .i64 a)) rfl (by kernel_rfl) (by kernel_rfl) (by kernel_rfl) (fun _ _ _ h => h) (Or.inl ⟨by rfl, fun wx hSw => by (have hc := (show wx.cell? ⟨b, o + 2, none⟩ = some (.int .i64 a) from hSw 2 (by simp)); go_simp)⟩) (by assumption) ?_
  simp only [Act.put, List.getElem_toArray, List.getElem_cons_succ, List.getElem_cons_zero, List.setIfInBounds_toArray, List.set_cons_zero, List.set_cons_succ]
  refine wpAnyH_take (i := 14) (v := (.agg #[.int .i64 d, .int .i64 k, .int .i64 a])) rfl (by kernel_rfl) (by kernel_rfl) (by kernel_rfl) (fun _ _ _ h => h) (Or.inl ⟨by rfl, fun wx hSw => by go_simp⟩) (by assumption) ?_
  simp only [Act.put, List.getElem_toArray, List.getElem_cons_succ, List.getElem_cons_zero, List.setIfInBounds_toArray, List.set_cons_zero, List.set_cons_succ]
  refine wpAnyH_ready (rs := [4, 15]) (by kernel_rfl) (by simp) ?_
  refine AllReadyH.cons rfl (fun K hK => ?_) (AllReadyH.cons rfl (fun K hK => ?_) AllReadyH.nil)
  · rw [if_pos (by rfl)]
    refine wp_valD (.slice p0 L.length cap0) U0 (by (have hc := HC1.out; go_simp)) ?_
    refine hK.out _ _ HSU.out (fun hHeld2 => ?_)
    clear hK K
    try simp only [Act.put, List.getElem_toArray, List.getElem_cons_succ, List.getElem_cons_zero, List.setIfInBounds_toArray, List.set_cons_zero, List.set_cons_succ]
    refine wpAnyH_ready (rs := [15]) (by kernel_rfl) (by simp) ?_
    refine AllReadyH.cons rfl (fun K hK => ?_) AllReadyH.nil
    rw [if_pos (by rfl)]
    refine wp_valD (.slice (some ⟨U0.heap.size, 0, none⟩) 1 1) (U0.alloc (.cells #[.int .i64 d, .int .i64 k, .int .i64 a] 114)) (by kernel_rfl) ?_
    refine hK.out _ _ HS2.out (fun hHeld2 => ?_)
    clear hK K
    try simp only [Act.put, List.getElem_toArray, List.getElem_cons_succ, List.getElem_cons_zero, List.setIfInBounds_toArray, List.set_cons_zero, List.set_cons_succ]
    refine wpAnyH_ready (rs := [16]) (by kernel_rfl) (by simp) ?_
    refine AllReadyH.cons rfl (fun K hK => ?_) AllReadyH.nil
    rw [if_pos (by rfl)]
    refine wp_append_at (U0.alloc (.cells #[.int .i64 d, .int .i64 k, .int .i64 a] 114)) (.tmp 155) (.tmp 166) 54 rfl (B + 1) 114 i0 (.agg #[.int .i64 0, .int .i64 0, .int .i64 0]) 3 24 Tryz.underlying54 hi hz0 hz1 hz2 rfl (by decide) (.slice p0 L.length cap0) L.length (ens L) rfl HO.out ⟨U0.heap.size, 0, none⟩ 1 1 [.int .i64 d, .int .i64 k, .int .i64 a] rfl rfl HNe.out (fun u hu => ?_) (by unfold maxLen; omega) (by omega) (by simp; omega) ?_
    · rcases List.mem_cons.1 hu with rfl | hu
      · rfl
      · rcases List.mem_cons.1 hu with rfl | hu
        · rfl
        · rw [List.mem_singleton] at hu
          subst hu
          rfl
    intro v' w4 ho4 hg4 hat4
    obtain ⟨aw, hsb, HE⟩ := HP.out v' w4 ho4 hg4 hat4
    refine hK.out _ _ hsb (fun hHeld3 => ?_)
    clear hK K
    try simp only [Act.put, List.getElem_toArray, List.getElem_cons_succ, List.getElem_cons_zero, List.setIfInBounds_toArray, List.set_cons_zero, List.set_cons_succ]
    obtain ⟨g', cap', rfl, _, _⟩ := ho4.form (by omega)
    have c15 : w4.cell? ⟨B, 15, none⟩ = some (.slice p0 L.length cap0) := aw.cell 15 rfl
    have f15 : w4.frozen? ⟨B, 15, none⟩ = false := aw.free 15 rfl
    clear ho4 hg4 hat4 aw
    refine wpAnyH_take (i := 17) (v := (.pointer (some ⟨B, 0, none⟩))) rfl (by kernel_rfl) (by kernel_rfl) (by kernel_rfl) (fun _ _ _ h => h) (Or.inl ⟨by rfl, fun wx hSw => by ((try dsimp only at hSw); go_simp)⟩) (by assumption) ?_
    simp only [Act.put, List.getElem_toArray, List.getElem_cons_succ, List.getElem_cons_zero, List.setIfInBounds_toArray, List.set_cons_zero, List.set_cons_succ]
    refine wpAnyH_take (i := 18) (v := (.pointer (some ⟨B, 15, none⟩))) rfl (by kernel_rfl) (by kernel_rfl) (by kernel_rfl) (fun _ _ _ h => h) (Or.inl ⟨by rfl, fun wx hSw => by ((try dsimp only at hSw); go_simp)⟩) (by assumption) ?_
    simp only [Act.put, List.getElem_toArray, List.getElem_cons_succ, List.getElem_cons_zero, List.setIfInBounds_toArray, List.set_cons_zero, List.set_cons_succ]
    refine wpAnyH_ready (rs := [19]) (by kernel_rfl) (by simp) ?_
    refine AllReadyH.cons rfl (fun K hK => ?_) AllReadyH.nil
    rw [if_pos (by rfl)]
    refine wp_skipD (w4.setCell ⟨B, 15, none⟩ (.slice (some ⟨g', 0, none⟩) (L.length + 1) cap')) (by go_simp) ?_
    refine hK.out _ _ HE.out.1 (fun _ => ?_)
    clear hK K hHeld3 hHeld2 hsb c15 f15
    refine wpAnyH_done (by kernel_rfl) ?_ _
    generalize w4.setCell ⟨B, 15, none⟩ (.slice (some ⟨g', 0, none⟩) (L.length + 1) cap') = w5 at *
    clear HP HS2 HNe HO HSU HC1 HC2
    go_wp2
    go_ret
    exact HE.out.2
  · rw [if_pos (by rfl)]
    refine wp_valD (.slice (some ⟨U0.heap.size, 0, none⟩) 1 1) (U0.alloc (.cells #[.int .i64 d, .int .i64 k, .int .i64 a] 114)) (by kernel_rfl) ?_
    refine hK.out _ _ HS2.out (fun hHeld2 => ?_)
    clear hK K
    try simp only [Act.put, List.getElem_toArray, List.getElem_cons_succ, List.getElem_cons_zero, List.setIfInBounds_toArray, List.set_cons_zero, List.set_cons_succ]
    refine wpAnyH_ready (rs := [4]) (by kernel_rfl) (by simp) ?_
    refine AllReadyH.cons rfl (fun K hK => ?_) AllReadyH.nil
    rw [if_pos (by rfl)]
    refine wp_valD (.slice p0 L.length cap0) (U0.alloc (.cells #[.int .i64 d, .int .i64 k, .int .i64 a] 114)) (by (have hc := HC2.out; go_simp)) ?_
    refine hK.out _ _ HS2.out (fun hHeld2 => ?_)
    clear hK K
    try simp only [Act.put, List.getElem_toArray, List.getElem_cons_succ, List.getElem_cons_zero, List.setIfInBounds_toArray, List.set_cons_zero, List.set_cons_succ]
    refine wpAnyH_ready (rs := [16]) (by kernel_rfl) (by simp) ?_
    refine AllReadyH.cons rfl (fun K hK => ?_) AllReadyH.nil
    rw [if_pos (by rfl)]
    refine wp_append_at (U0.alloc (.cells #[.int .i64 d, .int .i64 k, .int .i64 a] 114)) (.tmp 155) (.tmp 166) 54 rfl (B + 1) 114 i0 (.agg #[.int .i64 0, .int .i64 0, .int .i64 0]) 3 24 Tryz.underlying54 hi hz0 hz1 hz2 rfl (by decide) (.slice p0 L.length cap0) L.length (ens L) rfl HO.out ⟨U0.heap.size, 0, none⟩ 1 1 [.int .i64 d, .int .i64 k, .int .i64 a] rfl rfl HNe.out (fun u hu => ?_) (by unfold maxLen; omega) (by omega) (by simp; omega) ?_
    · rcases List.mem_cons.1 hu with rfl | hu
      · rfl
      · rcases List.mem_cons.1 hu with rfl | hu
        · rfl
        · rw [List.mem_singleton] at hu
          subst hu
          rfl
    intro v' w4 ho4 hg4 hat4
    obtain ⟨aw, hsb, HE⟩ := HP.out v' w4 ho4 hg4 hat4
    refine hK.out _ _ hsb (fun hHeld3 => ?_)
    clear hK K
    try simp only [Act.put, List.getElem_toArray, List.getElem_cons_succ, List.getElem_cons_zero, List.setIfInBounds_toArray, List.set_cons_zero, List.set_cons_succ]
    obtain ⟨g', cap', rfl, _, _⟩ := ho4.form (by omega)
    have c15 : w4.cell? ⟨B, 15, none⟩ = some (.slice p0 L.length cap0) := aw.cell 15 rfl
    have f15 : w4.frozen? ⟨B, 15, none⟩ = false := aw.free 15 rfl
    clear ho4 hg4 hat4 aw
    refine wpAnyH_take (i := 17) (v := (.pointer (some ⟨B, 0, none⟩))) rfl (by kernel_rfl) (by kernel_rfl) (by kernel_rfl) (fun _ _ _ h => h) (Or.inl ⟨by rfl, fun wx hSw => by ((try dsimp only at hSw); go_simp)⟩) (by assumption) ?_
    simp only [Act.put, List.getElem_toArray, List.getElem_cons_succ, List.getElem_cons_zero, List.setIfInBounds_toArray, List.set_cons_zero, List.set_cons_succ]
    refine wpAnyH_take (i := 18) (v := (.pointer (some ⟨B, 15, none⟩))) rfl (by kernel_rfl) (by kernel_rfl) (by kernel_rfl) (fun _ _ _ h => h) (Or.inl ⟨by rfl, fun wx hSw => by ((try dsimp only at hSw); go_simp)⟩) (by assumption) ?_
    simp only [Act.put, List.getElem_toArray, List.getElem_cons_succ, List.getElem_cons_zero, List.setIfInBounds_toArray, List.set_cons_zero, List.set_cons_succ]
    refine wpAnyH_ready (rs := [19]) (by kernel_rfl) (by simp) ?_
    refine AllReadyH.cons rfl (fun K hK => ?_) AllReadyH.nil
    rw [if_pos (by rfl)]
    refine wp_skipD (w4.setCell ⟨B, 15, none⟩ (.slice (some ⟨g', 0, none⟩) (L.length + 1) cap')) (by go_simp) ?_
    refine hK.out _ _ HE.out.1 (fun _ => ?_)
    clear hK K hHeld3 hHeld2 hsb c15 f15
    refine wpAnyH_done (by kernel_rfl) ?_ _
    generalize w4.setCell ⟨B, 15, none⟩ (.slice (some ⟨g', 0, none⟩) (L.length + 1) cap') = w5 at *
    clear HP HS2 HNe HO HSU HC1 HC2
    go_wp2
    go_ret
    exact HE.out.2
end Go.Proofs.YtanndhoimpnhpaaGreatDoor
