/- Joined by program: TxM, Fl, KpA. -/
import Derived.Test.YtanndhoimpnhpaaGreatDoorM30
import Derived.Test.YtanndhoimpnhpaaGreatDoorM6
import Derived.Test.YtanndhoimpnhpaaGreatDoorM12
import Derived.Test.YtanndhoimpnhpaaGreatDoorM29
import Derived.WalkLawsBesides
namespace Go.Proofs.YtanndhoimpnhpaaGreatDoor
open Go.ChangeShapes Go.WideShapes Go.ChangeAt Go.RowKit Go.WideMaps Go.Maps Lg Cal
theorem Below.setCells' {n : Nat} {a : World} {b : Nat} (hb : n ≤ b) : ∀ (vs : List Value) (o : Nat) (w : World), Below n a w → Below n a (w.setCells b o vs)
  | [], _, _, h => h
  | v :: r, o, _, h => Below.setCells' hb r (o + 1) _ (h.setCell (p := ⟨b, o, none⟩) hb v)
set_option maxRecDepth 10000 in
set_option maxHeartbeats 4000000 in
theorem refread1 (w : World) (B : Nat) (s : Sv) (v : Value) (e : Ln.Ev) (F : Nat → Prop) (h : IsD w B s F) (hv : IsV w v (evN e)) :
    Calls Tryz.prog 72 #[.pointer (some ⟨B, 0, none⟩), .int .i64 1, v] w (ReadPost w B s F 1 (evN e)) := by
  obtain ⟨b, o, c, rfl, hbl, hc⟩ := IsV.first (n := e.d) (ns := [e.k, e.s, e.a]) hv
  show Calls Tryz.prog 72 #[.pointer (some ⟨B, 0, none⟩), .int .i64 1, .slice (some ⟨b, o, none⟩) 4 c] w (ReadPost w B s F 1 (evN e))
  obtain ⟨t, l, g, day, L⟩ := s
  have hD : Dc w B t l g day L F := h
  obtain ⟨evv, bkv, hX, hF, hF1, hF2⟩ := id hD
  have hFl : ∀ x, F x → True := fun _ _ => trivial
  have HN : Hid (∀ w', Below w.heap.size w w' → (∃ x, l.getLast? = some x ∧ aheadB x e = false) → ReadPost w B ⟨t, l, g, day, L⟩ F 1 (evN e) (.returned (.bool false)) w') := fun w' hb ⟨x, hx, h0⟩ =>
    ⟨Keep.below hb, .inr ⟨by
      simp only [Sv.read, evN]
      rw [if_neg (fun h1 => by have := h1.1 x hx; rw [h0] at this; cases this)], rfl⟩⟩
  have HA : Hid (∀ W, Below w.heap.size w W → (∀ x, l.getLast? = some x → aheadB x e = true) → Calls Tryz.prog 57 #[.pointer (some ⟨B, 0, none⟩), evc e] W fun x w' => ∃ q, x = .returned (.int .i64 q) ∧ ReadPost w B ⟨t, l, g, day, L⟩ F 1 (evN e) (.returned (.bool (q == 0))) w') := fun W hb hah => by
    have hDW : Dc W B t l g day L F := hD.keep (S := fun _ => False) (Keep.below hb) (fun _ _ x => x)
    refine (refaddD W B t l g day L F hDW e).mono ?_
    rintro x w' ⟨rfl, hk, hx⟩
    have hkw : Keep F w w' := (Keep.below hb).trans ⟨hk.os, hk.tape, hk.output, hk.size, hk.block⟩
    refine ⟨_, rfl, hkw, ?_⟩
    have hWd : ∀ b, Wd F W w' b → Wd F w w' b := fun b hb' => by
      rcases hb' with h1 | ⟨h1, h2⟩
      · exact .inl h1
      · exact .inr ⟨Nat.le_trans hb.size h1, h2⟩
    rcases hx with ⟨h0, _⟩ | ⟨h0, h1⟩
    · refine .inr ⟨by simp only [Sv.read, evN]; rw [if_neg (fun h1 => h0 h1.2)], ?_⟩
      rw [show (addC t l e == 0) = false by simp [h0]]
    · refine .inl ⟨⟨t, l ++ [e], g, day, L⟩, by simp only [Sv.read, evN]; rw [if_pos ⟨hah, h0⟩], ?_, h1.mono hWd⟩
      rw [h0]
      rfl
  have HD : Hid (∀ W, Below w.heap.size w W → W.cell? ⟨B, 6, none⟩ = some evv) := fun W hb => (At.keep (S := fun _ => False) (v := .int .i64 t.st) hX.ln (Keep.below hb) (fun x => x)).cell 6 rfl
  obtain ⟨pa, ecap, rfl⟩ := own_slice hX.ev
  have hl40 := hX.le
  have HEv : Hid (∀ x, l.getLast? = some x → ∃ b, pa = some ⟨b, 0, none⟩ ∧ ∀ W, Below w.heap.size w W → W.rangeAt b ((l.length - 1) * 4) (evl x)) := fun x hx => by
    obtain ⟨T, hn | ⟨gr, capr, cur, he, hgr⟩⟩ := id hX.ev
    · obtain ⟨_, hn⟩ := hn
      have := List.length_eq_zero_iff.1 hn
      subst this
      cases hx
    · injection he with e1 _ e3
      subst e1 e3
      have hgl := (own_base hX.ev (b := gr) rfl).2
      rw [List.getLast?_eq_getElem?] at hx
      have hr := (own_range hX.ev rfl (l.length - 1) x hx).1
      exact ⟨gr, rfl, fun W hb j u hu => (World.cell?_of_block (w := w) (a := ⟨gr, (l.length - 1) * 4 + j, none⟩) (hb.block gr hgl)).trans (hr j u hu)⟩
  have HS0 : Hid (∀ W, Below w.heap.size w W → ∀ j (hj : j < (evN e).length), W.cell? ⟨b, o + j, none⟩ = some (.int .i64 (evN e)[j])) := fun W hb j hj => (World.cell?_of_block (w := w) (a := ⟨b, o + j, none⟩) (hb.block b hbl)).trans (hc j hj)
  clear h hv hc hX hF hF1 hF2 hD hFl hbl
  go_enter Tryz.func72, Tryz.ntmps72
  go_upto_region 3 with fail
  have hb0 : Below w.heap.size w w.drew := (Below.refl _ _).drew
  refine wp_region_held_drew (S := fun wx => ∀ j (hj : j < (evN e).length), wx.cell? ⟨b, o + j, none⟩ = some (.int .i64 (evN e)[j])) (by kernel_rfl) (HS0.out _ hb0) (fun hHeld => ?_)
  generalize w.drew = U0 at *
  refine wpAnyH_take (i := 0) (v := (.slice (some ⟨b, o, none⟩) 4 c)) rfl (by kernel_rfl) (by kernel_rfl) (by kernel_rfl) (fun _ _ _ h => h) (Or.inl ⟨by rfl, fun wx hSw => by kernel_rfl⟩) (by assumption) ?_
  simp only [Act.put, List.getElem_toArray, List.getElem_cons_zero, List.setIfInBounds_toArray, List.set_cons_zero, List.set_cons_succ]
  refine wpAnyH_take (i := 1) (v := (.pointer (some ⟨b, o, none⟩))) rfl (by kernel_rfl) (by kernel_rfl) (by kernel_rfl) (fun _ _ _ h => h) (Or.inl ⟨by rfl, fun wx hSw => by ((try dsimp only at hSw); go_simp)⟩) (by assumption) ?_
  simp only [Act.put, List.getElem_toArray, List.getElem_cons_succ, List.getElem_cons_zero, List.setIfInBounds_toArray, List.set_cons_zero, List.set_cons_succ]
  refine wpAnyH_take (i := 2) (v := (.int .i64 e.d)) rfl (by kernel_rfl) (by kernel_rfl) (by kernel_rfl) (fun _ _ _ h => h) (Or.inl ⟨by rfl, fun wx hSw => by (have hc := (show wx.cell? ⟨b, o, none⟩ = some (.int .i64 e.d) from hSw 0 (by show 0 < 4; decide)); go_simp)⟩) (by assumption) ?_
  simp only [Act.put, List.getElem_toArray, List.getElem_cons_succ, List.getElem_cons_zero, List.setIfInBounds_toArray, List.set_cons_zero, List.set_cons_succ]
  refine wpAnyH_take (i := 3) (v := (.slice (some ⟨b, o, none⟩) 4 c)) rfl (by kernel_rfl) (by kernel_rfl) (by kernel_rfl) (fun _ _ _ h => h) (Or.inl ⟨by rfl, fun wx hSw => by kernel_rfl⟩) (by assumption) ?_
  simp only [Act.put, List.getElem_toArray, List.getElem_cons_succ, List.getElem_cons_zero, List.setIfInBounds_toArray, List.set_cons_zero, List.set_cons_succ]
  refine wpAnyH_take (i := 4) (v := (.pointer (some ⟨b, o + 1, none⟩))) rfl (by kernel_rfl) (by kernel_rfl) (by kernel_rfl) (fun _ _ _ h => h) (Or.inl ⟨by rfl, fun wx hSw => by ((try dsimp only at hSw); go_simp)⟩) (by assumption) ?_
  simp only [Act.put, List.getElem_toArray, List.getElem_cons_succ, List.getElem_cons_zero, List.setIfInBounds_toArray, List.set_cons_zero, List.set_cons_succ]
  refine wpAnyH_take (i := 5) (v := (.int .i64 e.k)) rfl (by kernel_rfl) (by kernel_rfl) (by kernel_rfl) (fun _ _ _ h => h) (Or.inl ⟨by rfl, fun wx hSw => by (have hc := (show wx.cell? ⟨b, o + 1, none⟩ = some (.int .i64 e.k) from hSw 1 (by show 1 < 4; decide)); go_simp)⟩) (by assumption) ?_
  simp only [Act.put, List.getElem_toArray, List.getElem_cons_succ, List.getElem_cons_zero, List.setIfInBounds_toArray, List.set_cons_zero, List.set_cons_succ]
  refine wpAnyH_take (i := 6) (v := (.slice (some ⟨b, o, none⟩) 4 c)) rfl (by kernel_rfl) (by kernel_rfl) (by kernel_rfl) (fun _ _ _ h => h) (Or.inl ⟨by rfl, fun wx hSw => by kernel_rfl⟩) (by assumption) ?_
  simp only [Act.put, List.getElem_toArray, List.getElem_cons_succ, List.getElem_cons_zero, List.setIfInBounds_toArray, List.set_cons_zero, List.set_cons_succ]
  refine wpAnyH_take (i := 7) (v := (.pointer (some ⟨b, o + 2, none⟩))) rfl (by kernel_rfl) (by kernel_rfl) (by kernel_rfl) (fun _ _ _ h => h) (Or.inl ⟨by rfl, fun wx hSw => by ((try dsimp only at hSw); go_simp)⟩) (by assumption) ?_
  simp only [Act.put, List.getElem_toArray, List.getElem_cons_succ, List.getElem_cons_zero, List.setIfInBounds_toArray, List.set_cons_zero, List.set_cons_succ]
  refine wpAnyH_take (i := 8) (v := (.int .i64 e.s)) rfl (by kernel_rfl) (by kernel_rfl) (by kernel_rfl) (fun _ _ _ h => h) (Or.inl ⟨by rfl, fun wx hSw => by (have hc := (show wx.cell? ⟨b, o + 2, none⟩ = some (.int .i64 e.s) from hSw 2 (by show 2 < 4; decide)); go_simp)⟩) (by assumption) ?_
  simp only [Act.put, List.getElem_toArray, List.getElem_cons_succ, List.getElem_cons_zero, List.setIfInBounds_toArray, List.set_cons_zero, List.set_cons_succ]
  refine wpAnyH_take (i := 9) (v := (.slice (some ⟨b, o, none⟩) 4 c)) rfl (by kernel_rfl) (by kernel_rfl) (by kernel_rfl) (fun _ _ _ h => h) (Or.inl ⟨by rfl, fun wx hSw => by kernel_rfl⟩) (by assumption) ?_
  simp only [Act.put, List.getElem_toArray, List.getElem_cons_succ, List.getElem_cons_zero, List.setIfInBounds_toArray, List.set_cons_zero, List.set_cons_succ]
  refine wpAnyH_take (i := 10) (v := (.pointer (some ⟨b, o + 3, none⟩))) rfl (by kernel_rfl) (by kernel_rfl) (by kernel_rfl) (fun _ _ _ h => h) (Or.inl ⟨by rfl, fun wx hSw => by ((try dsimp only at hSw); go_simp)⟩) (by assumption) ?_
  simp only [Act.put, List.getElem_toArray, List.getElem_cons_succ, List.getElem_cons_zero, List.setIfInBounds_toArray, List.set_cons_zero, List.set_cons_succ]
  refine wpAnyH_take (i := 11) (v := (.int .i64 e.a)) rfl (by kernel_rfl) (by kernel_rfl) (by kernel_rfl) (fun _ _ _ h => h) (Or.inl ⟨by rfl, fun wx hSw => by (have hc := (show wx.cell? ⟨b, o + 3, none⟩ = some (.int .i64 e.a) from hSw 3 (by show 3 < 4; decide)); go_simp)⟩) (by assumption) ?_
  simp only [Act.put, List.getElem_toArray, List.getElem_cons_succ, List.getElem_cons_zero, List.setIfInBounds_toArray, List.set_cons_zero, List.set_cons_succ]
  refine wpAnyH_take (i := 12) (v := (.agg (evl e).toArray)) rfl (by kernel_rfl) (by kernel_rfl) (by kernel_rfl) (fun _ _ _ h => h) (Or.inl ⟨by rfl, fun wx hSw => by (unfold evl; go_simp)⟩) (by assumption) ?_
  simp only [Act.put, List.getElem_toArray, List.getElem_cons_succ, List.getElem_cons_zero, List.setIfInBounds_toArray, List.set_cons_zero, List.set_cons_succ]
  have hb1 : Below w.heap.size w (U0.alloc (.cells #[.int .i64 0, .int .i64 0, .int .i64 0, .int .i64 0] 50)) := hb0.alloc hb0.size _
  have hA1 : At (U0.alloc (.cells #[.int .i64 0, .int .i64 0, .int .i64 0, .int .i64 0] 50)) U0.heap.size [.int .i64 0, .int .i64 0, .int .i64 0, .int .i64 0] := At.alloc U0 _ _
  refine wpAnyH_ready (rs := [13]) (by kernel_rfl) (by simp) ?_
  refine AllReadyH.cons rfl (fun K hK => ?_) AllReadyH.nil
  rw [if_pos (by rfl)]
  refine wp_valD (.pointer (some ⟨U0.heap.size, 0, none⟩)) (U0.alloc (.cells #[.int .i64 0, .int .i64 0, .int .i64 0, .int .i64 0] 50)) (by kernel_rfl) ?_
  refine hK.out _ _ (HS0.out _ hb1) (fun hHeld2 => ?_)
  clear hK K hHeld
  try simp only [Act.put, List.getElem_toArray, List.getElem_cons_succ, List.getElem_cons_zero, List.setIfInBounds_toArray, List.set_cons_zero, List.set_cons_succ]
  have hNl : w.heap.size ≤ U0.heap.size := hb0.size
  generalize (U0.alloc (.cells #[.int .i64 0, .int .i64 0, .int .i64 0, .int .i64 0] 50)) = U1 at *
  generalize U0.heap.size = N1 at *
  have hb2 : Below w.heap.size w (U1.setCells N1 0 (evl e)) := Below.setCells' hNl (evl e) 0 U1 hb1
  have hA2 : At (U1.setCells N1 0 (evl e)) N1 (evl e) := At.setCells_same hA1 rfl
  refine wpAnyH_ready (rs := [14]) (by kernel_rfl) (by simp) ?_
  refine AllReadyH.cons rfl (fun K hK => ?_) AllReadyH.nil
  rw [if_pos (by rfl)]
  refine wp_store_mid 50 (.tmp 7) (.tmp 25) rfl N1 0 (evl e).toArray rfl rfl (hA1.there 4 rfl) (by kernel_rfl) (by kernel_rfl) ?_
  rw [List.toList_toArray]
  refine hK.out _ _ (HS0.out _ hb2) (fun _ => ?_)
  clear hK K hHeld2 hA1 hb1 hb0 HS0
  refine wpAnyH_done (by kernel_rfl) ?_ _
  generalize U1.setCells N1 0 (evl e) = W1 at *
  have c6 : W1.cell? ⟨B, 6, none⟩ = some (.slice pa l.length ecap) := HD.out _ hb2
  have HW1 : Hid (Below w.heap.size w W1) := hb2
  have HA2 : Hid (At W1 N1 (evl e)) := hA2
  have HB : Hid (∀ wx, Below W1.heap.size W1 wx → Below w.heap.size w wx) := fun wx hx => HW1.out.trans (hx.mono HW1.out.size)
  have HN1 : Hid (∀ wx, Below W1.heap.size W1 wx → At wx N1 (evl e)) := fun wx hx => At.keep (S := fun _ => False) (v := .int .i64 e.d) HA2.out (Keep.below hx) (fun x => x)
  clear hb2 hA2
  have z1 : IntKind.i64.wrap ((l.length : Int) - 1) = (l.length : Int) - 1 := by rw [IntKind.wrap_i64]; omega
  cases hl : l.getLast? with
  | none =>
    have hn : l = [] := List.getLast?_eq_none_iff.1 hl
    have z2 : ¬ (0 : Int) ≤ (l.length : Int) - 1 := by rw [hn]; decide
    have hr : W1.rangeAt N1 0 (evl e) := HA2.out.range
    have hAdd := HA.out W1 HW1.out (fun x hx => by rw [hl] at hx; cases hx)
    clear hl
    clear hn
    go_upto_region 9 with fail
    refine wp_region_lit ?_
    refine wpList_val (.pointer (some ⟨B, 0, none⟩)) W1 rfl rfl ?_
    simp only [Act.put, List.setIfInBounds_toArray, List.set_cons_zero, List.set_cons_succ]
    refine wpList_load_mid rfl 50 (.tmp 7) rfl N1 0 rfl (evl e) _ hr Tryz.underlying50 rfl (by kernel_rfl) ?_
    simp only [Act.put, List.setIfInBounds_toArray, List.set_cons_zero, List.set_cons_succ]
    clear hr
    go_wp2_with fail
    refine hAdd.mono ?_
    rintro y w' ⟨q, rfl, hp⟩
    have HP : Hid (ReadPost w B ⟨t, l, g, day, L⟩ F 1 (evN e) (.returned (.bool (q == 0))) w') := hp
    clear hp hAdd
    go_wp2
    go_ret
    exact HP.out
  | some x =>
    have hne : 0 < l.length := by
      cases l with
      | nil => cases hl
      | cons _ _ => simp
    have z2 : (0 : Int) ≤ (l.length : Int) - 1 := by omega
    obtain ⟨be, rfl, hre⟩ := HEv.out x hl
    have HRe : Hid (∀ W, Below w.heap.size w W → W.rangeAt be ((l.length - 1) * 4) (evl x)) := hre
    clear hre HEv
    have HL : Hid (l.getLast? = some x) := hl
    clear hl
    have HCa : Hid (∀ W, Calls Tryz.prog 100 #[evc x, evc e] W fun z w' => z = .returned (.bool (aheadB x e)) ∧ Below W.heap.size W w') := fun W => ahead_any x e W
    obtain ⟨n1, hn1⟩ : ∃ n1, l.length = n1 + 1 := ⟨l.length - 1, by omega⟩
    have e1 : l.length - 1 = n1 := by omega
    rw [e1] at HRe
    have e2 : (l.length : Int) - 1 = (n1 : Int) := by omega
    clear z1 z2
    have z1 : IntKind.i64.wrap (n1 : Int) = (n1 : Int) := by rw [IntKind.wrap_i64]; omega
    have z2 : (0 : Int) ≤ (n1 : Int) := by omega
    have z3 : (n1 : Int) < (n1 : Int) + 1 := by omega
    rw [hn1] at HD c6
    clear e1 e2 hne hn1
    go_upto_region 6 with fail
    refine wp_region_held_drew (S := fun wx => Below W1.heap.size W1 wx) (by kernel_rfl) (Below.refl _ _).drew (fun hHeld => ?_)
    refine wpAnyH_take (i := 0) (v := (.pointer (some ⟨B, 0, none⟩))) rfl (by kernel_rfl) (by kernel_rfl) (by kernel_rfl) (fun _ _ _ h => h) (Or.inl ⟨by rfl, fun wx hSw => by kernel_rfl⟩) (by assumption) ?_
    simp only [Act.put, List.getElem_toArray, List.getElem_cons_zero, List.setIfInBounds_toArray, List.set_cons_zero, List.set_cons_succ]
    refine wpAnyH_take (i := 1) (v := (.pointer (some ⟨B, 0, none⟩))) rfl (by kernel_rfl) (by kernel_rfl) (by kernel_rfl) (fun _ _ _ h => h) (Or.inl ⟨by rfl, fun wx hSw => by ((try dsimp only at hSw); go_simp)⟩) (by assumption) ?_
    simp only [Act.put, List.getElem_toArray, List.getElem_cons_succ, List.getElem_cons_zero, List.setIfInBounds_toArray, List.set_cons_zero, List.set_cons_succ]
    refine wpAnyH_take (i := 2) (v := (.pointer (some ⟨B, 6, none⟩))) rfl (by kernel_rfl) (by kernel_rfl) (by kernel_rfl) (fun _ _ _ h => h) (Or.inl ⟨by rfl, fun wx hSw => by ((try dsimp only at hSw); go_simp)⟩) (by assumption) ?_
    simp only [Act.put, List.getElem_toArray, List.getElem_cons_succ, List.getElem_cons_zero, List.setIfInBounds_toArray, List.set_cons_zero, List.set_cons_succ]
    refine wpAnyH_take (i := 3) (v := (.slice (some ⟨be, 0, none⟩) (n1 + 1) ecap)) rfl (by kernel_rfl) (by kernel_rfl) (by kernel_rfl) (fun _ _ _ h => h) (Or.inl ⟨by rfl, fun wx hSw => by (have hc := HD.out wx (HB.out wx hSw); go_simp)⟩) (by assumption) ?_
    simp only [Act.put, List.getElem_toArray, List.getElem_cons_succ, List.getElem_cons_zero, List.setIfInBounds_toArray, List.set_cons_zero, List.set_cons_succ]
    refine wpAnyH_take (i := 4) (v := (.int .i64 (n1 : Int))) rfl (by kernel_rfl) (by kernel_rfl) (by kernel_rfl) (fun _ _ _ h => h) (Or.inl ⟨by rfl, fun wx hSw => by go_simp⟩) (by assumption) ?_
    simp only [Act.put, List.getElem_toArray, List.getElem_cons_succ, List.getElem_cons_zero, List.setIfInBounds_toArray, List.set_cons_zero, List.set_cons_succ]
    refine wpAnyH_take (i := 5) (v := (.pointer (some ⟨be, n1 * 4, none⟩))) rfl (by kernel_rfl) (by kernel_rfl) (by kernel_rfl) (fun _ _ _ h => h) (Or.inl ⟨by rfl, fun wx hSw => by go_simp⟩) (by assumption) ?_
    simp only [Act.put, List.getElem_toArray, List.getElem_cons_succ, List.getElem_cons_zero, List.setIfInBounds_toArray, List.set_cons_zero, List.set_cons_succ]
    refine wpAnyH_take (i := 6) (v := (.agg (evl x).toArray)) rfl (by kernel_rfl) (by kernel_rfl) (by kernel_rfl) (fun _ _ _ h => h) (yieldsIf_load_mid (by rfl) 50 (.tmp 39) rfl _ _ rfl _ _ (fun _ h => HRe.out _ (HB.out _ h)) Tryz.underlying50 rfl (by kernel_rfl)) (by assumption) ?_
    simp only [Act.put, List.getElem_toArray, List.getElem_cons_succ, List.getElem_cons_zero, List.setIfInBounds_toArray, List.set_cons_zero, List.set_cons_succ]
    refine wpAnyH_take (i := 7) (v := (.agg (evl e).toArray)) rfl (by kernel_rfl) (by kernel_rfl) (by kernel_rfl) (fun _ _ _ h => h) (yieldsIf_load_mid (by rfl) 50 (.tmp 7) rfl _ _ rfl _ _ (fun _ h => (HN1.out _ h).range) Tryz.underlying50 rfl (by kernel_rfl)) (by assumption) ?_
    simp only [Act.put, List.getElem_toArray, List.getElem_cons_succ, List.getElem_cons_zero, List.setIfInBounds_toArray, List.set_cons_zero, List.set_cons_succ]
    refine wpAnyH_ready (rs := [8]) (by kernel_rfl) (by simp) ?_
    refine AllReadyH.cons rfl (fun K hK => ?_) AllReadyH.nil
    generalize W1.drew = U2 at *
    have hC := HCa.out U2
    go_simp
    refine hC.mono ?_
    rintro z W2 ⟨rfl, hb3⟩
    go_wp2_with fail
    have hb4 : Below W1.heap.size W1 W2 := hHeld.trans (hb3.mono hHeld.size)
    refine hK.out _ _ hb4 (fun _ => ?_)
    clear hK K hC hb3 hHeld c6
    try simp only [Act.put, List.getElem_toArray, List.getElem_cons_succ, List.getElem_cons_zero, List.setIfInBounds_toArray, List.set_cons_zero, List.set_cons_succ]
    refine wpAnyH_take (i := 9) (v := (.bool (aheadB x e))) rfl (by kernel_rfl) (by kernel_rfl) (by kernel_rfl) (fun _ _ _ h => h) (Or.inl ⟨by rfl, fun wx hSw => by kernel_rfl⟩) (by assumption) ?_
    simp only [Act.put, List.getElem_toArray, List.getElem_cons_succ, List.getElem_cons_zero, List.setIfInBounds_toArray, List.set_cons_zero, List.set_cons_succ]
    refine wpAnyH_done (by kernel_rfl) ?_ _
    have HW2 : Hid (Below w.heap.size w W2) := HB.out _ hb4
    have hr : W2.rangeAt N1 0 (evl e) := (HN1.out _ hb4).range
    clear hb4
    cases hab : aheadB x e with
    | false =>
      have HE : Hid (ReadPost w B ⟨t, l, g, day, L⟩ F 1 (evN e) (.returned (.bool false)) W2) := HN.out _ HW2.out ⟨x, HL.out, hab⟩
      clear hr
      go_wp2
      go_ret
      exact HE.out
    | true =>
      have hAdd := HA.out W2 HW2.out (fun y hy => by rw [HL.out] at hy; cases hy; exact hab)
      clear hab
      go_upto_region 9 with fail
      refine wp_region_lit ?_
      refine wpList_val (.pointer (some ⟨B, 0, none⟩)) W2 rfl rfl ?_
      simp only [Act.put, List.setIfInBounds_toArray, List.set_cons_zero, List.set_cons_succ]
      refine wpList_load_mid rfl 50 (.tmp 7) rfl N1 0 rfl (evl e) _ hr Tryz.underlying50 rfl (by kernel_rfl) ?_
      simp only [Act.put, List.setIfInBounds_toArray, List.set_cons_zero, List.set_cons_succ]
      clear hr
      go_wp2_with fail
      refine hAdd.mono ?_
      rintro y w' ⟨q, rfl, hp⟩
      have HP : Hid (ReadPost w B ⟨t, l, g, day, L⟩ F 1 (evN e) (.returned (.bool (q == 0))) w') := hp
      clear hp hAdd
      go_wp2
      go_ret
      exact HP.out
end Go.Proofs.YtanndhoimpnhpaaGreatDoor
namespace Go.Proofs.YtanndhoimpnhpaaGreatDoor.Ln
open Cal
def aT : Terms := ⟨36524, 36500000, 10000, 0, 1, 15⟩
end Go.Proofs.YtanndhoimpnhpaaGreatDoor.Ln
namespace Go.Proofs.YtanndhoimpnhpaaGreatDoor
open Go.RowKit Cal
theorem Keep.fresh {F : Nat → Prop} {w w1 w2 : World} (h1 : Below w.heap.size w w1) (h2 : Keep F w1 w2) (hF : ∀ b, F b → w.heap.size ≤ b) : Below w.heap.size w w2 :=
  ⟨h2.os.trans h1.os, h2.tape.trans h1.tape, h2.output.trans h1.output, Nat.le_trans h1.size h2.size, fun k hk => (h2.block k (Nat.lt_of_lt_of_le hk h1.size) (fun x => by have := hF k x; omega)).trans (h1.block k hk)⟩
theorem Mv.below {w w1 : World} (h : Mv w) (hb : Below w.heap.size w w1) : Mv w1 := h.keep (S := fun _ => False) (Keep.below hb) (fun x => x)
theorem Mv.lt {w : World} (h : Mv w) : 1 < w.heap.size := World.block_lt_of_cell? _ _ (h 0 _ rfl)
theorem Wd.fresh {w w1 : World} {b : Nat} (h : Wd (fun _ => False) w w1 b) : w.heap.size ≤ b := h.elim (fun x => x.elim) (fun x => x.1)
end Go.Proofs.YtanndhoimpnhpaaGreatDoor
