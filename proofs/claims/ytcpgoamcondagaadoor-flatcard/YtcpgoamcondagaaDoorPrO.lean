/- A loan without events is run. -/
import Derived.Test.YtcpgoamcondagaaDoorPrN
import Derived.Test.YtcpgoamcondagaaDoorPrK
import Derived.Test.YtcpgoamcondagaaDoorSw
namespace Go.Proofs.YtcpgoamcondagaaDoor
open Go.RowKit Cal

/-- A list with some places written over. -/
def setl : List Value → Nat → List Value → List Value
  | l, _, [] => l
  | l, o, v :: r => setl (l.set o v) (o + 1) r
theorem At.setCells {b : Nat} : ∀ (m : List Value) (o : Nat) (l : List Value) (w : World), At w b l → o + m.length ≤ l.length → At (w.setCells b o m) b (setl l o m)
  | [], _, _, _, h, _ => h
  | v :: r, o, l, w, h, hl => by
    have hl' : o + (r.length + 1) ≤ l.length := hl
    exact At.setCells r (o + 1) (l.set o v) _ (h.set o (by omega) v) (by rw [List.length_set]; omega)
theorem At.there_mid {w : World} {b : Nat} {l : List Value} (h : At w b l) (o n : Nat) (hn : o + n ≤ l.length) : w.there b o n := fun j hj => by
  obtain ⟨h1, h2⟩ := h (o + j) l[o + j] (List.getElem?_eq_getElem (by omega))
  exact ⟨by rw [h1]; rfl, h2⟩
theorem tml_mid (t : Ln.Terms) (v : Value) (g : Ln.St) (day : Int) : ∀ j u, (tml t)[j]? = some u → (ll t v g day)[0 + j]? = some u := by
  intro j u h
  rw [Nat.zero_add]
  match j, h with
  | 0, h => exact h
  | 1, h => exact h
  | 2, h => exact h
  | 3, h => exact h
  | 4, h => exact h
  | 5, h => exact h
  | j + 6, h => exact absurd h (by simp [tml])
theorem countOfDay_nil (d : Int) (w : World) :
    Calls Tryd.prog 38 #[.slice none 0 0, .int .i64 d] w fun e w' => e = .returned (.int .i64 0) ∧ w' = w := by
  go_enter Tryd.func38, Tryd.ntmps38
  go_wp2
  go_loop [5] (fun i => i = .int .i64 0) (fun _ => 0)
  case atStart => rfl
  case round =>
    subst hrel
    go_wp2
    go_ret
    exact ⟨rfl, rfl⟩

set_option maxRecDepth 10000 in
theorem loanBal_any (w : World) (B : Nat) (t : Ln.Terms) (v : Value) (g : Ln.St) (day : Int) (h : At w B (ll t v g day)) :
    Calls Tryd.prog 18 #[.pointer (some ⟨B, 0, none⟩)] w fun e w' => e = .returned (blV g day) ∧ Below w.heap.size w w' := by
  have c7 : w.cell? ⟨B, 7, none⟩ = some (.int .i64 g.pr) := h.cell 7 rfl
  have c8 : w.cell? ⟨B, 8, none⟩ = some (.int .i64 g.it) := h.cell 8 rfl
  have c9 : w.cell? ⟨B, 9, none⟩ = some (.int .i64 g.du) := h.cell 9 rfl
  have c10 : w.cell? ⟨B, 10, none⟩ = some (.int .i64 g.la) := h.cell 10 rfl
  have c11 : w.cell? ⟨B, 11, none⟩ = some (.int .i64 g.fi) := h.cell 11 rfl
  have c12 : w.cell? ⟨B, 12, none⟩ = some (.int .i64 g.cr) := h.cell 12 rfl
  have c13 : w.cell? ⟨B, 13, none⟩ = some (.int .i64 g.rt) := h.cell 13 rfl
  have c14 : w.cell? ⟨B, 14, none⟩ = some (.int .i64 day) := h.cell 14 rfl
  have hl : B < w.heap.size := At.lt (v := .int .i64 t.st) h
  have hne : ¬ w.heap.size = B := by omega
  clear h
  unfold blV
  go_enter Tryd.func18, Tryd.ntmps18
  go_wp2
  exact bodyPost_ret (v := .agg #[.int .i64 g.pr, .int .i64 g.it, .int .i64 g.du, .int .i64 g.la, .int .i64 g.fi, .int .i64 g.cr, .int .i64 g.rt, .int .i64 day]) (by simp [results, Tryd.results18, go_sem]) rfl ⟨rfl, (Below.refl _ _).alloc (Nat.le_refl _) _⟩

set_option maxRecDepth 10000 in
set_option maxHeartbeats 1000000 in
theorem run_core (w : World) (B : Nat) (t : Ln.Terms) (g0 : Ln.St) (day0 : Int) (m : Nat) (G : Nat → Ln.St) (hA : At w B (ll t (.slice none 0 0) g0 day0)) (h0 : day0 ≤ t.st + m) (hm : m ≤ 3700) (s0 : 0 ≤ t.st) (s1 : t.st ≤ 105872)
    (hF : ∀ W : World, Calls Tryd.prog 36 #[tmV t] W fun e w' => e = .returned (stV t (G 0) 0 0 0) ∧ Below W.heap.size W w')
    (hP : ∀ (k : Nat) (W : World) (c i f : Int), k < m → Keep (fun b => w.heap.size ≤ b) w W → Calls Tryd.prog 39 #[stV t (G k) c i f, tmV t, .int .i64 (t.st + k), .slice none 0 0] W fun e w' => (∃ c' i' f' am, e = .returned (.tuple #[stV t (G (k + 1)) c' i' f', amV am])) ∧ Below W.heap.size W w')
    (hBl : ∀ (W : World) (c i f : Int), Calls Tryd.prog 37 #[stV t (G m) c i f, .int .i64 (t.st + m)] W fun e w' => e = .returned (blV (G m) (t.st + m)) ∧ Below W.heap.size W w') :
    Calls Tryd.prog 17 #[.pointer (some ⟨B, 0, none⟩), .int .i64 (t.st + m)] w fun e w' => e = .returned (.int .i64 0) ∧ At w' B (ll t (.slice none 0 0) (G m) (t.st + m)) ∧ Keep (fun b => b = B ∨ w.heap.size ≤ b) w w' := by
  have c0 : w.cell? ⟨B, 0, none⟩ = some (.int .i64 t.st) := hA.cell 0 rfl
  have c14 : w.cell? ⟨B, 14, none⟩ = some (.int .i64 day0) := hA.cell 14 rfl
  have hBl0 : B < w.heap.size := At.lt (v := .int .i64 t.st) hA
  have x1 : ¬ t.st + (m : Int) < day0 := by omega
  have x2 : ¬ t.st + 3700 < t.st + (m : Int) := by omega
  have rtm : w.rangeAt B 0 (tml t) := hA.mid 0 _ (tml_mid t _ g0 day0)
  go_enter Tryd.func17, Tryd.ntmps17
  go_upto_region 3 with fail
  refine wp_region_lit ?_
  refine wpList_val (.pointer (some ⟨B, 0, none⟩)) w rfl rfl ?_
  simp only [Act.put, List.setIfInBounds_toArray, List.set_cons_zero, List.set_cons_succ]
  refine wpList_val (.pointer (some ⟨B, 0, none⟩)) w rfl (by kernel_rfl) ?_
  simp only [Act.put, List.setIfInBounds_toArray, List.set_cons_zero, List.set_cons_succ]
  refine wpList_val (.pointer (some ⟨B, 0, none⟩)) w rfl (by kernel_rfl) ?_
  simp only [Act.put, List.setIfInBounds_toArray, List.set_cons_zero, List.set_cons_succ]
  refine wpList_load_mid rfl 41 (.tmp 28) rfl _ 0 rfl (tml t) _ rtm Tryd.underlying41 rfl (by kernel_rfl) ?_
  simp only [Act.put, List.setIfInBounds_toArray, List.set_cons_zero, List.set_cons_succ]
  clear rtm
  go_wp2_with fail
  refine (hF _).mono ?_
  rintro e w1 ⟨rfl, b1⟩
  clear hF
  have A1 : At w1 B (ll t (.slice none 0 0) g0 day0) := At.keep (S := fun _ => False) (v := .int .i64 t.st) hA (Keep.below b1) (fun x => x)
  have hX : w.heap.size ≤ w1.heap.size := b1.size
  have A2 : At (w1.alloc (.cells (stl t (G 0) 0 0 0).toArray 76)) B (ll t (.slice none 0 0) g0 day0) := At.over A1 _
  have A3 : At (w1.alloc (.cells (stl t (G 0) 0 0 0).toArray 76)) w1.heap.size (stl t (G 0) 0 0 0) := At.alloc w1 _ _
  have K2 : Keep (fun b => w.heap.size ≤ b) w (w1.alloc (.cells (stl t (G 0) 0 0 0).toArray 76)) := Keep.below (b1.alloc hX _)
  have d0 : (w1.alloc (.cells (stl t (G 0) 0 0 0).toArray 76)).cell? ⟨B, 0, none⟩ = some (.int .i64 t.st) := A2.cell 0 rfl
  have d6 : (w1.alloc (.cells (stl t (G 0) 0 0 0).toArray 76)).cell? ⟨B, 6, none⟩ = some (.slice none 0 0) := A2.cell 6 rfl
  clear c0 c14 x1 x2 A1
  go_wp2_with (first | (refine wpList_store_new rfl 76 (.tmp 5) (.tmp 30) rfl (stl t (G 0) 0 0 0).toArray _ rfl rfl (by kernel_rfl) rfl (by kernel_rfl) ?_) | fail)
  generalize w1.alloc (.cells (stl t (G 0) 0 0 0).toArray 76) = V at *
  generalize w1.heap.size = X at *
  clear d0 d6 b1
  go_loopw [6, 7] (fun ah d wr => ∃ k : Nat, k ≤ m ∧ ah = .slice none 0 0 ∧ d = .int .i64 (t.st + k) ∧ (∃ c i f : Int, At wr X (stl t (G k) c i f)) ∧ At wr B (ll t (.slice none 0 0) g0 day0) ∧ Keep (fun b => w.heap.size ≤ b) w wr) (fun _ d _ => (t.st + m - intOf d).toNat)
  case atStart => exact ⟨0, Nat.zero_le _, rfl, by simp, ⟨0, 0, 0, A3⟩, A2, K2⟩
  case round =>
    obtain ⟨k, hk, rfl, rfl, ⟨c, i, f, hst⟩, hln, hkk⟩ := hrel
    clear A2 A3 K2 hA
    by_cases hlt : k < m
    · have hC := fun W h => hP k W c i f hlt h
      clear hP hBl
      go_wp2_with fail
      refine (countOfDay_nil _ _).mono ?_
      rintro e wq ⟨rfl, rfl⟩
      go_wp2_with fail
      refine wp_region_held_drew (S := fun wx => At wx B (ll t (.slice none 0 0) g0 day0) ∧ Keep (fun b => w.heap.size ≤ b) w wx) (by kernel_rfl) ⟨hln.drew, hkk.drew⟩ (fun hHeld => ?_)
      refine wpAnyH_take (i := 1) (v := .pointer (some ⟨B, 0, none⟩)) rfl (by kernel_rfl) (by kernel_rfl) (by kernel_rfl) (fun _ _ _ h => h) (Or.inl ⟨by rfl, fun wx hSw => by (dsimp only at hSw; go_simp)⟩) (by assumption) ?_
      simp only [Act.put, List.getElem_toArray, List.getElem_cons_succ, List.getElem_cons_zero, List.setIfInBounds_toArray, List.set_cons_zero, List.set_cons_succ]
      refine wpAnyH_take (i := 2) (v := .pointer (some ⟨B, 0, none⟩)) rfl (by kernel_rfl) (by kernel_rfl) (by kernel_rfl) (fun _ _ _ h => h) (Or.inl ⟨by rfl, fun wx hSw => by (dsimp only at hSw; go_simp)⟩) (by assumption) ?_
      simp only [Act.put, List.getElem_toArray, List.getElem_cons_succ, List.getElem_cons_zero, List.setIfInBounds_toArray, List.set_cons_zero, List.set_cons_succ]
      refine wpAnyH_take (i := 3) (v := .pointer (some ⟨B, 0, none⟩)) rfl (by kernel_rfl) (by kernel_rfl) (by kernel_rfl) (fun _ _ _ h => h) (Or.inl ⟨by rfl, fun wx hSw => by (dsimp only at hSw; go_simp)⟩) (by assumption) ?_
      simp only [Act.put, List.getElem_toArray, List.getElem_cons_succ, List.getElem_cons_zero, List.setIfInBounds_toArray, List.set_cons_zero, List.set_cons_succ]
      refine wpAnyH_take (i := 4) (v := .agg (tml t).toArray) rfl (by kernel_rfl) (by kernel_rfl) (by kernel_rfl) (fun _ _ _ h => h) (yieldsIf_load_mid (by rfl) 41 (.tmp 52) rfl _ _ rfl _ _ (fun _ h => h.1.mid 0 _ (tml_mid t _ g0 day0)) Tryd.underlying41 rfl (by kernel_rfl)) (by assumption) ?_
      simp only [Act.put, List.getElem_toArray, List.getElem_cons_succ, List.getElem_cons_zero, List.setIfInBounds_toArray, List.set_cons_zero, List.set_cons_succ]
      refine wpAnyH_take (i := 5) (v := .int .i64 (t.st + k)) rfl (by kernel_rfl) (by kernel_rfl) (by kernel_rfl) (fun _ _ _ h => h) (Or.inl ⟨by rfl, fun wx hSw => by (dsimp only at hSw; go_simp)⟩) (by assumption) ?_
      simp only [Act.put, List.getElem_toArray, List.getElem_cons_succ, List.getElem_cons_zero, List.setIfInBounds_toArray, List.set_cons_zero, List.set_cons_succ]
      refine wpAnyH_take (i := 6) (v := .slice none 0 0) rfl (by kernel_rfl) (by kernel_rfl) (by kernel_rfl) (fun _ _ _ h => h) (Or.inl ⟨by rfl, fun wx hSw => by (dsimp only at hSw; go_simp)⟩) (by assumption) ?_
      simp only [Act.put, List.getElem_toArray, List.getElem_cons_succ, List.getElem_cons_zero, List.setIfInBounds_toArray, List.set_cons_zero, List.set_cons_succ]
      refine wpAnyH_take (i := 7) (v := .int .i64 0) rfl (by kernel_rfl) (by kernel_rfl) (by kernel_rfl) (fun _ _ _ h => h) (Or.inl ⟨by rfl, fun wx hSw => by (dsimp only at hSw; go_simp)⟩) (by assumption) ?_
      simp only [Act.put, List.getElem_toArray, List.getElem_cons_succ, List.getElem_cons_zero, List.setIfInBounds_toArray, List.set_cons_zero, List.set_cons_succ]
      refine wpAnyH_take (i := 8) (v := .slice none 0 0) rfl (by kernel_rfl) (by kernel_rfl) (by kernel_rfl) (fun _ _ _ h => h) (Or.inl ⟨by rfl, fun wx hSw => by (dsimp only at hSw; go_simp)⟩) (by assumption) ?_
      simp only [Act.put, List.getElem_toArray, List.getElem_cons_succ, List.getElem_cons_zero, List.setIfInBounds_toArray, List.set_cons_zero, List.set_cons_succ]
      refine wpAnyH_ready (rs := [0]) (by kernel_rfl) (by simp) ?_
      refine AllReadyH.cons rfl (fun K hK => ?_) AllReadyH.nil
      rw [if_pos (by rfl)]
      refine wp_load_mid 76 (.tmp 5) rfl _ 0 rfl (stl t (G k) c i f) _ hst.drew.range Tryd.underlying76 rfl (by kernel_rfl) ?_
      refine hK.out _ _ hHeld (fun _ => ?_)
      clear hK K
      simp only [Act.put, List.getElem_toArray, List.getElem_cons_zero, List.setIfInBounds_toArray, List.set_cons_zero, List.set_cons_succ]
      refine wpAnyH_ready (rs := [9]) (by kernel_rfl) (by simp) ?_
      refine AllReadyH.cons rfl (fun K hK => ?_) AllReadyH.nil
      go_simp
      refine (hC _ hHeld.2).mono ?_
      rintro e w2 ⟨⟨c', i', f', am, rfl⟩, hb2⟩
      go_wp2_with fail
      have q1 : At w2 X (stl t (G k) c i f) := At.keep (S := fun _ => False) (v := .int .i64 c) hst.drew (Keep.below hb2) (fun x => x)
      have q2 : At w2 B (ll t (.slice none 0 0) g0 day0) := At.keep (S := fun _ => False) (v := .int .i64 t.st) hHeld.1 (Keep.below hb2) (fun x => x)
      have q3 : Keep (fun b => w.heap.size ≤ b) w w2 := hHeld.2.trans (Keep.below hb2)
      refine hK.out _ _ ⟨q2, q3⟩ (fun hHeld2 => ?_)
      clear hK K hHeld hb2 hC hst hln hkk
      refine wpAnyH_take (i := 10) (v := .tuple #[stV t (G (k + 1)) c' i' f', amV am]) rfl (by kernel_rfl) (by kernel_rfl) (by kernel_rfl) (fun _ _ _ h => h) (Or.inl ⟨by rfl, fun wx hSw => by (dsimp only at hSw; go_simp)⟩) (by assumption) ?_
      simp only [Act.put, List.getElem_toArray, List.getElem_cons_succ, List.getElem_cons_zero, List.setIfInBounds_toArray, List.set_cons_zero, List.set_cons_succ]
      refine wpAnyH_take (i := 11) (v := .agg (stl t (G (k + 1)) c' i' f').toArray) rfl (by kernel_rfl) (by kernel_rfl) (by kernel_rfl) (fun _ _ _ h => h) (Or.inl ⟨by rfl, fun wx hSw => by kernel_rfl⟩) (by assumption) ?_
      simp only [Act.put, List.getElem_toArray, List.getElem_cons_succ, List.getElem_cons_zero, List.setIfInBounds_toArray, List.set_cons_zero, List.set_cons_succ]
      refine wpAnyH_take (i := 12) (v := amV am) rfl (by kernel_rfl) (by kernel_rfl) (by kernel_rfl) (fun _ _ _ h => h) (Or.inl ⟨by rfl, fun wx hSw => by kernel_rfl⟩) (by assumption) ?_
      simp only [Act.put, List.getElem_toArray, List.getElem_cons_succ, List.getElem_cons_zero, List.setIfInBounds_toArray, List.set_cons_zero, List.set_cons_succ]
      refine wpAnyH_ready (rs := [13]) (by kernel_rfl) (by simp) ?_
      refine AllReadyH.cons rfl (fun K hK => ?_) AllReadyH.nil
      rw [if_pos (by rfl)]
      refine wp_store_mid 76 (.tmp 5) (.tmp 59) rfl _ 0 _ rfl rfl (q1.there 13 rfl) (by kernel_rfl) (by kernel_rfl) ?_
      rw [List.toList_toArray]
      have r1 : At (w2.setCells X 0 (stl t (G (k + 1)) c' i' f')) X (stl t (G (k + 1)) c' i' f') := q1.setCells_same rfl
      have r2 : At (w2.setCells X 0 (stl t (G (k + 1)) c' i' f')) B (ll t (.slice none 0 0) g0 day0) := q2.apart (by omega) _ _
      have r3 : Keep (fun b => w.heap.size ≤ b) w (w2.setCells X 0 (stl t (G (k + 1)) c' i' f')) := Keep.setCells (S := fun b => w.heap.size ≤ b) hX _ _ _ q3
      refine hK.out _ _ ⟨r2, r3⟩ (fun hHeld3 => ?_)
      clear hK K hHeld2 q1 q2 q3
      generalize w2.setCells X 0 (stl t (G (k + 1)) c' i' f') = w3 at *
      simp only [Act.put, List.getElem_toArray, List.getElem_cons_succ, List.getElem_cons_zero]
      refine wpAnyH_done (by kernel_rfl) ?_ _
      clear hHeld3
      go_wp2
      go_roundw
      case rel => exact ⟨k + 1, by omega, rfl, by go_num, ⟨c', i', f', r1⟩, r2, r3⟩
      case measure => simp [intOf]; omega
    · obtain rfl : k = m := by omega
      have hC := fun W => hBl W c i f
      clear hP hBl
      go_upto_region 11 with fail
      refine wp_region_lit ?_
      refine wpList_val (.pointer (some ⟨B, 0, none⟩)) wr rfl rfl ?_
      simp only [Act.put, List.setIfInBounds_toArray, List.set_cons_zero, List.set_cons_succ]
      refine wpList_load_mid rfl 76 (.tmp 5) rfl _ 0 rfl (stl t (G k) c i f) _ hst.range Tryd.underlying76 rfl (by kernel_rfl) ?_
      simp only [Act.put, List.setIfInBounds_toArray, List.set_cons_zero, List.set_cons_succ]
      go_wp2_with fail
      refine (hC _).mono ?_
      rintro e w2 ⟨rfl, hb2⟩
      clear hC
      have q2 : At w2 B (ll t (.slice none 0 0) g0 day0) := At.keep (S := fun _ => False) (v := .int .i64 t.st) hln (Keep.below hb2) (fun x => x)
      have q3 : Keep (fun b => b = B ∨ w.heap.size ≤ b) w w2 := (hkk.mono (fun b _ h => Or.inr h)).trans (Keep.below hb2)
      have q4 : w2.there B 7 8 := q2.there_mid 7 8 (by show 7 + 8 ≤ 15; omega)
      have q5 : At (w2.setCells B 7 (bll (G k) (t.st + k))) B (ll t (.slice none 0 0) (G k) (t.st + k)) := At.setCells _ 7 _ _ q2 (by show 7 + 8 ≤ 15; omega)
      have q6 : Keep (fun b => b = B ∨ w.heap.size ≤ b) w (w2.setCells B 7 (bll (G k) (t.st + k))) := Keep.setCells (S := fun b => b = B ∨ w.heap.size ≤ b) (Or.inl rfl) _ _ _ q3
      clear hst hln hkk hb2 q2 q3
      go_wp2_with (first | (refine wpList_store_mid rfl 44 (.tmp 69) (.tmp 67) rfl B 7 (bll (G k) (t.st + k)).toArray rfl rfl q4 (by kernel_rfl) (by kernel_rfl) ?_; rw [List.toList_toArray]) | fail)
      go_ret
      exact ⟨rfl, q5, q6⟩
end Go.Proofs.YtcpgoamcondagaaDoor
