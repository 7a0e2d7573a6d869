/- Joined by program: PvA, PvB, PrK, AdA. -/
import Derived.Test.YtanndhoimpnhpaaGreatDoorM10
import Derived.Test.YtanndhoimpnhpaaGreatDoorProg
import Derived.WalkKit
import Derived.Test.YtanndhoimpnhpaaGreatDoorM2
import Derived.Test.YtanndhoimpnhpaaGreatDoorM1
import Derived.Test.YtanndhoimpnhpaaGreatDoorM7
import Derived.Test.YtanndhoimpnhpaaGreatDoorM9
namespace Go.Proofs.YtanndhoimpnhpaaGreatDoor
open Go.RowKit
def EvAt (w : World) (E : Nat) (p : Option Addr) (l : List Ln.Ev) : Prop :=
  ∀ k (hk : k < l.length), ∃ o, p = some ⟨E, o, none⟩ ∧ E < w.heap.size ∧ w.cell? ⟨E, o + k * 4, none⟩ = some (.int .i64 l[k].d) ∧ w.cell? ⟨E, o + k * 4 + 1, none⟩ = some (.int .i64 l[k].k) ∧ w.cell? ⟨E, o + k * 4 + 2, none⟩ = some (.int .i64 l[k].s) ∧ w.cell? ⟨E, o + k * 4 + 3, none⟩ = some (.int .i64 l[k].a)
def EvV (w : World) (E : Nat) (v : Value) (l : List Ln.Ev) : Prop := ∃ p cap, v = .slice p l.length cap ∧ l.length ≤ cap ∧ EvAt w E p l
theorem EvAt.keep {S : Nat → Prop} {w w' : World} {E : Nat} {p : Option Addr} {l : List Ln.Ev} (h : EvAt w E p l) (hk : Keep S w w') (hs : l ≠ [] → ¬ S E) : EvAt w' E p l := by
  intro k hkl
  obtain ⟨o, rfl, hl, c0, c1, c2, c3⟩ := h k hkl
  have hb := hk.block E hl (hs (fun e => by subst e; exact absurd hkl (Nat.not_lt_zero k)))
  exact ⟨o, rfl, Nat.lt_of_lt_of_le hl hk.size, (World.cell?_of_block (w := w) (a := ⟨E, o + k * 4, none⟩) hb).trans c0, (World.cell?_of_block (w := w) (a := ⟨E, o + k * 4 + 1, none⟩) hb).trans c1, (World.cell?_of_block (w := w) (a := ⟨E, o + k * 4 + 2, none⟩) hb).trans c2, (World.cell?_of_block (w := w) (a := ⟨E, o + k * 4 + 3, none⟩) hb).trans c3⟩
theorem EvV.keep {S : Nat → Prop} {w w' : World} {E : Nat} {v : Value} {l : List Ln.Ev} (h : EvV w E v l) (hk : Keep S w w') (hs : l ≠ [] → ¬ S E) : EvV w' E v l := by
  obtain ⟨p, cap, h1, h2, h3⟩ := h
  exact ⟨p, cap, h1, h2, h3.keep hk hs⟩
theorem EvAt.take {w : World} {E : Nat} {p : Option Addr} {l m : List Ln.Ev} (h : EvAt w E p (l ++ m)) : EvAt w E p l := by
  intro k hk
  obtain ⟨o, h1⟩ := h k (by rw [List.length_append]; omega)
  rw [List.getElem_append_left hk] at h1
  exact ⟨o, h1⟩
theorem EvAt.drop {w : World} {E o : Nat} {l m : List Ln.Ev} (h : EvAt w E (some ⟨E, o, none⟩) (l ++ m)) : EvAt w E (some ⟨E, o + l.length * 4, none⟩) m := by
  intro k hk
  obtain ⟨o', h0, h1⟩ := h (l.length + k) (by rw [List.length_append]; omega)
  injection h0 with h0
  injection h0 with e1 e2
  subst e2
  rw [List.getElem_append_right (by omega)] at h1
  simp only [Nat.add_sub_cancel_left] at h1
  have e : o + (l.length + k) * 4 = o + l.length * 4 + k * 4 := by omega
  rw [e] at h1
  exact ⟨o + l.length * 4, rfl, h1⟩
theorem EvV.cut {w : World} {E : Nat} {v : Value} {l m : List Ln.Ev} (h : EvV w E v (l ++ m)) :
    ∃ v1 v2, (∀ W : World, (Instr.sliceAt 42 v none (some (.int .i64 l.length)) none).run Tryz.prog W = .ok v1 W) ∧ EvV w E v1 l ∧ (∀ W : World, (Instr.sliceAt 42 v (some (.int .i64 l.length)) none none).run Tryz.prog W = .ok v2 W) ∧ EvV w E v2 m := by
  obtain ⟨p, cap, rfl, hc, hat⟩ := h
  have hl : (l ++ m).length = l.length + m.length := List.length_append
  rw [hl] at hc
  refine ⟨.slice p l.length cap, .slice (if cap = l.length then p else p.map (·.add (l.length * 4))) m.length (cap - l.length), ?_, ⟨p, cap, rfl, by omega, hat.take⟩, ?_, _, _, rfl, by omega, ?_⟩
  · intro W
    have hp : (if cap = 0 then p else Option.map (fun x => x.add 0) p) = p := by
      split
      · rfl
      · cases p <;> simp [Addr.add]
    simp [Instr.sliceAt, run_underlying Tryz.underlying42, Instr.slice, Instr.sliceBounds, Instr.sliceBound, asIntOf, Result.andThen, show l.length ≤ cap by omega, hp]
  · intro W
    have hx : (0 : Int) ≤ l.length ∧ (l.length : Int) ≤ l.length + m.length := by omega
    simp [Instr.sliceAt, run_underlying Tryz.underlying42, Instr.slice, Instr.sliceBounds, Instr.sliceBound, asIntOf, Result.andThen, hx, hl]
  · by_cases hm : m = []
    · subst hm
      intro k hk
      exact absurd hk (Nat.not_lt_zero k)
    · have hml : 0 < m.length := List.length_pos_iff.2 hm
      rw [if_neg (by omega)]
      obtain ⟨o, rfl, _⟩ := hat 0 (by omega)
      have := hat.drop
      by_cases hz : l.length = 0
      · simpa [Addr.add, hz] using this
      · have h4 : ¬ l.length * 4 = 0 := by omega
        simpa [Addr.add, h4] using this
def cnt (d : Int) : List Ln.Ev → Nat
  | [] => 0
  | e :: r => if e.d = d then cnt d r + 1 else 0
theorem cnt_le (d : Int) : ∀ l : List Ln.Ev, cnt d l ≤ l.length
  | [] => Nat.le_refl _
  | e :: r => by
    have := cnt_le d r
    simp only [cnt, List.length_cons]
    split <;> omega
theorem cnt_lt (d : Int) : ∀ (l : List Ln.Ev) (k : Nat), k < cnt d l → ∃ h : k < l.length, l[k].d = d
  | [], k, h => absurd h (Nat.not_lt_zero k)
  | e :: r, k, h => by
    simp only [cnt] at h
    by_cases he : e.d = d
    · rw [if_pos he] at h
      match k, h with
      | 0, _ => exact ⟨by simp, he⟩
      | k + 1, h =>
        obtain ⟨h1, h2⟩ := cnt_lt d r k (by omega)
        exact ⟨by simp; omega, h2⟩
    · rw [if_neg he] at h
      exact absurd h (Nat.not_lt_zero k)
theorem cnt_end (d : Int) : ∀ (l : List Ln.Ev) (h : cnt d l < l.length), ¬ l[cnt d l].d = d
  | [], h => absurd h (Nat.not_lt_zero _)
  | e :: r, h => by
    by_cases he : e.d = d
    · have e1 : cnt d (e :: r) = cnt d r + 1 := by simp only [cnt]; rw [if_pos he]
      have h2 : cnt d r < r.length := by rw [e1] at h; simpa using h
      have := cnt_end d r h2
      simp only [e1, List.getElem_cons_succ]
      exact this
    · have e1 : cnt d (e :: r) = 0 := by simp only [cnt]; rw [if_neg he]
      simp only [e1, List.getElem_cons_zero]
      exact he
theorem cnt_is (d : Int) (l : List Ln.Ev) (k : Nat) (hk : k ≤ l.length) (h1 : ∀ j (hj : j < l.length), j < k → l[j].d = d) (h2 : ∀ h : k < l.length, ¬ l[k].d = d) : cnt d l = k := by
  have hle := cnt_le d l
  rcases Nat.lt_trichotomy (cnt d l) k with h | h | h
  · exact absurd (h1 _ (by omega) h) (cnt_end d l (by omega))
  · exact h
  · obtain ⟨h3, h4⟩ := cnt_lt d l k h
    exact absurd h4 (h2 h3)
set_option maxHeartbeats 1000000 in
theorem countOfDay_any (w : World) (E : Nat) (v : Value) (l : List Ln.Ev) (h : EvV w E v l) (hl : l.length ≤ 1000000) (d : Int) :
    Calls Tryz.prog 38 #[v, .int .i64 d] w fun e w' => e = .returned (.int .i64 (cnt d l)) ∧ w' = w := by
  obtain ⟨p, cap, rfl, hc, hat⟩ := h
  have HAt : Hid (EvAt w E p l) := hat
  clear hat
  go_enter Tryz.func38, Tryz.ntmps38
  go_wp2
  go_loop [5] (fun i => ∃ k : Nat, k ≤ l.length ∧ i = .int .i64 k ∧ ∀ j (hj : j < l.length), j < k → l[j].d = d) (fun i => (l.length - intOf i).toNat)
  case atStart => exact ⟨0, Nat.zero_le _, rfl, fun j _ h => absurd h (Nat.not_lt_zero j)⟩
  case round =>
    obtain ⟨k, hk, rfl, hlow⟩ := hrel
    have HL : Hid (∀ j (hj : j < l.length), j < k → l[j].d = d) := hlow
    clear hlow
    by_cases hlt : k < l.length
    · obtain ⟨o, rfl, _, c0, _, _, _⟩ := HAt.out k hlt
      have HC : Hid (¬ l[k].d = d → cnt d l = k) := fun hne => cnt_is d l k hk HL.out (fun _ => hne)
      have HD : Hid (l[k].d = d → ∀ j (hj : j < l.length), j < k + 1 → l[j].d = d) := fun he j hj hjk => by
        by_cases e : j = k
        · subst e; exact he
        · exact HL.out j hj (by omega)
      clear HL
      generalize l[k].d = x at *
      by_cases hx : x = d
      · have hxb : (x == d) = true := by simp [hx]
        have HX := HD.out hx
        go_wp2
        exact ⟨⟨k + 1, hlt, rfl, HX⟩, by simp [intOf]; omega⟩
      · have hxb : (x == d) = false := by simp [hx]
        have HX : Hid (cnt d l = k) := HC.out hx
        go_wp2
        go_ret
        exact ⟨by rw [HX.out]; rfl, rfl⟩
    · obtain rfl : k = l.length := by omega
      have HX : Hid (cnt d l = l.length) := cnt_is d l l.length (Nat.le_refl _) HL.out (fun h => absurd h hlt)
      go_wp2
      go_ret
      exact ⟨by rw [HX.out]; rfl, rfl⟩
end Go.Proofs.YtanndhoimpnhpaaGreatDoor
namespace Go.Proofs.YtanndhoimpnhpaaGreatDoor
open Go.ChangeShapes Go.WideShapes Go.RowKit Go.WideMaps Go.Maps Cal
def ll (t : Ln.Terms) (v : Value) (g : Ln.St) (day : Int) (bk : Value) : List Value :=
  [.int .i64 t.st, .int .i64 t.pr, .int .i64 t.rt, .int .i64 t.fi, .int .i64 t.ba, .int .i64 t.du, v, .int .i64 g.pr, .int .i64 g.it, .int .i64 g.du, .int .i64 g.la, .int .i64 g.fi, .int .i64 g.cr, .int .i64 g.rt, .int .i64 day, bk]
theorem keepO {w W W' : World} {B : Nat} {l : List Value} {v : Value} (hb : Below W.heap.size W W') (h : At W B (v :: l) ∧ Below w.heap.size w W) : At W' B (v :: l) ∧ Below w.heap.size w W' :=
  ⟨h.1.keep (S := fun _ => False) (Keep.below hb) (fun x => x), h.2.trans (hb.mono h.2.size)⟩
theorem new_any (w : World) :
    Calls Tryz.prog 55 #[] w fun e w' => (∃ P Mb, e = .returned (.pointer (some ⟨P, 0, none⟩)) ∧ w.heap.size ≤ Mb ∧ BkIs w' P (.slice none 0 0) Mb []) ∧ Below w.heap.size w w' := by
  have hmm := @run_makeMap Tryz.prog
  go_enter Tryz.func55, Tryz.ntmps55
  go_wp2
  go_ret
  have e1 : (w.alloc (.map #[] 0)).heap.size = w.heap.size + 1 := by simp
  have b1 : Below w.heap.size w (w.alloc (.map #[] 0)) := (Below.refl _ _).alloc (Nat.le_refl _) _
  have m1 : MapIs (w.alloc (.map #[] 0)) w.heap.size 0 (fun _ _ => 0) := MapIs.made w
  have a2 : At ((w.alloc (.map #[] 0)).alloc (.cells #[.slice none 0 0, .map (some w.heap.size)] 148)) (w.alloc (.map #[] 0)).heap.size [.slice none 0 0, .map (some w.heap.size)] := At.alloc _ _ _
  have b2 : Below (w.alloc (.map #[] 0)).heap.size (w.alloc (.map #[] 0)) ((w.alloc (.map #[] 0)).alloc (.cells #[.slice none 0 0, .map (some w.heap.size)] 148)) := (Below.refl _ _).alloc (Nat.le_refl _) _
  rw [e1] at a2
  refine ⟨⟨w.heap.size + 1, w.heap.size, rfl, Nat.le_refl _, a2, ⟨rfl, .inl ⟨rfl, rfl⟩⟩, m1.block (b2.block _ (by omega)), Nat.lt_succ_self _⟩, b1.trans (b2.mono (by omega))⟩
theorem open_bad (t : Ln.Terms) (w : World) (h : rtB t = false) :
    Calls Tryz.prog 23 #[tmV t] w fun e w' => e = .returned (.tuple #[.pointer none, .int .i64 3]) ∧ Below w.heap.size w w' := by
  have hR := fun W => right_any t W
  rw [h] at hR
  unfold tmV at *
  have b0 : Below w.heap.size w (w.alloc (.cells (tml t).toArray 23)) := (Below.refl _ _).alloc (Nat.le_refl _) _
  go_enter Tryz.func23, Tryz.ntmps23
  go_wp2_with fail
  refine (hR _).mono ?_
  rintro e w1 ⟨rfl, hb1⟩
  have b1 := b0.trans (hb1.mono b0.size)
  clear hR hb1 b0
  go_wp2
  go_ret2
  exact ⟨rfl, b1⟩
set_option maxRecDepth 10000 in
set_option maxHeartbeats 2000000 in
theorem open_good (t : Ln.Terms) (w : World) (h : rtB t = true) :
    Calls Tryz.prog 23 #[tmV t] w fun e w' => (∃ B P Mb, e = .returned (.tuple #[.pointer (some ⟨B, 0, none⟩), .int .i64 0]) ∧ w.heap.size ≤ B ∧ w.heap.size ≤ Mb ∧ P < B ∧ At w' B (ll t (.slice none 0 0) (Ln.start t) t.st (.pointer (some ⟨P, 0, none⟩))) ∧ BkIs w' P (.slice none 0 0) Mb []) ∧ Below w.heap.size w w' := by
  have hR := fun W => right_any t W
  rw [h] at hR
  have hF := fun W => first_any t W
  have hB := fun W => balance_any t (Ln.start t) 0 0 0 t.st W (Int.le_refl _) (by show (0 : Int) ≤ _; decide)
  have a0 : At (w.alloc (.cells (tml t).toArray 23)) w.heap.size (tml t) := At.alloc w (tml t) _
  have b0 : Below w.heap.size w (w.alloc (.cells (tml t).toArray 23)) := (Below.refl _ _).alloc (Nat.le_refl _) _
  unfold tmV at *
  go_enter Tryz.func23, Tryz.ntmps23
  go_wp2_with fail
  refine (hR _).mono ?_
  rintro e w1 ⟨rfl, hb1⟩
  obtain ⟨a1, b1⟩ := keepO (v := .int .i64 t.st) hb1 ⟨a0, b0⟩
  clear hR hb1 b0 a0
  go_wp2_with fail
  refine wp_region_held_drew (S := fun wx => At wx w.heap.size (tml t) ∧ Below w.heap.size w wx) (by kernel_rfl) ⟨a1.drew, b1.drew⟩ (fun hHeld => ?_)
  refine wpAnyH_take (i := 0) (v := (.agg (tml t).toArray)) rfl (by kernel_rfl) (by kernel_rfl) (by kernel_rfl) (fun _ _ _ h => h) (yieldsIf_load_mid (by rfl) 23 (.tmp 1) rfl _ _ rfl _ _ (fun _ h => h.1.range) Tryz.underlying23 rfl (by kernel_rfl)) (by assumption) ?_
  simp only [Act.put, List.getElem_toArray, List.getElem_cons_zero, List.setIfInBounds_toArray, List.set_cons_zero, List.set_cons_succ]
  refine wpAnyH_take (i := 1) (v := (.agg (tml t).toArray)) rfl (by kernel_rfl) (by kernel_rfl) (by kernel_rfl) (fun _ _ _ h => h) (yieldsIf_load_mid (by rfl) 23 (.tmp 1) rfl _ _ rfl _ _ (fun _ h => h.1.range) Tryz.underlying23 rfl (by kernel_rfl)) (by assumption) ?_
  simp only [Act.put, List.getElem_toArray, List.getElem_cons_succ, List.getElem_cons_zero, List.setIfInBounds_toArray, List.set_cons_zero, List.set_cons_succ]
  refine wpAnyH_take (i := 3) (v := (.pointer (some ⟨w.heap.size, 0, none⟩))) rfl (by kernel_rfl) (by kernel_rfl) (by kernel_rfl) (fun _ _ _ h => h) (Or.inl ⟨by rfl, fun wx hSw => by (dsimp only at hSw; go_simp)⟩) (by assumption) ?_
  simp only [Act.put, List.getElem_toArray, List.getElem_cons_succ, List.getElem_cons_zero, List.setIfInBounds_toArray, List.set_cons_zero, List.set_cons_succ]
  refine wpAnyH_take (i := 4) (v := (.int .i64 t.st)) rfl (by kernel_rfl) (by kernel_rfl) (by kernel_rfl) (fun _ _ _ h => h) (Or.inl ⟨by rfl, fun wx hSw => by (have hc : wx.cell? ⟨w.heap.size, 0, none⟩ = some (.int .i64 t.st) := hSw.1.cell 0 rfl; go_simp)⟩) (by assumption) ?_
  simp only [Act.put, List.getElem_toArray, List.getElem_cons_succ, List.getElem_cons_zero, List.setIfInBounds_toArray, List.set_cons_zero, List.set_cons_succ]
  clear a1 b1
  refine wpAnyH_ready (rs := [2]) (by kernel_rfl) (by simp) ?_
  refine AllReadyH.cons rfl (fun K hK => ?_) AllReadyH.nil
  go_simp
  refine (hF _).mono ?_
  rintro e w2 ⟨rfl, hb2⟩
  go_wp2_with fail
  refine hK.out _ _ (keepO (v := .int .i64 t.st) hb2 hHeld) (fun hHeld' => ?_)
  clear hK K hHeld hb2
  refine wpAnyH_ready (rs := [5]) (by kernel_rfl) (by simp) ?_
  refine AllReadyH.cons rfl (fun K hK => ?_) AllReadyH.nil
  go_simp
  refine (hB _).mono ?_
  rintro e w3 ⟨rfl, hb3⟩
  go_wp2_with fail
  refine hK.out _ _ (keepO (v := .int .i64 t.st) hb3 hHeld') (fun hHeld'' => ?_)
  clear hK K hHeld' hb3
  refine wpAnyH_ready (rs := [6]) (by kernel_rfl) (by simp) ?_
  refine AllReadyH.cons rfl (fun K hK => ?_) AllReadyH.nil
  have hsz := hHeld''.2.size
  go_simp
  refine (new_any _).mono ?_
  rintro e w5 ⟨⟨P, Mb, rfl, hMw, hbk⟩, hb4⟩
  go_wp2_with fail
  refine hK.out _ _ (keepO (v := .int .i64 t.st) hb4 hHeld'') (fun hHeld''' => ?_)
  clear hK K hHeld'' hb4
  have hMw : w.heap.size ≤ Mb := Nat.le_trans hsz hMw
  refine wpAnyH_take (i := 7) (v := (.agg (ll t (.slice none 0 0) (Ln.start t) t.st (.pointer (some ⟨P, 0, none⟩))).toArray)) rfl (by kernel_rfl) (by kernel_rfl) (by kernel_rfl) (fun _ _ _ h => h) (Or.inl ⟨by rfl, fun wx hSw => by kernel_rfl⟩) (by assumption) ?_
  simp only [Act.put, List.getElem_toArray, List.getElem_cons_succ, List.getElem_cons_zero, List.setIfInBounds_toArray, List.set_cons_zero, List.set_cons_succ]
  refine wpAnyH_ready (rs := [8]) (by kernel_rfl) (by simp) ?_
  refine AllReadyH.cons rfl (fun K hK => ?_) AllReadyH.nil
  have a4 : At (w5.alloc (.cells (ll t (.slice none 0 0) (Ln.start t) t.st (.pointer (some ⟨P, 0, none⟩))).toArray 84)) w5.heap.size (ll t (.slice none 0 0) (Ln.start t) t.st (.pointer (some ⟨P, 0, none⟩))) := At.alloc w5 _ _
  have b4 := hHeld'''.2.size
  have hbk4 := hbk.keep (S := fun _ => False) (Keep.below (S := fun _ => False) ((Below.refl _ _).alloc (Nat.le_refl _) (.cells (ll t (.slice none 0 0) (Ln.start t) t.st (.pointer (some ⟨P, 0, none⟩))).toArray 84))) (fun _ _ h => h)
  have hPB : P < w5.heap.size := At.lt hbk.pl
  rw [if_pos (by rfl)]
  refine wp_valD (.pointer (some ⟨w5.heap.size, 0, none⟩)) (w5.alloc (.cells (ll t (.slice none 0 0) (Ln.start t) t.st (.pointer (some ⟨P, 0, none⟩))).toArray 84)) (by kernel_rfl) ?_
  refine hK.out _ _ (keepO (v := .int .i64 t.st) ((Below.refl _ _).alloc (Nat.le_refl _) _) hHeld''') (fun hHeld4 => ?_)
  clear hK K hHeld''' hbk
  generalize w5.alloc (.cells (ll t (.slice none 0 0) (Ln.start t) t.st (.pointer (some ⟨P, 0, none⟩))).toArray 84) = w4 at *
  generalize w5.heap.size = B at *
  simp only [Act.put, List.getElem_toArray, List.getElem_cons_succ, List.getElem_cons_zero, List.setIfInBounds_toArray, List.set_cons_zero, List.set_cons_succ]
  refine wpAnyH_take (i := 9) (v := (.pointer (some ⟨B, 0, none⟩))) rfl (by kernel_rfl) (by kernel_rfl) (by kernel_rfl) (fun _ _ _ h => h) (Or.inl ⟨by rfl, fun wx hSw => by (dsimp only at hSw; go_simp)⟩) (by assumption) ?_
  simp only [Act.put, List.getElem_toArray, List.getElem_cons_succ, List.getElem_cons_zero, List.setIfInBounds_toArray, List.set_cons_zero, List.set_cons_succ]
  refine wpAnyH_take (i := 10) (v := (.int .i64 0)) rfl (by kernel_rfl) (by kernel_rfl) (by kernel_rfl) (fun _ _ _ h => h) (Or.inl ⟨by rfl, fun wx hSw => by (dsimp only at hSw; go_simp)⟩) (by assumption) ?_
  simp only [Act.put, List.getElem_toArray, List.getElem_cons_succ, List.getElem_cons_zero, List.setIfInBounds_toArray, List.set_cons_zero, List.set_cons_succ]
  refine wpAnyH_done (by kernel_rfl) ?_ _
  have b5 := hHeld4.2
  clear hHeld4
  go_wp2
  go_ret2
  exact ⟨⟨B, P, Mb, rfl, b4, hMw, hPB, a4, hbk4⟩, b5⟩
end Go.Proofs.YtanndhoimpnhpaaGreatDoor
namespace Go.Proofs.YtanndhoimpnhpaaGreatDoor
open Go.RowKit Cal
theorem pass_any (w : World) (t : Ln.Terms) (n : Int) (g : Ln.St) (c i f : Int) (l : List Ln.Ev) (p : Option Addr) (cap : Nat)
    (hev : ∀ k (hk : k < l.length), ∃ E o, p = some ⟨E, o, none⟩ ∧ E < w.heap.size ∧ w.cell? ⟨E, o + k * 4, none⟩ = some (.int .i64 l[k].d) ∧ w.cell? ⟨E, o + k * 4 + 1, none⟩ = some (.int .i64 l[k].k) ∧ w.cell? ⟨E, o + k * 4 + 2, none⟩ = some (.int .i64 l[k].s) ∧ w.cell? ⟨E, o + k * 4 + 3, none⟩ = some (.int .i64 l[k].a))
    (hll : l.length ≤ 1000000) (hm : Mv w) (hg : 1 < w.heap.size) (n0 : 0 ≤ n) (n1 : n ≤ 109572) (L : Int) (s : Nat) (hI : Ln.Inv t L s g) (ht : Ln.OkT t) (hl : ∀ e ∈ l, Ln.OkE t e) (hn : ∀ e ∈ l, e.d = n)
    (wt : Nat) (hwt : wtOf t.ba n = wt) (hw3 : wt ≤ 3) (hs : s + wt ≤ 4320) (hL : L + (if n = t.st then t.pr else 0) + Ln.lents n l ≤ 4100000000000) (hfn : (Ln.day t n (cdOf n) wt l g).g.fn / Ln.den t ≤ 8000000000000000000) :
    Calls Tryz.prog 39 #[stV t g c i f, tmV t, .int .i64 n, .slice p l.length cap] w fun e w' => (∃ c' i' f', e = .returned (.tuple #[stV t (Ln.day t n (cdOf n) wt l g).g c' i' f', amV (Ln.day t n (cdOf n) wt l g).am])) ∧ Below w.heap.size w w' := by
  have hd := Ln.den_bd t
  have hlen := Ln.lents_nn n l hl
  have hpr := ht.pr0
  have hL0 := hI.L0
  have hif : 0 ≤ (if n = t.st then t.pr else 0) := by split <;> omega
  have I0 := hI.early n (cdOf n) ht
  have A0 := Ln.Am.early (n := n) hI (by omega) (by omega) ht (cdOf n)
  have If := Ln.Inv.events n l I0 hl
  have fe := Ln.events_fn n l (Ln.early t n (cdOf n) g)
  rw [Ln.early_fn] at fe
  have hfn' : ((l.foldl (Ln.event n) (Ln.early t n (cdOf n) g)).g.fn + (l.foldl (Ln.event n) (Ln.early t n (cdOf n) g)).g.la * (t.fi * wt)) / Ln.den t ≤ 8000000000000000000 := hfn
  have hw0 : (0 : Int) ≤ wt := by omega
  have m2 : 0 ≤ (l.foldl (Ln.event n) (Ln.early t n (cdOf n) g)).g.la * (t.fi * wt) := Int.mul_nonneg If.la (Int.mul_nonneg ht.fi0 hw0)
  have hg0 : g.fn / Ln.den t ≤ 8000000000000000000 := Int.le_trans (Int.ediv_le_ediv (by omega) (by omega)) hfn'
  have Af := Ln.Am.events n l A0 I0 (by omega) (by rw [Ln.early_fn]; exact hg0) hL hl
  refine pass_core w t n g c i f l p cap (Ln.early t n (cdOf n) g) _ hev hll ?_ ?_ ?_
  · intro W P kW hP hp
    exact pbegin_any W P t n g n0 (by omega) hp (hm.keep kW (fun x => x)) (by omega) L s hI (by omega) (by omega) hg0 ht
  · intro W P k hk kW hP hp
    have hlk : ∀ e ∈ l.take k, Ln.OkE t e := fun e he => hl e (List.mem_of_mem_take he)
    have hmem : l[k] ∈ l := List.getElem_mem hk
    have e1 : Ln.lents n l = Ln.lents n (l.take k) + (Ln.lent n l[k] + Ln.lents n (l.drop (k + 1))) := by
      have : l = l.take k ++ (l[k] :: l.drop (k + 1)) := by rw [List.getElem_cons_drop, List.take_append_drop]
      conv => lhs; rw [this]
      rw [Ln.lents_append]
      rfl
    have e2 : Ln.lent n l[k] = l[k].a := by
      unfold Ln.lent
      rw [if_pos (hn _ hmem)]
    have e3 := Ln.lents_nn n (l.drop (k + 1)) (fun e he => hl e (List.mem_of_mem_drop he))
    have e4 := (hl _ hmem).a0
    have Ik := Ln.Inv.events n (l.take k) I0 hlk
    have fk := Ln.events_fn n (l.take k) (Ln.early t n (cdOf n) g)
    rw [Ln.early_fn] at fk
    have Ak := Ln.Am.events n (l.take k) A0 I0 (by omega) (by rw [Ln.early_fn]; exact hg0) (by omega) hlk
    rw [foldl_take n _ l k hk]
    exact happen_any W P t n _ hp (hm.keep kW (by omega)) (by omega) n0 (by omega) _ s l[k] Ik (by omega) (by omega) (by rw [fk]; exact hg0) Ak (hl _ hmem) (hn _ hmem)
  · intro W P kW hP hp
    exact pend_any W P t n _ hp (hm.keep kW (by omega)) (by omega) n0 n1 _ s If wt hwt hw3 hs hL hfn' ht Af
end Go.Proofs.YtanndhoimpnhpaaGreatDoor
namespace Go.Proofs.YtanndhoimpnhpaaGreatDoor
open Go.RowKit Cal
def evl (e : Ln.Ev) : List Value := [.int .i64 e.d, .int .i64 e.k, .int .i64 e.s, .int .i64 e.a]
def evV (e : Ln.Ev) : Value := .agg (evl e).toArray
def liml : List Value := [.int .i64 0, .int .i64 0, .int .i64 1, .int .i64 100000000000, .int .i64 0, .int .i64 1000000, .int .i64 1, .int .i64 400, .int .i64 0, .int .i64 0, .int .i64 1, .int .i64 100000000000]
def Lim (w : World) : Prop := ∀ i v, liml[i]? = some v → w.cell? ⟨0, i, none⟩ = some v
theorem Lim.keep {S : Nat → Prop} {w w' : World} (h : Lim w) (k : Keep S w w') (hs : ¬ S 0) : Lim w' := by
  intro i v hv
  have h1 := h i v hv
  exact (World.cell?_of_block (w := w) (a := ⟨0, i, none⟩) (k.block _ (World.block_lt_of_cell? _ _ h1) hs)).trans h1
theorem Lim.lt {w : World} (h : Lim w) : 0 < w.heap.size := World.block_lt_of_cell? _ _ (h 0 _ rfl)
set_option maxHeartbeats 1000000 in
theorem span_any (t : Ln.Terms) (w : World) (h0 : 0 ≤ t.st) (h1 : t.st ≤ 105872) :
    Calls Tryz.prog 35 #[tmV t] w fun e w' => e = .returned (.agg #[.int .i64 t.st, .int .i64 (t.st + 3700)]) ∧ Below w.heap.size w w' := by
  unfold tmV
  go_enter Tryz.func35, Tryz.ntmps35
  go_wp2
  exact bodyPost_ret (v := .agg #[.int .i64 t.st, .int .i64 (t.st + 3700)]) (by simp [results, Tryz.results35, go_sem]) rfl ⟨rfl, ((Below.refl _ _).alloc (Nat.le_refl _) _).alloc (by simp) _⟩
def evF (t : Ln.Terms) (e : Ln.Ev) : Int :=
  if e.k < 1 ∨ 5 < e.k then 4
  else if e.d < t.st ∨ t.st + 3700 < e.d then 5
  else if fitsB e.k e.a = false then 6
  else 0
theorem fits_lim (k a : Int) (n : Nat) (hn : k = n) (h1 : 1 ≤ n) (h5 : n ≤ 5) : ∃ lo hi : Int, liml[2 * n]? = some (.int .i64 lo) ∧ liml[2 * n + 1]? = some (.int .i64 hi) ∧ fitsB k a = decide (lo ≤ a ∧ a ≤ hi) := by
  subst hn
  rcases (show n = 1 ∨ n = 2 ∨ n = 3 ∨ n = 4 ∨ n = 5 by omega) with rfl | rfl | rfl | rfl | rfl
  · exact ⟨1, 100000000000, rfl, rfl, by simp [fitsB]⟩
  · exact ⟨0, 1000000, rfl, rfl, by simp [fitsB]⟩
  · exact ⟨1, 400, rfl, rfl, by simp [fitsB]⟩
  · refine ⟨0, 0, rfl, rfl, ?_⟩
    show decide (a = 0) = _
    by_cases h : a = 0
    · simp [h]
    · rw [decide_eq_false h, decide_eq_false (by omega)]
  · exact ⟨1, 100000000000, rfl, rfl, by simp [fitsB]⟩
def EfS (w : World) (t : Ln.Terms) (e : Ln.Ev) (wx : World) : Prop := At wx w.heap.size (tml t) ∧ At wx (w.heap.size + 1) (evl e) ∧ Below w.heap.size w wx
theorem EfS.below {w W W' : World} {t : Ln.Terms} {e : Ln.Ev} (h : EfS w t e W) (hb : Below W.heap.size W W') : EfS w t e W' :=
  ⟨At.keep (S := fun _ => False) (v := .int .i64 t.st) h.1 (Keep.below hb) (fun x => x), At.keep (S := fun _ => False) (v := .int .i64 e.d) h.2.1 (Keep.below hb) (fun x => x), h.2.2.trans (hb.mono h.2.2.size)⟩
theorem EfS.drew {w W : World} {t : Ln.Terms} {e : Ln.Ev} (h : EfS w t e W) : EfS w t e W.drew := ⟨h.1.drew, h.2.1.drew, h.2.2.drew⟩
set_option maxRecDepth 10000 in
set_option maxHeartbeats 4000000 in
theorem eventFault_any (t : Ln.Terms) (e : Ln.Ev) (w : World) (h0 : 0 ≤ t.st) (h1 : t.st ≤ 105872) (hlim : Lim w) :
    Calls Tryz.prog 49 #[tmV t, evV e] w fun x w' => x = .returned (.int .i64 (evF t e)) ∧ Below w.heap.size w w' := by
  have hsp := fun W => span_any t W h0 h1
  have hal := fun W => allow_any t.st (t.st + 3700) e.d W
  obtain ⟨xb, hxb⟩ : ∃ xb, xb = decide (t.st ≤ e.d ∧ e.d ≤ t.st + 3700) := ⟨_, rfl⟩
  rw [← hxb] at hal
  have HXB : Hid (xb = decide (t.st ≤ e.d ∧ e.d ≤ t.st + 3700)) := hxb
  clear hxb
  have hgl := hlim.lt
  have HC : Hid (evF t e = if e.k < 1 ∨ 5 < e.k then 4 else if e.d < t.st ∨ t.st + 3700 < e.d then 5 else if fitsB e.k e.a = false then 6 else 0) := rfl
  have HF : Hid (∀ n : Nat, e.k = n → 1 ≤ n → n ≤ 5 → ∃ lo hi : Int, liml[2 * n]? = some (.int .i64 lo) ∧ liml[2 * n + 1]? = some (.int .i64 hi) ∧ fitsB e.k e.a = decide (lo ≤ e.a ∧ e.a ≤ hi)) := fun n => fits_lim e.k e.a n
  have HL : Hid (Lim w) := hlim
  have HS0 : Hid (EfS w t e ((w.alloc (.cells (tml t).toArray 23)).alloc (.cells (evl e).toArray 50))) := by
    have b1 : Below w.heap.size w (w.alloc (.cells (tml t).toArray 23)) := (Below.refl _ _).alloc (Nat.le_refl _) _
    have z1 : (w.alloc (.cells (tml t).toArray 23)).heap.size = w.heap.size + 1 := by simp
    refine ⟨At.over (v := .int .i64 t.st) (At.alloc w (tml t) _) _, ?_, b1.alloc (by omega) _⟩
    have := At.alloc (w.alloc (.cells (tml t).toArray 23)) (evl e) 50
    rw [z1] at this
    exact this
  clear hlim
  generalize evF t e = code at *
  generalize fitsB e.k e.a = fb at *
  unfold tmV evV
  have k1 : ((w.alloc (.cells (tml t).toArray 23)).alloc (.cells (evl e).toArray 50)).cell? ⟨w.heap.size + 1, 1, none⟩ = some (.int .i64 e.k) := HS0.out.2.1.cell 1 rfl
  go_enter Tryz.func49, Tryz.ntmps49
  go_upto_region 1 with fail
  have HZ : Hid ((w.alloc (.cells (tml t).toArray 23)).heap.size = w.heap.size + 1) := by show _ = _; simp
  change Code.wp _ _ _ _ ((w.alloc (.cells (tml t).toArray 23)).alloc (.cells (evl e).toArray 50))
  generalize (w.alloc (.cells (tml t).toArray 23)).alloc (.cells (evl e).toArray 50) = V at *
  try simp only [size_alloc]
  by_cases c1 : e.k < 1
  · have E : Hid (code = 4) := by show code = 4; rw [HC.out, if_pos (Or.inl c1)]
    have HB : Hid (Below w.heap.size w V) := HS0.out.2.2
    clear HC HS0 HF HL hsp hal
    obtain rfl := E.out
    go_wp2
    go_ret
    exact ⟨rfl, HB.out⟩
  by_cases c2 : 5 < e.k
  · have E : Hid (code = 4) := by show code = 4; rw [HC.out, if_pos (Or.inr c2)]
    have HB : Hid (Below w.heap.size w V) := HS0.out.2.2
    clear HC HS0 HF HL hsp hal
    obtain rfl := E.out
    go_wp2
    go_ret
    exact ⟨rfl, HB.out⟩
  go_upto_region 3 with fail
  refine wp_region_held_drew (S := EfS w t e) (by kernel_rfl) HS0.out.drew (fun hHeld => ?_)
  clear HS0 k1
  refine wpAnyH_take (i := 0) (v := (.agg (tml t).toArray)) rfl (by kernel_rfl) (by kernel_rfl) (by kernel_rfl) (fun _ _ _ h => h) (yieldsIf_load_mid (by rfl) 23 (.tmp 2) rfl _ _ rfl _ _ (fun _ h => h.1.range) Tryz.underlying23 rfl (by kernel_rfl)) (by assumption) ?_
  simp only [Act.put, List.getElem_toArray, List.getElem_cons_zero, List.setIfInBounds_toArray, List.set_cons_zero, List.set_cons_succ]
  refine wpAnyH_take (i := 2) (v := (.pointer (some ⟨w.heap.size + 1, 0, none⟩))) rfl (by kernel_rfl) (by kernel_rfl) (by kernel_rfl) (fun _ _ _ h => h) (Or.inl ⟨by rfl, fun wx hSw => by ((try dsimp only at hSw); go_simp)⟩) (by assumption) ?_
  simp only [Act.put, List.getElem_toArray, List.getElem_cons_succ, List.getElem_cons_zero, List.setIfInBounds_toArray, List.set_cons_zero, List.set_cons_succ]
  refine wpAnyH_take (i := 3) (v := (.int .i64 e.d)) rfl (by kernel_rfl) (by kernel_rfl) (by kernel_rfl) (fun _ _ _ h => h) (Or.inl ⟨by rfl, fun wx hSw => by (have hc : wx.cell? ⟨w.heap.size + 1, 0, none⟩ = some (.int .i64 e.d) := hSw.2.1.cell 0 rfl; go_simp)⟩) (by assumption) ?_
  simp only [Act.put, List.getElem_toArray, List.getElem_cons_succ, List.getElem_cons_zero, List.setIfInBounds_toArray, List.set_cons_zero, List.set_cons_succ]
  generalize V.drew = V1 at *
  refine wpAnyH_ready (rs := [1]) (by kernel_rfl) (by simp) ?_
  refine AllReadyH.cons rfl (fun K hK => ?_) AllReadyH.nil
  go_simp
  refine (hsp _).mono ?_
  rintro x w2 ⟨rfl, hb2⟩
  go_wp2_with fail
  refine hK.out _ _ (hHeld.below hb2) (fun hHeld2 => ?_)
  clear hK K hHeld hb2 hsp
  refine wpAnyH_ready (rs := [4]) (by kernel_rfl) (by simp) ?_
  refine AllReadyH.cons rfl (fun K hK => ?_) AllReadyH.nil
  go_simp
  refine (hal _).mono ?_
  rintro x w3 ⟨rfl, hb3⟩
  go_wp2_with fail
  refine hK.out _ _ (hHeld2.below hb3) (fun hHeld3 => ?_)
  clear hK K hHeld2 hb3 hal
  try simp only [Act.put, List.getElem_toArray, List.getElem_cons_succ, List.getElem_cons_zero, List.setIfInBounds_toArray, List.set_cons_zero, List.set_cons_succ]
  cases xb with
  | true =>
    have c3 : t.st ≤ e.d ∧ e.d ≤ t.st + 3700 := of_decide_eq_true HXB.out.symm
    refine wpAnyH_take (i := 5) (v := (.bool false)) rfl (by kernel_rfl) (by kernel_rfl) (by kernel_rfl) (fun _ _ _ h => h) (Or.inl ⟨by rfl, fun wx hSw => by ((try dsimp only at hSw); go_simp)⟩) (by assumption) ?_
    simp only [Act.put, List.getElem_toArray, List.getElem_cons_succ, List.getElem_cons_zero, List.setIfInBounds_toArray, List.set_cons_zero, List.set_cons_succ]
    refine wpAnyH_done (by kernel_rfl) ?_ _
    obtain ⟨n, hn, n1, n5⟩ : ∃ n : Nat, e.k = n ∧ 1 ≤ n ∧ n ≤ 5 := ⟨e.k.toNat, by omega, by omega, by omega⟩
    obtain ⟨lo, hi, l1, l2, l3⟩ := HF.out n hn n1 n5
    have HLR : Hid (∀ wx, EfS w t e wx → wx.rangeAt 0 (n * 2) [.int .i64 lo, .int .i64 hi]) := fun wx hx j v hv => by
      have hb := hx.2.2.block 0 hgl
      match j, hv with
      | 0, hv =>
        cases hv
        exact (World.cell?_of_block (w := w) (a := ⟨0, n * 2 + 0, none⟩) hb).trans (HL.out (n * 2) _ (by rw [Nat.mul_comm]; exact l1))
      | 1, hv =>
        cases hv
        exact (World.cell?_of_block (w := w) (a := ⟨0, n * 2 + 1, none⟩) hb).trans (HL.out (n * 2 + 1) _ (by rw [Nat.mul_comm]; exact l2))
    have HK : Hid (code = if fb = false then 6 else 0) := by show _ = _; rw [HC.out, if_neg (by omega), if_neg (by omega)]
    have hal2 := fun W => allow_any lo hi e.a W
    rw [← l3] at hal2
    have HH : Hid (EfS w t e w3) := hHeld3
    clear HC HF HL l1 l2 l3 c3 hHeld3
    go_upto_region 5 with fail
    refine wp_region_held_drew (S := EfS w t e) (by kernel_rfl) HH.out.drew (fun hHeld4 => ?_)
    clear HH
    refine wpAnyH_take (i := 0) (v := (.pointer (some ⟨w.heap.size + 1, 1, none⟩))) rfl (by kernel_rfl) (by kernel_rfl) (by kernel_rfl) (fun _ _ _ h => h) (Or.inl ⟨by rfl, fun wx hSw => by ((try dsimp only at hSw); go_simp)⟩) (by assumption) ?_
    simp only [Act.put, List.getElem_toArray, List.getElem_cons_zero, List.setIfInBounds_toArray, List.set_cons_zero, List.set_cons_succ]
    refine wpAnyH_take (i := 1) (v := (.int .i64 n)) rfl (by kernel_rfl) (by kernel_rfl) (by kernel_rfl) (fun _ _ _ h => h) (Or.inl ⟨by rfl, fun wx hSw => by (have hc : wx.cell? ⟨w.heap.size + 1, 1, none⟩ = some (.int .i64 e.k) := hSw.2.1.cell 1 rfl; rw [hn] at hc; go_simp)⟩) (by assumption) ?_
    simp only [Act.put, List.getElem_toArray, List.getElem_cons_succ, List.getElem_cons_zero, List.setIfInBounds_toArray, List.set_cons_zero, List.set_cons_succ]
    have hn6 : (0 : Int) ≤ n ∧ (n : Int) < 6 := by omega
    refine wpAnyH_take (i := 2) (v := (.pointer (some ⟨0, n * 2, none⟩))) rfl (by kernel_rfl) (by kernel_rfl) (by kernel_rfl) (fun _ _ _ h => h) (Or.inl ⟨by rfl, fun wx hSw => by ((try dsimp only at hSw); go_simp)⟩) (by assumption) ?_
    simp only [Act.put, List.getElem_toArray, List.getElem_cons_succ, List.getElem_cons_zero, List.setIfInBounds_toArray, List.set_cons_zero, List.set_cons_succ]
    refine wpAnyH_take (i := 3) (v := (.agg #[.int .i64 lo, .int .i64 hi])) rfl (by kernel_rfl) (by kernel_rfl) (by kernel_rfl) (fun _ _ _ h => h) (yieldsIf_load_mid (by rfl) 86 (.tmp 21) rfl _ _ rfl _ _ (fun _ h => HLR.out _ h) Tryz.underlying86 rfl (by kernel_rfl)) (by assumption) ?_
    simp only [Act.put, List.getElem_toArray, List.getElem_cons_succ, List.getElem_cons_zero, List.setIfInBounds_toArray, List.set_cons_zero, List.set_cons_succ]
    refine wpAnyH_take (i := 4) (v := (.pointer (some ⟨w.heap.size + 1, 3, none⟩))) rfl (by kernel_rfl) (by kernel_rfl) (by kernel_rfl) (fun _ _ _ h => h) (Or.inl ⟨by rfl, fun wx hSw => by ((try dsimp only at hSw); go_simp)⟩) (by assumption) ?_
    simp only [Act.put, List.getElem_toArray, List.getElem_cons_succ, List.getElem_cons_zero, List.setIfInBounds_toArray, List.set_cons_zero, List.set_cons_succ]
    refine wpAnyH_take (i := 5) (v := (.int .i64 e.a)) rfl (by kernel_rfl) (by kernel_rfl) (by kernel_rfl) (fun _ _ _ h => h) (Or.inl ⟨by rfl, fun wx hSw => by (have hc : wx.cell? ⟨w.heap.size + 1, 3, none⟩ = some (.int .i64 e.a) := hSw.2.1.cell 3 rfl; go_simp)⟩) (by assumption) ?_
    simp only [Act.put, List.getElem_toArray, List.getElem_cons_succ, List.getElem_cons_zero, List.setIfInBounds_toArray, List.set_cons_zero, List.set_cons_succ]
    generalize w3.drew = V2 at *
    refine wpAnyH_ready (rs := [6]) (by kernel_rfl) (by simp) ?_
    refine AllReadyH.cons rfl (fun K hK => ?_) AllReadyH.nil
    go_simp
    refine (hal2 _).mono ?_
    rintro x w5 ⟨rfl, hb5⟩
    go_wp2_with fail
    refine hK.out _ _ (hHeld4.below hb5) (fun hHeld5 => ?_)
    clear hK K hHeld4 hb5 hal2
    have HB : Hid (Below w.heap.size w w5) := hHeld5.2.2
    try simp only [Act.put, List.getElem_toArray, List.getElem_cons_succ, List.getElem_cons_zero, List.setIfInBounds_toArray, List.set_cons_zero, List.set_cons_succ]
    refine wpAnyH_take (i := 7) (v := (.bool (!fb))) rfl (by kernel_rfl) (by kernel_rfl) (by kernel_rfl) (fun _ _ _ h => h) (Or.inl ⟨by rfl, fun wx hSw => by ((try dsimp only at hSw); go_simp)⟩) (by assumption) ?_
    simp only [Act.put, List.getElem_toArray, List.getElem_cons_succ, List.getElem_cons_zero, List.setIfInBounds_toArray, List.set_cons_zero, List.set_cons_succ]
    refine wpAnyH_done (by kernel_rfl) ?_ _
    clear hHeld5 HLR
    cases fb with
    | true =>
      have E : Hid (code = 0) := by show code = 0; rw [HK.out]; rfl
      obtain rfl := E.out
      go_wp2
      go_ret
      exact ⟨rfl, HB.out⟩
    | false =>
      have E : Hid (code = 6) := by show code = 6; rw [HK.out]; rfl
      obtain rfl := E.out
      go_wp2
      go_ret
      exact ⟨rfl, HB.out⟩
  | false =>
    have c3 : ¬ (t.st ≤ e.d ∧ e.d ≤ t.st + 3700) := of_decide_eq_false HXB.out.symm
    refine wpAnyH_take (i := 5) (v := (.bool true)) rfl (by kernel_rfl) (by kernel_rfl) (by kernel_rfl) (fun _ _ _ h => h) (Or.inl ⟨by rfl, fun wx hSw => by ((try dsimp only at hSw); go_simp)⟩) (by assumption) ?_
    simp only [Act.put, List.getElem_toArray, List.getElem_cons_succ, List.getElem_cons_zero, List.setIfInBounds_toArray, List.set_cons_zero, List.set_cons_succ]
    refine wpAnyH_done (by kernel_rfl) ?_ _
    have E : Hid (code = 5) := by show code = 5; rw [HC.out, if_neg (by omega), if_pos (by omega)]
    have HB : Hid (Below w.heap.size w w3) := hHeld3.2.2
    clear HC HF HL hHeld3
    obtain rfl := E.out
    go_wp2
    go_ret
    exact ⟨rfl, HB.out⟩
end Go.Proofs.YtanndhoimpnhpaaGreatDoor
