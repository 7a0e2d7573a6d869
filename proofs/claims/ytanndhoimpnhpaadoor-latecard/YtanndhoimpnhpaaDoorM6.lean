/- Joined by program: Dy, PrJ, PrL, PrM, Mid, Bp. -/
import Derived.Test.YtanndhoimpnhpaaDoorM1
import Derived.Test.YtanndhoimpnhpaaDoorM5
import Derived.Deep.CutRange
import Derived.Maps.AppendAt
/- A loan's day, step by step: its bounds under way. -/
namespace Go.Proofs.YtanndhoimpnhpaaDoor.Ln

theorem event_fn (n : Int) (y : Dy) (e : Ev) : (event n y e).g.fn = y.g.fn := by
  unfold event
  (repeat' split) <;> rfl
theorem events_fn (n : Int) : ∀ (l : List Ev) (y : Dy), (l.foldl (event n) y).g.fn = y.g.fn
  | [], _ => rfl
  | e :: r, y => (events_fn n r (event n y e)).trans (event_fn n y e)
theorem early_fn (t : Terms) (n cd : Int) (g : St) : (early t n cd g).g.fn = g.fn := by
  unfold early
  by_cases h : n = t.st
  · simp only [h, ne_eq, not_true, false_and, if_false, if_true]
    rfl
  · simp only [h, ne_eq, not_false_eq_true, true_and, if_false]
    split <;> rfl
theorem lent_nn {t : Terms} (n : Int) (e : Ev) (he : OkE t e) : 0 ≤ lent n e := by
  unfold lent
  have := he.a0
  split <;> omega
theorem lents_nn {t : Terms} (n : Int) : ∀ l : List Ev, (∀ e ∈ l, OkE t e) → 0 ≤ lents n l
  | [], _ => Int.le_refl _
  | e :: r, h => by
    have h1 := lent_nn n e (h e (by simp))
    have h2 := lents_nn n r (fun x hx => h x (by simp [hx]))
    show 0 ≤ lent n e + lents n r
    omega
theorem lents_append (n : Int) : ∀ l m : List Ev, lents n (l ++ m) = lents n l + lents n m
  | [], m => by simp [lents]
  | e :: r, m => by
    have := lents_append n r m
    show lent n e + lents n (r ++ m) = lent n e + lents n r + lents n m
    omega
theorem Am.events {t : Terms} (n : Int) : ∀ (l : List Ev) {y : Dy} {L : Int} {s : Nat}, Am y L → Inv t L s y.g → s ≤ 4320 → y.g.fn / den t ≤ 8000000000000000000 → L + lents n l ≤ 4100000000000 → (∀ e ∈ l, OkE t e) → Am (l.foldl (Ln.event n) y) (L + lents n l)
  | [], y, L, s, h, _, _, _, _, _ => by
    show Am y (L + 0)
    rw [Int.add_zero]
    exact h
  | e :: r, y, L, s, h, hI, hs, hf, hL, hl => by
    have he := hl e (by simp)
    have h1 := lent_nn n e he
    have h2 := lents_nn n r (fun x hx => hl x (by simp [hx]))
    have hL' : L + (lent n e + lents n r) ≤ 4100000000000 := hL
    have hfit := hI.fit hs (by omega) hf y.am
    have a1 := h.event hfit n e he
    have a2 := Am.events n r a1 (Inv.event hI n e he) hs (by rw [event_fn]; exact hf) (by omega) (fun x hx => hl x (by simp [hx]))
    have e3 : L + lent n e + lents n r = L + lents n (e :: r) := by show _ = L + (lent n e + lents n r); omega
    rw [e3] at a2
    exact a2
theorem Am.early {t : Terms} {n L : Int} {s : Nat} {g : St} (hI : Inv t L s g) (hs : s ≤ 4320) (hL : L + (if n = t.st then t.pr else 0) ≤ 4100000000000) (ht : OkT t) (cd : Int) : Am (Ln.early t n cd g) (L + (if n = t.st then t.pr else 0)) := by
  have hp := ht.pr0
  have hL0 := hI.L0
  have hb := hI.bound hs (by split at hL <;> omega)
  have g1 := hI.pr
  have g2 := hI.it
  have g3 := hI.du
  have g4 := hI.la
  have z : Am ⟨g, fun _ => 0⟩ L := Am.zero g L hL0 (by omega)
  unfold Ln.early
  by_cases h : n = t.st
  · simp only [h, ne_eq, not_true, false_and, if_false, if_true]
    exact z.lend t.pr hp
  · simp only [h, ne_eq, not_false_eq_true, true_and, if_false, Int.add_zero]
    split
    · refine ⟨fun j => ?_, ?_, ?_, ?_, ?_, fun j j5 j10 => ?_, ?_, ?_⟩
      · show 0 ≤ upd (upd (fun _ => 0) 2 g.du) 3 g.it j
        unfold upd
        dsimp only
        (repeat' split) <;> omega
      · show (0 : Int) ≤ L
        exact hL0
      · show 0 + g.du ≤ _
        omega
      · show 0 + g.it ≤ _
        omega
      · show 0 + (g.it - g.it) ≤ _
        omega
      · show upd (upd (fun _ => 0) 2 g.du) 3 g.it j ≤ L
        rw [upd_ne _ _ _ _ (by omega), upd_ne _ _ _ _ (by omega)]
        exact hL0
      · rfl
      · rfl
    · exact z
end Go.Proofs.YtanndhoimpnhpaaDoor.Ln

/- One day of the program: Pass. -/
namespace Go.Proofs.YtanndhoimpnhpaaDoor
open Go.RowKit Cal

def tml (t : Ln.Terms) : List Value := [.int .i64 t.st, .int .i64 t.pr, .int .i64 t.rt, .int .i64 t.fi, .int .i64 t.ba, .int .i64 t.du]
def stl (t : Ln.Terms) (g : Ln.St) (c i f : Int) : List Value :=
  [.int .i64 c, .int .i64 g.pr, .int .i64 g.it, .int .i64 g.du, .int .i64 g.la, .int .i64 g.fi, .int .i64 (-g.cr), .int .i64 i, .int .i64 f, .int .i64 g.rt, .int .i64 g.fr, .int .u64 (g.ea % Ln.den t), .int .u64 (g.fn % Ln.den t)]
def aml (am : Nat → Int) : List Value := [.int .i64 (am 0), .int .i64 (am 1), .int .i64 (am 2), .int .i64 (am 3), .int .i64 (am 4), .int .i64 (am 5), .int .i64 (am 6), .int .i64 (am 7), .int .i64 (am 8), .int .i64 (am 9), .int .i64 (am 10), .int .i64 (am 11), .int .i64 (am 12)]
def zst : List Value := [.int .i64 0, .int .i64 0, .int .i64 0, .int .i64 0, .int .i64 0, .int .i64 0, .int .i64 0, .int .i64 0, .int .i64 0, .int .i64 0, .int .i64 0, .int .u64 0, .int .u64 0]
def zam : List Value := [.int .i64 0, .int .i64 0, .int .i64 0, .int .i64 0, .int .i64 0, .int .i64 0, .int .i64 0, .int .i64 0, .int .i64 0, .int .i64 0, .int .i64 0, .int .i64 0, .int .i64 0]

/-- What lies there when Pass has made its four blocks. -/
structure PassAt (w W : World) (t : Ln.Terms) (g : Ln.St) (c i f : Int) : Prop where
  size : W.heap.size = w.heap.size + 1 + 1 + 1 + 1
  st : At W w.heap.size (stl t g c i f)
  tm : At W (w.heap.size + 1) (tml t)
  rs : At W (w.heap.size + 1 + 1) zst
  ra : At W (w.heap.size + 1 + 1 + 1) zam
  below : Below w.heap.size w W
theorem passAt (w : World) (t : Ln.Terms) (g : Ln.St) (c i f : Int) (T1 T2 T3 T4 : TypeId) :
    PassAt w ((((w.alloc (.cells (stl t g c i f).toArray T1)).alloc (.cells (tml t).toArray T2)).alloc (.cells zst.toArray T3)).alloc (.cells zam.toArray T4)) t g c i f := by
  refine ⟨by simp, ?_, ?_, ?_, ?_, ?_⟩
  · exact At.over (At.over (At.over (At.allocs w _ _ rfl) _) _) _
  · exact At.over (At.over (At.allocs _ _ _ (by simp)) _) _
  · exact At.over (At.allocs _ _ _ (by simp)) _
  · exact At.allocs _ _ _ (by simp)
  · exact ((((Below.refl _ _).alloc (Nat.le_refl _) _).alloc (by simp) _).alloc (by simp; omega) _).alloc (by simp; omega) _

theorem foldl_take (n : Int) (y : Ln.Dy) (l : List Ln.Ev) (k : Nat) (hk : k < l.length) : (l.take (k + 1)).foldl (Ln.event n) y = Ln.event n ((l.take k).foldl (Ln.event n) y) l[k] := by
  rw [List.take_succ_eq_append_getElem hk, List.foldl_append]
  rfl
theorem stl_mid (t : Ln.Terms) (n : Int) (y : Ln.Dy) (c i f : Int) : ∀ j v, (stl t y.g c i f)[j]? = some v → (pl t n y c i f)[7 + j]? = some v := by
  intro j v h
  match j, h with
  | 0, h => exact h
  | 1, h => exact h
  | 2, h => exact h
  | 3, h => exact h
  | 4, h => exact h
  | 5, h => exact h
  | 6, h => exact h
  | 7, h => exact h
  | 8, h => exact h
  | 9, h => exact h
  | 10, h => exact h
  | 11, h => exact h
  | 12, h => exact h
  | j + 13, h => exact absurd h (by simp [stl])
theorem aml_mid (t : Ln.Terms) (n : Int) (y : Ln.Dy) (c i f : Int) : ∀ j v, (aml y.am)[j]? = some v → (pl t n y c i f)[20 + j]? = some v := by
  intro j v h
  match j, h with
  | 0, h => exact h
  | 1, h => exact h
  | 2, h => exact h
  | 3, h => exact h
  | 4, h => exact h
  | 5, h => exact h
  | 6, h => exact h
  | 7, h => exact h
  | 8, h => exact h
  | 9, h => exact h
  | 10, h => exact h
  | 11, h => exact h
  | 12, h => exact h
  | j + 13, h => exact absurd h (by simp [aml])

set_option maxRecDepth 10000 in
set_option maxHeartbeats 600000 in
theorem pass_core (w : World) (t : Ln.Terms) (n : Int) (g : Ln.St) (c i f : Int) (l : List Ln.Ev) (p : Option Addr) (cap : Nat) (y0 yf : Ln.Dy)
    (hev : ∀ k (hk : k < l.length), ∃ E o, p = some ⟨E, o, none⟩ ∧ E < w.heap.size ∧ w.cell? ⟨E, o + k * 4, none⟩ = some (.int .i64 l[k].d) ∧ w.cell? ⟨E, o + k * 4 + 1, none⟩ = some (.int .i64 l[k].k) ∧ w.cell? ⟨E, o + k * 4 + 2, none⟩ = some (.int .i64 l[k].s) ∧ w.cell? ⟨E, o + k * 4 + 3, none⟩ = some (.int .i64 l[k].a))
    (hll : l.length ≤ 1000000)
    (hB : ∀ (W : World) (P : Nat), Keep (fun _ => False) w W → w.heap.size ≤ P → Pas W P t n ⟨g, fun _ => 0⟩ → Calls Tryd.prog 64 #[.pointer (some ⟨P, 0, none⟩)] W fun e w' => e = .returned (.tuple #[]) ∧ Pas w' P t n y0 ∧ Keep (fun b => b = P) W w')
    (hH : ∀ (W : World) (P : Nat) (k : Nat) (hk : k < l.length), Keep (fun b => w.heap.size ≤ b) w W → w.heap.size ≤ P → Pas W P t n ((l.take k).foldl (Ln.event n) y0) → Calls Tryd.prog 65 #[.pointer (some ⟨P, 0, none⟩), .agg #[.int .i64 l[k].d, .int .i64 l[k].k, .int .i64 l[k].s, .int .i64 l[k].a]] W fun e w' => e = .returned (.tuple #[]) ∧ Pas w' P t n ((l.take (k + 1)).foldl (Ln.event n) y0) ∧ Keep (fun b => b = P) W w')
    (hE : ∀ (W : World) (P : Nat), Keep (fun b => w.heap.size ≤ b) w W → w.heap.size ≤ P → Pas W P t n (l.foldl (Ln.event n) y0) → Calls Tryd.prog 66 #[.pointer (some ⟨P, 0, none⟩)] W fun e w' => e = .returned (.tuple #[]) ∧ Pas w' P t n yf ∧ Keep (fun b => b = P) W w') :
    Calls Tryd.prog 44 #[stV t g c i f, tmV t, .int .i64 n, .slice p l.length cap] w fun e w' => (∃ c' i' f', e = .returned (.tuple #[stV t yf.g c' i' f', amV yf.am])) ∧ Below w.heap.size w w' := by
  unfold stV tmV
  go_enter Tryd.func44, Tryd.ntmps44
  go_upto_region 1 with fail
  refine (fun (key : ∀ W : World, PassAt w W t g c i f → Code.wp Tryd.prog _ _ _ W) => key _ (passAt w t g c i f _ _ _ _)) ?_
  intro W hW
  have hrt : W.rangeAt (w.heap.size + 1) 0 (tml t) := hW.tm.range
  have hrs : W.rangeAt w.heap.size 0 (stl t g c i f) := hW.st.range
  refine wp_region_lit ?_
  refine wpList_load_mid rfl 41 (.tmp 5) rfl _ 0 rfl (tml t) _ hrt Tryd.underlying41 rfl (by kernel_rfl) ?_
  simp only [Act.put, List.setIfInBounds_toArray, List.set_cons_zero, List.set_cons_succ]
  refine wpList_val (.int .i64 n) W rfl rfl ?_
  simp only [Act.put, List.setIfInBounds_toArray, List.set_cons_zero, List.set_cons_succ]
  refine wpList_load_mid rfl 79 (.tmp 4) rfl _ 0 rfl (stl t g c i f) _ hrs Tryd.underlying79 rfl (by kernel_rfl) ?_
  simp only [Act.put, List.setIfInBounds_toArray, List.set_cons_zero, List.set_cons_succ]
  refine wpList_val (.agg (pl t n ⟨g, fun _ => 0⟩ c i f).toArray) W rfl (by kernel_rfl) ?_
  simp only [Act.put, List.setIfInBounds_toArray, List.set_cons_zero, List.set_cons_succ]
  refine wpList_val (.pointer (some ⟨W.heap.size, 0, none⟩)) (W.alloc (.cells (pl ⟨0, 0, 0, 0, 0, 0⟩ 0 ⟨⟨0, 0, 0, 0, 0, 0, 0, 0, 0, 0⟩, fun _ => 0⟩ 0 0 0).toArray 116)) rfl (by kernel_rfl) ?_
  simp only [Act.put, List.setIfInBounds_toArray, List.set_cons_zero, List.set_cons_succ]
  refine wpList_store_new rfl 116 (.tmp 10) (.tmp 16) rfl _ _ rfl rfl (by kernel_rfl) rfl (by kernel_rfl) ?_
  simp only [Act.put]
  refine wpList_nil ?_
  have hp0 : Pas (W.alloc (.cells (pl t n ⟨g, fun _ => 0⟩ c i f).toArray 116)) W.heap.size t n ⟨g, fun _ => 0⟩ := ⟨c, i, f, At.alloc W _ _⟩
  have hPsz : w.heap.size + 4 = W.heap.size := by have := hW.size; omega
  have kW : ∀ S : Nat → Prop, Keep S w (W.alloc (.cells (pl t n ⟨g, fun _ => 0⟩ c i f).toArray 116)) := fun S => Keep.below (hW.below.alloc (by omega) _)
  have r0 : At (W.alloc (.cells (pl t n ⟨g, fun _ => 0⟩ c i f).toArray 116)) (w.heap.size + 1 + 1) zst := At.over hW.rs _
  have r1 : At (W.alloc (.cells (pl t n ⟨g, fun _ => 0⟩ c i f).toArray 116)) (w.heap.size + 1 + 1 + 1) zam := At.over hW.ra _
  generalize hV : W.alloc (.cells (pl t n ⟨g, fun _ => 0⟩ c i f).toArray 116) = V at *
  generalize hPd : W.heap.size = P at *
  clear hV hW hrt hrs
  have hPw : w.heap.size ≤ P := by omega
  go_wp2_with fail
  refine (hB V P (kW _) hPw hp0).mono ?_
  rintro e w1 ⟨rfl, hp1, k1⟩
  clear hB hp0
  have kk1 : Keep (fun b => w.heap.size ≤ b) w w1 := (kW _).trans (k1.mono (fun b _ h => by rw [h]; exact hPw))
  have s0 : At w1 (w.heap.size + 1 + 1) zst := r0.keep k1 (by omega)
  have s1 : At w1 (w.heap.size + 1 + 1 + 1) zam := r1.keep k1 (by omega)
  clear r0 r1 k1 kW
  go_wp2
  go_loopw [20] (fun i wr => ∃ k : Nat, k ≤ l.length ∧ i = .int .i64 k ∧ Pas wr P t n ((l.take k).foldl (Ln.event n) y0) ∧ Keep (fun b => w.heap.size ≤ b) w wr ∧ At wr (w.heap.size + 1 + 1) zst ∧ At wr (w.heap.size + 1 + 1 + 1) zam) (fun i _ => l.length - (intOf i).toNat)
  case atStart => exact ⟨0, Nat.zero_le _, rfl, hp1, kk1, s0, s1⟩
  case round =>
    obtain ⟨k, hk, rfl, hpk, hkk, t0, t1⟩ := hrel
    clear hp1 kk1 s0 s1
    have kA : ∀ (S : Nat → Prop) (ob : Obj), Keep S wr (wr.alloc ob) := fun S ob => Keep.below ((Below.refl _ _).alloc (Nat.le_refl _) ob)
    by_cases hlt : k < l.length
    · obtain ⟨E, o, rfl, hEw, e0, e1, e2, e3⟩ := hev k hlt
      have hbl := hkk.block E hEw (by omega)
      have d0 : wr.cell? ⟨E, o + k * 4, none⟩ = some (.int .i64 l[k].d) := (World.cell?_of_block (w := w) (a := ⟨E, _, none⟩) hbl).trans e0
      have d1 : wr.cell? ⟨E, o + k * 4 + 1, none⟩ = some (.int .i64 l[k].k) := (World.cell?_of_block (w := w) (a := ⟨E, _, none⟩) hbl).trans e1
      have d2 : wr.cell? ⟨E, o + k * 4 + 2, none⟩ = some (.int .i64 l[k].s) := (World.cell?_of_block (w := w) (a := ⟨E, _, none⟩) hbl).trans e2
      have d3 : wr.cell? ⟨E, o + k * 4 + 3, none⟩ = some (.int .i64 l[k].a) := (World.cell?_of_block (w := w) (a := ⟨E, _, none⟩) hbl).trans e3
      have hC := fun ob => hH (wr.alloc ob) P k hlt (hkk.trans (kA _ ob)) hPw (hpk.keep (kA (fun _ => False) ob) (fun x => x))
      clear hH hE hev e0 e1 e2 e3 hbl hpk
      go_wp2_with fail
      refine (hC _).mono ?_
      rintro e w2 ⟨rfl, hp2, k2⟩
      clear hC
      have k2' := (kA (fun b => b = P) _).trans k2
      have kk2 := hkk.trans (k2'.mono (T := fun b => w.heap.size ≤ b) (fun b _ h => by rw [h]; exact hPw))
      have t0' := t0.keep k2' (by omega)
      have t1' := t1.keep k2' (by omega)
      go_wp2
      go_roundw
      case rel => exact ⟨k + 1, by omega, by go_num, hp2, kk2, t0', t1'⟩
      case measure => simp [intOf]; omega
    · have hkl : k = l.length := by omega
      subst hkl
      rw [List.take_length] at hpk
      have hC := hE wr P hkk hPw hpk
      clear hH hE hev hpk
      go_wp2_with fail
      refine hC.mono ?_
      rintro e w2 ⟨rfl, hp2, k2⟩
      clear hC kA
      have kk2 := hkk.trans (k2.mono (T := fun b => w.heap.size ≤ b) (fun b _ h => by rw [h]; exact hPw))
      have t0' := t0.keep k2 (by omega)
      have t1' := t1.keep k2 (by omega)
      clear t0 t1 hkk k2
      go_wp2_with fail
      obtain ⟨c', i', f', hA⟩ := hp2
      have m1 : w2.rangeAt P 7 (stl t yf.g c' i' f') := hA.mid 7 _ (stl_mid t n yf c' i' f')
      have m2 : w2.rangeAt P 20 (aml yf.am) := hA.mid 20 _ (aml_mid t n yf c' i' f')
      have T0 : w2.drew.there (w.heap.size + 1 + 1) 0 13 := t0'.drew.there 13 rfl
      refine wp_region_held_drew (S := fun wx => wx.rangeAt P 7 (stl t yf.g c' i' f') ∧ wx.rangeAt P 20 (aml yf.am)) (by kernel_rfl) ⟨m1, m2⟩ (fun hHeld => ?_)
      refine wpAnyH_take (i := 0) (v := .pointer (some ⟨P, 7, none⟩)) rfl (by kernel_rfl) (by kernel_rfl) (by kernel_rfl) (fun _ _ _ h => h) (Or.inl ⟨by rfl, fun wx hSw => by (dsimp only at hSw; go_simp)⟩) (by assumption) ?_
      simp only [Act.put, List.getElem_toArray, List.getElem_cons_zero, List.setIfInBounds_toArray, List.set_cons_zero, List.set_cons_succ]
      refine wpAnyH_take (i := 1) (v := .agg (stl t yf.g c' i' f').toArray) rfl (by kernel_rfl) (by kernel_rfl) (by kernel_rfl) (fun _ _ _ h => h) (yieldsIf_load_mid (by rfl) 79 (.tmp 28) rfl _ _ rfl _ _ (fun _ h => h.1) Tryd.underlying79 rfl (by kernel_rfl)) (by assumption) ?_
      simp only [Act.put, List.getElem_toArray, List.getElem_cons_succ, List.getElem_cons_zero, List.setIfInBounds_toArray, List.set_cons_zero, List.set_cons_succ]
      refine wpAnyH_take (i := 2) (v := .pointer (some ⟨P, 20, none⟩)) rfl (by kernel_rfl) (by kernel_rfl) (by kernel_rfl) (fun _ _ _ h => h) (Or.inl ⟨by rfl, fun wx hSw => by (dsimp only at hSw; go_simp)⟩) (by assumption) ?_
      simp only [Act.put, List.getElem_toArray, List.getElem_cons_succ, List.getElem_cons_zero, List.setIfInBounds_toArray, List.set_cons_zero, List.set_cons_succ]
      refine wpAnyH_take (i := 3) (v := .agg (aml yf.am).toArray) rfl (by kernel_rfl) (by kernel_rfl) (by kernel_rfl) (fun _ _ _ h => h) (yieldsIf_load_mid (by rfl) 91 (.tmp 30) rfl _ _ rfl _ _ (fun _ h => h.2) Tryd.underlying91 rfl (by kernel_rfl)) (by assumption) ?_
      simp only [Act.put, List.getElem_toArray, List.getElem_cons_succ, List.getElem_cons_zero, List.setIfInBounds_toArray, List.set_cons_zero, List.set_cons_succ]
      refine wpAnyH_ready (rs := [4]) (by kernel_rfl) (by simp) ?_
      refine AllReadyH.cons rfl (fun K hK => ?_) AllReadyH.nil
      rw [if_pos (by rfl)]
      refine wp_store_mid 79 (.tmp 8) (.tmp 29) rfl _ 0 _ rfl rfl T0 (by kernel_rfl) (by kernel_rfl) ?_
      rw [List.toList_toArray]
      refine hK.out _ _ ⟨World.rangeAt_setCells_apart hHeld.1 _ _ _ (by omega), World.rangeAt_setCells_apart hHeld.2 _ _ _ (by omega)⟩ (fun hHeld2 => ?_)
      clear hK K
      have a0 : At (w2.drew.setCells (w.heap.size + 1 + 1) 0 (stl t yf.g c' i' f')) (w.heap.size + 1 + 1) (stl t yf.g c' i' f') := t0'.drew.setCells_same rfl
      have a1 : At (w2.drew.setCells (w.heap.size + 1 + 1) 0 (stl t yf.g c' i' f')) (w.heap.size + 1 + 1 + 1) zam := t1'.drew.apart (by omega) _ _
      have a2 : Keep (fun b => w.heap.size ≤ b) w (w2.drew.setCells (w.heap.size + 1 + 1) 0 (stl t yf.g c' i' f')) := Keep.setCells (S := fun b => w.heap.size ≤ b) (show w.heap.size ≤ w.heap.size + 1 + 1 by omega) _ _ _ kk2.drew
      generalize w2.drew.setCells (w.heap.size + 1 + 1) 0 (stl t yf.g c' i' f') = V2 at *
      simp only [Act.put, List.getElem_toArray, List.getElem_cons_succ, List.getElem_cons_zero]
      refine wpAnyH_ready (rs := [5]) (by kernel_rfl) (by simp) ?_
      refine AllReadyH.cons rfl (fun K hK => ?_) AllReadyH.nil
      rw [if_pos (by rfl)]
      refine wp_store_mid 91 (.tmp 9) (.tmp 31) rfl _ 0 _ rfl rfl (a1.there 13 rfl) (by kernel_rfl) (by kernel_rfl) ?_
      rw [List.toList_toArray]
      refine hK.out _ _ ⟨World.rangeAt_setCells_apart hHeld2.1 _ _ _ (by omega), World.rangeAt_setCells_apart hHeld2.2 _ _ _ (by omega)⟩ (fun hHeld3 => ?_)
      clear hK K
      have b0 : At (V2.setCells (w.heap.size + 1 + 1 + 1) 0 (aml yf.am)) (w.heap.size + 1 + 1) (stl t yf.g c' i' f') := a0.apart (by omega) _ _
      have b1 : At (V2.setCells (w.heap.size + 1 + 1 + 1) 0 (aml yf.am)) (w.heap.size + 1 + 1 + 1) (aml yf.am) := a1.setCells_same rfl
      have b2 : Keep (fun b => w.heap.size ≤ b) w (V2.setCells (w.heap.size + 1 + 1 + 1) 0 (aml yf.am)) := Keep.setCells (S := fun b => w.heap.size ≤ b) (show w.heap.size ≤ w.heap.size + 1 + 1 + 1 by omega) _ _ _ a2
      generalize V2.setCells (w.heap.size + 1 + 1 + 1) 0 (aml yf.am) = V3 at *
      simp only [Act.put, List.getElem_toArray, List.getElem_cons_succ, List.getElem_cons_zero]
      refine wpAnyH_done (by kernel_rfl) ?_ _
      go_wp2
      exact bodyPost_ret (v := .tuple #[stV t yf.g c' i' f', amV yf.am]) (results_two Tryd.results44 _ _ _ _ _ _ _ _ rfl rfl b0.range b1.range Tryd.underlying79 Tryd.underlying91 rfl rfl (by kernel_rfl) (by kernel_rfl)) rfl ⟨⟨c', i', f', rfl⟩, b2.os, b2.tape, b2.output, b2.size, fun k hk => b2.block k hk (by omega)⟩
end Go.Proofs.YtanndhoimpnhpaaDoor

/- A loan that is opened, and what Balance tells of a state. -/
namespace Go.Proofs.YtanndhoimpnhpaaDoor
open Go.RowKit Cal

/-- A balance as a value. -/
def blV (g : Ln.St) (day : Int) : Value := .agg #[.int .i64 g.pr, .int .i64 g.it, .int .i64 g.du, .int .i64 g.la, .int .i64 g.fi, .int .i64 g.cr, .int .i64 g.rt, .int .i64 day]
def bll (g : Ln.St) (day : Int) : List Value := [.int .i64 g.pr, .int .i64 g.it, .int .i64 g.du, .int .i64 g.la, .int .i64 g.fi, .int .i64 g.cr, .int .i64 g.rt, .int .i64 day]
theorem stV_start (t : Ln.Terms) : stV t (Ln.start t) 0 0 0 = .agg #[.int .i64 0, .int .i64 0, .int .i64 0, .int .i64 0, .int .i64 0, .int .i64 0, .int .i64 0, .int .i64 0, .int .i64 0, .int .i64 t.rt, .int .i64 0, .int .u64 0, .int .u64 0] := by
  simp [stV, Ln.start]

set_option maxRecDepth 10000 in
set_option maxHeartbeats 1000000 in
theorem first_any (t : Ln.Terms) (w : World) :
    Calls Tryd.prog 38 #[tmV t] w fun e w' => e = .returned (stV t (Ln.start t) 0 0 0) ∧ Below w.heap.size w w' := by
  rw [stV_start]
  unfold tmV
  go_enter Tryd.func38, Tryd.ntmps38
  go_wp2
  exact bodyPost_ret (v := .agg #[.int .i64 0, .int .i64 0, .int .i64 0, .int .i64 0, .int .i64 0, .int .i64 0, .int .i64 0, .int .i64 0, .int .i64 0, .int .i64 t.rt, .int .i64 0, .int .u64 0, .int .u64 0]) (by simp [results, Tryd.results38, go_sem]) rfl ⟨rfl, ((Below.refl _ _).alloc (Nat.le_refl _) _).alloc (by simp) _⟩

set_option maxRecDepth 10000 in
set_option maxHeartbeats 1000000 in
theorem balance_any (t : Ln.Terms) (g : Ln.St) (c i f day : Int) (w : World) (c0 : 0 ≤ g.cr) (c1 : g.cr ≤ 9000000000000000000) :
    Calls Tryd.prog 39 #[stV t g c i f, .int .i64 day] w fun e w' => e = .returned (blV g day) ∧ Below w.heap.size w w' := by
  unfold stV blV
  go_enter Tryd.func39, Tryd.ntmps39
  go_wp2
  exact bodyPost_ret (v := .agg #[.int .i64 g.pr, .int .i64 g.it, .int .i64 g.du, .int .i64 g.la, .int .i64 g.fi, .int .i64 g.cr, .int .i64 g.rt, .int .i64 day]) (by simp [results, Tryd.results39, go_sem]) rfl ⟨rfl, ((Below.refl _ _).alloc (Nat.le_refl _) _).alloc (by simp) _⟩
end Go.Proofs.YtanndhoimpnhpaaDoor

/- Are terms right? The program's answer. -/
namespace Go.Proofs.YtanndhoimpnhpaaDoor
open Go.RowKit Cal

theorem allow_yes (lo hi x : Int) (w : World) (h0 : lo ≤ x) (h1 : x ≤ hi) :
    Calls Tryd.prog 42 #[.agg #[.int .i64 lo, .int .i64 hi], .int .i64 x] w fun e w' => e = .returned (.bool true) ∧ Below w.heap.size w w' := by
  go_enter Tryd.func42, Tryd.ntmps42
  go_wp2
  go_ret
  exact ⟨rfl, (Below.refl _ _).alloc (Nat.le_refl _) _⟩
theorem allow_no (lo hi x : Int) (w : World) (h : x < lo ∨ hi < x) :
    Calls Tryd.prog 42 #[.agg #[.int .i64 lo, .int .i64 hi], .int .i64 x] w fun e w' => e = .returned (.bool false) ∧ Below w.heap.size w w' := by
  by_cases h0 : x < lo
  · have h0' : ¬ lo ≤ x := by omega
    go_enter Tryd.func42, Tryd.ntmps42
    go_wp2
    go_ret
    exact ⟨rfl, (Below.refl _ _).alloc (Nat.le_refl _) _⟩
  · have h0' : lo ≤ x := by omega
    have h1' : ¬ x ≤ hi := by omega
    go_enter Tryd.func42, Tryd.ntmps42
    go_wp2
    go_ret
    exact ⟨rfl, (Below.refl _ _).alloc (Nat.le_refl _) _⟩
theorem isBasis_all (b : Int) (w : World) (x : Bool) (hx : Hid (x = decide (1 ≤ b ∧ b ≤ 3))) :
    Calls Tryd.prog 35 #[.int .i64 b] w fun e w' => e = .returned (.bool x) ∧ w' = w := by
  by_cases h : 1 ≤ b ∧ b ≤ 3
  · obtain rfl : x = true := by rw [hx.out]; simp [h]
    clear hx
    rcases (show b = 1 ∨ b = 2 ∨ b = 3 by omega) with h3 | h3 | h3
    all_goals
      subst h3
      go_enter Tryd.func35, Tryd.ntmps35
      go_wp2
      go_ret
      exact ⟨rfl, rfl⟩
  · obtain rfl : x = false := by rw [hx.out]; simp; omega
    clear hx
    have e1 : (b == 1) = false := by simp; omega
    have e2 : (b == 2) = false := by simp; omega
    have e3 : (b == 3) = false := by simp; omega
    go_enter Tryd.func35, Tryd.ntmps35
    go_wp2
    go_ret
    exact ⟨rfl, rfl⟩

set_option maxRecDepth 10000 in
set_option maxHeartbeats 1000000 in
theorem right_core (t : Ln.Terms) (w : World) (x1 x2 x3 x4 x5 x6 : Bool)
    (h1 : ∀ W : World, Calls Tryd.prog 42 #[.agg #[.int .i64 0, .int .i64 105872], .int .i64 t.st] W fun e w' => e = .returned (.bool x1) ∧ Below W.heap.size W w')
    (h2 : ∀ W : World, Calls Tryd.prog 42 #[.agg #[.int .i64 0, .int .i64 100000000000], .int .i64 t.pr] W fun e w' => e = .returned (.bool x2) ∧ Below W.heap.size W w')
    (h3 : ∀ W : World, Calls Tryd.prog 42 #[.agg #[.int .i64 0, .int .i64 1000000], .int .i64 t.rt] W fun e w' => e = .returned (.bool x3) ∧ Below W.heap.size W w')
    (h4 : ∀ W : World, Calls Tryd.prog 42 #[.agg #[.int .i64 0, .int .i64 1000000], .int .i64 t.fi] W fun e w' => e = .returned (.bool x4) ∧ Below W.heap.size W w')
    (h5 : ∀ W : World, Calls Tryd.prog 35 #[.int .i64 t.ba] W fun e w' => e = .returned (.bool x5) ∧ w' = W)
    (h6 : ∀ W : World, Calls Tryd.prog 42 #[.agg #[.int .i64 1, .int .i64 28], .int .i64 t.du] W fun e w' => e = .returned (.bool x6) ∧ Below W.heap.size W w') :
    Calls Tryd.prog 37 #[tmV t] w fun e w' => e = .returned (.bool (x1 && x2 && x3 && x4 && x5 && x6)) ∧ Below w.heap.size w w' := by
  unfold tmV
  have a0 : At (w.alloc (.cells (tml t).toArray 41)) w.heap.size (tml t) := At.alloc w (tml t) _
  have b0 : Below w.heap.size w (w.alloc (.cells (tml t).toArray 41)) := (Below.refl _ _).alloc (Nat.le_refl _) _
  go_enter Tryd.func37, Tryd.ntmps37
  go_wp2_with fail
  refine (h1 _).mono ?_
  rintro e w1 ⟨rfl, hb1⟩
  clear h1
  have a1 : At w1 w.heap.size (tml t) := At.keep (S := fun _ => False) (v := .int .i64 t.st) a0 (Keep.below hb1) (fun x => x)
  have b1 : Below w.heap.size w w1 := b0.trans (hb1.mono b0.size)
  clear hb1 a0 b0
  have c1 : w1.cell? ⟨w.heap.size, 1, none⟩ = some (.int .i64 t.pr) := a1.cell 1 rfl
  cases x1
  · go_wp2
    go_ret
    exact ⟨rfl, b1⟩
  · go_wp2_with fail
    refine (h2 _).mono ?_
    rintro e w2 ⟨rfl, hb2⟩
    clear h2
    have a2 : At w2 w.heap.size (tml t) := At.keep (S := fun _ => False) (v := .int .i64 t.st) a1 (Keep.below hb2) (fun x => x)
    have b2 : Below w.heap.size w w2 := b1.trans (hb2.mono b1.size)
    clear hb2 a1 b1
    have c2 : w2.cell? ⟨w.heap.size, 2, none⟩ = some (.int .i64 t.rt) := a2.cell 2 rfl
    cases x2
    · go_wp2
      go_ret
      exact ⟨rfl, b2⟩
    · go_wp2_with fail
      refine (h3 _).mono ?_
      rintro e w3 ⟨rfl, hb3⟩
      clear h3
      have a3 : At w3 w.heap.size (tml t) := At.keep (S := fun _ => False) (v := .int .i64 t.st) a2 (Keep.below hb3) (fun x => x)
      have b3 : Below w.heap.size w w3 := b2.trans (hb3.mono b2.size)
      clear hb3 a2 b2
      have c3 : w3.cell? ⟨w.heap.size, 3, none⟩ = some (.int .i64 t.fi) := a3.cell 3 rfl
      cases x3
      · go_wp2
        go_ret
        exact ⟨rfl, b3⟩
      · go_wp2_with fail
        refine (h4 _).mono ?_
        rintro e w4 ⟨rfl, hb4⟩
        clear h4
        have a4 : At w4 w.heap.size (tml t) := At.keep (S := fun _ => False) (v := .int .i64 t.st) a3 (Keep.below hb4) (fun x => x)
        have b4 : Below w.heap.size w w4 := b3.trans (hb4.mono b3.size)
        clear hb4 a3 b3
        have c4 : w4.cell? ⟨w.heap.size, 4, none⟩ = some (.int .i64 t.ba) := a4.cell 4 rfl
        cases x4
        · go_wp2
          go_ret
          exact ⟨rfl, b4⟩
        · go_wp2_with fail
          refine (h5 _).mono ?_
          rintro e w5 ⟨rfl, rfl⟩
          clear h5
          have a5 := a4
          have b5 := b4
          have c5 : w5.cell? ⟨w.heap.size, 5, none⟩ = some (.int .i64 t.du) := a5.cell 5 rfl
          cases x5
          · go_wp2
            go_ret
            exact ⟨rfl, b5⟩
          · go_wp2_with fail
            refine (h6 _).mono ?_
            rintro e w6 ⟨rfl, hb6⟩
            clear h6
            have a6 : At w6 w.heap.size (tml t) := At.keep (S := fun _ => False) (v := .int .i64 t.st) a5 (Keep.below hb6) (fun x => x)
            have b6 : Below w.heap.size w w6 := b5.trans (hb6.mono b5.size)
            clear hb6 a5 b5
            go_wp2
            go_ret
            exact ⟨rfl, b6⟩

/-- Are the terms right? -/
def rtB (t : Ln.Terms) : Bool := decide (0 ≤ t.st ∧ t.st ≤ 105872) && decide (0 ≤ t.pr ∧ t.pr ≤ 100000000000) && decide (0 ≤ t.rt ∧ t.rt ≤ 1000000) && decide (0 ≤ t.fi ∧ t.fi ≤ 1000000) && decide (1 ≤ t.ba ∧ t.ba ≤ 3) && decide (1 ≤ t.du ∧ t.du ≤ 28)
theorem allow_any (lo hi x : Int) (w : World) :
    Calls Tryd.prog 42 #[.agg #[.int .i64 lo, .int .i64 hi], .int .i64 x] w fun e w' => e = .returned (.bool (decide (lo ≤ x ∧ x ≤ hi))) ∧ Below w.heap.size w w' := by
  by_cases h : lo ≤ x ∧ x ≤ hi
  · rw [decide_eq_true h]
    exact allow_yes lo hi x w h.1 h.2
  · rw [decide_eq_false h]
    exact allow_no lo hi x w (by omega)
theorem right_any (t : Ln.Terms) (w : World) :
    Calls Tryd.prog 37 #[tmV t] w fun e w' => e = .returned (.bool (rtB t)) ∧ Below w.heap.size w w' :=
  right_core t w _ _ _ _ _ _ (fun W => allow_any _ _ _ W) (fun W => allow_any _ _ _ W) (fun W => allow_any _ _ _ W) (fun W => allow_any _ _ _ W) (fun W => isBasis_all _ W _ rfl) (fun W => allow_any _ _ _ W)
end Go.Proofs.YtanndhoimpnhpaaDoor

/- A piece of a block as a list: what both sides' Run want of it. -/
namespace Go.Proofs.YtanndhoimpnhpaaDoor
open Go.RowKit

/-- A list with some places written over. -/
def setl : List Value → Nat → List Value → List Value
  | l, _, [] => l
  | l, o, v :: r => setl (l.set o v) (o + 1) r
theorem At.setCells {b : Nat} : ∀ (m : List Value) (o : Nat) (l : List Value) (w : World), At w b l → o + m.length ≤ l.length → At (w.setCells b o m) b (setl l o m)
  | [], _, _, _, h, _ => h
  | v :: r, o, l, w, h, hl => by
    have hl' : o + (r.length + 1) ≤ l.length := hl
    exact At.setCells r (o + 1) (l.set o v) _ (h.set o (by omega) v) (by rw [List.length_set]; omega)
theorem At.there_mid {w : World} {b : Nat} {l : List Value} (h : At w b l) (o n : Nat) (hn : o + n ≤ l.length) : w.there b o n := fun j hj => by
  obtain ⟨h1, h2⟩ := h (o + j) l[o + j] (List.getElem?_eq_getElem (by omega))
  exact ⟨by rw [h1]; rfl, h2⟩
/-- A loan's terms in memory. -/
def tl6 (t : Ln.Terms) : List Value := [.int .i64 t.st, .int .i64 t.pr, .int .i64 t.rt, .int .i64 t.fi, .int .i64 t.ba, .int .i64 t.du]
/-- A loan's balance in memory. -/
def bl8 (g : Ln.St) (day : Int) : List Value := [.int .i64 g.pr, .int .i64 g.it, .int .i64 g.du, .int .i64 g.la, .int .i64 g.fi, .int .i64 g.cr, .int .i64 g.rt, .int .i64 day]

end Go.Proofs.YtanndhoimpnhpaaDoor

/- The book's entries as cells; what is in it of a day and a kind; what a day's amounts write into it. (Plain: of neither side.) -/
namespace Go.Proofs.YtanndhoimpnhpaaDoor
open Go.RowKit

structure En where
  d : Int
  k : Int
  a : Int
/-- The cells of entries, one behind the other. -/
def ens : List En → List Value
  | [] => []
  | e :: r => .int .i64 e.d :: .int .i64 e.k :: .int .i64 e.a :: ens r
theorem ens_len : ∀ l : List En, (ens l).length = l.length * 3
  | [] => rfl
  | e :: r => by
    have := ens_len r
    simp only [ens, List.length_cons]
    omega
theorem ens_append : ∀ l r : List En, ens (l ++ r) = ens l ++ ens r
  | [], _ => rfl
  | e :: l, r => by simp only [List.cons_append, ens, ens_append l r]
theorem ens_at : ∀ (l : List En) (k : Nat) (h : k < l.length), (ens l)[k * 3]? = some (.int .i64 l[k].d) ∧ (ens l)[k * 3 + 1]? = some (.int .i64 l[k].k) ∧ (ens l)[k * 3 + 2]? = some (.int .i64 l[k].a)
  | e :: r, 0, _ => ⟨rfl, rfl, rfl⟩
  | e :: r, k + 1, h => by
    have ih := ens_at r k (by simpa using h)
    have e1 : (k + 1) * 3 = k * 3 + 1 + 1 + 1 := by omega
    rw [e1]
    exact ih
theorem en_range {w : World} {base : Nat} {T : TypeId} {n cap g : Nat} {L : List En} (h : w.ownsRow base T 3 (.slice (some ⟨g, 0, none⟩) n cap) n (ens L)) (hn : n = L.length) (k : Nat) (hk : k < L.length) :
    w.cell? ⟨g, k * 3, none⟩ = some (.int .i64 L[k].d) ∧ w.cell? ⟨g, k * 3 + 1, none⟩ = some (.int .i64 L[k].k) ∧ w.cell? ⟨g, k * 3 + 2, none⟩ = some (.int .i64 L[k].a) := by
  obtain ⟨q0, q1, q2⟩ := ens_at L k hk
  exact ⟨(h.cellAt _ (by omega)).trans q0, (h.cellAt _ (by omega)).trans q1, (h.cellAt _ (by omega)).trans q2⟩
/-- What entries make of the place of a day and a kind, as sums of 64 bits. -/
def hv (st : Int) (l : List En) (i : Nat) : Int := l.foldl (fun s e => if 13 * (e.d - st) + e.k = i then IntKind.i64.wrap (s + e.a) else s) 0
theorem hv_take (st : Int) (l : List En) (k : Nat) (hk : k < l.length) (i : Nat) : hv st (l.take (k + 1)) i = if 13 * (l[k].d - st) + l[k].k = i then IntKind.i64.wrap (hv st (l.take k) i + l[k].a) else hv st (l.take k) i := by
  unfold hv
  rw [List.take_succ_eq_append_getElem hk, List.foldl_append]
  rfl
/-- Cells of whole numbers by their places. -/
def hc (n : Nat) (f : Nat → Int) : List Value := (List.range n).map (fun i => .int .i64 (f i))
theorem hc_at (n : Nat) (f : Nat → Int) (i : Nat) (h : i < n) : (hc n f)[i]? = some (.int .i64 (f i)) := by
  unfold hc
  rw [List.getElem?_map, List.getElem?_range h]
  rfl
theorem hc_len (n : Nat) (f : Nat → Int) : (hc n f).length = n := by simp [hc]
theorem hc_set (n : Nat) (f g : Nat → Int) (i : Nat) (v : Int) (hg : ∀ j, j < n → g j = if j = i then v else f j) : (hc n f).set i (.int .i64 v) = hc n g := by
  apply List.ext_getElem?
  intro j
  by_cases hj : j < n
  · rw [hc_at n g j hj, hg j hj]
    by_cases e : j = i
    · subst e
      rw [if_pos rfl, List.getElem?_set_self (by rw [hc_len]; exact hj)]
    · rw [if_neg e, List.getElem?_set_ne (Ne.symm e), hc_at n f j hj]
  · rw [List.getElem?_eq_none (by rw [List.length_set, hc_len]; omega), List.getElem?_eq_none (by rw [hc_len]; omega)]
/-- What one kind writes. -/
def kindW (n : Int) (k : Nat) (is am : Int) : List En :=
  if is = am then [] else (if is = 0 then [] else [⟨n, k, wrap64 (-is)⟩]) ++ (if am = 0 then [] else [⟨n, k, am⟩])
/-- What the kinds 1 to j write. -/
def kindsW (n : Int) (h am : Nat → Int) : Nat → List En
  | 0 => []
  | j + 1 => kindsW n h am j ++ kindW n (j + 1) (h (j + 1)) (am (j + 1))
theorem kindW_len (n : Int) (k : Nat) (is am : Int) : (kindW n k is am).length ≤ 2 := by
  unfold kindW
  (repeat' split) <;> simp
theorem kindsW_len (n : Int) (h am : Nat → Int) : ∀ j, (kindsW n h am j).length ≤ 2 * j
  | 0 => Nat.le_refl _
  | j + 1 => by
    have h1 := kindsW_len n h am j
    have h2 := kindW_len n (j + 1) (h (j + 1)) (am (j + 1))
    simp only [kindsW, List.length_append]
    omega
/-- What the first k days write behind a book. -/
def bookW (st : Int) (hf : Nat → Int) (am : Nat → Nat → Int) (M0 : List En) : Nat → List En
  | 0 => M0
  | k + 1 => bookW st hf am M0 k ++ kindsW (st + k) (fun j => hf (13 * k + j)) (am k) 12
theorem bookW_len (st : Int) (hf : Nat → Int) (am : Nat → Nat → Int) (M0 : List En) : ∀ k, (bookW st hf am M0 k).length ≤ M0.length + 24 * k
  | 0 => Nat.le_refl _
  | k + 1 => by
    have h1 := bookW_len st hf am M0 k
    have h2 := kindsW_len (st + k) (fun j => hf (13 * k + j)) (am k) 12
    simp only [bookW, List.length_append]
    omega
/-- The loops of a function's code, in their order, each with those in it behind it. -/
def loopsOf : Code → List Code
  | .loop c => c :: loopsOf c
  | .seq a b => loopsOf a ++ loopsOf b
  | .block _ c => loopsOf c
  | .scope c => loopsOf c
  | .cond _ a b => loopsOf a ++ loopsOf b
  | _ => []
end Go.Proofs.YtanndhoimpnhpaaDoor
