/- Joined by program: PrJ, PrL, PrM, LnO, LnT. -/
import Derived.Test.YtanndhoimpnhpaaGreatDoorM10
import Derived.Test.YtanndhoimpnhpaaGreatDoorM1
import Derived.Deep.CutRange
import Derived.Test.YtanndhoimpnhpaaGreatDoorM3
import Derived.Test.YtanndhoimpnhpaaGreatDoorM6
/- One day of the program: Pass. -/
namespace Go.Proofs.YtanndhoimpnhpaaGreatDoor
open Go.RowKit Cal

def tml (t : Ln.Terms) : List Value := [.int .i64 t.st, .int .i64 t.pr, .int .i64 t.rt, .int .i64 t.fi, .int .i64 t.ba, .int .i64 t.du]
def stl (t : Ln.Terms) (g : Ln.St) (c i f : Int) : List Value :=
  [.int .i64 c, .int .i64 g.pr, .int .i64 g.it, .int .i64 g.du, .int .i64 g.la, .int .i64 g.fi, .int .i64 (-g.cr), .int .i64 i, .int .i64 f, .int .i64 g.rt, .int .i64 g.fr, .int .u64 (g.ea % Ln.den t), .int .u64 (g.fn % Ln.den t)]
def aml (am : Nat → Int) : List Value := [.int .i64 (am 0), .int .i64 (am 1), .int .i64 (am 2), .int .i64 (am 3), .int .i64 (am 4), .int .i64 (am 5), .int .i64 (am 6), .int .i64 (am 7), .int .i64 (am 8), .int .i64 (am 9), .int .i64 (am 10), .int .i64 (am 11), .int .i64 (am 12)]
def zst : List Value := [.int .i64 0, .int .i64 0, .int .i64 0, .int .i64 0, .int .i64 0, .int .i64 0, .int .i64 0, .int .i64 0, .int .i64 0, .int .i64 0, .int .i64 0, .int .u64 0, .int .u64 0]
def zam : List Value := [.int .i64 0, .int .i64 0, .int .i64 0, .int .i64 0, .int .i64 0, .int .i64 0, .int .i64 0, .int .i64 0, .int .i64 0, .int .i64 0, .int .i64 0, .int .i64 0, .int .i64 0]

/-- What lies there when Pass has made its four blocks. -/
structure PassAt (w W : World) (t : Ln.Terms) (g : Ln.St) (c i f : Int) : Prop where
  size : W.heap.size = w.heap.size + 1 + 1 + 1 + 1
  st : At W w.heap.size (stl t g c i f)
  tm : At W (w.heap.size + 1) (tml t)
  rs : At W (w.heap.size + 1 + 1) zst
  ra : At W (w.heap.size + 1 + 1 + 1) zam
  below : Below w.heap.size w W
theorem passAt (w : World) (t : Ln.Terms) (g : Ln.St) (c i f : Int) (T1 T2 T3 T4 : TypeId) :
    PassAt w ((((w.alloc (.cells (stl t g c i f).toArray T1)).alloc (.cells (tml t).toArray T2)).alloc (.cells zst.toArray T3)).alloc (.cells zam.toArray T4)) t g c i f := by
  refine ⟨by simp, ?_, ?_, ?_, ?_, ?_⟩
  · exact At.over (At.over (At.over (At.allocs w _ _ rfl) _) _) _
  · exact At.over (At.over (At.allocs _ _ _ (by simp)) _) _
  · exact At.over (At.allocs _ _ _ (by simp)) _
  · exact At.allocs _ _ _ (by simp)
  · exact ((((Below.refl _ _).alloc (Nat.le_refl _) _).alloc (by simp) _).alloc (by simp; omega) _).alloc (by simp; omega) _

theorem foldl_take (n : Int) (y : Ln.Dy) (l : List Ln.Ev) (k : Nat) (hk : k < l.length) : (l.take (k + 1)).foldl (Ln.event n) y = Ln.event n ((l.take k).foldl (Ln.event n) y) l[k] := by
  rw [List.take_succ_eq_append_getElem hk, List.foldl_append]
  rfl
theorem stl_mid (t : Ln.Terms) (n : Int) (y : Ln.Dy) (c i f : Int) : ∀ j v, (stl t y.g c i f)[j]? = some v → (pl t n y c i f)[7 + j]? = some v := by
  intro j v h
  match j, h with
  | 0, h => exact h
  | 1, h => exact h
  | 2, h => exact h
  | 3, h => exact h
  | 4, h => exact h
  | 5, h => exact h
  | 6, h => exact h
  | 7, h => exact h
  | 8, h => exact h
  | 9, h => exact h
  | 10, h => exact h
  | 11, h => exact h
  | 12, h => exact h
  | j + 13, h => exact absurd h (by simp [stl])
theorem aml_mid (t : Ln.Terms) (n : Int) (y : Ln.Dy) (c i f : Int) : ∀ j v, (aml y.am)[j]? = some v → (pl t n y c i f)[20 + j]? = some v := by
  intro j v h
  match j, h with
  | 0, h => exact h
  | 1, h => exact h
  | 2, h => exact h
  | 3, h => exact h
  | 4, h => exact h
  | 5, h => exact h
  | 6, h => exact h
  | 7, h => exact h
  | 8, h => exact h
  | 9, h => exact h
  | 10, h => exact h
  | 11, h => exact h
  | 12, h => exact h
  | j + 13, h => exact absurd h (by simp [aml])

set_option maxRecDepth 10000 in
set_option maxHeartbeats 600000 in
theorem pass_core (w : World) (t : Ln.Terms) (n : Int) (g : Ln.St) (c i f : Int) (l : List Ln.Ev) (p : Option Addr) (cap : Nat) (y0 yf : Ln.Dy)
    (hev : ∀ k (hk : k < l.length), ∃ E o, p = some ⟨E, o, none⟩ ∧ E < w.heap.size ∧ w.cell? ⟨E, o + k * 4, none⟩ = some (.int .i64 l[k].d) ∧ w.cell? ⟨E, o + k * 4 + 1, none⟩ = some (.int .i64 l[k].k) ∧ w.cell? ⟨E, o + k * 4 + 2, none⟩ = some (.int .i64 l[k].s) ∧ w.cell? ⟨E, o + k * 4 + 3, none⟩ = some (.int .i64 l[k].a))
    (hll : l.length ≤ 1000000)
    (hB : ∀ (W : World) (P : Nat), Keep (fun _ => False) w W → w.heap.size ≤ P → Pas W P t n ⟨g, fun _ => 0⟩ → Calls Tryz.prog 78 #[.pointer (some ⟨P, 0, none⟩)] W fun e w' => e = .returned (.tuple #[]) ∧ Pas w' P t n y0 ∧ Keep (fun b => b = P) W w')
    (hH : ∀ (W : World) (P : Nat) (k : Nat) (hk : k < l.length), Keep (fun b => w.heap.size ≤ b) w W → w.heap.size ≤ P → Pas W P t n ((l.take k).foldl (Ln.event n) y0) → Calls Tryz.prog 79 #[.pointer (some ⟨P, 0, none⟩), .agg #[.int .i64 l[k].d, .int .i64 l[k].k, .int .i64 l[k].s, .int .i64 l[k].a]] W fun e w' => e = .returned (.tuple #[]) ∧ Pas w' P t n ((l.take (k + 1)).foldl (Ln.event n) y0) ∧ Keep (fun b => b = P) W w')
    (hE : ∀ (W : World) (P : Nat), Keep (fun b => w.heap.size ≤ b) w W → w.heap.size ≤ P → Pas W P t n (l.foldl (Ln.event n) y0) → Calls Tryz.prog 80 #[.pointer (some ⟨P, 0, none⟩)] W fun e w' => e = .returned (.tuple #[]) ∧ Pas w' P t n yf ∧ Keep (fun b => b = P) W w') :
    Calls Tryz.prog 39 #[stV t g c i f, tmV t, .int .i64 n, .slice p l.length cap] w fun e w' => (∃ c' i' f', e = .returned (.tuple #[stV t yf.g c' i' f', amV yf.am])) ∧ Below w.heap.size w w' := by
  unfold stV tmV
  go_enter Tryz.func39, Tryz.ntmps39
  go_upto_region 1 with fail
  refine (fun (key : ∀ W : World, PassAt w W t g c i f → Code.wp Tryz.prog _ _ _ W) => key _ (passAt w t g c i f _ _ _ _)) ?_
  intro W hW
  have hrt : W.rangeAt (w.heap.size + 1) 0 (tml t) := hW.tm.range
  have hrs : W.rangeAt w.heap.size 0 (stl t g c i f) := hW.st.range
  refine wp_region_lit ?_
  refine wpList_load_mid rfl 23 (.tmp 5) rfl _ 0 rfl (tml t) _ hrt Tryz.underlying23 rfl (by kernel_rfl) ?_
  simp only [Act.put, List.setIfInBounds_toArray, List.set_cons_zero, List.set_cons_succ]
  refine wpList_val (.int .i64 n) W rfl rfl ?_
  simp only [Act.put, List.setIfInBounds_toArray, List.set_cons_zero, List.set_cons_succ]
  refine wpList_load_mid rfl 92 (.tmp 4) rfl _ 0 rfl (stl t g c i f) _ hrs Tryz.underlying92 rfl (by kernel_rfl) ?_
  simp only [Act.put, List.setIfInBounds_toArray, List.set_cons_zero, List.set_cons_succ]
  refine wpList_val (.agg (pl t n ⟨g, fun _ => 0⟩ c i f).toArray) W rfl (by kernel_rfl) ?_
  simp only [Act.put, List.setIfInBounds_toArray, List.set_cons_zero, List.set_cons_succ]
  refine wpList_val (.pointer (some ⟨W.heap.size, 0, none⟩)) (W.alloc (.cells (pl ⟨0, 0, 0, 0, 0, 0⟩ 0 ⟨⟨0, 0, 0, 0, 0, 0, 0, 0, 0, 0⟩, fun _ => 0⟩ 0 0 0).toArray 144)) rfl (by kernel_rfl) ?_
  simp only [Act.put, List.setIfInBounds_toArray, List.set_cons_zero, List.set_cons_succ]
  refine wpList_store_new rfl 144 (.tmp 10) (.tmp 16) rfl _ _ rfl rfl (by kernel_rfl) rfl (by kernel_rfl) ?_
  simp only [Act.put]
  refine wpList_nil ?_
  have hp0 : Pas (W.alloc (.cells (pl t n ⟨g, fun _ => 0⟩ c i f).toArray 144)) W.heap.size t n ⟨g, fun _ => 0⟩ := ⟨c, i, f, At.alloc W _ _⟩
  have hPsz : w.heap.size + 4 = W.heap.size := by have := hW.size; omega
  have kW : ∀ S : Nat → Prop, Keep S w (W.alloc (.cells (pl t n ⟨g, fun _ => 0⟩ c i f).toArray 144)) := fun S => Keep.below (hW.below.alloc (by omega) _)
  have r0 : At (W.alloc (.cells (pl t n ⟨g, fun _ => 0⟩ c i f).toArray 144)) (w.heap.size + 1 + 1) zst := At.over hW.rs _
  have r1 : At (W.alloc (.cells (pl t n ⟨g, fun _ => 0⟩ c i f).toArray 144)) (w.heap.size + 1 + 1 + 1) zam := At.over hW.ra _
  generalize hV : W.alloc (.cells (pl t n ⟨g, fun _ => 0⟩ c i f).toArray 144) = V at *
  generalize hPd : W.heap.size = P at *
  clear hV hW hrt hrs
  have hPw : w.heap.size ≤ P := by omega
  go_wp2_with fail
  refine (hB V P (kW _) hPw hp0).mono ?_
  rintro e w1 ⟨rfl, hp1, k1⟩
  clear hB hp0
  have kk1 : Keep (fun b => w.heap.size ≤ b) w w1 := (kW _).trans (k1.mono (fun b _ h => by rw [h]; exact hPw))
  have s0 : At w1 (w.heap.size + 1 + 1) zst := r0.keep k1 (by omega)
  have s1 : At w1 (w.heap.size + 1 + 1 + 1) zam := r1.keep k1 (by omega)
  clear r0 r1 k1 kW
  go_wp2
  go_loopw [20] (fun i wr => ∃ k : Nat, k ≤ l.length ∧ i = .int .i64 k ∧ Pas wr P t n ((l.take k).foldl (Ln.event n) y0) ∧ Keep (fun b => w.heap.size ≤ b) w wr ∧ At wr (w.heap.size + 1 + 1) zst ∧ At wr (w.heap.size + 1 + 1 + 1) zam) (fun i _ => l.length - (intOf i).toNat)
  case atStart => exact ⟨0, Nat.zero_le _, rfl, hp1, kk1, s0, s1⟩
  case round =>
    obtain ⟨k, hk, rfl, hpk, hkk, t0, t1⟩ := hrel
    clear hp1 kk1 s0 s1
    have kA : ∀ (S : Nat → Prop) (ob : Obj), Keep S wr (wr.alloc ob) := fun S ob => Keep.below ((Below.refl _ _).alloc (Nat.le_refl _) ob)
    by_cases hlt : k < l.length
    · obtain ⟨E, o, rfl, hEw, e0, e1, e2, e3⟩ := hev k hlt
      have hbl := hkk.block E hEw (by omega)
      have d0 : wr.cell? ⟨E, o + k * 4, none⟩ = some (.int .i64 l[k].d) := (World.cell?_of_block (w := w) (a := ⟨E, _, none⟩) hbl).trans e0
      have d1 : wr.cell? ⟨E, o + k * 4 + 1, none⟩ = some (.int .i64 l[k].k) := (World.cell?_of_block (w := w) (a := ⟨E, _, none⟩) hbl).trans e1
      have d2 : wr.cell? ⟨E, o + k * 4 + 2, none⟩ = some (.int .i64 l[k].s) := (World.cell?_of_block (w := w) (a := ⟨E, _, none⟩) hbl).trans e2
      have d3 : wr.cell? ⟨E, o + k * 4 + 3, none⟩ = some (.int .i64 l[k].a) := (World.cell?_of_block (w := w) (a := ⟨E, _, none⟩) hbl).trans e3
      have hC := fun ob => hH (wr.alloc ob) P k hlt (hkk.trans (kA _ ob)) hPw (hpk.keep (kA (fun _ => False) ob) (fun x => x))
      clear hH hE hev e0 e1 e2 e3 hbl hpk
      go_wp2_with fail
      refine (hC _).mono ?_
      rintro e w2 ⟨rfl, hp2, k2⟩
      clear hC
      have k2' := (kA (fun b => b = P) _).trans k2
      have kk2 := hkk.trans (k2'.mono (T := fun b => w.heap.size ≤ b) (fun b _ h => by rw [h]; exact hPw))
      have t0' := t0.keep k2' (by omega)
      have t1' := t1.keep k2' (by omega)
      go_wp2
      go_roundw
      case rel => exact ⟨k + 1, by omega, by go_num, hp2, kk2, t0', t1'⟩
      case measure => simp [intOf]; omega
    · have hkl : k = l.length := by omega
      subst hkl
      rw [List.take_length] at hpk
      have hC := hE wr P hkk hPw hpk
      clear hH hE hev hpk
      go_wp2_with fail
      refine hC.mono ?_
      rintro e w2 ⟨rfl, hp2, k2⟩
      clear hC kA
      have kk2 := hkk.trans (k2.mono (T := fun b => w.heap.size ≤ b) (fun b _ h => by rw [h]; exact hPw))
      have t0' := t0.keep k2 (by omega)
      have t1' := t1.keep k2 (by omega)
      clear t0 t1 hkk k2
      go_wp2_with fail
      obtain ⟨c', i', f', hA⟩ := hp2
      have m1 : w2.rangeAt P 7 (stl t yf.g c' i' f') := hA.mid 7 _ (stl_mid t n yf c' i' f')
      have m2 : w2.rangeAt P 20 (aml yf.am) := hA.mid 20 _ (aml_mid t n yf c' i' f')
      have T0 : w2.drew.there (w.heap.size + 1 + 1) 0 13 := t0'.drew.there 13 rfl
      refine wp_region_held_drew (S := fun wx => wx.rangeAt P 7 (stl t yf.g c' i' f') ∧ wx.rangeAt P 20 (aml yf.am)) (by kernel_rfl) ⟨m1, m2⟩ (fun hHeld => ?_)
      refine wpAnyH_take (i := 0) (v := .pointer (some ⟨P, 7, none⟩)) rfl (by kernel_rfl) (by kernel_rfl) (by kernel_rfl) (fun _ _ _ h => h) (Or.inl ⟨by rfl, fun wx hSw => by (dsimp only at hSw; go_simp)⟩) (by assumption) ?_
      simp only [Act.put, List.getElem_toArray, List.getElem_cons_zero, List.setIfInBounds_toArray, List.set_cons_zero, List.set_cons_succ]
      refine wpAnyH_take (i := 1) (v := .agg (stl t yf.g c' i' f').toArray) rfl (by kernel_rfl) (by kernel_rfl) (by kernel_rfl) (fun _ _ _ h => h) (yieldsIf_load_mid (by rfl) 92 (.tmp 28) rfl _ _ rfl _ _ (fun _ h => h.1) Tryz.underlying92 rfl (by kernel_rfl)) (by assumption) ?_
      simp only [Act.put, List.getElem_toArray, List.getElem_cons_succ, List.getElem_cons_zero, List.setIfInBounds_toArray, List.set_cons_zero, List.set_cons_succ]
      refine wpAnyH_take (i := 2) (v := .pointer (some ⟨P, 20, none⟩)) rfl (by kernel_rfl) (by kernel_rfl) (by kernel_rfl) (fun _ _ _ h => h) (Or.inl ⟨by rfl, fun wx hSw => by (dsimp only at hSw; go_simp)⟩) (by assumption) ?_
      simp only [Act.put, List.getElem_toArray, List.getElem_cons_succ, List.getElem_cons_zero, List.setIfInBounds_toArray, List.set_cons_zero, List.set_cons_succ]
      refine wpAnyH_take (i := 3) (v := .agg (aml yf.am).toArray) rfl (by kernel_rfl) (by kernel_rfl) (by kernel_rfl) (fun _ _ _ h => h) (yieldsIf_load_mid (by rfl) 96 (.tmp 30) rfl _ _ rfl _ _ (fun _ h => h.2) Tryz.underlying96 rfl (by kernel_rfl)) (by assumption) ?_
      simp only [Act.put, List.getElem_toArray, List.getElem_cons_succ, List.getElem_cons_zero, List.setIfInBounds_toArray, List.set_cons_zero, List.set_cons_succ]
      refine wpAnyH_ready (rs := [4]) (by kernel_rfl) (by simp) ?_
      refine AllReadyH.cons rfl (fun K hK => ?_) AllReadyH.nil
      rw [if_pos (by rfl)]
      refine wp_store_mid 92 (.tmp 8) (.tmp 29) rfl _ 0 _ rfl rfl T0 (by kernel_rfl) (by kernel_rfl) ?_
      rw [List.toList_toArray]
      refine hK.out _ _ ⟨World.rangeAt_setCells_apart hHeld.1 _ _ _ (by omega), World.rangeAt_setCells_apart hHeld.2 _ _ _ (by omega)⟩ (fun hHeld2 => ?_)
      clear hK K
      have a0 : At (w2.drew.setCells (w.heap.size + 1 + 1) 0 (stl t yf.g c' i' f')) (w.heap.size + 1 + 1) (stl t yf.g c' i' f') := t0'.drew.setCells_same rfl
      have a1 : At (w2.drew.setCells (w.heap.size + 1 + 1) 0 (stl t yf.g c' i' f')) (w.heap.size + 1 + 1 + 1) zam := t1'.drew.apart (by omega) _ _
      have a2 : Keep (fun b => w.heap.size ≤ b) w (w2.drew.setCells (w.heap.size + 1 + 1) 0 (stl t yf.g c' i' f')) := Keep.setCells (S := fun b => w.heap.size ≤ b) (show w.heap.size ≤ w.heap.size + 1 + 1 by omega) _ _ _ kk2.drew
      generalize w2.drew.setCells (w.heap.size + 1 + 1) 0 (stl t yf.g c' i' f') = V2 at *
      simp only [Act.put, List.getElem_toArray, List.getElem_cons_succ, List.getElem_cons_zero]
      refine wpAnyH_ready (rs := [5]) (by kernel_rfl) (by simp) ?_
      refine AllReadyH.cons rfl (fun K hK => ?_) AllReadyH.nil
      rw [if_pos (by rfl)]
      refine wp_store_mid 96 (.tmp 9) (.tmp 31) rfl _ 0 _ rfl rfl (a1.there 13 rfl) (by kernel_rfl) (by kernel_rfl) ?_
      rw [List.toList_toArray]
      refine hK.out _ _ ⟨World.rangeAt_setCells_apart hHeld2.1 _ _ _ (by omega), World.rangeAt_setCells_apart hHeld2.2 _ _ _ (by omega)⟩ (fun hHeld3 => ?_)
      clear hK K
      have b0 : At (V2.setCells (w.heap.size + 1 + 1 + 1) 0 (aml yf.am)) (w.heap.size + 1 + 1) (stl t yf.g c' i' f') := a0.apart (by omega) _ _
      have b1 : At (V2.setCells (w.heap.size + 1 + 1 + 1) 0 (aml yf.am)) (w.heap.size + 1 + 1 + 1) (aml yf.am) := a1.setCells_same rfl
      have b2 : Keep (fun b => w.heap.size ≤ b) w (V2.setCells (w.heap.size + 1 + 1 + 1) 0 (aml yf.am)) := Keep.setCells (S := fun b => w.heap.size ≤ b) (show w.heap.size ≤ w.heap.size + 1 + 1 + 1 by omega) _ _ _ a2
      generalize V2.setCells (w.heap.size + 1 + 1 + 1) 0 (aml yf.am) = V3 at *
      simp only [Act.put, List.getElem_toArray, List.getElem_cons_succ, List.getElem_cons_zero]
      refine wpAnyH_done (by kernel_rfl) ?_ _
      go_wp2
      exact bodyPost_ret (v := .tuple #[stV t yf.g c' i' f', amV yf.am]) (results_two Tryz.results39 _ _ _ _ _ _ _ _ rfl rfl b0.range b1.range Tryz.underlying92 Tryz.underlying96 rfl rfl (by kernel_rfl) (by kernel_rfl)) rfl ⟨⟨c', i', f', rfl⟩, b2.os, b2.tape, b2.output, b2.size, fun k hk => b2.block k hk (by omega)⟩
end Go.Proofs.YtanndhoimpnhpaaGreatDoor

/- A loan that is opened, and what Balance tells of a state. -/
namespace Go.Proofs.YtanndhoimpnhpaaGreatDoor
open Go.RowKit Cal

/-- A balance as a value. -/
def blV (g : Ln.St) (day : Int) : Value := .agg #[.int .i64 g.pr, .int .i64 g.it, .int .i64 g.du, .int .i64 g.la, .int .i64 g.fi, .int .i64 g.cr, .int .i64 g.rt, .int .i64 day]
def bll (g : Ln.St) (day : Int) : List Value := [.int .i64 g.pr, .int .i64 g.it, .int .i64 g.du, .int .i64 g.la, .int .i64 g.fi, .int .i64 g.cr, .int .i64 g.rt, .int .i64 day]
theorem stV_start (t : Ln.Terms) : stV t (Ln.start t) 0 0 0 = .agg #[.int .i64 0, .int .i64 0, .int .i64 0, .int .i64 0, .int .i64 0, .int .i64 0, .int .i64 0, .int .i64 0, .int .i64 0, .int .i64 t.rt, .int .i64 0, .int .u64 0, .int .u64 0] := by
  simp [stV, Ln.start]

set_option maxRecDepth 10000 in
set_option maxHeartbeats 1000000 in
theorem first_any (t : Ln.Terms) (w : World) :
    Calls Tryz.prog 37 #[tmV t] w fun e w' => e = .returned (stV t (Ln.start t) 0 0 0) ∧ Below w.heap.size w w' := by
  rw [stV_start]
  unfold tmV
  go_enter Tryz.func37, Tryz.ntmps37
  go_wp2
  exact bodyPost_ret (v := .agg #[.int .i64 0, .int .i64 0, .int .i64 0, .int .i64 0, .int .i64 0, .int .i64 0, .int .i64 0, .int .i64 0, .int .i64 0, .int .i64 t.rt, .int .i64 0, .int .u64 0, .int .u64 0]) (by simp [results, Tryz.results37, go_sem]) rfl ⟨rfl, ((Below.refl _ _).alloc (Nat.le_refl _) _).alloc (by simp) _⟩

set_option maxRecDepth 10000 in
set_option maxHeartbeats 1000000 in
theorem balance_any (t : Ln.Terms) (g : Ln.St) (c i f day : Int) (w : World) (c0 : 0 ≤ g.cr) (c1 : g.cr ≤ 9000000000000000000) :
    Calls Tryz.prog 41 #[stV t g c i f, .int .i64 day] w fun e w' => e = .returned (blV g day) ∧ Below w.heap.size w w' := by
  unfold stV blV
  go_enter Tryz.func41, Tryz.ntmps41
  go_wp2
  exact bodyPost_ret (v := .agg #[.int .i64 g.pr, .int .i64 g.it, .int .i64 g.du, .int .i64 g.la, .int .i64 g.fi, .int .i64 g.cr, .int .i64 g.rt, .int .i64 day]) (by simp [results, Tryz.results41, go_sem]) rfl ⟨rfl, ((Below.refl _ _).alloc (Nat.le_refl _) _).alloc (by simp) _⟩
end Go.Proofs.YtanndhoimpnhpaaGreatDoor

/- Are terms right? The program's answer. -/
namespace Go.Proofs.YtanndhoimpnhpaaGreatDoor
open Go.RowKit Cal

theorem allow_yes (lo hi x : Int) (w : World) (h0 : lo ≤ x) (h1 : x ≤ hi) :
    Calls Tryz.prog 36 #[.agg #[.int .i64 lo, .int .i64 hi], .int .i64 x] w fun e w' => e = .returned (.bool true) ∧ Below w.heap.size w w' := by
  go_enter Tryz.func36, Tryz.ntmps36
  go_wp2
  go_ret
  exact ⟨rfl, (Below.refl _ _).alloc (Nat.le_refl _) _⟩
theorem allow_no (lo hi x : Int) (w : World) (h : x < lo ∨ hi < x) :
    Calls Tryz.prog 36 #[.agg #[.int .i64 lo, .int .i64 hi], .int .i64 x] w fun e w' => e = .returned (.bool false) ∧ Below w.heap.size w w' := by
  by_cases h0 : x < lo
  · have h0' : ¬ lo ≤ x := by omega
    go_enter Tryz.func36, Tryz.ntmps36
    go_wp2
    go_ret
    exact ⟨rfl, (Below.refl _ _).alloc (Nat.le_refl _) _⟩
  · have h0' : lo ≤ x := by omega
    have h1' : ¬ x ≤ hi := by omega
    go_enter Tryz.func36, Tryz.ntmps36
    go_wp2
    go_ret
    exact ⟨rfl, (Below.refl _ _).alloc (Nat.le_refl _) _⟩
theorem isBasis_all (b : Int) (w : World) (x : Bool) (hx : Hid (x = decide (1 ≤ b ∧ b ≤ 3))) :
    Calls Tryz.prog 89 #[.int .i64 b] w fun e w' => e = .returned (.bool x) ∧ w' = w := by
  by_cases h : 1 ≤ b ∧ b ≤ 3
  · obtain rfl : x = true := by rw [hx.out]; simp [h]
    clear hx
    rcases (show b = 1 ∨ b = 2 ∨ b = 3 by omega) with h3 | h3 | h3
    all_goals
      subst h3
      go_enter Tryz.func89, Tryz.ntmps89
      go_wp2
      go_ret
      exact ⟨rfl, rfl⟩
  · obtain rfl : x = false := by rw [hx.out]; simp; omega
    clear hx
    have e1 : (b == 1) = false := by simp; omega
    have e2 : (b == 2) = false := by simp; omega
    have e3 : (b == 3) = false := by simp; omega
    go_enter Tryz.func89, Tryz.ntmps89
    go_wp2
    go_ret
    exact ⟨rfl, rfl⟩

set_option maxRecDepth 10000 in
set_option maxHeartbeats 1000000 in
theorem right_core (t : Ln.Terms) (w : World) (x1 x2 x3 x4 x5 x6 : Bool)
    (h1 : ∀ W : World, Calls Tryz.prog 36 #[.agg #[.int .i64 0, .int .i64 105872], .int .i64 t.st] W fun e w' => e = .returned (.bool x1) ∧ Below W.heap.size W w')
    (h2 : ∀ W : World, Calls Tryz.prog 36 #[.agg #[.int .i64 0, .int .i64 100000000000], .int .i64 t.pr] W fun e w' => e = .returned (.bool x2) ∧ Below W.heap.size W w')
    (h3 : ∀ W : World, Calls Tryz.prog 36 #[.agg #[.int .i64 0, .int .i64 1000000], .int .i64 t.rt] W fun e w' => e = .returned (.bool x3) ∧ Below W.heap.size W w')
    (h4 : ∀ W : World, Calls Tryz.prog 36 #[.agg #[.int .i64 0, .int .i64 1000000], .int .i64 t.fi] W fun e w' => e = .returned (.bool x4) ∧ Below W.heap.size W w')
    (h5 : ∀ W : World, Calls Tryz.prog 89 #[.int .i64 t.ba] W fun e w' => e = .returned (.bool x5) ∧ w' = W)
    (h6 : ∀ W : World, Calls Tryz.prog 36 #[.agg #[.int .i64 1, .int .i64 28], .int .i64 t.du] W fun e w' => e = .returned (.bool x6) ∧ Below W.heap.size W w') :
    Calls Tryz.prog 54 #[tmV t] w fun e w' => e = .returned (.bool (x1 && x2 && x3 && x4 && x5 && x6)) ∧ Below w.heap.size w w' := by
  unfold tmV
  have a0 : At (w.alloc (.cells (tml t).toArray 23)) w.heap.size (tml t) := At.alloc w (tml t) _
  have b0 : Below w.heap.size w (w.alloc (.cells (tml t).toArray 23)) := (Below.refl _ _).alloc (Nat.le_refl _) _
  go_enter Tryz.func54, Tryz.ntmps54
  go_wp2_with fail
  refine (h1 _).mono ?_
  rintro e w1 ⟨rfl, hb1⟩
  clear h1
  have a1 : At w1 w.heap.size (tml t) := At.keep (S := fun _ => False) (v := .int .i64 t.st) a0 (Keep.below hb1) (fun x => x)
  have b1 : Below w.heap.size w w1 := b0.trans (hb1.mono b0.size)
  clear hb1 a0 b0
  have c1 : w1.cell? ⟨w.heap.size, 1, none⟩ = some (.int .i64 t.pr) := a1.cell 1 rfl
  cases x1
  · go_wp2
    go_ret
    exact ⟨rfl, b1⟩
  · go_wp2_with fail
    refine (h2 _).mono ?_
    rintro e w2 ⟨rfl, hb2⟩
    clear h2
    have a2 : At w2 w.heap.size (tml t) := At.keep (S := fun _ => False) (v := .int .i64 t.st) a1 (Keep.below hb2) (fun x => x)
    have b2 : Below w.heap.size w w2 := b1.trans (hb2.mono b1.size)
    clear hb2 a1 b1
    have c2 : w2.cell? ⟨w.heap.size, 2, none⟩ = some (.int .i64 t.rt) := a2.cell 2 rfl
    cases x2
    · go_wp2
      go_ret
      exact ⟨rfl, b2⟩
    · go_wp2_with fail
      refine (h3 _).mono ?_
      rintro e w3 ⟨rfl, hb3⟩
      clear h3
      have a3 : At w3 w.heap.size (tml t) := At.keep (S := fun _ => False) (v := .int .i64 t.st) a2 (Keep.below hb3) (fun x => x)
      have b3 : Below w.heap.size w w3 := b2.trans (hb3.mono b2.size)
      clear hb3 a2 b2
      have c3 : w3.cell? ⟨w.heap.size, 3, none⟩ = some (.int .i64 t.fi) := a3.cell 3 rfl
      cases x3
      · go_wp2
        go_ret
        exact ⟨rfl, b3⟩
      · go_wp2_with fail
        refine (h4 _).mono ?_
        rintro e w4 ⟨rfl, hb4⟩
        clear h4
        have a4 : At w4 w.heap.size (tml t) := At.keep (S := fun _ => False) (v := .int .i64 t.st) a3 (Keep.below hb4) (fun x => x)
        have b4 : Below w.heap.size w w4 := b3.trans (hb4.mono b3.size)
        clear hb4 a3 b3
        have c4 : w4.cell? ⟨w.heap.size, 4, none⟩ = some (.int .i64 t.ba) := a4.cell 4 rfl
        cases x4
        · go_wp2
          go_ret
          exact ⟨rfl, b4⟩
        · go_wp2_with fail
          refine (h5 _).mono ?_
          rintro e w5 ⟨rfl, rfl⟩
          clear h5
          have a5 := a4
          have b5 := b4
          have c5 : w5.cell? ⟨w.heap.size, 5, none⟩ = some (.int .i64 t.du) := a5.cell 5 rfl
          cases x5
          · go_wp2
            go_ret
            exact ⟨rfl, b5⟩
          · go_wp2_with fail
            refine (h6 _).mono ?_
            rintro e w6 ⟨rfl, hb6⟩
            clear h6
            have a6 : At w6 w.heap.size (tml t) := At.keep (S := fun _ => False) (v := .int .i64 t.st) a5 (Keep.below hb6) (fun x => x)
            have b6 : Below w.heap.size w w6 := b5.trans (hb6.mono b5.size)
            clear hb6 a5 b5
            go_wp2
            go_ret
            exact ⟨rfl, b6⟩

/-- Are the terms right? -/
def rtB (t : Ln.Terms) : Bool := decide (0 ≤ t.st ∧ t.st ≤ 105872) && decide (0 ≤ t.pr ∧ t.pr ≤ 100000000000) && decide (0 ≤ t.rt ∧ t.rt ≤ 1000000) && decide (0 ≤ t.fi ∧ t.fi ≤ 1000000) && decide (1 ≤ t.ba ∧ t.ba ≤ 3) && decide (1 ≤ t.du ∧ t.du ≤ 28)
theorem allow_any (lo hi x : Int) (w : World) :
    Calls Tryz.prog 36 #[.agg #[.int .i64 lo, .int .i64 hi], .int .i64 x] w fun e w' => e = .returned (.bool (decide (lo ≤ x ∧ x ≤ hi))) ∧ Below w.heap.size w w' := by
  by_cases h : lo ≤ x ∧ x ≤ hi
  · rw [decide_eq_true h]
    exact allow_yes lo hi x w h.1 h.2
  · rw [decide_eq_false h]
    exact allow_no lo hi x w (by omega)
theorem right_any (t : Ln.Terms) (w : World) :
    Calls Tryz.prog 54 #[tmV t] w fun e w' => e = .returned (.bool (rtB t)) ∧ Below w.heap.size w w' :=
  right_core t w _ _ _ _ _ _ (fun W => allow_any _ _ _ W) (fun W => allow_any _ _ _ W) (fun W => allow_any _ _ _ W) (fun W => allow_any _ _ _ W) (fun W => isBasis_all _ W _ rfl) (fun W => allow_any _ _ _ W)
end Go.Proofs.YtanndhoimpnhpaaGreatDoor

/- Are terms right? A loan is opened: the document's answers. -/
namespace Go.Proofs.YtanndhoimpnhpaaGreatDoor
open Go.ChangeShapes Go.WideShapes Go.ChangeAt Go.RowKit

set_option maxRecDepth 10000 in
set_option maxHeartbeats 2000000 in
theorem refright_any (t : Ln.Terms) (w : World) :
    Calls Tryz.prog 90 #[tmV t] w fun e w' => e = .returned (.bool (rtB t)) ∧ Below w.heap.size w w' := by
  have hA : ∀ o, Below w.heap.size w (w.alloc o) := fun o => (Below.refl _ _).alloc (Nat.le_refl _) o
  unfold tmV
  by_cases b0 : t.st < 0
  · have n0 : ¬ 0 ≤ t.st := by omega
    have hR : Hid (rtB t = false) := by show rtB t = false; unfold rtB; simp; omega
    go_enter Tryz.func90, Tryz.ntmps90
    go_wp2
    go_ret
    exact ⟨ret_bool hR.out.symm, hA _⟩
  have g0 : 0 ≤ t.st := by omega
  by_cases b1 : 105872 < t.st
  · have n1 : ¬ t.st ≤ 105872 := by omega
    have hR : Hid (rtB t = false) := by show rtB t = false; unfold rtB; simp; omega
    go_enter Tryz.func90, Tryz.ntmps90
    go_wp2
    go_ret
    exact ⟨ret_bool hR.out.symm, hA _⟩
  have g1 : t.st ≤ 105872 := by omega
  by_cases b2 : t.pr < 0
  · have n2 : ¬ 0 ≤ t.pr := by omega
    have hR : Hid (rtB t = false) := by show rtB t = false; unfold rtB; simp; omega
    go_enter Tryz.func90, Tryz.ntmps90
    go_wp2
    go_ret
    exact ⟨ret_bool hR.out.symm, hA _⟩
  have g2 : 0 ≤ t.pr := by omega
  by_cases b3 : 100000000000 < t.pr
  · have n3 : ¬ t.pr ≤ 100000000000 := by omega
    have hR : Hid (rtB t = false) := by show rtB t = false; unfold rtB; simp; omega
    go_enter Tryz.func90, Tryz.ntmps90
    go_wp2
    go_ret
    exact ⟨ret_bool hR.out.symm, hA _⟩
  have g3 : t.pr ≤ 100000000000 := by omega
  by_cases b4 : t.rt < 0
  · have n4 : ¬ 0 ≤ t.rt := by omega
    have hR : Hid (rtB t = false) := by show rtB t = false; unfold rtB; simp; omega
    go_enter Tryz.func90, Tryz.ntmps90
    go_wp2
    go_ret
    exact ⟨ret_bool hR.out.symm, hA _⟩
  have g4 : 0 ≤ t.rt := by omega
  by_cases b5 : 1000000 < t.rt
  · have n5 : ¬ t.rt ≤ 1000000 := by omega
    have hR : Hid (rtB t = false) := by show rtB t = false; unfold rtB; simp; omega
    go_enter Tryz.func90, Tryz.ntmps90
    go_wp2
    go_ret
    exact ⟨ret_bool hR.out.symm, hA _⟩
  have g5 : t.rt ≤ 1000000 := by omega
  by_cases b6 : t.fi < 0
  · have n6 : ¬ 0 ≤ t.fi := by omega
    have hR : Hid (rtB t = false) := by show rtB t = false; unfold rtB; simp; omega
    go_enter Tryz.func90, Tryz.ntmps90
    go_wp2
    go_ret
    exact ⟨ret_bool hR.out.symm, hA _⟩
  have g6 : 0 ≤ t.fi := by omega
  by_cases b7 : 1000000 < t.fi
  · have n7 : ¬ t.fi ≤ 1000000 := by omega
    have hR : Hid (rtB t = false) := by show rtB t = false; unfold rtB; simp; omega
    go_enter Tryz.func90, Tryz.ntmps90
    go_wp2
    go_ret
    exact ⟨ret_bool hR.out.symm, hA _⟩
  have g7 : t.fi ≤ 1000000 := by omega
  by_cases b8 : t.ba < 1
  · have n8 : ¬ 1 ≤ t.ba := by omega
    have hR : Hid (rtB t = false) := by show rtB t = false; unfold rtB; simp; omega
    go_enter Tryz.func90, Tryz.ntmps90
    go_wp2
    go_ret
    exact ⟨ret_bool hR.out.symm, hA _⟩
  have g8 : 1 ≤ t.ba := by omega
  by_cases b9 : 3 < t.ba
  · have n9 : ¬ t.ba ≤ 3 := by omega
    have hR : Hid (rtB t = false) := by show rtB t = false; unfold rtB; simp; omega
    go_enter Tryz.func90, Tryz.ntmps90
    go_wp2
    go_ret
    exact ⟨ret_bool hR.out.symm, hA _⟩
  have g9 : t.ba ≤ 3 := by omega
  by_cases b10 : t.du < 1
  · have n10 : ¬ 1 ≤ t.du := by omega
    have hR : Hid (rtB t = false) := by show rtB t = false; unfold rtB; simp; omega
    go_enter Tryz.func90, Tryz.ntmps90
    go_wp2
    go_ret
    exact ⟨ret_bool hR.out.symm, hA _⟩
  have g10 : 1 ≤ t.du := by omega
  by_cases b11 : 28 < t.du
  · have n11 : ¬ t.du ≤ 28 := by omega
    have hR : Hid (rtB t = false) := by show rtB t = false; unfold rtB; simp; omega
    go_enter Tryz.func90, Tryz.ntmps90
    go_wp2
    go_ret
    exact ⟨ret_bool hR.out.symm, hA _⟩
  have g11 : t.du ≤ 28 := by omega
  have hR : Hid (rtB t = true) := by show rtB t = true; unfold rtB; simp; omega
  go_enter Tryz.func90, Tryz.ntmps90
  go_wp2
  go_ret
  exact ⟨ret_bool hR.out.symm, hA _⟩

/-- The cells of the document's loan: terms, events, balance, book. -/
def dl (t : Ln.Terms) (ev : Value) (g : Ln.St) (day : Int) (bk : Value) : List Value :=
  [.int .i64 t.st, .int .i64 t.pr, .int .i64 t.rt, .int .i64 t.fi, .int .i64 t.ba, .int .i64 t.du, ev, .int .i64 g.pr, .int .i64 g.it, .int .i64 g.du, .int .i64 g.la, .int .i64 g.fi, .int .i64 g.cr, .int .i64 g.rt, .int .i64 day, bk]
theorem refopen_bad (t : Ln.Terms) (w : World) (h : rtB t = false) :
    Calls Tryz.prog 56 #[tmV t] w fun e w' => e = .returned (.tuple #[.pointer none, .int .i64 3]) ∧ Below w.heap.size w w' := by
  have hR := fun W => refright_any t W
  rw [h] at hR
  unfold tmV at *
  have b0 : Below w.heap.size w (w.alloc (.cells #[.int .i64 t.st, .int .i64 t.pr, .int .i64 t.rt, .int .i64 t.fi, .int .i64 t.ba, .int .i64 t.du] 23)) := (Below.refl _ _).alloc (Nat.le_refl _) _
  go_enter Tryz.func56, Tryz.ntmps56
  go_wp2_with fail
  refine (hR _).mono ?_
  rintro e w1 ⟨rfl, hb1⟩
  have b1 := b0.trans (hb1.mono b0.size)
  clear hR hb1 b0
  go_wp2
  go_ret2
  exact ⟨rfl, b1⟩
set_option maxRecDepth 10000 in
set_option maxHeartbeats 2000000 in
theorem refopen_good (t : Ln.Terms) (w : World) (h : rtB t = true) :
    Calls Tryz.prog 56 #[tmV t] w fun e w' => (∃ B, e = .returned (.tuple #[.pointer (some ⟨B, 0, none⟩), .int .i64 0]) ∧ w.heap.size ≤ B ∧ At w' B (dl t (.slice none 0 0) (Ln.start t) t.st (.slice none 0 0))) ∧ Below w.heap.size w w' := by
  have hR := fun W => refright_any t W
  rw [h] at hR
  unfold tmV at *
  have b0 : Below w.heap.size w (w.alloc (.cells #[.int .i64 t.st, .int .i64 t.pr, .int .i64 t.rt, .int .i64 t.fi, .int .i64 t.ba, .int .i64 t.du] 23)) := (Below.refl _ _).alloc (Nat.le_refl _) _
  have a0 : At (w.alloc (.cells #[.int .i64 t.st, .int .i64 t.pr, .int .i64 t.rt, .int .i64 t.fi, .int .i64 t.ba, .int .i64 t.du] 23)) w.heap.size [.int .i64 t.st, .int .i64 t.pr, .int .i64 t.rt, .int .i64 t.fi, .int .i64 t.ba, .int .i64 t.du] := At.alloc w _ _
  go_enter Tryz.func56, Tryz.ntmps56
  go_wp2_with fail
  refine (hR _).mono ?_
  rintro e w1 ⟨rfl, hb1⟩
  have b1 := b0.trans (hb1.mono b0.size)
  have a1 : At w1 w.heap.size [.int .i64 t.st, .int .i64 t.pr, .int .i64 t.rt, .int .i64 t.fi, .int .i64 t.ba, .int .i64 t.du] := At.keep (S := fun _ => False) a0 (Keep.below hb1) (fun x => x)
  have c0 := a1.cell 0 (v := .int .i64 t.st) rfl
  have c1 := a1.cell 1 (v := .int .i64 t.pr) rfl
  have c2 := a1.cell 2 (v := .int .i64 t.rt) rfl
  have c3 := a1.cell 3 (v := .int .i64 t.fi) rfl
  have c4 := a1.cell 4 (v := .int .i64 t.ba) rfl
  have c5 := a1.cell 5 (v := .int .i64 t.du) rfl
  have a2 : At (w1.alloc (.cells (dl t (.slice none 0 0) (Ln.start t) t.st (.slice none 0 0)).toArray 133)) w1.heap.size (dl t (.slice none 0 0) (Ln.start t) t.st (.slice none 0 0)) := At.alloc w1 _ _
  have b2 : Below w.heap.size w (w1.alloc (.cells (dl t (.slice none 0 0) (Ln.start t) t.st (.slice none 0 0)).toArray 133)) := b1.alloc b1.size _
  have HA := (show Hid _ from a2)
  have HB := (show Hid _ from b2)
  have hsz := b1.size
  clear hR hb1 b0 a0 a1 a2 b2 b1
  go_wp2
  go_ret2
  exact ⟨⟨w1.heap.size, rfl, hsz, HA.out⟩, HB.out⟩
end Go.Proofs.YtanndhoimpnhpaaGreatDoor

/- What the document's Cancel does: the events without one. -/
namespace Go.Proofs.YtanndhoimpnhpaaGreatDoor
open Go.ChangeShapes Go.WideShapes Go.ChangeAt Go.RowKit Lg

/-- The events without that number. -/
def wo (q : Int) (l : List Ln.Ev) : List Ln.Ev := l.filter (fun e => !(e.s == q))
theorem wo_snoc (q : Int) (l : List Ln.Ev) (k : Nat) (hk : k < l.length) : wo q (l.take (k + 1)) = if l[k].s = q then wo q (l.take k) else wo q (l.take k) ++ [l[k]] := by
  unfold wo
  rw [List.take_succ_eq_append_getElem hk, List.filter_append]
  by_cases h : l[k].s = q
  · simp [h]
  · simp [h]
theorem wo_le (q : Int) (l : List Ln.Ev) : (wo q l).length ≤ l.length := List.length_filter_le _ _

set_option maxRecDepth 10000 in
set_option maxHeartbeats 4000000 in
theorem refcancel_core (w : World) (B : Nat) (t : Ln.Terms) (g : Ln.St) (day q : Int) (bk : Value) (pa : Option Addr) (ecap E : Nat) (l : List Ln.Ev) (hl : l.length ≤ 40) (hB : At w B (dl t (.slice pa l.length ecap) g day bk)) (hE : l ≠ [] → pa = some ⟨E, 0, none⟩ ∧ At w E (evs l)) :
    Calls Tryz.prog 59 #[.pointer (some ⟨B, 0, none⟩), .int .i64 q] w fun e w' =>
      ((wo q l).length = l.length ∧ e = .returned (.int .i64 9) ∧ Below w.heap.size w w') ∨
      (¬ (wo q l).length = l.length ∧ e = .returned (.int .i64 0) ∧ ∃ v, w'.ownsRow w.heap.size 50 4 v (wo q l).length (evs (wo q l)) ∧ At w' B (dl t v g day bk) ∧ Keep (fun b => b = B) w w') := by
  obtain ⟨i0, hi, hz0, hz1, hz2⟩ := info_parts infoEv
  have hBl : B < w.heap.size := At.lt (v := .int .i64 t.st) hB
  have HE := (show Hid _ from hE)
  have HB := (show Hid _ from hB)
  clear hE hB
  go_enter Tryz.func59, Tryz.ntmps59
  go_wp2
  go_loopw [5, 6] (fun o i wr => ∃ (k : Nat), k ≤ l.length ∧ i = .int .i64 k ∧ wr.ownsRow w.heap.size 50 4 o (wo q (l.take k)).length (evs (wo q (l.take k))) ∧ Below w.heap.size w wr) (fun _ i _ => l.length - (intOf i).toNat)
  case atStart => exact ⟨0, by omega, rfl, World.ownsRow_nil _ _ _ _, Below.refl _ _⟩
  case round =>
    obtain ⟨k, hk, rfl, hown, hbel⟩ := hrel
    obtain ⟨p0, cap0, rfl⟩ := own_slice hown
    have hAr : At wr B (dl t (.slice pa l.length ecap) g day bk) := At.keep (S := fun _ => False) (v := .int .i64 t.st) HB.out (Keep.below hbel) (fun x => x)
    have c6 : wr.cell? ⟨B, 6, none⟩ = some (.slice pa l.length ecap) := hAr.cell 6 rfl
    have hwl := wo_le q (l.take k)
    rw [List.length_take] at hwl
    by_cases hlt : k < l.length
    · have hne : l ≠ [] := by intro x; subst x; simp at hlt
      obtain ⟨rfl, hEw⟩ := HE.out hne
      have hEl : E < w.heap.size := World.block_lt_of_cell? _ _ (hEw.cell _ (evs_at l k hlt).1)
      have hrg : w.rangeAt E (k * 4) [.int .i64 l[k].d, .int .i64 l[k].k, .int .i64 l[k].s, .int .i64 l[k].a] := ev_cells hEw k hlt
      have r0 : wr.cell? ⟨E, k * 4, none⟩ = some (.int .i64 l[k].d) := (hbel.cell (p := ⟨E, _, none⟩) hEl).trans (hrg 0 _ rfl)
      have r1 : wr.cell? ⟨E, k * 4 + 1, none⟩ = some (.int .i64 l[k].k) := (hbel.cell (p := ⟨E, _, none⟩) hEl).trans (hrg 1 _ rfl)
      have r2 : wr.cell? ⟨E, k * 4 + 2, none⟩ = some (.int .i64 l[k].s) := (hbel.cell (p := ⟨E, _, none⟩) hEl).trans (hrg 2 _ rfl)
      have r3 : wr.cell? ⟨E, k * 4 + 3, none⟩ = some (.int .i64 l[k].a) := (hbel.cell (p := ⟨E, _, none⟩) hEl).trans (hrg 3 _ rfl)
      have HS := (show Hid _ from wo_snoc q l k hlt)
      clear hrg hEw HE hAr
      generalize l[k] = e at *
      obtain ⟨ed, ek, es, ea⟩ := e
      simp only at r0 r1 r2 r3 HS
      generalize wo q (l.take k) = R at *
      by_cases hq : es = q
      · have e1 : (es != q) = false := by simp [hq]
        have HS2 : Hid (wo q (l.take (k + 1)) = R) := by show wo q (l.take (k + 1)) = R; rw [HS.out, if_pos hq]
        clear hq HS
        go_wp2_with fail
        go_roundw
        case rel => exact ⟨k + 1, by omega, by go_num, by rw [HS2.out]; exact hown, hbel⟩
        case measure => simp [intOf]; omega
      · have e1 : (es != q) = true := by simp [hq]
        have HS2 : Hid (wo q (l.take (k + 1)) = R ++ [⟨ed, ek, es, ea⟩]) := by show wo q (l.take (k + 1)) = _; rw [HS.out, if_neg hq]
        clear hq HS
        go_wp2_with (at_builtin; refine wpList_append_own _ rfl _ _ 42 rfl w.heap.size 50 i0 (.agg #[.int .i64 0, .int .i64 0, .int .i64 0, .int .i64 0]) 4 32 Tryz.underlying42 hi hz0 hz1 hz2 rfl (by decide) _ _ _ rfl (hown.alloc _) ⟨wr.heap.size, 0, none⟩ 1 1 [.int .i64 ed, .int .i64 ek, .int .i64 es, .int .i64 ea] rfl rfl ?c1 ?c2 ?c3 ?c4 ?c5 ?_)
        case c1 =>
          intro j u hj
          match j, hj with
          | 0, hj => simp at hj; subst hj; simp [Addr.add]
          | 1, hj => simp at hj; subst hj; simp [Addr.add]
          | 2, hj => simp at hj; subst hj; simp [Addr.add]
          | 3, hj => simp at hj; subst hj; simp [Addr.add]
          | j + 4, hj => exact absurd hj (by simp)
        case c2 => intro u hu; simp at hu; rcases hu with rfl | rfl | rfl | rfl <;> rfl
        case c3 => unfold maxLen; omega
        case c4 => omega
        case c5 => have := hbel.size; simp; omega
        · intro v' w1 hown' hgrow _
          have hb1 : Below w.heap.size w w1 := (hbel.alloc hbel.size _).grown hgrow (by simp; exact Nat.le_succ_of_le hbel.size) (fun j hj => own_from hown hj)
          have hown2 : w1.ownsRow w.heap.size 50 4 v' (R ++ [(⟨ed, ek, es, ea⟩ : Ln.Ev)]).length (evs (R ++ [(⟨ed, ek, es, ea⟩ : Ln.Ev)])) := by
            rw [So.evs_append, List.length_append]
            exact hown'
          clear hown' hgrow hown hbel r0 r1 r2 r3 c6
          go_wp2
          go_roundw
          case rel => exact ⟨k + 1, by omega, by go_num, by rw [HS2.out]; exact hown2, hb1⟩
          case measure => simp [intOf]; omega
    · obtain rfl : k = l.length := by omega
      rw [List.take_length] at *
      have z6 : wr.frozen? ⟨B, 6, none⟩ = false := hAr.free 6 rfl
      have hset : At (wr.setCell ⟨B, 6, none⟩ (.slice p0 (wo q l).length cap0)) B (dl t (.slice p0 (wo q l).length cap0) g day bk) := hAr.set 6 (show 6 < 16 by decide) _
      have hkp : Keep (fun b => b = B) w (wr.setCell ⟨B, 6, none⟩ (.slice p0 (wo q l).length cap0)) := (Keep.below (S := fun b => b = B) hbel).set (S := fun b => b = B) rfl 6 _
      have hos : (wr.setCell ⟨B, 6, none⟩ (.slice p0 (wo q l).length cap0)).ownsRow w.heap.size 50 4 (.slice p0 (wo q l).length cap0) (wo q l).length (evs (wo q l)) := ownsRow_setCell_below hown hBl _
      have H1 := (show Hid _ from hset)
      have H2 := (show Hid _ from hkp)
      have H3 := (show Hid _ from hos)
      clear hset hkp hos hAr hlt HE
      by_cases hc : (wo q l).length = l.length
      · have e1 : (((wo q l).length : Int) == (l.length : Int)) = true := by simp [hc]
        have HC := (show Hid _ from hc)
        clear hc
        go_wp2
        go_ret
        exact .inl ⟨HC.out, rfl, hbel⟩
      · have e1 : (((wo q l).length : Int) == (l.length : Int)) = false := by simp; omega
        go_wp2
        go_ret
        exact .inr ⟨hc, rfl, _, H3.out, H1.out, H2.out⟩
end Go.Proofs.YtanndhoimpnhpaaGreatDoor
