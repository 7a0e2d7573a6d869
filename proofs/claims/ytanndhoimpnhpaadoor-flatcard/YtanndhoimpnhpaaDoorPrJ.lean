/- One day of the program: Pass. -/
import Derived.Test.YtanndhoimpnhpaaDoorPrJ0
import Derived.Test.YtanndhoimpnhpaaDoorRow
import Derived.Test.YtanndhoimpnhpaaDoorDy
import Derived.Deep.CutRange
namespace Go.Proofs.YtanndhoimpnhpaaDoor
open Go.RowKit Cal

def tml (t : Ln.Terms) : List Value := [.int .i64 t.st, .int .i64 t.pr, .int .i64 t.rt, .int .i64 t.fi, .int .i64 t.ba, .int .i64 t.du]
def stl (t : Ln.Terms) (g : Ln.St) (c i f : Int) : List Value :=
  [.int .i64 c, .int .i64 g.pr, .int .i64 g.it, .int .i64 g.du, .int .i64 g.la, .int .i64 g.fi, .int .i64 (-g.cr), .int .i64 i, .int .i64 f, .int .i64 g.rt, .int .i64 g.fr, .int .u64 (g.ea % Ln.den t), .int .u64 (g.fn % Ln.den t)]
def aml (am : Nat → Int) : List Value := [.int .i64 (am 0), .int .i64 (am 1), .int .i64 (am 2), .int .i64 (am 3), .int .i64 (am 4), .int .i64 (am 5), .int .i64 (am 6), .int .i64 (am 7), .int .i64 (am 8), .int .i64 (am 9), .int .i64 (am 10), .int .i64 (am 11), .int .i64 (am 12)]
def zst : List Value := [.int .i64 0, .int .i64 0, .int .i64 0, .int .i64 0, .int .i64 0, .int .i64 0, .int .i64 0, .int .i64 0, .int .i64 0, .int .i64 0, .int .i64 0, .int .u64 0, .int .u64 0]
def zam : List Value := [.int .i64 0, .int .i64 0, .int .i64 0, .int .i64 0, .int .i64 0, .int .i64 0, .int .i64 0, .int .i64 0, .int .i64 0, .int .i64 0, .int .i64 0, .int .i64 0, .int .i64 0]

/-- What lies there when Pass has made its four blocks. -/
structure PassAt (w W : World) (t : Ln.Terms) (g : Ln.St) (c i f : Int) : Prop where
  size : W.heap.size = w.heap.size + 1 + 1 + 1 + 1
  st : At W w.heap.size (stl t g c i f)
  tm : At W (w.heap.size + 1) (tml t)
  rs : At W (w.heap.size + 1 + 1) zst
  ra : At W (w.heap.size + 1 + 1 + 1) zam
  below : Below w.heap.size w W
theorem passAt (w : World) (t : Ln.Terms) (g : Ln.St) (c i f : Int) (T1 T2 T3 T4 : TypeId) :
    PassAt w ((((w.alloc (.cells (stl t g c i f).toArray T1)).alloc (.cells (tml t).toArray T2)).alloc (.cells zst.toArray T3)).alloc (.cells zam.toArray T4)) t g c i f := by
  refine ⟨by simp, ?_, ?_, ?_, ?_, ?_⟩
  · exact At.over (At.over (At.over (At.allocs w _ _ rfl) _) _) _
  · exact At.over (At.over (At.allocs _ _ _ (by simp)) _) _
  · exact At.over (At.allocs _ _ _ (by simp)) _
  · exact At.allocs _ _ _ (by simp)
  · exact ((((Below.refl _ _).alloc (Nat.le_refl _) _).alloc (by simp) _).alloc (by simp; omega) _).alloc (by simp; omega) _

theorem foldl_take (n : Int) (y : Ln.Dy) (l : List Ln.Ev) (k : Nat) (hk : k < l.length) : (l.take (k + 1)).foldl (Ln.event n) y = Ln.event n ((l.take k).foldl (Ln.event n) y) l[k] := by
  rw [List.take_succ_eq_append_getElem hk, List.foldl_append]
  rfl
theorem stl_mid (t : Ln.Terms) (n : Int) (y : Ln.Dy) (c i f : Int) : ∀ j v, (stl t y.g c i f)[j]? = some v → (pl t n y c i f)[7 + j]? = some v := by
  intro j v h
  match j, h with
  | 0, h => exact h
  | 1, h => exact h
  | 2, h => exact h
  | 3, h => exact h
  | 4, h => exact h
  | 5, h => exact h
  | 6, h => exact h
  | 7, h => exact h
  | 8, h => exact h
  | 9, h => exact h
  | 10, h => exact h
  | 11, h => exact h
  | 12, h => exact h
  | j + 13, h => exact absurd h (by simp [stl])
theorem aml_mid (t : Ln.Terms) (n : Int) (y : Ln.Dy) (c i f : Int) : ∀ j v, (aml y.am)[j]? = some v → (pl t n y c i f)[20 + j]? = some v := by
  intro j v h
  match j, h with
  | 0, h => exact h
  | 1, h => exact h
  | 2, h => exact h
  | 3, h => exact h
  | 4, h => exact h
  | 5, h => exact h
  | 6, h => exact h
  | 7, h => exact h
  | 8, h => exact h
  | 9, h => exact h
  | 10, h => exact h
  | 11, h => exact h
  | 12, h => exact h
  | j + 13, h => exact absurd h (by simp [aml])

set_option maxRecDepth 10000 in
set_option maxHeartbeats 600000 in
theorem pass_core (w : World) (t : Ln.Terms) (n : Int) (g : Ln.St) (c i f : Int) (l : List Ln.Ev) (p : Option Addr) (cap : Nat) (y0 yf : Ln.Dy)
    (hev : ∀ k (hk : k < l.length), ∃ E o, p = some ⟨E, o, none⟩ ∧ E < w.heap.size ∧ w.cell? ⟨E, o + k * 4, none⟩ = some (.int .i64 l[k].d) ∧ w.cell? ⟨E, o + k * 4 + 1, none⟩ = some (.int .i64 l[k].k) ∧ w.cell? ⟨E, o + k * 4 + 2, none⟩ = some (.int .i64 l[k].s) ∧ w.cell? ⟨E, o + k * 4 + 3, none⟩ = some (.int .i64 l[k].a))
    (hll : l.length ≤ 1000000)
    (hB : ∀ (W : World) (P : Nat), Keep (fun _ => False) w W → w.heap.size ≤ P → Pas W P t n ⟨g, fun _ => 0⟩ → Calls Tryd.prog 64 #[.pointer (some ⟨P, 0, none⟩)] W fun e w' => e = .returned (.tuple #[]) ∧ Pas w' P t n y0 ∧ Keep (fun b => b = P) W w')
    (hH : ∀ (W : World) (P : Nat) (k : Nat) (hk : k < l.length), Keep (fun b => w.heap.size ≤ b) w W → w.heap.size ≤ P → Pas W P t n ((l.take k).foldl (Ln.event n) y0) → Calls Tryd.prog 65 #[.pointer (some ⟨P, 0, none⟩), .agg #[.int .i64 l[k].d, .int .i64 l[k].k, .int .i64 l[k].s, .int .i64 l[k].a]] W fun e w' => e = .returned (.tuple #[]) ∧ Pas w' P t n ((l.take (k + 1)).foldl (Ln.event n) y0) ∧ Keep (fun b => b = P) W w')
    (hE : ∀ (W : World) (P : Nat), Keep (fun b => w.heap.size ≤ b) w W → w.heap.size ≤ P → Pas W P t n (l.foldl (Ln.event n) y0) → Calls Tryd.prog 66 #[.pointer (some ⟨P, 0, none⟩)] W fun e w' => e = .returned (.tuple #[]) ∧ Pas w' P t n yf ∧ Keep (fun b => b = P) W w') :
    Calls Tryd.prog 44 #[stV t g c i f, tmV t, .int .i64 n, .slice p l.length cap] w fun e w' => (∃ c' i' f', e = .returned (.tuple #[stV t yf.g c' i' f', amV yf.am])) ∧ Below w.heap.size w w' := by
  unfold stV tmV
  go_enter Tryd.func44, Tryd.ntmps44
  go_upto_region 1 with fail
  refine (fun (key : ∀ W : World, PassAt w W t g c i f → Code.wp Tryd.prog _ _ _ W) => key _ (passAt w t g c i f _ _ _ _)) ?_
  intro W hW
  have hrt : W.rangeAt (w.heap.size + 1) 0 (tml t) := hW.tm.range
  have hrs : W.rangeAt w.heap.size 0 (stl t g c i f) := hW.st.range
  refine wp_region_lit ?_
  refine wpList_load_mid rfl 41 (.tmp 5) rfl _ 0 rfl (tml t) _ hrt Tryd.underlying41 rfl (by kernel_rfl) ?_
  simp only [Act.put, List.setIfInBounds_toArray, List.set_cons_zero, List.set_cons_succ]
  refine wpList_val (.int .i64 n) W rfl rfl ?_
  simp only [Act.put, List.setIfInBounds_toArray, List.set_cons_zero, List.set_cons_succ]
  refine wpList_load_mid rfl 79 (.tmp 4) rfl _ 0 rfl (stl t g c i f) _ hrs Tryd.underlying79 rfl (by kernel_rfl) ?_
  simp only [Act.put, List.setIfInBounds_toArray, List.set_cons_zero, List.set_cons_succ]
  refine wpList_val (.agg (pl t n ⟨g, fun _ => 0⟩ c i f).toArray) W rfl (by kernel_rfl) ?_
  simp only [Act.put, List.setIfInBounds_toArray, List.set_cons_zero, List.set_cons_succ]
  refine wpList_val (.pointer (some ⟨W.heap.size, 0, none⟩)) (W.alloc (.cells (pl ⟨0, 0, 0, 0, 0, 0⟩ 0 ⟨⟨0, 0, 0, 0, 0, 0, 0, 0, 0, 0⟩, fun _ => 0⟩ 0 0 0).toArray 116)) rfl (by kernel_rfl) ?_
  simp only [Act.put, List.setIfInBounds_toArray, List.set_cons_zero, List.set_cons_succ]
  refine wpList_store_new rfl 116 (.tmp 10) (.tmp 16) rfl _ _ rfl rfl (by kernel_rfl) rfl (by kernel_rfl) ?_
  simp only [Act.put]
  refine wpList_nil ?_
  have hp0 : Pas (W.alloc (.cells (pl t n ⟨g, fun _ => 0⟩ c i f).toArray 116)) W.heap.size t n ⟨g, fun _ => 0⟩ := ⟨c, i, f, At.alloc W _ _⟩
  have hPsz : w.heap.size + 4 = W.heap.size := by have := hW.size; omega
  have kW : ∀ S : Nat → Prop, Keep S w (W.alloc (.cells (pl t n ⟨g, fun _ => 0⟩ c i f).toArray 116)) := fun S => Keep.below (hW.below.alloc (by omega) _)
  have r0 : At (W.alloc (.cells (pl t n ⟨g, fun _ => 0⟩ c i f).toArray 116)) (w.heap.size + 1 + 1) zst := At.over hW.rs _
  have r1 : At (W.alloc (.cells (pl t n ⟨g, fun _ => 0⟩ c i f).toArray 116)) (w.heap.size + 1 + 1 + 1) zam := At.over hW.ra _
  generalize hV : W.alloc (.cells (pl t n ⟨g, fun _ => 0⟩ c i f).toArray 116) = V at *
  generalize hPd : W.heap.size = P at *
  clear hV hW hrt hrs
  have hPw : w.heap.size ≤ P := by omega
  go_wp2_with fail
  refine (hB V P (kW _) hPw hp0).mono ?_
  rintro e w1 ⟨rfl, hp1, k1⟩
  clear hB hp0
  have kk1 : Keep (fun b => w.heap.size ≤ b) w w1 := (kW _).trans (k1.mono (fun b _ h => by rw [h]; exact hPw))
  have s0 : At w1 (w.heap.size + 1 + 1) zst := r0.keep k1 (by omega)
  have s1 : At w1 (w.heap.size + 1 + 1 + 1) zam := r1.keep k1 (by omega)
  clear r0 r1 k1 kW
  go_wp2
  go_loopw [20] (fun i wr => ∃ k : Nat, k ≤ l.length ∧ i = .int .i64 k ∧ Pas wr P t n ((l.take k).foldl (Ln.event n) y0) ∧ Keep (fun b => w.heap.size ≤ b) w wr ∧ At wr (w.heap.size + 1 + 1) zst ∧ At wr (w.heap.size + 1 + 1 + 1) zam) (fun i _ => l.length - (intOf i).toNat)
  case atStart => exact ⟨0, Nat.zero_le _, rfl, hp1, kk1, s0, s1⟩
  case round =>
    obtain ⟨k, hk, rfl, hpk, hkk, t0, t1⟩ := hrel
    clear hp1 kk1 s0 s1
    have kA : ∀ (S : Nat → Prop) (ob : Obj), Keep S wr (wr.alloc ob) := fun S ob => Keep.below ((Below.refl _ _).alloc (Nat.le_refl _) ob)
    by_cases hlt : k < l.length
    · obtain ⟨E, o, rfl, hEw, e0, e1, e2, e3⟩ := hev k hlt
      have hbl := hkk.block E hEw (by omega)
      have d0 : wr.cell? ⟨E, o + k * 4, none⟩ = some (.int .i64 l[k].d) := (World.cell?_of_block (w := w) (a := ⟨E, _, none⟩) hbl).trans e0
      have d1 : wr.cell? ⟨E, o + k * 4 + 1, none⟩ = some (.int .i64 l[k].k) := (World.cell?_of_block (w := w) (a := ⟨E, _, none⟩) hbl).trans e1
      have d2 : wr.cell? ⟨E, o + k * 4 + 2, none⟩ = some (.int .i64 l[k].s) := (World.cell?_of_block (w := w) (a := ⟨E, _, none⟩) hbl).trans e2
      have d3 : wr.cell? ⟨E, o + k * 4 + 3, none⟩ = some (.int .i64 l[k].a) := (World.cell?_of_block (w := w) (a := ⟨E, _, none⟩) hbl).trans e3
      have hC := fun ob => hH (wr.alloc ob) P k hlt (hkk.trans (kA _ ob)) hPw (hpk.keep (kA (fun _ => False) ob) (fun x => x))
      clear hH hE hev e0 e1 e2 e3 hbl hpk
      go_wp2_with fail
      refine (hC _).mono ?_
      rintro e w2 ⟨rfl, hp2, k2⟩
      clear hC
      have k2' := (kA (fun b => b = P) _).trans k2
      have kk2 := hkk.trans (k2'.mono (T := fun b => w.heap.size ≤ b) (fun b _ h => by rw [h]; exact hPw))
      have t0' := t0.keep k2' (by omega)
      have t1' := t1.keep k2' (by omega)
      go_wp2
      go_roundw
      case rel => exact ⟨k + 1, by omega, by go_num, hp2, kk2, t0', t1'⟩
      case measure => simp [intOf]; omega
    · have hkl : k = l.length := by omega
      subst hkl
      rw [List.take_length] at hpk
      have hC := hE wr P hkk hPw hpk
      clear hH hE hev hpk
      go_wp2_with fail
      refine hC.mono ?_
      rintro e w2 ⟨rfl, hp2, k2⟩
      clear hC kA
      have kk2 := hkk.trans (k2.mono (T := fun b => w.heap.size ≤ b) (fun b _ h => by rw [h]; exact hPw))
      have t0' := t0.keep k2 (by omega)
      have t1' := t1.keep k2 (by omega)
      clear t0 t1 hkk k2
      go_wp2_with fail
      obtain ⟨c', i', f', hA⟩ := hp2
      have m1 : w2.rangeAt P 7 (stl t yf.g c' i' f') := hA.mid 7 _ (stl_mid t n yf c' i' f')
      have m2 : w2.rangeAt P 20 (aml yf.am) := hA.mid 20 _ (aml_mid t n yf c' i' f')
      have T0 : w2.drew.there (w.heap.size + 1 + 1) 0 13 := t0'.drew.there 13 rfl
      refine wp_region_held_drew (S := fun wx => wx.rangeAt P 7 (stl t yf.g c' i' f') ∧ wx.rangeAt P 20 (aml yf.am)) (by kernel_rfl) ⟨m1, m2⟩ (fun hHeld => ?_)
      refine wpAnyH_take (i := 0) (v := .pointer (some ⟨P, 7, none⟩)) rfl (by kernel_rfl) (by kernel_rfl) (by kernel_rfl) (fun _ _ _ h => h) (Or.inl ⟨by rfl, fun wx hSw => by (dsimp only at hSw; go_simp)⟩) (by assumption) ?_
      simp only [Act.put, List.getElem_toArray, List.getElem_cons_zero, List.setIfInBounds_toArray, List.set_cons_zero, List.set_cons_succ]
      refine wpAnyH_take (i := 1) (v := .agg (stl t yf.g c' i' f').toArray) rfl (by kernel_rfl) (by kernel_rfl) (by kernel_rfl) (fun _ _ _ h => h) (yieldsIf_load_mid (by rfl) 79 (.tmp 28) rfl _ _ rfl _ _ (fun _ h => h.1) Tryd.underlying79 rfl (by kernel_rfl)) (by assumption) ?_
      simp only [Act.put, List.getElem_toArray, List.getElem_cons_succ, List.getElem_cons_zero, List.setIfInBounds_toArray, List.set_cons_zero, List.set_cons_succ]
      refine wpAnyH_take (i := 2) (v := .pointer (some ⟨P, 20, none⟩)) rfl (by kernel_rfl) (by kernel_rfl) (by kernel_rfl) (fun _ _ _ h => h) (Or.inl ⟨by rfl, fun wx hSw => by (dsimp only at hSw; go_simp)⟩) (by assumption) ?_
      simp only [Act.put, List.getElem_toArray, List.getElem_cons_succ, List.getElem_cons_zero, List.setIfInBounds_toArray, List.set_cons_zero, List.set_cons_succ]
      refine wpAnyH_take (i := 3) (v := .agg (aml yf.am).toArray) rfl (by kernel_rfl) (by kernel_rfl) (by kernel_rfl) (fun _ _ _ h => h) (yieldsIf_load_mid (by rfl) 91 (.tmp 30) rfl _ _ rfl _ _ (fun _ h => h.2) Tryd.underlying91 rfl (by kernel_rfl)) (by assumption) ?_
      simp only [Act.put, List.getElem_toArray, List.getElem_cons_succ, List.getElem_cons_zero, List.setIfInBounds_toArray, List.set_cons_zero, List.set_cons_succ]
      refine wpAnyH_ready (rs := [4]) (by kernel_rfl) (by simp) ?_
      refine AllReadyH.cons rfl (fun K hK => ?_) AllReadyH.nil
      rw [if_pos (by rfl)]
      refine wp_store_mid 79 (.tmp 8) (.tmp 29) rfl _ 0 _ rfl rfl T0 (by kernel_rfl) (by kernel_rfl) ?_
      rw [List.toList_toArray]
      refine hK.out _ _ ⟨World.rangeAt_setCells_apart hHeld.1 _ _ _ (by omega), World.rangeAt_setCells_apart hHeld.2 _ _ _ (by omega)⟩ (fun hHeld2 => ?_)
      clear hK K
      have a0 : At (w2.drew.setCells (w.heap.size + 1 + 1) 0 (stl t yf.g c' i' f')) (w.heap.size + 1 + 1) (stl t yf.g c' i' f') := t0'.drew.setCells_same rfl
      have a1 : At (w2.drew.setCells (w.heap.size + 1 + 1) 0 (stl t yf.g c' i' f')) (w.heap.size + 1 + 1 + 1) zam := t1'.drew.apart (by omega) _ _
      have a2 : Keep (fun b => w.heap.size ≤ b) w (w2.drew.setCells (w.heap.size + 1 + 1) 0 (stl t yf.g c' i' f')) := Keep.setCells (S := fun b => w.heap.size ≤ b) (show w.heap.size ≤ w.heap.size + 1 + 1 by omega) _ _ _ kk2.drew
      generalize w2.drew.setCells (w.heap.size + 1 + 1) 0 (stl t yf.g c' i' f') = V2 at *
      simp only [Act.put, List.getElem_toArray, List.getElem_cons_succ, List.getElem_cons_zero]
      refine wpAnyH_ready (rs := [5]) (by kernel_rfl) (by simp) ?_
      refine AllReadyH.cons rfl (fun K hK => ?_) AllReadyH.nil
      rw [if_pos (by rfl)]
      refine wp_store_mid 91 (.tmp 9) (.tmp 31) rfl _ 0 _ rfl rfl (a1.there 13 rfl) (by kernel_rfl) (by kernel_rfl) ?_
      rw [List.toList_toArray]
      refine hK.out _ _ ⟨World.rangeAt_setCells_apart hHeld2.1 _ _ _ (by omega), World.rangeAt_setCells_apart hHeld2.2 _ _ _ (by omega)⟩ (fun hHeld3 => ?_)
      clear hK K
      have b0 : At (V2.setCells (w.heap.size + 1 + 1 + 1) 0 (aml yf.am)) (w.heap.size + 1 + 1) (stl t yf.g c' i' f') := a0.apart (by omega) _ _
      have b1 : At (V2.setCells (w.heap.size + 1 + 1 + 1) 0 (aml yf.am)) (w.heap.size + 1 + 1 + 1) (aml yf.am) := a1.setCells_same rfl
      have b2 : Keep (fun b => w.heap.size ≤ b) w (V2.setCells (w.heap.size + 1 + 1 + 1) 0 (aml yf.am)) := Keep.setCells (S := fun b => w.heap.size ≤ b) (show w.heap.size ≤ w.heap.size + 1 + 1 + 1 by omega) _ _ _ a2
      generalize V2.setCells (w.heap.size + 1 + 1 + 1) 0 (aml yf.am) = V3 at *
      simp only [Act.put, List.getElem_toArray, List.getElem_cons_succ, List.getElem_cons_zero]
      refine wpAnyH_done (by kernel_rfl) ?_ _
      go_wp2
      exact bodyPost_ret (v := .tuple #[stV t yf.g c' i' f', amV yf.am]) (results_two Tryd.results44 _ _ _ _ _ _ _ _ rfl rfl b0.range b1.range Tryd.underlying79 Tryd.underlying91 rfl rfl (by kernel_rfl) (by kernel_rfl)) rfl ⟨⟨c', i', f', rfl⟩, b2.os, b2.tape, b2.output, b2.size, fun k hk => b2.block k hk (by omega)⟩
end Go.Proofs.YtanndhoimpnhpaaDoor
