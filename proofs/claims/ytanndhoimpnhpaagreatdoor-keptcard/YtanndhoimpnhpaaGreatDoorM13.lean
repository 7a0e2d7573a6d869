/- Joined by program: Lo, Cr, Bo, Fl, KpA. -/
import Derived.Test.YtanndhoimpnhpaaGreatDoorM12
import Derived.Laws.OwnMore
import Derived.WalkKit
import Derived.Laws.CopyRow
import Derived.Laws.IdiomCopy
import Derived.Lib.Overlaps
import Derived.Lib.AppendZerosOnto
import Derived.Test.YtanndhoimpnhpaaGreatDoorM7
import Derived.Test.YtanndhoimpnhpaaGreatDoorM2
import Derived.Laws.MakeOwn
import Derived.Test.YtanndhoimpnhpaaGreatDoorM8
import Derived.WalkLawsBesides
namespace Go.Proofs.YtanndhoimpnhpaaGreatDoor
open Go.ChangeShapes Go.WideShapes Go.RowKit Go.WideMaps Go.Maps Cal
structure LoX (w : World) (B P Mb : Nat) (t : Ln.Terms) (E : List Ln.Ev) (g : Ln.St) (day : Int) (L : List En) (evv bkv : Value) : Prop where
  ln : At w B (ll t evv g day (.pointer (some ⟨P, 0, none⟩)))
  bk : BkIs w P bkv Mb L
  ev : w.ownsRow 0 50 4 evv E.length (evs E)
  nb : ¬ BkS P Mb bkv B
  ne : ∀ b, evv.ownBlock = some b → ¬ b = B ∧ ¬ BkS P Mb bkv b
  so : E.Pairwise So.Ah
  ok : ∀ e ∈ E, Ln.OkE t e
  le : E.length ≤ 40
  ot : Ln.OkT t
def Fo (B P Mb : Nat) (evv bkv : Value) (b : Nat) : Prop := b = B ∨ BkS P Mb bkv b ∨ evv.ownBlock = some b
def Lo (w : World) (B : Nat) (t : Ln.Terms) (E : List Ln.Ev) (g : Ln.St) (day : Int) (L : List En) (F : Nat → Prop) : Prop :=
  ∃ P Mb evv bkv, LoX w B P Mb t E g day L evv bkv ∧ ∀ b, Fo B P Mb evv bkv b → F b
def Wd (F : Nat → Prop) (w w' : World) (b : Nat) : Prop := F b ∨ (w.heap.size ≤ b ∧ b < w'.heap.size)
theorem evs_evv {w : World} {evv : Value} {E : List Ln.Ev} (h : w.ownsRow 0 50 4 evv E.length (evs E)) : ∃ Eb, EvV w Eb evv E ∧ (E ≠ [] → evv.ownBlock = some Eb) := by
  obtain ⟨hl, hn | ⟨g, cap, cur, rfl, hg⟩⟩ := id h
  · obtain ⟨rfl, hz⟩ := hn
    have hE : E = [] := List.length_eq_zero_iff.1 hz
    subst hE
    exact ⟨0, ⟨none, 0, rfl, Nat.le_refl _, fun k hk => absurd hk (Nat.not_lt_zero k)⟩, fun h => absurd rfl h⟩
  · have hlt := (own_base h (b := g) rfl).2
    refine ⟨g, ⟨some ⟨g, 0, none⟩, cap, rfl, hg.2.2.1, fun k hk => ⟨0, rfl, hlt, ?_⟩⟩, fun _ => rfl⟩
    obtain ⟨q0, q1, q2, q3⟩ := evs_at E k hk
    rw [Nat.zero_add]
    exact ⟨(h.cellAt _ (by omega)).trans q0, (h.cellAt _ (by omega)).trans q1, (h.cellAt _ (by omega)).trans q2, (h.cellAt _ (by omega)).trans q3⟩
theorem LoX.is {w : World} {B P Mb : Nat} {t : Ln.Terms} {E : List Ln.Ev} {g : Ln.St} {day : Int} {L : List En} {evv bkv : Value} (h : LoX w B P Mb t E g day L evv bkv) : ∃ Eb, LoanIs w B P Mb Eb t E g day L evv bkv ∧ (E ≠ [] → evv.ownBlock = some Eb) := by
  obtain ⟨Eb, h1, h2⟩ := evs_evv h.ev
  exact ⟨Eb, ⟨h.ln, h.bk, h1, h.nb, fun hE => (h.ne Eb (h2 hE)).2, h.so, h.ok, h.le, h.ot⟩, h2⟩
theorem LoX.foLt {w : World} {B P Mb : Nat} {t : Ln.Terms} {E : List Ln.Ev} {g : Ln.St} {day : Int} {L : List En} {evv bkv : Value} (h : LoX w B P Mb t E g day L evv bkv) (b : Nat) (hb : Fo B P Mb evv bkv b) : b < w.heap.size := by
  rcases hb with rfl | hb | hb
  · exact At.lt (v := .int .i64 t.st) h.ln
  · have h1 := At.lt h.bk.pl
    have h2 := h.bk.lt
    rcases hb with rfl | rfl | hb
    · exact h1
    · omega
    · exact (h.bk.own hb).2
  · exact (own_base h.ev hb).2
theorem LoX.keep {S : Nat → Prop} {w w' : World} {B P Mb : Nat} {t : Ln.Terms} {E : List Ln.Ev} {g : Ln.St} {day : Int} {L : List En} {evv bkv : Value} (h : LoX w B P Mb t E g day L evv bkv) (hk : Keep S w w') (hs : ∀ b, Fo B P Mb evv bkv b → ¬ S b) : LoX w' B P Mb t E g day L evv bkv :=
  ⟨At.keep (v := .int .i64 t.st) h.ln hk (hs B (.inl rfl)), h.bk.keep hk (fun b hb => hs b (.inr (.inl hb))), own_keep h.ev hk (fun b hb => hs b (.inr (.inr hb))), h.nb, h.ne, h.so, h.ok, h.le, h.ot⟩
theorem Lo.keep {S F : Nat → Prop} {w w' : World} {B : Nat} {t : Ln.Terms} {E : List Ln.Ev} {g : Ln.St} {day : Int} {L : List En} (h : Lo w B t E g day L F) (hk : Keep S w w') (hs : ∀ b, b < w.heap.size → F b → ¬ S b) : Lo w' B t E g day L F := by
  obtain ⟨P, Mb, evv, bkv, h1, h2⟩ := h
  exact ⟨P, Mb, evv, bkv, h1.keep hk (fun b hb => hs b (h1.foLt b hb) (h2 b hb)), h2⟩
theorem Lo.mono {F G : Nat → Prop} {w : World} {B : Nat} {t : Ln.Terms} {E : List Ln.Ev} {g : Ln.St} {day : Int} {L : List En} (h : Lo w B t E g day L F) (hs : ∀ b, b < w.heap.size → F b → G b) : Lo w B t E g day L G := by
  obtain ⟨P, Mb, evv, bkv, h1, h2⟩ := h
  exact ⟨P, Mb, evv, bkv, h1, fun b hb => hs b (h1.foLt b hb) (h2 b hb)⟩
theorem Lo.drew {F : Nat → Prop} {w : World} {B : Nat} {t : Ln.Terms} {E : List Ln.Ev} {g : Ln.St} {day : Int} {L : List En} (h : Lo w B t E g day L F) : Lo w.drew B t E g day L F :=
  h.keep (S := fun _ => False) ((Keep.refl _ _).drew) (fun _ _ _ x => x)
theorem rt_ok {t : Ln.Terms} (h : rtB t = true) : Ln.OkT t := by
  unfold rtB at h
  simp at h
  obtain ⟨⟨⟨⟨⟨h1, h2⟩, h3⟩, h4⟩, h5⟩, h6⟩ := h
  exact ⟨h1.1, h1.2, h2.1, h2.2, h3.1, h3.2, h4.1, h4.2, h5.1, h5.2⟩
theorem openL (t : Ln.Terms) (w : World) (h : rtB t = true) :
    Calls Tryz.prog 23 #[tmV t] w fun e w' => ∃ B, e = .returned (.tuple #[.pointer (some ⟨B, 0, none⟩), .int .i64 0]) ∧ Lo w' B t [] (Ln.start t) t.st [] (Wd (fun _ => False) w w') ∧ Below w.heap.size w w' := by
  refine (open_good t w h).mono ?_
  rintro e w' ⟨⟨B, P, Mb, rfl, hB, hM, hPB, hA, hbk⟩, hb⟩
  have hMP := hbk.lt
  refine ⟨B, rfl, ⟨P, Mb, .slice none 0 0, .slice none 0 0, ⟨hA, hbk, World.ownsRow_nil _ _ _ _, ?_, fun b hb => (by cases hb), List.Pairwise.nil, fun e he => (by simp at he), (by simp), rt_ok h⟩, ?_⟩, hb⟩
  · rintro (h1 | h1 | h1)
    · omega
    · omega
    · cases h1
  · have hBl := At.lt (v := .int .i64 t.st) hA
    rintro b (rfl | (rfl | rfl | h1) | h1)
    · exact .inr ⟨hB, hBl⟩
    · exact .inr ⟨by omega, by omega⟩
    · exact .inr ⟨hM, by omega⟩
    · cases h1
    · cases h1
theorem runL (w : World) (B : Nat) (t : Ln.Terms) (E : List Ln.Ev) (g0 : Ln.St) (day0 : Int) (L : List En) (F : Nat → Prop) (h : Lo w B t E g0 day0 L F) (hL : L.length ≤ 4000000000000) (m : Nat) (h0 : day0 ≤ t.st + m) (hm : m ≤ 3700) (hmv : Mv w) (hgm : ¬ F 1) :
    Calls Tryz.prog 17 #[.pointer (some ⟨B, 0, none⟩), .int .i64 (t.st + m)] w fun e w' => e = .returned (.int .i64 0) ∧ Lo w' B t E (Ln.run t cdOf (wtOf t.ba) E m) (t.st + m) (bkP t.st (fun k => (yOf t E k).am) L m) (Wd F w w') ∧ Keep F w w' := by
  obtain ⟨P, Mb, evv, bkv, h1, h2⟩ := h
  obtain ⟨Eb, h3, h4⟩ := h1.is
  refine (run_any w B P Mb Eb t E g0 day0 L evv bkv h3 hL m h0 hm hmv (fun x => hgm (h2 _ (.inr (.inl x))))).mono ?_
  rintro e w' ⟨rfl, bkv', hA, hbk, hon, hk⟩
  have hBl := h1.foLt B (.inl rfl)
  refine ⟨rfl, ⟨P, Mb, evv, bkv', ⟨hA, hbk, own_keep h1.ev hk (fun b hb x => ?_), BkS.new hon hBl h1.nb, fun b hb => ⟨(h1.ne b hb).1, BkS.new hon (own_base h1.ev hb).2 (h1.ne b hb).2⟩, h1.so, h1.ok, h1.le, h1.ot⟩, ?_⟩, hk.mono (fun b _ hb => hb.elim (fun e => h2 b (.inl e)) (fun e => h2 b (.inr (.inl e))))⟩
  · have := h1.ne b hb
    exact x.elim this.1 this.2
  · rintro b (rfl | (rfl | rfl | hb) | hb)
    · exact .inl (h2 _ (.inl rfl))
    · exact .inl (h2 _ (.inr (.inl (.inl rfl))))
    · exact .inl (h2 _ (.inr (.inl (.inr (.inl rfl)))))
    · rcases hon with e | ⟨c, e1, e2⟩
      · exact .inl (h2 _ (.inr (.inl (.inr (.inr (e.symm.trans hb))))))
      · have : c = b := by rw [e1] at hb; exact Option.some.inj hb
        subst this
        exact .inr ⟨e2, (hbk.own hb).2⟩
    · exact .inl (h2 _ (.inr (.inr hb)))
end Go.Proofs.YtanndhoimpnhpaaGreatDoor
namespace Go.Proofs.YtanndhoimpnhpaaGreatDoor
open Go.RowKit
theorem run_copy_rowK {P : Program} (w : World) (dT sT ty elem : TypeId) (k g o dLen dCap : Nat) (a : Addr) (sLen sCap : Nat) (cur : Array Value) (t : TypeId) (cs : List Value)
    (hu : P.underlying dT = some (.slice elem)) (hs : (P.info? elem).map (·.size) = some k)
    (hg : w.heap[g]? = some (.cells cur t (0, 0))) (hn : cs.length = Nat.min sLen dLen * k)
    (hsrc : ∀ j v, cs[j]? = some v → w.cell? (a.add j) = some v) (hfit : o + cs.length ≤ cur.size) (h1 : ∀ v ∈ cs, v.oneCell' = true) :
    (Builtin.copy_ #[dT, sT] ty #[.slice (some ⟨g, o, none⟩) dLen dCap, .slice (some a) sLen sCap]).run P w =
      .ok (goInt (Nat.min sLen dLen)) (w.setRow g (cur.toList.take o ++ cs ++ cur.toList.drop (o + cs.length)).toArray) := by
  have hl := run_loadCells_list (P := P) w a cs hsrc
  have hst := run_storeCells_at P g o t cs 0 cur w hg (by simpa using hfit) h1
  cases hq : P.info? elem with
  | none => simp [hq] at hs
  | some i =>
    have hi : i.size = k := by simpa [hq] using hs
    simp [Builtin.copy_, run_underlying hu, Builtin.lenOf, Builtin.firstCells, sizeOf, typeInfo, hq, hi, ← hn, hl, hst]
theorem run_copy_noneK {P : Program} (w : World) (dT sT ty elem : TypeId) (k : Nat) (d a : Option Addr) (dLen dCap sLen sCap : Nat) (hu : P.underlying dT = some (.slice elem)) (hs : (P.info? elem).map (·.size) = some k) (hn : Nat.min sLen dLen = 0) :
    (Builtin.copy_ #[dT, sT] ty #[.slice d dLen dCap, .slice a sLen sCap]).run P w = .ok (goInt 0) w := by
  cases hq : P.info? elem with
  | none => simp [hq] at hs
  | some i =>
    have hl : ∀ (x : Addr), (loadCells x 0).run P w = .ok #[] w := fun x => by simpa using run_loadCells_list (P := P) w x [] (by simp)
    cases d <;> cases a <;> simp [Builtin.copy_, run_underlying hu, Builtin.lenOf, Builtin.firstCells, sizeOf, typeInfo, hq, hn, storeCells, hl]
theorem wp_copy_at {P : Program} (w : World) {o : Oper} {a : Act} {K : Act → World → Prop} {Q : Exit → Act → World → Prop} (d s : Operand) (t t' : TypeId)
    (ho : o.op = .call { callee := .builtin .copy, args := #[d, s], argTypes := #[t, t'] }) (v u : Value) (hd : a.eval d = v) (hs : a.eval s = u) {v' : Value} {w' : World}
    (hr : (Builtin.copy_ #[t, t'] o.type #[v, u]).run P w = .ok v' w') (h : K (a.put o.dst v') w') : o.wp P a w K Q := by
  unfold Oper.wp execOp
  simp only [ho, resolve, invoke, builtin, Sem.run_bind, Sem.run_pure, Result.andThen_ok, List.map_toArray, List.map_cons, List.map_nil, hd, hs, hr]
  exact h
theorem wpList_copy_at {P : Program} (w : World) {ops : Array Oper} {rest : List Oper} {o : Oper} {a : Act} {Q : Exit → Act → World → Prop} (hgd : o.guard = none) (d s : Operand) (t t' : TypeId)
    (ho : o.op = .call { callee := .builtin .copy, args := #[d, s], argTypes := #[t, t'] }) (v u : Value) (hd : a.eval d = v) (hs : a.eval s = u) {v' : Value} {w' : World}
    (hr : (Builtin.copy_ #[t, t'] o.type #[v, u]).run P w = .ok v' w') (h : wpList P ops Q rest (a.put o.dst v') w') : wpList P ops Q (o :: rest) a w :=
  wpList_plain hgd fun _ hK => wp_copy_at w d s t t' ho v u hd hs hr (hK _ _ h)
theorem wpList_append_to {P : Program} (w : World) {ops : Array Oper} {rest : List Oper} {o : Oper} {a : Act} {Q : Exit → Act → World → Prop} (hgd : o.guard = none) (s x : Operand) (t t' : TypeId)
    (ho : o.op = .call { callee := .builtin .append, args := #[s, x], argTypes := #[t, t'] }) (v u : Value) (hs : a.eval s = v) (hx : a.eval x = u) {v' : Value} {w' : World}
    (hr : (Builtin.append_ #[t, t'] o.type #[v, u]).run P w = .ok v' w') (h : wpList P ops Q rest (a.put o.dst v') w') : wpList P ops Q (o :: rest) a w :=
  wpList_plain hgd fun _ hK => by
    unfold Oper.wp execOp
    simp only [ho, resolve, invoke, builtin, Sem.run_bind, Sem.run_pure, Result.andThen_ok, List.map_toArray, List.map_cons, List.map_nil, hs, hx, hr]
    exact hK _ _ h
theorem keep_setRow (w : World) (g : Nat) (x : Array Value) : Keep (fun b => b = g) w (w.setRow g x) := by
  refine ⟨rfl, rfl, rfl, ?_, fun b _ hb => ?_⟩
  · unfold World.setRow; simp
  · unfold World.setRow
    simp only
    rw [Array.getElem?_modify, if_neg (fun e => hb e.symm)]
theorem setRow_row {w : World} {g : Nat} {cur : Array Value} {t : TypeId} (hg : w.heap[g]? = some (.cells cur t (0, 0))) (x : Array Value) : (w.setRow g x).heap[g]? = some (.cells x t (0, 0)) := setRow_heap w g cur x t _ hg
theorem evs_cell1 : ∀ (l : List Ln.Ev) (v : Value), v ∈ evs l → v.oneCell' = true
  | [], _, h => by simp [evs] at h
  | e :: r, v, h => by
    simp only [evs, List.mem_cons] at h
    rcases h with rfl | rfl | rfl | rfl | h
    · rfl
    · rfl
    · rfl
    · rfl
    · exact evs_cell1 r v h
theorem evs_take (l : List Ln.Ev) (i : Nat) : (evs l).take (i * 4) = evs (l.take i) := by
  by_cases h : i ≤ l.length
  · have e : l = l.take i ++ l.drop i := (List.take_append_drop i l).symm
    have : evs l = evs (l.take i) ++ evs (l.drop i) := by rw [← So.evs_append, List.take_append_drop]
    rw [this, List.take_append_of_le_length (by rw [So.evs_len, List.length_take]; omega), List.take_of_length_le (by rw [So.evs_len, List.length_take]; omega)]
  · rw [List.take_of_length_le (by rw [So.evs_len]; omega), List.take_of_length_le (by omega)]
theorem evs_drop (l : List Ln.Ev) (i : Nat) : (evs l).drop (i * 4) = evs (l.drop i) := by
  by_cases h : i ≤ l.length
  · have : evs l = evs (l.take i) ++ evs (l.drop i) := by rw [← So.evs_append, List.take_append_drop]
    have hl : (evs (l.take i)).length = i * 4 := by rw [So.evs_len, List.length_take]; omega
    rw [this, ← hl, List.drop_left]
  · rw [List.drop_eq_nil_of_le (by rw [So.evs_len]; omega), List.drop_eq_nil_of_le (by omega)]
    rfl
def laid (cur : List Value) (o : Nat) (cs : List Value) : List Value := cur.take o ++ cs ++ cur.drop (o + cs.length)
theorem laid_len (cur : List Value) (o : Nat) (cs : List Value) (h : o + cs.length ≤ cur.length) : (laid cur o cs).length = cur.length := by
  unfold laid
  simp
  omega
end Go.Proofs.YtanndhoimpnhpaaGreatDoor
namespace Go.Proofs.YtanndhoimpnhpaaGreatDoor
open Go.ChangeShapes Go.WideShapes Go.RowKit Go.WideMaps Go.Maps Cal
theorem sizeEnp : (Tryz.prog.info? 114).map (·.size) = some 3 := by kernel_rfl
theorem ens_cell1 : ∀ (l : List En) (v : Value), v ∈ ens l → v.oneCell' = true
  | [], _, h => by simp [ens] at h
  | e :: r, v, h => by
    simp only [ens, List.mem_cons] at h
    rcases h with rfl | rfl | rfl | h
    · rfl
    · rfl
    · rfl
    · exact ens_cell1 r v h
theorem ens_drop (l : List En) (i : Nat) (h : i ≤ l.length) : (ens l).drop (i * 3) = ens (l.drop i) := by
  have : ens l = ens (l.take i) ++ ens (l.drop i) := by rw [← ens_append, List.take_append_drop]
  have hl : (ens (l.take i)).length = i * 3 := by rw [ens_len, List.length_take]; omega
  rw [this, ← hl, List.drop_left]
def kf (x : Int) (n : Nat) : Nat := min (max x 0).toNat n
theorem kf_le (x : Int) (n : Nat) : kf x n ≤ n := Nat.min_le_right _ _
theorem bslice_from (p : Option Addr) (n cap k : Nat) (hk : k ≤ n) (W : World) :
    ∃ q, (Instr.sliceAt 54 (.slice p n cap) (some (.int .i64 (k : Int))) none none).run Tryz.prog W = .ok (.slice q (n - k) (cap - k)) W ∧ q = (if cap = k then p else p.map (·.add (k * 3))) := by
  refine ⟨_, ?_, rfl⟩
  simp [Instr.sliceAt, run_underlying Tryz.underlying54, Instr.slice, Instr.sliceBounds, Instr.sliceBound, asIntOf, Result.andThen, hk]
set_option maxRecDepth 10000 in
set_option maxHeartbeats 4000000 in
theorem from_any (w : World) (P : Nat) (bkv : Value) (Mb : Nat) (L : List En) (h : BkIs w P bkv Mb L) (hL : L.length ≤ 4000000000000) (x : Int) :
    Calls Tryz.prog 46 #[.pointer (some ⟨P, 0, none⟩), .int .i64 x] w fun r w' => ∃ v, r = .returned v ∧ w'.ownsRow w.heap.size 114 3 v (L.length - kf x L.length) (ens (L.drop (kf x L.length))) ∧ Below w.heap.size w w' := by
  obtain ⟨bp, bcap, rfl⟩ := own_slice h.ow
  obtain ⟨i0, hi0, hz0, hz1, hz2⟩ := info_parts infoEntry
  have hk := kf_le x L.length
  obtain ⟨x1, hx1⟩ : ∃ x1, x1 = max x 0 := ⟨_, rfl⟩
  obtain ⟨k, hkk⟩ : ∃ k, k = kf x L.length := ⟨_, rfl⟩
  rw [← hkk] at hk ⊢
  obtain ⟨m, hm⟩ : ∃ m, m = L.length - k := ⟨_, rfl⟩
  rw [← hm]
  have hk2 : (k : Int) = min x1 L.length := by
    rw [hkk, hx1]
    unfold kf
    omega
  have HK2 : Hid ((k : Int) = min x1 L.length) := hk2
  have HX1 : Hid (x1 = max x 0) := hx1
  have HS : Hid (∀ W : World, ∃ q, (Instr.sliceAt 54 (.slice bp L.length bcap) (some (.int .i64 (k : Int))) none none).run Tryz.prog W = .ok (.slice q m (bcap - k)) W ∧ q = (if bcap = k then bp else bp.map (·.add (k * 3)))) := fun W => by rw [hm]; exact bslice_from bp L.length bcap k hk W
  have c0 : w.drew.cell? ⟨P, 0, none⟩ = some (.slice bp L.length bcap) := h.pl.cell 0 rfl
  have hcells : ∀ j u, (ens (L.drop k))[j]? = some u → ∀ a, (if bcap = k then bp else bp.map (·.add (k * 3))) = some a → w.cell? (a.add j) = some u := fun j u hj a ha => by
    obtain ⟨hl, ⟨hn, hz⟩ | ⟨gg, cap, cur, hv, hg1, hg2, hg3, hg4, hg5, hg6⟩⟩ := id h.ow
    · have : L = [] := List.length_eq_zero_iff.1 hz
      subst this
      simp [ens] at hj
    · injection hv with e1 e2 e3
      subst e1 e3
      have hjl := (List.getElem?_eq_some_iff.1 hj).1
      rw [ens_len, List.length_drop] at hjl
      rw [← ens_drop L k hk, List.getElem?_drop] at hj
      rw [if_neg (by omega)] at ha
      have hc := h.ow.cellAt (k * 3 + j) (by omega)
      rw [hj] at hc
      simp only [Option.map_some, Option.some.injEq] at ha
      subst ha
      rw [Addr.add_lit, Addr.add_lit, Nat.zero_add]
      exact hc
  have HN : Hid (∀ a, (if bcap = k then bp else bp.map (·.add (k * 3))) = some a → ∀ j u, (ens (L.drop k))[j]? = some u → w.cell? (a.add j) = some u) := fun a ha j u hj => hcells j u hj a ha
  have HE : Hid ((if bcap = k then bp else bp.map (·.add (k * 3))) = none → m = 0) := fun hn => by
    obtain ⟨hl, ⟨hn', hz⟩ | ⟨gg, cap, cur, hv, hg⟩⟩ := h.ow
    · omega
    · injection hv with e1 e2 e3
      subst e1
      split at hn <;> simp at hn
  generalize hq0 : (if bcap = k then bp else bp.map (·.add (k * 3))) = q at *
  clear hq0 hcells hx1 hkk hk2
  have HC : Hid (w.drew.cell? ⟨P, 0, none⟩ = some (.slice bp L.length bcap)) := c0
  clear h c0
  have hmk := run_make (P := Tryz.prog) w.drew 54 114 i0 _ Tryz.underlying54 hi0 hz0 .i64 .i64 (m : Int) (m : Int) (by omega) (Int.le_refl _) (by rw [hz2]; omega) (by omega)
  obtain ⟨ROW, hROW⟩ : ∃ ROW, ROW = madeCells (Value.agg #[.int .i64 0, .int .i64 0, .int .i64 0]).cells ((m : Int).toNat * i0.size) := ⟨_, rfl⟩
  have hRs : ROW.size = m * 3 := by rw [hROW, hz1]; simp [madeCells]
  rw [← hROW] at hmk
  simp only [Int.toNat_natCast] at hmk
  obtain ⟨W1, hW1⟩ : ∃ W1, W1 = w.drew.alloc (.cells ROW 114) := ⟨_, rfl⟩
  have hb1 : Below w.heap.size w W1 := by rw [hW1]; exact (Below.refl _ _).drew.alloc (Nat.le_refl _) _
  have hrow : W1.heap[w.heap.size]? = some (.cells ROW 114 (0, 0)) := by
    rw [hW1]
    show (w.heap.push (.cells ROW 114))[w.heap.size]? = _
    simp
  have hdl : (ens (L.drop k)).length = m * 3 := by rw [ens_len, List.length_drop, hm]
  have hmx : m ≤ maxLen := by unfold maxLen; omega
  have hcp : ∃ r W', (∀ ty, (Builtin.copy_ #[54, 54] ty #[.slice (some ⟨w.heap.size, 0, none⟩) m m, .slice q m (bcap - k)]).run Tryz.prog W1 = .ok r W') ∧ W'.ownsRow w.heap.size 114 3 (.slice (some ⟨w.heap.size, 0, none⟩) m m) m (ens (L.drop k)) ∧ Below w.heap.size w W' := by
    by_cases hm0 : m = 0
    · have hnil : L.drop k = [] := List.drop_eq_nil_of_le (by omega)
      refine ⟨_, _, fun ty => run_copy_noneK W1 _ _ ty 114 3 _ _ _ _ _ _ Tryz.underlying54 sizeEnp (by rw [hm0]; rfl), ⟨hdl, .inr ⟨w.heap.size, m, ROW, rfl, Nat.le_refl _, hrow, Nat.le_refl _, hmx, hRs, ?_⟩⟩, hb1⟩
      rw [hm0, hnil]
      rfl
    · cases q with
      | none => exact absurd (HE.out rfl) hm0
      | some a =>
        have hmin : Nat.min m m = m := Nat.min_self m
        refine ⟨_, _, fun ty => run_copy_rowK W1 _ _ ty 114 3 w.heap.size 0 m m a m (bcap - k) ROW 114 (ens (L.drop k)) Tryz.underlying54 sizeEnp hrow (by rw [hdl, hmin]) (fun j u hj => ?_) (by rw [hdl, hRs]; omega) (fun v hv => ens_cell1 _ v hv), ⟨hdl, .inr ⟨w.heap.size, m, _, rfl, Nat.le_refl _, setRow_row hrow _, Nat.le_refl _, hmx, ?_, ?_⟩⟩, ?_⟩
        · have hc := HN.out a rfl j u hj
          have hab : (a.add j).block < w.heap.size := World.block_lt_of_cell? _ _ hc
          exact (World.cell?_of_block (w := w) (a := a.add j) (hb1.block _ hab)).trans hc
        · simp [hdl, hRs]
        · have : ROW.toList.drop (0 + (ens (L.drop k)).length) = [] := List.drop_eq_nil_of_le (by rw [hdl, Array.length_toList, hRs]; omega)
          rw [this]
          simp
          exact List.take_of_length_le (by omega)
        · have kk := keep_setRow W1 w.heap.size (ROW.toList.take 0 ++ ens (L.drop k) ++ ROW.toList.drop (0 + (ens (L.drop k)).length)).toArray
          exact ⟨kk.os.trans hb1.os, kk.tape.trans hb1.tape, kk.output.trans hb1.output, Nat.le_trans hb1.size kk.size, fun b hb => (kk.block b (Nat.lt_of_lt_of_le hb hb1.size) (by omega)).trans (hb1.block b hb)⟩
  obtain ⟨r, W', hr, ho, hbW⟩ := hcp
  have HR : Hid (∀ ty, (Builtin.copy_ #[54, 54] ty #[.slice (some ⟨w.heap.size, 0, none⟩) m m, .slice q m (bcap - k)]).run Tryz.prog W1 = .ok r W') := hr
  have HEnd : Hid (∃ v, Ending.returned (.slice (some ⟨w.heap.size, 0, none⟩) m m) = .returned v ∧ W'.ownsRow w.heap.size 114 3 v m (ens (L.drop k)) ∧ Below w.heap.size w W') := ⟨_, rfl, ho, hbW⟩
  rw [← hW1] at hmk
  have HMK : Hid ((Instr.makeSlice 54 (.int .i64 (m : Int)) (.int .i64 (m : Int))).run Tryz.prog w.drew = .ok (.slice (some ⟨w.heap.size, 0, none⟩) m m) W1) := hmk
  clear hr ho hbW hmk hW1 hb1 hrow hdl hROW hRs hz1 hz2 hi0 hz0 HN HE hm hmx
  have z1 : (0 : Int) ≤ (L.length : Int) := by omega
  go_enter Tryz.func46, Tryz.ntmps46
  go_upto_region 1 with fail
  refine wp_region_held_drew (S := fun wx => wx.cell? ⟨P, 0, none⟩ = some (.slice bp L.length bcap)) (by kernel_rfl) HC.out (fun hHeld => ?_)
  refine wpAnyH_take (i := 0) (v := (.pointer (some ⟨P, 0, none⟩))) rfl (by kernel_rfl) (by kernel_rfl) (by kernel_rfl) (fun _ _ _ h => h) (Or.inl ⟨by rfl, fun wx hSw => by kernel_rfl⟩) (by assumption) ?_
  simp only [Act.put, List.getElem_toArray, List.getElem_cons_zero, List.setIfInBounds_toArray, List.set_cons_zero, List.set_cons_succ]
  refine wpAnyH_take (i := 1) (v := (.pointer (some ⟨P, 0, none⟩))) rfl (by kernel_rfl) (by kernel_rfl) (by kernel_rfl) (fun _ _ _ h => h) (Or.inl ⟨by rfl, fun wx hSw => by kernel_rfl⟩) (by assumption) ?_
  simp only [Act.put, List.getElem_toArray, List.getElem_cons_succ, List.getElem_cons_zero, List.setIfInBounds_toArray, List.set_cons_zero, List.set_cons_succ]
  refine wpAnyH_take (i := 2) (v := (.pointer (some ⟨P, 0, none⟩))) rfl (by kernel_rfl) (by kernel_rfl) (by kernel_rfl) (fun _ _ _ h => h) (Or.inl ⟨by rfl, fun wx hSw => by kernel_rfl⟩) (by assumption) ?_
  simp only [Act.put, List.getElem_toArray, List.getElem_cons_succ, List.getElem_cons_zero, List.setIfInBounds_toArray, List.set_cons_zero, List.set_cons_succ]
  refine wpAnyH_take (i := 3) (v := (.slice bp L.length bcap)) rfl (by kernel_rfl) (by kernel_rfl) (by kernel_rfl) (fun _ _ _ h => h) (Or.inl ⟨by rfl, fun wx hSw => by ((try dsimp only at hSw); go_simp)⟩) (by assumption) ?_
  simp only [Act.put, List.getElem_toArray, List.getElem_cons_succ, List.getElem_cons_zero, List.setIfInBounds_toArray, List.set_cons_zero, List.set_cons_succ]
  refine wpAnyH_take (i := 4) (v := (.int .i64 x)) rfl (by kernel_rfl) (by kernel_rfl) (by kernel_rfl) (fun _ _ _ h => h) (Or.inl ⟨by rfl, fun wx hSw => by kernel_rfl⟩) (by assumption) ?_
  simp only [Act.put, List.getElem_toArray, List.getElem_cons_succ, List.getElem_cons_zero, List.setIfInBounds_toArray, List.set_cons_zero, List.set_cons_succ]
  refine wpAnyH_take (i := 5) (v := (.int .i64 x1)) rfl (by kernel_rfl) (by kernel_rfl) (by kernel_rfl) (fun _ _ _ h => h) (Or.inl ⟨by rfl, fun wx hSw => by (go_simp; have := HX1.out; omega)⟩) (by assumption) ?_
  simp only [Act.put, List.getElem_toArray, List.getElem_cons_succ, List.getElem_cons_zero, List.setIfInBounds_toArray, List.set_cons_zero, List.set_cons_succ]
  refine wpAnyH_take (i := 6) (v := (.pointer (some ⟨P, 0, none⟩))) rfl (by kernel_rfl) (by kernel_rfl) (by kernel_rfl) (fun _ _ _ h => h) (Or.inl ⟨by rfl, fun wx hSw => by kernel_rfl⟩) (by assumption) ?_
  simp only [Act.put, List.getElem_toArray, List.getElem_cons_succ, List.getElem_cons_zero, List.setIfInBounds_toArray, List.set_cons_zero, List.set_cons_succ]
  refine wpAnyH_take (i := 7) (v := (.pointer (some ⟨P, 0, none⟩))) rfl (by kernel_rfl) (by kernel_rfl) (by kernel_rfl) (fun _ _ _ h => h) (Or.inl ⟨by rfl, fun wx hSw => by kernel_rfl⟩) (by assumption) ?_
  simp only [Act.put, List.getElem_toArray, List.getElem_cons_succ, List.getElem_cons_zero, List.setIfInBounds_toArray, List.set_cons_zero, List.set_cons_succ]
  refine wpAnyH_take (i := 8) (v := (.pointer (some ⟨P, 0, none⟩))) rfl (by kernel_rfl) (by kernel_rfl) (by kernel_rfl) (fun _ _ _ h => h) (Or.inl ⟨by rfl, fun wx hSw => by kernel_rfl⟩) (by assumption) ?_
  simp only [Act.put, List.getElem_toArray, List.getElem_cons_succ, List.getElem_cons_zero, List.setIfInBounds_toArray, List.set_cons_zero, List.set_cons_succ]
  refine wpAnyH_take (i := 9) (v := (.slice bp L.length bcap)) rfl (by kernel_rfl) (by kernel_rfl) (by kernel_rfl) (fun _ _ _ h => h) (Or.inl ⟨by rfl, fun wx hSw => by ((try dsimp only at hSw); go_simp)⟩) (by assumption) ?_
  simp only [Act.put, List.getElem_toArray, List.getElem_cons_succ, List.getElem_cons_zero, List.setIfInBounds_toArray, List.set_cons_zero, List.set_cons_succ]
  refine wpAnyH_take (i := 10) (v := (.int .i64 L.length)) rfl (by kernel_rfl) (by kernel_rfl) (by kernel_rfl) (fun _ _ _ h => h) (Or.inl ⟨by rfl, fun wx hSw => by ((try dsimp only at hSw); go_simp)⟩) (by assumption) ?_
  simp only [Act.put, List.getElem_toArray, List.getElem_cons_succ, List.getElem_cons_zero, List.setIfInBounds_toArray, List.set_cons_zero, List.set_cons_succ]
  refine wpAnyH_take (i := 11) (v := (.int .i64 k)) rfl (by kernel_rfl) (by kernel_rfl) (by kernel_rfl) (fun _ _ _ h => h) (Or.inl ⟨by rfl, fun wx hSw => by (go_simp; have := HK2.out; omega)⟩) (by assumption) ?_
  simp only [Act.put, List.getElem_toArray, List.getElem_cons_succ, List.getElem_cons_zero, List.setIfInBounds_toArray, List.set_cons_zero, List.set_cons_succ]
  refine wpAnyH_take (i := 12) (v := (.slice q m (bcap - k))) rfl (by kernel_rfl) (by kernel_rfl) (by kernel_rfl) (fun _ _ _ h => h) (Or.inl ⟨by rfl, fun wx hSw => by (obtain ⟨q', hq1, rfl⟩ := HS.out wx; go_simp)⟩) (by assumption) ?_
  simp only [Act.put, List.getElem_toArray, List.getElem_cons_succ, List.getElem_cons_zero, List.setIfInBounds_toArray, List.set_cons_zero, List.set_cons_succ]
  refine wpAnyH_take (i := 13) (v := (.slice q m (bcap - k))) rfl (by kernel_rfl) (by kernel_rfl) (by kernel_rfl) (fun _ _ _ h => h) (Or.inl ⟨by rfl, fun wx hSw => by kernel_rfl⟩) (by assumption) ?_
  simp only [Act.put, List.getElem_toArray, List.getElem_cons_succ, List.getElem_cons_zero, List.setIfInBounds_toArray, List.set_cons_zero, List.set_cons_succ]
  refine wpAnyH_done (by kernel_rfl) ?_ _
  clear hHeld HS HK2 HX1 HC
  go_upto_region 2 with fail
  refine wp_region_lit ?_
  refine wpList_val (.slice q m (bcap - k)) w.drew rfl rfl ?_
  simp only [Act.put, List.setIfInBounds_toArray, List.set_cons_zero, List.set_cons_succ]
  refine wpList_val (.int .i64 m) w.drew rfl (by go_simp) ?_
  simp only [Act.put, List.setIfInBounds_toArray, List.set_cons_zero, List.set_cons_succ]
  refine wpList_val (.slice (some ⟨w.heap.size, 0, none⟩) m m) W1 rfl (by have h := HMK.out; simp only [execOp, Act.eval]; simp [h, Result.andThen, go_sem]) ?_
  simp only [Act.put, List.setIfInBounds_toArray, List.set_cons_zero, List.set_cons_succ]
  clear HMK
  go_upto_region 3 with fail
  refine wp_region_lit ?_
  refine wpList_val (.slice (some ⟨w.heap.size, 0, none⟩) m m) W1 rfl rfl ?_
  simp only [Act.put, List.setIfInBounds_toArray, List.set_cons_zero, List.set_cons_succ]
  refine wpList_val (.slice q m (bcap - k)) W1 rfl rfl ?_
  simp only [Act.put, List.setIfInBounds_toArray, List.set_cons_zero, List.set_cons_succ]
  refine wpList_copy_at W1 rfl (.tmp 23) (.tmp 24) 54 54 rfl _ _ rfl rfl (HR.out _) ?_
  simp only [Act.put, List.setIfInBounds_toArray, List.set_cons_zero, List.set_cons_succ]
  clear HR
  go_wp2
  go_ret
  exact HEnd.out
set_option maxHeartbeats 1000000 in
theorem bookL (w : World) (B : Nat) (t : Ln.Terms) (E : List Ln.Ev) (g : Ln.St) (day : Int) (L : List En) (F : Nat → Prop) (h : Lo w B t E g day L F) (hL : L.length ≤ 4000000000000) (x : Int) :
    Calls Tryz.prog 21 #[.pointer (some ⟨B, 0, none⟩), .int .i64 x] w fun r w' => ∃ v, r = .returned v ∧ w'.ownsRow w.heap.size 114 3 v (L.length - kf x L.length) (ens (L.drop (kf x L.length))) ∧ Below w.heap.size w w' := by
  obtain ⟨P, Mb, evv, bkv, h1, _⟩ := h
  have c15 : w.cell? ⟨B, 15, none⟩ = some (.pointer (some ⟨P, 0, none⟩)) := h1.ln.cell 15 rfl
  have hF := from_any w P bkv Mb L h1.bk hL x
  clear h1
  go_enter Tryz.func21, Tryz.ntmps21
  go_wp2_with fail
  refine hF.mono ?_
  rintro r w' ⟨v, rfl, ho, hb⟩
  obtain ⟨p, cap, rfl⟩ := own_slice ho
  clear hF
  have HE : Hid (∃ v, Ending.returned (.slice p (L.length - kf x L.length) cap) = .returned v ∧ w'.ownsRow w.heap.size 114 3 v (L.length - kf x L.length) (ens (L.drop (kf x L.length))) ∧ Below w.heap.size w w') := ⟨_, rfl, ho, hb⟩
  clear ho hb
  go_wp2
  go_ret
  exact HE.out
set_option maxRecDepth 10000 in
theorem loanBal_any (w : World) (B : Nat) (t : Ln.Terms) (v : Value) (g : Ln.St) (day : Int) (bk : Value) (h : At w B (ll t v g day bk)) :
    Calls Tryz.prog 20 #[.pointer (some ⟨B, 0, none⟩)] w fun e w' => e = .returned (blV g day) ∧ Below w.heap.size w w' := by
  have c7 : w.cell? ⟨B, 7, none⟩ = some (.int .i64 g.pr) := h.cell 7 rfl
  have c8 : w.cell? ⟨B, 8, none⟩ = some (.int .i64 g.it) := h.cell 8 rfl
  have c9 : w.cell? ⟨B, 9, none⟩ = some (.int .i64 g.du) := h.cell 9 rfl
  have c10 : w.cell? ⟨B, 10, none⟩ = some (.int .i64 g.la) := h.cell 10 rfl
  have c11 : w.cell? ⟨B, 11, none⟩ = some (.int .i64 g.fi) := h.cell 11 rfl
  have c12 : w.cell? ⟨B, 12, none⟩ = some (.int .i64 g.cr) := h.cell 12 rfl
  have c13 : w.cell? ⟨B, 13, none⟩ = some (.int .i64 g.rt) := h.cell 13 rfl
  have c14 : w.cell? ⟨B, 14, none⟩ = some (.int .i64 day) := h.cell 14 rfl
  have hl : B < w.heap.size := At.lt (v := .int .i64 t.st) h
  have hne : ¬ w.heap.size = B := by omega
  clear h
  unfold blV
  go_enter Tryz.func20, Tryz.ntmps20
  go_wp2
  exact bodyPost_ret (v := .agg #[.int .i64 g.pr, .int .i64 g.it, .int .i64 g.du, .int .i64 g.la, .int .i64 g.fi, .int .i64 g.cr, .int .i64 g.rt, .int .i64 day]) (by simp [results, Tryz.results20, go_sem]) rfl ⟨rfl, (Below.refl _ _).alloc (Nat.le_refl _) _⟩
theorem balanceL (w : World) (B : Nat) (t : Ln.Terms) (E : List Ln.Ev) (g : Ln.St) (day : Int) (L : List En) (F : Nat → Prop) (h : Lo w B t E g day L F) :
    Calls Tryz.prog 20 #[.pointer (some ⟨B, 0, none⟩)] w fun r w' => r = .returned (blV g day) ∧ Below w.heap.size w w' := by
  obtain ⟨P, Mb, evv, bkv, h1, _⟩ := h
  exact loanBal_any w B t evv g day _ h1.ln
end Go.Proofs.YtanndhoimpnhpaaGreatDoor
namespace Go.Proofs.YtanndhoimpnhpaaGreatDoor.Ln
open Cal
theorem run_nil_succ (t : Terms) (cd wt : Int → Int) (k : Nat) : run t cd wt [] (k + 1) = (late t (wt (t.st + k)) (early t (t.st + k) (cd (t.st + k)) (run t cd wt [] k))).g := rfl
theorem e_start {t : Terms} {n : Int} (cd : Int) (g : St) (hn : n = t.st) : early t n cd g = enter ⟨g, fun _ => 0⟩ 1 t.pr := by
  subst hn
  unfold early
  simp
theorem e_not {t : Terms} {n : Int} (cd : Int) (g : St) (hn : ¬ n = t.st) (hd : ¬ cd = t.du) : early t n cd g = ⟨g, fun _ => 0⟩ := by
  unfold early
  simp [hn, hd]
theorem e_due {t : Terms} {n : Int} (cd : Int) (g : St) (hn : ¬ n = t.st) (hd : cd = t.du) (hf : g.fr ≤ n) : early t n cd g = enter (enter ⟨g, fun _ => 0⟩ 2 g.du) 3 g.it := by
  unfold early
  simp [hn, hd, hf]
  rfl
theorem cd_first (k : Nat) (hk : k ≤ 30) : cdOf (0 + (k : Int)) = k + 1 :=
  cdOf_is ⟨1900, 1, ok_mk (by decide) (by decide) (by decide) (by decide) (by omega) (by simp [dim]; omega), by unfold num; rw [ys_first, cum_one]; omega⟩
def aT : Terms := ⟨36524, 36500000, 10000, 0, 1, 15⟩
def aS (k : Int) : St := ⟨36500000, 1000 * k, 0, 0, 0, 0, 10000, 0, 365000000000 * k, 0⟩
theorem cd_doc (k : Nat) (hk : k ≤ 30) : cdOf (36524 + (k : Int)) = k + 1 :=
  cdOf_is ⟨2000, 1, ok_mk (by decide) (by decide) (by decide) (by decide) (by omega) (by simp [dim]; omega), by unfold num; rw [cum_one]; have : ys 2000 = 36524 := by decide
                                                                                                                omega⟩
theorem part_doc (x : Int) : part aT x = x / 1000000 / 365 := rfl
theorem late_doc (k : Int) (a : Nat → Int) : (late aT 1 ⟨aS k, a⟩).g = aS (k + 1) := by
  have h1 : part aT (365000000000 * k + 36500000 * (10000 * 1)) - part aT (365000000000 * k) = 1000 := by
    rw [part_doc, part_doc]
    omega
  unfold late aS
  simp only [enter, move]
  rw [h1]
  have e1 : 1000 * k + 1000 = 1000 * (k + 1) := by omega
  have e2 : 365000000000 * k + 36500000 * (10000 * 1) = 365000000000 * (k + 1) := by omega
  rw [e1, e2]
  rfl
theorem run_doc : ∀ k : Nat, k ≤ 13 → run aT cdOf (wtOf 1) [] (k + 1) = aS (k + 1 : Nat)
  | 0, _ => by
    rw [run_nil_succ, wtOf_one _ (by decide), e_start _ _ (by show (36524 : Int) + ((0 : Nat) : Int) = 36524; rfl)]
    have e : enter ⟨run aT cdOf (wtOf 1) [] 0, fun _ => 0⟩ 1 aT.pr = ⟨aS 0, upd (fun _ => 0) 1 36500000⟩ := rfl
    rw [e, late_doc 0]
    rfl
  | k + 1, hk => by
    have ih := run_doc k (by omega)
    rw [run_nil_succ, wtOf_one _ (by decide), ih, e_not _ _ (by show ¬ (36524 : Int) + ((k + 1 : Nat) : Int) = 36524; omega) (by
      show ¬ cdOf (36524 + ((k + 1 : Nat) : Int)) = 15
      rw [cd_doc (k + 1) (by omega)]; omega), late_doc _]
    rfl
theorem run_awake : run aT cdOf (wtOf 1) [] 15 = ⟨36500000, 1000, 14000, 0, 0, 0, 10000, 0, 5475000000000, 0⟩ := by
  have ih := run_doc 13 (by decide)
  rw [run_nil_succ, wtOf_one _ (by decide), ih, e_due _ _ (by decide) (by show cdOf (36524 + ((14 : Nat) : Int)) = 15; rw [cd_doc 14 (by decide)]; rfl) (by decide)]
  rfl
end Go.Proofs.YtanndhoimpnhpaaGreatDoor.Ln
namespace Go.Proofs.YtanndhoimpnhpaaGreatDoor
open Go.RowKit Cal
theorem pick_all (c n : Int) (hc : (Lit.int .i64 c).wf = true) (n0 : 1 ≤ n) (n1 : n ≤ 1000000000000) :
    ∃ r, 0 ≤ r ∧ r < n ∧ ∀ w : World, Calls Tryz.prog 16 #[.int .i64 c, .int .i64 n] w fun e w' => e = .returned (.int .i64 r) ∧ w' = w := by
  have hb := bounds_i64 hc
  by_cases h : c < 0
  · refine ⟨(-(c + 1)) % n, Int.emod_nonneg _ (by omega), Int.emod_lt_of_pos _ (by omega), fun w => ?_⟩
    go_enter Tryz.func16, Tryz.ntmps16
    go_wp2
    go_ret
    exact ⟨ret_int (by rw [← Int.neg_tmod, Int.tmod_eq_emod_of_nonneg (by omega)]), rfl⟩
  · have h' : 0 ≤ c := by omega
    refine ⟨c % n, Int.emod_nonneg _ (by omega), Int.emod_lt_of_pos _ (by omega), fun w => ?_⟩
    go_enter Tryz.func16, Tryz.ntmps16
    go_wp2
    go_ret
    exact ⟨rfl, rfl⟩
theorem Keep.fresh {F : Nat → Prop} {w w1 w2 : World} (h1 : Below w.heap.size w w1) (h2 : Keep F w1 w2) (hF : ∀ b, F b → w.heap.size ≤ b) : Below w.heap.size w w2 :=
  ⟨h2.os.trans h1.os, h2.tape.trans h1.tape, h2.output.trans h1.output, Nat.le_trans h1.size h2.size, fun k hk => (h2.block k (Nat.lt_of_lt_of_le hk h1.size) (fun x => by have := hF k x; omega)).trans (h1.block k hk)⟩
theorem Mv.below {w w1 : World} (h : Mv w) (hb : Below w.heap.size w w1) : Mv w1 := h.keep (S := fun _ => False) (Keep.below hb) (fun x => x)
theorem Mv.lt {w : World} (h : Mv w) : 1 < w.heap.size := World.block_lt_of_cell? _ _ (h 0 _ rfl)
theorem Wd.fresh {w w1 : World} {b : Nat} (h : Wd (fun _ => False) w w1 b) : w.heap.size ≤ b := h.elim (fun x => x.elim) (fun x => x.1)
set_option maxRecDepth 10000 in
set_option maxHeartbeats 1000000 in
theorem awake_any (w : World) (hmv : Mv w) :
    Calls Tryz.prog 12 #[] w fun e w' => e = .returned (.bool true) ∧ Below w.heap.size w w' := by
  have hgl := hmv.lt
  have hO := openL Ln.aT w (by decide)
  go_enter Tryz.func12, Tryz.ntmps12
  go_wp2_with fail
  refine hO.mono ?_
  rintro e w1 ⟨B, rfl, hLo, hb1⟩
  clear hO
  have hR := runL w1 B Ln.aT [] _ _ [] _ hLo (by simp) 15 (by decide) (by decide) (hmv.below hb1) (fun x => by have := Wd.fresh x; omega)
  rw [show Ln.aT.st + ((15 : Nat) : Int) = 36539 from rfl, show wtOf Ln.aT.ba = wtOf 1 from rfl, Ln.run_awake] at hR
  clear hLo
  go_wp2_with fail
  refine hR.mono ?_
  rintro e w2 ⟨rfl, hA2, k2⟩
  clear hR
  have hB2 := Keep.fresh hb1 k2 (fun b x => Wd.fresh x)
  have hL := balanceL w2 B _ _ _ _ _ _ hA2
  clear hA2 k2 hb1
  go_wp2_with fail
  refine hL.mono ?_
  rintro e w3 ⟨rfl, hb3⟩
  have hB3 := hB2.trans (hb3.mono hB2.size)
  clear hL hB2 hb3
  unfold blV
  go_wp2
  go_ret
  exact ⟨rfl, hB3.alloc hB3.size _⟩
end Go.Proofs.YtanndhoimpnhpaaGreatDoor
