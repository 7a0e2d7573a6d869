/- The program's book: the map of its sums, by days and kinds. -/
import Derived.Test.YtanndhoimpnhpaaDoorProg
import Derived.WalkKit
import Derived.Maps.OwnOps
import Derived.Maps.Views
import Derived.DeepKeys4
import Derived.WideKeyEntry
import Derived.Test.YtanndhoimpnhpaaDoorBp
namespace Go.Proofs.YtanndhoimpnhpaaDoor
open Go.ChangeShapes Go.WideShapes Go.RowKit Go.WideMaps Go.Maps

set_option maxRecDepth 100000 in
theorem laidOutP : laidOutB Tryd.prog = true := by kernel_rfl
theorem rowSlot : (119 : TypeId) < Tryd.prog.types.size := of_decide_eq_true (by kernel_rfl)
theorem wideSlot : (match Tryd.prog.underlying 119 with | some (.array _ _) | some (.struct _) => true | _ => false) = true := by kernel_rfl
set_option maxRecDepth 100000 in
theorem lawSlot : KeyLaw Tryd.prog 119 := deep_law_laid laidOutP (m := 2) (by omega) rowSlot (by kernel_rfl) wideSlot
theorem keyedSlot : Keyed Tryd.prog 119 := Keyed.of_law lawSlot
theorem zeroInt (w : World) : (zeroValue 3).run Tryd.prog w = .ok (.int .i64 0) w := by kernel_rfl
set_option maxRecDepth 100000 in
theorem key_ok (d k : Int) (hd : (Lit.int .i64 d).wf = true) (hk : (Lit.int .i64 k).wf = true) : keyOf Tryd.prog 119 (.agg #[.int .i64 d, .int .i64 k]) = some (.string (keyBytes [.int .i64 d, .int .i64 k])) := by
  have hkt : Tryd.prog.keyType 119 = true := by kernel_rfl
  have hsz : ∃ m, Tryd.prog.types.size = m + 1 := ⟨Tryd.prog.types.size - 1, by have h0 : 0 < Tryd.prog.types.size := Nat.lt_of_le_of_lt (Nat.zero_le _) rowSlot; omega⟩
  obtain ⟨fs, hu, hfs⟩ : ∃ fs, Tryd.prog.underlying 119 = some (.struct fs) ∧ (fs.all (·.name != "_") = true ∧ fs.toList.map (fun f => (f.type, f.offset)) = [(3, 0), (3, 1)]) := ⟨_, Tryd.underlying119, by kernel_rfl, by kernel_rfl⟩
  have hc : Tryd.prog.cellsOf 119 = 2 := by kernel_rfl
  have hci : Tryd.prog.cellsOf 3 = 1 := by kernel_rfl
  have hui : Tryd.prog.underlying 3 = some (.int .i64) := by kernel_rfl
  obtain ⟨hn, hfs⟩ := hfs
  obtain ⟨m, hm⟩ := hsz
  unfold keyOf
  simp only [hu]
  rw [if_pos (by simp [hkt, Value.formed, hu, hc]), hm]
  unfold Program.keyLits
  simp only [hu, Value.cells]
  rw [if_pos ⟨by rw [hc]; rfl, hn⟩]
  obtain ⟨f1, f2, hl, e1, e2, e3, e4⟩ : ∃ f1 f2, fs.toList = [f1, f2] ∧ f1.type = 3 ∧ f1.offset = 0 ∧ f2.type = 3 ∧ f2.offset = 1 := by
    obtain ⟨l⟩ := fs
    match l, hfs with
    | [f1, f2], h1 =>
      simp only [List.map_cons, List.map_nil, List.cons.injEq, Prod.mk.injEq] at h1
      exact ⟨f1, f2, rfl, h1.1.1, h1.1.2, h1.2.1.1, h1.2.1.2⟩
  rw [hl, List.mapM_cons, List.mapM_cons, List.mapM_nil]
  simp [e1, e2, e3, e4, hci, Program.keyLits, hui, hd, hk]
theorem wf64 (n : Int) (h : -9223372036854775808 ≤ n ∧ n ≤ 9223372036854775807) : (Lit.int .i64 n).wf = true := by
  have := wrap64_wf n
  rwa [show wrap64 n = n by unfold wrap64; omega] at this
def I64 (n : Int) : Prop := -9223372036854775808 ≤ n ∧ n ≤ 9223372036854775807

theorem wp_lookup_run {Pr : Program} {o : Oper} {a : Act} {w : World} {K : Act → World → Prop} {Q : Exit → Act → World → Prop} (m x : Operand) (t : TypeId) (ho : o.op = .lookup t m x false) (mv kv : Value) (hm : a.eval m = mv) (hx : a.eval x = kv) {v : Value} {w' : World}
    (hr : (Instr.lookup t mv kv false).run Pr w = .ok v w') (h : K (a.put o.dst v) w') : o.wp Pr a w K Q := by
  unfold Oper.wp
  simp [execOp, ho, hm, hx, hr, Result.andThen]
  exact h
theorem wp_entry_run {Pr : Program} {o : Oper} {a : Act} {w : World} {K : Act → World → Prop} {Q : Exit → Act → World → Prop} (m x : Operand) (t : TypeId) (ho : o.op = .mapEntry t m x) (mv kv : Value) (hm : a.eval m = mv) (hx : a.eval x = kv) {v : Value} {w' : World}
    (hr : (Instr.mapEntry t mv kv).run Pr w = .ok v w') (h : K (a.put o.dst v) w') : o.wp Pr a w K Q := by
  unfold Oper.wp
  simp [execOp, ho, hm, hx, hr, Result.andThen]
  exact h
theorem wp_entryStore_run {Pr : Program} {o : Oper} {a : Act} {w : World} {K : Act → World → Prop} {Q : Exit → Act → World → Prop} (m x y : Operand) (t : TypeId) (ho : o.op = .entryStore t m x y) (mv kv yv : Value) (hm : a.eval m = mv) (hx : a.eval x = kv) (hy : a.eval y = yv) {w' : World}
    (hr : (Instr.entryStore t mv kv yv).run Pr w = .ok () w') (h : K (a.put o.dst undef) w') : o.wp Pr a w K Q := by
  unfold Oper.wp
  simp [execOp, ho, hm, hx, hy, hr, Result.andThen]
  exact h
theorem keep_setBlock {w : World} {b : Nat} {es : Array MapEntry} {clock : Nat} (hb : w.heap[b]? = some (.map es clock)) (o' : Obj) : Keep (fun x => x = b) w (ChangeMaps.setBlock w b o') :=
  ⟨rfl, rfl, rfl, by simp [ChangeMaps.setBlock], fun i _ hi => ChangeMaps.heap_setBlock_other hb _ (fun e => hi (by rw [e]))⟩
theorem keep_grown {w w' : World} {b : Nat} (h : w.grownBy w' (some b)) : Keep (fun x => x = b) w w' := ⟨h.os, h.tape, h.output, h.size, fun j hj hs => h.block j hj (fun e => hs (by cases e; rfl))⟩

/-- The map in block b has at most n keys; at each day and kind it tells f. -/
def MapIs (w : World) (b n : Nat) (f : Int → Int → Int) : Prop :=
  ∃ D : DataW Unit, w.ownsMap Tryd.prog 119 (plainElem Tryd.prog 3) b n D ∧ ∀ d k l, keyOf Tryd.prog 119 (.agg #[.int .i64 d, .int .i64 k]) = some l → D.atKey l (.lit (.int .i64 0)) = .lit (.int .i64 (f d k))
theorem MapIs.lt {w : World} {b n : Nat} {f : Int → Int → Int} (h : MapIs w b n f) : b < w.heap.size := by
  obtain ⟨D, h, _⟩ := h
  exact h.lt
theorem MapIs.mono {w : World} {b n m : Nat} {f : Int → Int → Int} (h : MapIs w b n f) (hm : n ≤ m) : MapIs w b m f := by
  obtain ⟨D, h, h2⟩ := h
  exact ⟨D, h.mono hm, h2⟩
theorem MapIs.block {w w' : World} {b n : Nat} {f : Int → Int → Int} (h : MapIs w b n f) (hb : w'.heap[b]? = w.heap[b]?) : MapIs w' b n f := by
  obtain ⟨D, ⟨es, clock, h0, F, hs, hD⟩, h2⟩ := h
  exact ⟨D, ⟨es, clock, hb.trans h0, F, hs, hD⟩, h2⟩
theorem MapIs.made (w : World) : MapIs (w.alloc (.map #[] 0)) w.heap.size 0 (fun _ _ => 0) := ⟨.map [], World.ownsMap_made _ _ _ _, fun _ _ _ _ => rfl⟩
set_option maxRecDepth 100000 in
/-- What the map tells at a key. -/
theorem MapIs.look {w : World} {b n : Nat} {f : Int → Int → Int} (h : MapIs w b n f) (d k : Int) (hd : I64 d) (hk : I64 k) :
    (Instr.lookup 112 (.map (some b)) (.agg #[.int .i64 d, .int .i64 k]) false).run Tryd.prog w = .ok (.int .i64 (f d k)) w := by
  obtain ⟨D, h, h2⟩ := h
  have hkey := key_ok d k (wf64 d hd) (wf64 k hk)
  obtain ⟨c, hrun, hat, _⟩ := h.lookup_int keyedSlot Tryd.underlying112 Tryd.underlying3 (zeroInt w) hkey
  have := h2 d k _ hkey
  rw [hat] at this
  injection this with e
  injection e with _ e
  rw [hrun, e]
set_option maxRecDepth 100000 in
/-- The entry of a key is made ready, and then stored. -/
theorem MapIs.store {w : World} {b n : Nat} {f : Int → Int → Int} (h : MapIs w b n f) (hn : n < maxLen) (d k : Int) (hd : I64 d) (hk : I64 k) :
    ∃ (v0 : Value) (st : Nat) (es1 : Array MapEntry) (clock1 : Nat), (Instr.mapEntry 112 (.map (some b)) (.agg #[.int .i64 d, .int .i64 k])).run Tryd.prog w = .ok (.tuple #[v0, goInt st]) (ChangeMaps.setBlock w b (.map es1 clock1)) ∧
      Keep (fun x => x = b) w (ChangeMaps.setBlock w b (.map es1 clock1)) ∧
      (Instr.lookup 112 (.map (some b)) (.agg #[.int .i64 d, .int .i64 k]) false).run Tryd.prog (ChangeMaps.setBlock w b (.map es1 clock1)) = .ok (.int .i64 (f d k)) (ChangeMaps.setBlock w b (.map es1 clock1)) ∧
      ∀ (a : Int), I64 a → ∃ w', (Instr.entryStore 112 (.map (some b)) (goInt st) (.int .i64 a)).run Tryd.prog (ChangeMaps.setBlock w b (.map es1 clock1)) = .ok () w' ∧
        MapIs w' b (n + 1) (fun x y => if x = d ∧ y = k then a else f x y) ∧ w.grownBy w' (some b) := by
  have hl := h.look d k hd hk
  obtain ⟨D, hown, h2⟩ := h
  have hkey := key_ok d k (wf64 d hd) (wf64 k hk)
  have hz : ∀ u : World, (zeroValue 3).run Tryd.prog u = .ok (.int .i64 0) u := zeroInt
  have hown0 := hown
  obtain ⟨es, clock, hb, F, hs, hD⟩ := hown
  obtain ⟨v0, st, es1, clock1, r1, r2, r3⟩ := Go.WideElems.entry_then_store lawSlot Tryd.underlying112 hz hb F hkey
  generalize hkv : Value.agg #[.int .i64 d, .int .i64 k] = key at *
  refine ⟨v0, st, es1, clock1, r1, keep_setBlock hb _, ?_, ?_⟩
  · rcases lawSlot.find w hkey es.toList F.keys with ⟨q1, q2⟩ | ⟨j, e0, q1, q2, q3⟩
    · have hf : f d k = 0 := by
        rcases Maps.fit_look false keyedSlot Tryd.underlying112 (hz w) hb F hkey with ⟨hrun, _, _⟩ | ⟨e0, y, hm, hk0, _⟩
        · rw [hl] at hrun
          have a := (Result.ok.inj hrun).1
          exact (Value.int.inj a).2
        · exact absurd hk0 (q2 e0 hm)
      have hup : (Instr.mapUpdate 112 (.map (some b)) key (.int .i64 0)).run Tryd.prog w = .ok () (ChangeMaps.setBlock w b (.map (es.push ⟨key, .int .i64 0, clock⟩) (clock + 1))) := by
        simp [Instr.mapUpdate, run_underlying Tryd.underlying112, MapKept.run_getObj_map hb, lawSlot.check w false hkey, q1, MapKept.run_setObj_map _ hb, Result.andThen, ChangeMaps.setBlock]
      have hen : (Instr.mapEntry 112 (.map (some b)) key).run Tryd.prog w = .ok (.tuple #[.int .i64 0, goInt clock]) (ChangeMaps.setBlock w b (.map (es.push ⟨key, .int .i64 0, clock⟩) (clock + 1))) := by
        simp [Instr.mapEntry, run_underlying Tryd.underlying112, MapKept.run_getObj_map hb, lawSlot.check w false hkey, q1, hz, MapKept.run_setObj_map _ hb, Result.andThen, ChangeMaps.setBlock]
      rw [hen] at r1
      have ew := (Result.ok.inj r1).2
      rw [← ew]
      obtain ⟨w', u1, u2, _⟩ := hown0.update keyedSlot Tryd.underlying112 hn hkey (plainElem_int Tryd.underlying3 (wf64 0 (by decide)))
      rw [hup] at u1
      have ew' := (Result.ok.inj u1).2
      rw [ew']
      obtain ⟨c, hrun, hat, _⟩ := u2.lookup_int keyedSlot Tryd.underlying112 Tryd.underlying3 (zeroInt w') hkey
      rw [hrun, hf]
      have hm : IsMap D := ⟨_, hD⟩
      rw [atKey_put_same hm (keyedSlot.key hkey)] at hat
      injection hat with e
      injection e with _ e
      rw [← e]
    · have hj : es[j]? = some e0 := by simpa using q2
      have hsame : es.modify j (fun e => { e with key := key }) = es := by
        apply Array.ext'
        rw [Array.toList_modify, ChangeMaps.modify_eq_set _ _ _ _ q2]
        have : ({ e0 with key := key } : MapEntry) = e0 := by rw [← q3]
        rw [this]
        exact Go.WideElems.set_self _ _ _ q2
      have hen : (Instr.mapEntry 112 (.map (some b)) key).run Tryd.prog w = .ok (.tuple #[e0.val, goInt e0.born]) (ChangeMaps.setBlock w b (.map es clock)) := by
        simp [Instr.mapEntry, run_underlying Tryd.underlying112, MapKept.run_getObj_map hb, lawSlot.check w false hkey, q1, hj, q3, lawSlot.stays w hkey, hsame, MapKept.run_setObj_map _ hb, Result.andThen, ChangeMaps.setBlock]
      rw [hen] at r1
      have ew := (Result.ok.inj r1).2
      rw [← ew]
      have hM : MapIs (ChangeMaps.setBlock w b (.map es clock)) b n f := MapIs.block ⟨D, hown0, h2⟩ ((ChangeMaps.heap_setBlock_same hb _).trans hb.symm)
      have := hM.look d k hd hk
      rw [hkv] at this
      exact this
  · intro a ha
    obtain ⟨es', clock', e1, e2⟩ := r3 (ChangeMaps.setBlock w b (.map es1 clock1)) (.int .i64 a) (ChangeMaps.heap_setBlock_same hb _)
    refine ⟨_, e1, ?_⟩
    have hset : ChangeMaps.setBlock (ChangeMaps.setBlock w b (.map es1 clock1)) b (.map es' clock') = ChangeMaps.setBlock w b (.map es' clock') := by
      simp [ChangeMaps.setBlock]
    rw [hset]
    obtain ⟨w', u1, u2, u3⟩ := hown0.update keyedSlot Tryd.underlying112 hn hkey (plainElem_int Tryd.underlying3 (wf64 a ha))
    rw [e2] at u1
    have ew' := (Result.ok.inj u1).2
    rw [ew']
    refine ⟨⟨_, u2, fun x y l hxy => ?_⟩, u3⟩
    by_cases hx : x = d ∧ y = k
    · obtain ⟨rfl, rfl⟩ := hx
      show _ = DataW.lit (Lit.int .i64 (if x = x ∧ y = y then a else f x y))
      rw [if_pos ⟨rfl, rfl⟩]
      rw [hkv, hkey] at hxy
      cases hxy
      exact atKey_put_same ⟨_, hD⟩ (keyedSlot.key hkey) _ _
    · show _ = DataW.lit (Lit.int .i64 (if x = d ∧ y = k then a else f x y))
      rw [if_neg hx, ← h2 x y l hxy]
      refine atKey_put_other ?_ _ _
      intro e
      subst e
      have := keyedSlot.inj hxy hkey
      rw [← hkv] at this
      injection this with this
      injection this with this
      injection this with t1 t2
      injection t2 with t2
      injection t1 with _ t1
      injection t2 with _ t2
      exact hx ⟨t1, t2⟩
end Go.Proofs.YtanndhoimpnhpaaDoor
