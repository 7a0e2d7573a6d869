/- Joined by program: Mp, Ow, Bw. -/
import Derived.Test.YtanndhoimpnhpaaDoorProg
import Derived.WalkKit
import Derived.Maps.OwnOps
import Derived.Maps.Views
import Derived.DeepKeys4
import Derived.WideKeyEntry
import Derived.Test.YtanndhoimpnhpaaDoorM6
import Derived.Below
import Derived.Maps.AppendAt
import Derived.Deep.AppendLies
import Derived.Test.YtanndhoimpnhpaaDoorM1
import Derived.Test.YtanndhoimpnhpaaDoorM5
import Derived.Deep.RegionLawGrows
/- The program's book: the map of its sums, by days and kinds. -/
namespace Go.Proofs.YtanndhoimpnhpaaDoor
open Go.ChangeShapes Go.WideShapes Go.RowKit Go.WideMaps Go.Maps

set_option maxRecDepth 100000 in
theorem laidOutP : laidOutB Tryd.prog = true := by kernel_rfl
theorem rowSlot : (119 : TypeId) < Tryd.prog.types.size := of_decide_eq_true (by kernel_rfl)
theorem wideSlot : (match Tryd.prog.underlying 119 with | some (.array _ _) | some (.struct _) => true | _ => false) = true := by kernel_rfl
set_option maxRecDepth 100000 in
theorem lawSlot : KeyLaw Tryd.prog 119 := deep_law_laid laidOutP (m := 2) (by omega) rowSlot (by kernel_rfl) wideSlot
theorem keyedSlot : Keyed Tryd.prog 119 := Keyed.of_law lawSlot
theorem zeroInt (w : World) : (zeroValue 3).run Tryd.prog w = .ok (.int .i64 0) w := by kernel_rfl
set_option maxRecDepth 100000 in
theorem key_ok (d k : Int) (hd : (Lit.int .i64 d).wf = true) (hk : (Lit.int .i64 k).wf = true) : keyOf Tryd.prog 119 (.agg #[.int .i64 d, .int .i64 k]) = some (.string (keyBytes [.int .i64 d, .int .i64 k])) := by
  have hkt : Tryd.prog.keyType 119 = true := by kernel_rfl
  have hsz : ∃ m, Tryd.prog.types.size = m + 1 := ⟨Tryd.prog.types.size - 1, by have h0 : 0 < Tryd.prog.types.size := Nat.lt_of_le_of_lt (Nat.zero_le _) rowSlot; omega⟩
  obtain ⟨fs, hu, hfs⟩ : ∃ fs, Tryd.prog.underlying 119 = some (.struct fs) ∧ (fs.all (·.name != "_") = true ∧ fs.toList.map (fun f => (f.type, f.offset)) = [(3, 0), (3, 1)]) := ⟨_, Tryd.underlying119, by kernel_rfl, by kernel_rfl⟩
  have hc : Tryd.prog.cellsOf 119 = 2 := by kernel_rfl
  have hci : Tryd.prog.cellsOf 3 = 1 := by kernel_rfl
  have hui : Tryd.prog.underlying 3 = some (.int .i64) := by kernel_rfl
  obtain ⟨hn, hfs⟩ := hfs
  obtain ⟨m, hm⟩ := hsz
  unfold keyOf
  simp only [hu]
  rw [if_pos (by simp [hkt, Value.formed, hu, hc]), hm]
  unfold Program.keyLits
  simp only [hu, Value.cells]
  rw [if_pos ⟨by rw [hc]; rfl, hn⟩]
  obtain ⟨f1, f2, hl, e1, e2, e3, e4⟩ : ∃ f1 f2, fs.toList = [f1, f2] ∧ f1.type = 3 ∧ f1.offset = 0 ∧ f2.type = 3 ∧ f2.offset = 1 := by
    obtain ⟨l⟩ := fs
    match l, hfs with
    | [f1, f2], h1 =>
      simp only [List.map_cons, List.map_nil, List.cons.injEq, Prod.mk.injEq] at h1
      exact ⟨f1, f2, rfl, h1.1.1, h1.1.2, h1.2.1.1, h1.2.1.2⟩
  rw [hl, List.mapM_cons, List.mapM_cons, List.mapM_nil]
  simp [e1, e2, e3, e4, hci, Program.keyLits, hui, hd, hk]
theorem wf64 (n : Int) (h : -9223372036854775808 ≤ n ∧ n ≤ 9223372036854775807) : (Lit.int .i64 n).wf = true := by
  have := wrap64_wf n
  rwa [show wrap64 n = n by unfold wrap64; omega] at this
def I64 (n : Int) : Prop := -9223372036854775808 ≤ n ∧ n ≤ 9223372036854775807

theorem wp_lookup_run {Pr : Program} {o : Oper} {a : Act} {w : World} {K : Act → World → Prop} {Q : Exit → Act → World → Prop} (m x : Operand) (t : TypeId) (ho : o.op = .lookup t m x false) (mv kv : Value) (hm : a.eval m = mv) (hx : a.eval x = kv) {v : Value} {w' : World}
    (hr : (Instr.lookup t mv kv false).run Pr w = .ok v w') (h : K (a.put o.dst v) w') : o.wp Pr a w K Q := by
  unfold Oper.wp
  simp [execOp, ho, hm, hx, hr, Result.andThen]
  exact h
theorem wp_entry_run {Pr : Program} {o : Oper} {a : Act} {w : World} {K : Act → World → Prop} {Q : Exit → Act → World → Prop} (m x : Operand) (t : TypeId) (ho : o.op = .mapEntry t m x) (mv kv : Value) (hm : a.eval m = mv) (hx : a.eval x = kv) {v : Value} {w' : World}
    (hr : (Instr.mapEntry t mv kv).run Pr w = .ok v w') (h : K (a.put o.dst v) w') : o.wp Pr a w K Q := by
  unfold Oper.wp
  simp [execOp, ho, hm, hx, hr, Result.andThen]
  exact h
theorem wp_entryStore_run {Pr : Program} {o : Oper} {a : Act} {w : World} {K : Act → World → Prop} {Q : Exit → Act → World → Prop} (m x y : Operand) (t : TypeId) (ho : o.op = .entryStore t m x y) (mv kv yv : Value) (hm : a.eval m = mv) (hx : a.eval x = kv) (hy : a.eval y = yv) {w' : World}
    (hr : (Instr.entryStore t mv kv yv).run Pr w = .ok () w') (h : K (a.put o.dst undef) w') : o.wp Pr a w K Q := by
  unfold Oper.wp
  simp [execOp, ho, hm, hx, hy, hr, Result.andThen]
  exact h
theorem keep_setBlock {w : World} {b : Nat} {es : Array MapEntry} {clock : Nat} (hb : w.heap[b]? = some (.map es clock)) (o' : Obj) : Keep (fun x => x = b) w (ChangeMaps.setBlock w b o') :=
  ⟨rfl, rfl, rfl, by simp [ChangeMaps.setBlock], fun i _ hi => ChangeMaps.heap_setBlock_other hb _ (fun e => hi (by rw [e]))⟩
theorem keep_grown {w w' : World} {b : Nat} (h : w.grownBy w' (some b)) : Keep (fun x => x = b) w w' := ⟨h.os, h.tape, h.output, h.size, fun j hj hs => h.block j hj (fun e => hs (by cases e; rfl))⟩

/-- The map in block b has at most n keys; at each day and kind it tells f. -/
def MapIs (w : World) (b n : Nat) (f : Int → Int → Int) : Prop :=
  ∃ D : DataW Unit, w.ownsMap Tryd.prog 119 (plainElem Tryd.prog 3) b n D ∧ ∀ d k l, keyOf Tryd.prog 119 (.agg #[.int .i64 d, .int .i64 k]) = some l → D.atKey l (.lit (.int .i64 0)) = .lit (.int .i64 (f d k))
theorem MapIs.lt {w : World} {b n : Nat} {f : Int → Int → Int} (h : MapIs w b n f) : b < w.heap.size := by
  obtain ⟨D, h, _⟩ := h
  exact h.lt
theorem MapIs.mono {w : World} {b n m : Nat} {f : Int → Int → Int} (h : MapIs w b n f) (hm : n ≤ m) : MapIs w b m f := by
  obtain ⟨D, h, h2⟩ := h
  exact ⟨D, h.mono hm, h2⟩
theorem MapIs.block {w w' : World} {b n : Nat} {f : Int → Int → Int} (h : MapIs w b n f) (hb : w'.heap[b]? = w.heap[b]?) : MapIs w' b n f := by
  obtain ⟨D, ⟨es, clock, h0, F, hs, hD⟩, h2⟩ := h
  exact ⟨D, ⟨es, clock, hb.trans h0, F, hs, hD⟩, h2⟩
theorem MapIs.made (w : World) : MapIs (w.alloc (.map #[] 0)) w.heap.size 0 (fun _ _ => 0) := ⟨.map [], World.ownsMap_made _ _ _ _, fun _ _ _ _ => rfl⟩
set_option maxRecDepth 100000 in
/-- What the map tells at a key. -/
theorem MapIs.look {w : World} {b n : Nat} {f : Int → Int → Int} (h : MapIs w b n f) (d k : Int) (hd : I64 d) (hk : I64 k) :
    (Instr.lookup 112 (.map (some b)) (.agg #[.int .i64 d, .int .i64 k]) false).run Tryd.prog w = .ok (.int .i64 (f d k)) w := by
  obtain ⟨D, h, h2⟩ := h
  have hkey := key_ok d k (wf64 d hd) (wf64 k hk)
  obtain ⟨c, hrun, hat, _⟩ := h.lookup_int keyedSlot Tryd.underlying112 Tryd.underlying3 (zeroInt w) hkey
  have := h2 d k _ hkey
  rw [hat] at this
  injection this with e
  injection e with _ e
  rw [hrun, e]
set_option maxRecDepth 100000 in
/-- The entry of a key is made ready, and then stored. -/
theorem MapIs.store {w : World} {b n : Nat} {f : Int → Int → Int} (h : MapIs w b n f) (hn : n < maxLen) (d k : Int) (hd : I64 d) (hk : I64 k) :
    ∃ (v0 : Value) (st : Nat) (es1 : Array MapEntry) (clock1 : Nat), (Instr.mapEntry 112 (.map (some b)) (.agg #[.int .i64 d, .int .i64 k])).run Tryd.prog w = .ok (.tuple #[v0, goInt st]) (ChangeMaps.setBlock w b (.map es1 clock1)) ∧
      Keep (fun x => x = b) w (ChangeMaps.setBlock w b (.map es1 clock1)) ∧
      (Instr.lookup 112 (.map (some b)) (.agg #[.int .i64 d, .int .i64 k]) false).run Tryd.prog (ChangeMaps.setBlock w b (.map es1 clock1)) = .ok (.int .i64 (f d k)) (ChangeMaps.setBlock w b (.map es1 clock1)) ∧
      ∀ (a : Int), I64 a → ∃ w', (Instr.entryStore 112 (.map (some b)) (goInt st) (.int .i64 a)).run Tryd.prog (ChangeMaps.setBlock w b (.map es1 clock1)) = .ok () w' ∧
        MapIs w' b (n + 1) (fun x y => if x = d ∧ y = k then a else f x y) ∧ w.grownBy w' (some b) := by
  have hl := h.look d k hd hk
  obtain ⟨D, hown, h2⟩ := h
  have hkey := key_ok d k (wf64 d hd) (wf64 k hk)
  have hz : ∀ u : World, (zeroValue 3).run Tryd.prog u = .ok (.int .i64 0) u := zeroInt
  have hown0 := hown
  obtain ⟨es, clock, hb, F, hs, hD⟩ := hown
  obtain ⟨v0, st, es1, clock1, r1, r2, r3⟩ := Go.WideElems.entry_then_store lawSlot Tryd.underlying112 hz hb F hkey
  generalize hkv : Value.agg #[.int .i64 d, .int .i64 k] = key at *
  refine ⟨v0, st, es1, clock1, r1, keep_setBlock hb _, ?_, ?_⟩
  · rcases lawSlot.find w hkey es.toList F.keys with ⟨q1, q2⟩ | ⟨j, e0, q1, q2, q3⟩
    · have hf : f d k = 0 := by
        rcases Maps.fit_look false keyedSlot Tryd.underlying112 (hz w) hb F hkey with ⟨hrun, _, _⟩ | ⟨e0, y, hm, hk0, _⟩
        · rw [hl] at hrun
          have a := (Result.ok.inj hrun).1
          exact (Value.int.inj a).2
        · exact absurd hk0 (q2 e0 hm)
      have hup : (Instr.mapUpdate 112 (.map (some b)) key (.int .i64 0)).run Tryd.prog w = .ok () (ChangeMaps.setBlock w b (.map (es.push ⟨key, .int .i64 0, clock⟩) (clock + 1))) := by
        simp [Instr.mapUpdate, run_underlying Tryd.underlying112, MapKept.run_getObj_map hb, lawSlot.check w false hkey, q1, MapKept.run_setObj_map _ hb, Result.andThen, ChangeMaps.setBlock]
      have hen : (Instr.mapEntry 112 (.map (some b)) key).run Tryd.prog w = .ok (.tuple #[.int .i64 0, goInt clock]) (ChangeMaps.setBlock w b (.map (es.push ⟨key, .int .i64 0, clock⟩) (clock + 1))) := by
        simp [Instr.mapEntry, run_underlying Tryd.underlying112, MapKept.run_getObj_map hb, lawSlot.check w false hkey, q1, hz, MapKept.run_setObj_map _ hb, Result.andThen, ChangeMaps.setBlock]
      rw [hen] at r1
      have ew := (Result.ok.inj r1).2
      rw [← ew]
      obtain ⟨w', u1, u2, _⟩ := hown0.update keyedSlot Tryd.underlying112 hn hkey (plainElem_int Tryd.underlying3 (wf64 0 (by decide)))
      rw [hup] at u1
      have ew' := (Result.ok.inj u1).2
      rw [ew']
      obtain ⟨c, hrun, hat, _⟩ := u2.lookup_int keyedSlot Tryd.underlying112 Tryd.underlying3 (zeroInt w') hkey
      rw [hrun, hf]
      have hm : IsMap D := ⟨_, hD⟩
      rw [atKey_put_same hm (keyedSlot.key hkey)] at hat
      injection hat with e
      injection e with _ e
      rw [← e]
    · have hj : es[j]? = some e0 := by simpa using q2
      have hsame : es.modify j (fun e => { e with key := key }) = es := by
        apply Array.ext'
        rw [Array.toList_modify, ChangeMaps.modify_eq_set _ _ _ _ q2]
        have : ({ e0 with key := key } : MapEntry) = e0 := by rw [← q3]
        rw [this]
        exact Go.WideElems.set_self _ _ _ q2
      have hen : (Instr.mapEntry 112 (.map (some b)) key).run Tryd.prog w = .ok (.tuple #[e0.val, goInt e0.born]) (ChangeMaps.setBlock w b (.map es clock)) := by
        simp [Instr.mapEntry, run_underlying Tryd.underlying112, MapKept.run_getObj_map hb, lawSlot.check w false hkey, q1, hj, q3, lawSlot.stays w hkey, hsame, MapKept.run_setObj_map _ hb, Result.andThen, ChangeMaps.setBlock]
      rw [hen] at r1
      have ew := (Result.ok.inj r1).2
      rw [← ew]
      have hM : MapIs (ChangeMaps.setBlock w b (.map es clock)) b n f := MapIs.block ⟨D, hown0, h2⟩ ((ChangeMaps.heap_setBlock_same hb _).trans hb.symm)
      have := hM.look d k hd hk
      rw [hkv] at this
      exact this
  · intro a ha
    obtain ⟨es', clock', e1, e2⟩ := r3 (ChangeMaps.setBlock w b (.map es1 clock1)) (.int .i64 a) (ChangeMaps.heap_setBlock_same hb _)
    refine ⟨_, e1, ?_⟩
    have hset : ChangeMaps.setBlock (ChangeMaps.setBlock w b (.map es1 clock1)) b (.map es' clock') = ChangeMaps.setBlock w b (.map es' clock') := by
      simp [ChangeMaps.setBlock]
    rw [hset]
    obtain ⟨w', u1, u2, u3⟩ := hown0.update keyedSlot Tryd.underlying112 hn hkey (plainElem_int Tryd.underlying3 (wf64 a ha))
    rw [e2] at u1
    have ew' := (Result.ok.inj u1).2
    rw [ew']
    refine ⟨⟨_, u2, fun x y l hxy => ?_⟩, u3⟩
    by_cases hx : x = d ∧ y = k
    · obtain ⟨rfl, rfl⟩ := hx
      show _ = DataW.lit (Lit.int .i64 (if x = x ∧ y = y then a else f x y))
      rw [if_pos ⟨rfl, rfl⟩]
      rw [hkv, hkey] at hxy
      cases hxy
      exact atKey_put_same ⟨_, hD⟩ (keyedSlot.key hkey) _ _
    · show _ = DataW.lit (Lit.int .i64 (if x = d ∧ y = k then a else f x y))
      rw [if_neg hx, ← h2 x y l hxy]
      refine atKey_put_other ?_ _ _
      intro e
      subst e
      have := keyedSlot.inj hxy hkey
      rw [← hkv] at this
      injection this with this
      injection this with this
      injection this with t1 t2
      injection t2 with t2
      injection t1 with _ t1
      injection t2 with _ t2
      exact hx ⟨t1, t2⟩
end Go.Proofs.YtanndhoimpnhpaaDoor

/- Slices that a call owns: where they lie, what keeps them; append at a region's operation. (Plain: of neither side.) -/
namespace Go.Proofs.YtanndhoimpnhpaaDoor
open Go.RowKit

theorem wp_valD {Pr : Program} {o : Oper} {a : Act} {w : World} {K : Act → World → Prop} {Q : Exit → Act → World → Prop} (v : Value) (w' : World) (hrun : (execOp a.eval o).run Pr w = .ok (.value v) w') (h : K (a.put o.dst v) w') : Oper.wp Pr o a w K Q := by
  unfold Oper.wp
  rw [hrun]
  exact h

theorem wp_append_at {Pr : Program} {o : Oper} {a : Act} (w : World) {K : Act → World → Prop} {Q : Exit → Act → World → Prop} (s x : Operand) (t : TypeId)
    (ho : o.op = .call { callee := .builtin .append, args := #[s, x], argTypes := #[t, t] })
    (base : Nat) (e : TypeId) (i : TypeInfo) (z : Value) (size bytes : Nat) (ht : Pr.underlying t = some (.slice e)) (hi : Pr.info? e = some i) (hz : i.zero = some z)
    (hsize : i.size = size) (hby : i.bytes = bytes) (hzs : z.cells.size = size) (hsz : 0 < size)
    (v : Value) (n : Nat) (xs : List Value) (hs : a.eval s = v) (hown : w.ownsRow base e size v n xs)
    (ad : Addr) (m c : Nat) (news : List Value) (hx : a.eval x = .slice (some ad) m c) (hl : news.length = m * size) (hnews : ∀ j u, news[j]? = some u → w.cell? (ad.add j) = some u) (h1 : ∀ u ∈ news, u.oneCell' = true)
    (h63 : n + m ≤ maxLen) (hbytes : (n + m) * bytes ≤ 140737488355328) (hbase : base ≤ w.heap.size)
    (h : ∀ v' w', w'.ownsRow base e size v' (n + m) (xs ++ news) → w.grownBy w' v.ownBlock → (v'.ownBlock = v.ownBlock ∨ v'.ownBlock = some w.heap.size) → K (a.put o.dst v') w') : o.wp Pr a w K Q := by
  obtain ⟨v', w', hr, h2, h3, _, h5⟩ := run_append_own_at (P := Pr) w base t o.type e i z size bytes ht hi hz hsize hby hzs hsz v n xs hown ad m c news hl hnews h1 h63 hbytes hbase
  unfold Oper.wp execOp
  simp only [ho, resolve, invoke, builtin, Sem.run_bind, Sem.run_pure, Result.andThen_ok, List.map_toArray, List.map_cons, List.map_nil, hs, hx, hr]
  exact h v' w' h2 h3 h5
/-- A slice that lies where the first one lay, or in memory that is new. -/
def OwnNew (w : World) (v0 v : Value) : Prop := v.ownBlock = v0.ownBlock ∨ ∃ b, v.ownBlock = some b ∧ w.heap.size ≤ b
theorem own_slice {w : World} {base : Nat} {e : TypeId} {size : Nat} {v : Value} {n : Nat} {xs : List Value} (h : w.ownsRow base e size v n xs) : ∃ p cap, v = .slice p n cap := by
  obtain ⟨_, ⟨rfl, rfl⟩ | ⟨g, cap, cur, rfl, _⟩⟩ := h
  · exact ⟨_, _, rfl⟩
  · exact ⟨_, _, rfl⟩
theorem own_base {w : World} {base : Nat} {T : TypeId} {size : Nat} {v : Value} {n : Nat} {xs : List Value} (h : w.ownsRow base T size v n xs) {b : Nat} (hb : v.ownBlock = some b) : base ≤ b ∧ b < w.heap.size := by
  obtain ⟨_, ⟨rfl, rfl⟩ | ⟨g, cap, cur, rfl, h4, h5, _⟩⟩ := h
  · cases hb
  · simp only [Value.ownBlock, Option.some.injEq] at hb
    subst hb
    refine ⟨h4, ?_⟩
    rcases Nat.lt_or_ge g w.heap.size with h | h
    · exact h
    · rw [Array.getElem?_eq_none h] at h5
      cases h5
theorem own_keep {S : Nat → Prop} {w w' : World} {base : Nat} {T : TypeId} {size : Nat} {v : Value} {n : Nat} {xs : List Value} (h : w.ownsRow base T size v n xs) (hk : Keep S w w') (hs : ∀ b, v.ownBlock = some b → ¬ S b) : w'.ownsRow base T size v n xs := by
  have hl := fun b hb => (own_base h (b := b) hb).2
  obtain ⟨h1, ⟨h2, h3⟩ | ⟨g, cap, cur, rfl, h4, h5, h6⟩⟩ := h
  · exact ⟨h1, .inl ⟨h2, h3⟩⟩
  · exact ⟨h1, .inr ⟨g, cap, cur, rfl, h4, (hk.block g (hl g rfl) (hs g rfl)).trans h5, h6⟩⟩
theorem OwnNew.apart {W0 : World} {bk0 bkv : Value} (h : OwnNew W0 bk0 bkv) {X : Nat} (hX : X < W0.heap.size) (h0 : ∀ b, bk0.ownBlock = some b → ¬ b = X) : ∀ b, bkv.ownBlock = some b → ¬ b = X := by
  intro b hb hbx
  rcases h with h | ⟨c, h1, h2⟩
  · exact h0 b (h.symm.trans hb) hbx
  · rw [h1] at hb
    cases hb
    omega
end Go.Proofs.YtanndhoimpnhpaaDoor

/- The program's book in memory: its entries, the map of its sums. -/
namespace Go.Proofs.YtanndhoimpnhpaaDoor
open Go.ChangeShapes Go.WideShapes Go.RowKit Go.WideMaps Go.Maps

/-- What entries make of a day and a kind, as a sum of 64 bits. -/
def sumOf (l : List En) (d k : Int) : Int := l.foldl (fun s e => if d = e.d ∧ k = e.k then wrap64 (s + e.a) else s) 0
theorem sumOf_snoc (l : List En) (e : En) (d k : Int) : sumOf (l ++ [e]) d k = if d = e.d ∧ k = e.k then wrap64 (sumOf l d k + e.a) else sumOf l d k := by
  unfold sumOf
  rw [List.foldl_append]
  rfl
theorem wrap64_i64 (n : Int) : I64 (wrap64 n) := by
  unfold I64 wrap64
  omega
theorem sumOf_i64 (l : List En) (d k : Int) : I64 (sumOf l d k) := by
  suffices h : ∀ (l : List En) (s : Int), I64 s → I64 (l.foldl (fun s e => if d = e.d ∧ k = e.k then wrap64 (s + e.a) else s) s) from h l 0 (by unfold I64; decide)
  intro l
  induction l with
  | nil => intro s h; exact h
  | cons e r ih =>
    intro s h
    refine ih _ ?_
    show I64 (if d = e.d ∧ k = e.k then wrap64 (s + e.a) else s)
    split
    · exact wrap64_i64 _
    · exact h

theorem infoEntry : (Tryd.prog.info? 98).map (fun i => (i.zero, i.size, i.bytes)) = some (some (.agg #[.int .i64 0, .int .i64 0, .int .i64 0]), 3, 24) := by kernel_rfl

/-- The program's book. -/
structure BkIs (w : World) (P : Nat) (bkv : Value) (Mb : Nat) (L : List En) : Prop where
  pl : At w P [bkv, .map (some Mb)]
  ow : w.ownsRow (P + 1) 98 3 bkv L.length (ens L)
  mp : MapIs w Mb L.length (sumOf L)
  lt : Mb < P
/-- Which of its blocks a book's writing changes. -/
def BkS (P Mb : Nat) (bkv : Value) (b : Nat) : Prop := b = P ∨ b = Mb ∨ bkv.ownBlock = some b
theorem BkIs.own {w : World} {P : Nat} {bkv : Value} {Mb : Nat} {L : List En} (h : BkIs w P bkv Mb L) {b : Nat} (hb : bkv.ownBlock = some b) : P < b ∧ b < w.heap.size := own_base h.ow hb
theorem BkIs.keep {S : Nat → Prop} {w w' : World} {P : Nat} {bkv : Value} {Mb : Nat} {L : List En} (h : BkIs w P bkv Mb L) (hk : Keep S w w') (hs : ∀ b, BkS P Mb bkv b → ¬ S b) : BkIs w' P bkv Mb L :=
  ⟨At.keep h.pl hk (hs P (.inl rfl)), own_keep h.ow hk (fun b hb => hs b (.inr (.inr hb))), h.mp.block (hk.block Mb h.mp.lt (hs Mb (.inr (.inl rfl)))), h.lt⟩
theorem BkIs.drew {w : World} {P : Nat} {bkv : Value} {Mb : Nat} {L : List En} (h : BkIs w P bkv Mb L) : BkIs w.drew P bkv Mb L := ⟨h.pl.drew, h.ow.drew, h.mp, h.lt⟩
end Go.Proofs.YtanndhoimpnhpaaDoor
