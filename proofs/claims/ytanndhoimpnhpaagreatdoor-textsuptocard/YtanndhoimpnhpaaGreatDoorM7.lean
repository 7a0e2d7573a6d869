/- Joined by program: Mp, Bw, Wr, Pt, PvA. -/
import Derived.Test.YtanndhoimpnhpaaGreatDoorM6
import Derived.Test.YtanndhoimpnhpaaGreatDoorProg
import Derived.WalkKit
import Derived.Maps.OwnOps
import Derived.Maps.Views
import Derived.DeepKeys4
import Derived.WideKeyEntry
import Derived.Test.YtanndhoimpnhpaaGreatDoorM1
import Derived.Test.YtanndhoimpnhpaaGreatDoorM3
import Derived.Deep.RegionLawGrows
import Derived.Deep.RegionHeld3
import Derived.Deep.QuietTactic
import Derived.Deep.CutRange
import Derived.Test.YtanndhoimpnhpaaGreatDoorM2
namespace Go.Proofs.YtanndhoimpnhpaaGreatDoor
open Go.ChangeShapes Go.WideShapes Go.RowKit Go.WideMaps Go.Maps
set_option maxRecDepth 100000 in
theorem laidOutP : laidOutB Tryz.prog = true := by kernel_rfl
theorem rowSlot : (150 : TypeId) < Tryz.prog.types.size := of_decide_eq_true (by kernel_rfl)
theorem wideSlot : (match Tryz.prog.underlying 150 with | some (.array _ _) | some (.struct _) => true | _ => false) = true := by kernel_rfl
set_option maxRecDepth 100000 in
theorem lawSlot : KeyLaw Tryz.prog 150 := deep_law_laid laidOutP (m := 2) (by omega) rowSlot (by kernel_rfl) wideSlot
theorem keyedSlot : Keyed Tryz.prog 150 := Keyed.of_law lawSlot
theorem zeroInt (w : World) : (zeroValue 3).run Tryz.prog w = .ok (.int .i64 0) w := by kernel_rfl
set_option maxRecDepth 100000 in
theorem key_ok (d k : Int) (hd : (Lit.int .i64 d).wf = true) (hk : (Lit.int .i64 k).wf = true) : keyOf Tryz.prog 150 (.agg #[.int .i64 d, .int .i64 k]) = some (.string (keyBytes [.int .i64 d, .int .i64 k])) := by
  have hkt : Tryz.prog.keyType 150 = true := by kernel_rfl
  have hsz : ∃ m, Tryz.prog.types.size = m + 1 := ⟨Tryz.prog.types.size - 1, by have h0 : 0 < Tryz.prog.types.size := Nat.lt_of_le_of_lt (Nat.zero_le _) rowSlot; omega⟩
  obtain ⟨fs, hu, hfs⟩ : ∃ fs, Tryz.prog.underlying 150 = some (.struct fs) ∧ (fs.all (·.name != "_") = true ∧ fs.toList.map (fun f => (f.type, f.offset)) = [(3, 0), (3, 1)]) := ⟨_, Tryz.underlying150, by kernel_rfl, by kernel_rfl⟩
  have hc : Tryz.prog.cellsOf 150 = 2 := by kernel_rfl
  have hci : Tryz.prog.cellsOf 3 = 1 := by kernel_rfl
  have hui : Tryz.prog.underlying 3 = some (.int .i64) := by kernel_rfl
  obtain ⟨hn, hfs⟩ := hfs
  obtain ⟨m, hm⟩ := hsz
  unfold keyOf
  simp only [hu]
  rw [if_pos (by simp [hkt, Value.formed, hu, hc]), hm]
  unfold Program.keyLits
  simp only [hu, Value.cells]
  rw [if_pos ⟨by rw [hc]; rfl, hn⟩]
  obtain ⟨f1, f2, hl, e1, e2, e3, e4⟩ : ∃ f1 f2, fs.toList = [f1, f2] ∧ f1.type = 3 ∧ f1.offset = 0 ∧ f2.type = 3 ∧ f2.offset = 1 := by
    obtain ⟨l⟩ := fs
    match l, hfs with
    | [f1, f2], h1 =>
      simp only [List.map_cons, List.map_nil, List.cons.injEq, Prod.mk.injEq] at h1
      exact ⟨f1, f2, rfl, h1.1.1, h1.1.2, h1.2.1.1, h1.2.1.2⟩
  rw [hl, List.mapM_cons, List.mapM_cons, List.mapM_nil]
  simp [e1, e2, e3, e4, hci, Program.keyLits, hui, hd, hk]
theorem wf64 (n : Int) (h : -9223372036854775808 ≤ n ∧ n ≤ 9223372036854775807) : (Lit.int .i64 n).wf = true := by
  have := wrap64_wf n
  rwa [show wrap64 n = n by unfold wrap64; omega] at this
def I64 (n : Int) : Prop := -9223372036854775808 ≤ n ∧ n ≤ 9223372036854775807
theorem wp_lookup_run {Pr : Program} {o : Oper} {a : Act} {w : World} {K : Act → World → Prop} {Q : Exit → Act → World → Prop} (m x : Operand) (t : TypeId) (ho : o.op = .lookup t m x false) (mv kv : Value) (hm : a.eval m = mv) (hx : a.eval x = kv) {v : Value} {w' : World}
    (hr : (Instr.lookup t mv kv false).run Pr w = .ok v w') (h : K (a.put o.dst v) w') : o.wp Pr a w K Q := by
  unfold Oper.wp
  simp [execOp, ho, hm, hx, hr, Result.andThen]
  exact h
theorem wp_entry_run {Pr : Program} {o : Oper} {a : Act} {w : World} {K : Act → World → Prop} {Q : Exit → Act → World → Prop} (m x : Operand) (t : TypeId) (ho : o.op = .mapEntry t m x) (mv kv : Value) (hm : a.eval m = mv) (hx : a.eval x = kv) {v : Value} {w' : World}
    (hr : (Instr.mapEntry t mv kv).run Pr w = .ok v w') (h : K (a.put o.dst v) w') : o.wp Pr a w K Q := by
  unfold Oper.wp
  simp [execOp, ho, hm, hx, hr, Result.andThen]
  exact h
theorem wp_entryStore_run {Pr : Program} {o : Oper} {a : Act} {w : World} {K : Act → World → Prop} {Q : Exit → Act → World → Prop} (m x y : Operand) (t : TypeId) (ho : o.op = .entryStore t m x y) (mv kv yv : Value) (hm : a.eval m = mv) (hx : a.eval x = kv) (hy : a.eval y = yv) {w' : World}
    (hr : (Instr.entryStore t mv kv yv).run Pr w = .ok () w') (h : K (a.put o.dst undef) w') : o.wp Pr a w K Q := by
  unfold Oper.wp
  simp [execOp, ho, hm, hx, hy, hr, Result.andThen]
  exact h
theorem keep_setBlock {w : World} {b : Nat} {es : Array MapEntry} {clock : Nat} (hb : w.heap[b]? = some (.map es clock)) (o' : Obj) : Keep (fun x => x = b) w (ChangeMaps.setBlock w b o') :=
  ⟨rfl, rfl, rfl, by simp [ChangeMaps.setBlock], fun i _ hi => ChangeMaps.heap_setBlock_other hb _ (fun e => hi (by rw [e]))⟩
theorem keep_grown {w w' : World} {b : Nat} (h : w.grownBy w' (some b)) : Keep (fun x => x = b) w w' := ⟨h.os, h.tape, h.output, h.size, fun j hj hs => h.block j hj (fun e => hs (by cases e; rfl))⟩
def MapIs (w : World) (b n : Nat) (f : Int → Int → Int) : Prop :=
  ∃ D : DataW Unit, w.ownsMap Tryz.prog 150 (plainElem Tryz.prog 3) b n D ∧ ∀ d k l, keyOf Tryz.prog 150 (.agg #[.int .i64 d, .int .i64 k]) = some l → D.atKey l (.lit (.int .i64 0)) = .lit (.int .i64 (f d k))
theorem MapIs.lt {w : World} {b n : Nat} {f : Int → Int → Int} (h : MapIs w b n f) : b < w.heap.size := by
  obtain ⟨D, h, _⟩ := h
  exact h.lt
theorem MapIs.block {w w' : World} {b n : Nat} {f : Int → Int → Int} (h : MapIs w b n f) (hb : w'.heap[b]? = w.heap[b]?) : MapIs w' b n f := by
  obtain ⟨D, ⟨es, clock, h0, F, hs, hD⟩, h2⟩ := h
  exact ⟨D, ⟨es, clock, hb.trans h0, F, hs, hD⟩, h2⟩
theorem MapIs.made (w : World) : MapIs (w.alloc (.map #[] 0)) w.heap.size 0 (fun _ _ => 0) := ⟨.map [], World.ownsMap_made _ _ _ _, fun _ _ _ _ => rfl⟩
set_option maxRecDepth 100000 in
theorem MapIs.look {w : World} {b n : Nat} {f : Int → Int → Int} (h : MapIs w b n f) (d k : Int) (hd : I64 d) (hk : I64 k) :
    (Instr.lookup 146 (.map (some b)) (.agg #[.int .i64 d, .int .i64 k]) false).run Tryz.prog w = .ok (.int .i64 (f d k)) w := by
  obtain ⟨D, h, h2⟩ := h
  have hkey := key_ok d k (wf64 d hd) (wf64 k hk)
  obtain ⟨c, hrun, hat, _⟩ := h.lookup_int keyedSlot Tryz.underlying146 Tryz.underlying3 (zeroInt w) hkey
  have := h2 d k _ hkey
  rw [hat] at this
  injection this with e
  injection e with _ e
  rw [hrun, e]
set_option maxRecDepth 100000 in
theorem MapIs.store {w : World} {b n : Nat} {f : Int → Int → Int} (h : MapIs w b n f) (hn : n < maxLen) (d k : Int) (hd : I64 d) (hk : I64 k) :
    ∃ (v0 : Value) (st : Nat) (es1 : Array MapEntry) (clock1 : Nat), (Instr.mapEntry 146 (.map (some b)) (.agg #[.int .i64 d, .int .i64 k])).run Tryz.prog w = .ok (.tuple #[v0, goInt st]) (ChangeMaps.setBlock w b (.map es1 clock1)) ∧
      Keep (fun x => x = b) w (ChangeMaps.setBlock w b (.map es1 clock1)) ∧
      (Instr.lookup 146 (.map (some b)) (.agg #[.int .i64 d, .int .i64 k]) false).run Tryz.prog (ChangeMaps.setBlock w b (.map es1 clock1)) = .ok (.int .i64 (f d k)) (ChangeMaps.setBlock w b (.map es1 clock1)) ∧
      ∀ (a : Int), I64 a → ∃ w', (Instr.entryStore 146 (.map (some b)) (goInt st) (.int .i64 a)).run Tryz.prog (ChangeMaps.setBlock w b (.map es1 clock1)) = .ok () w' ∧
        MapIs w' b (n + 1) (fun x y => if x = d ∧ y = k then a else f x y) ∧ w.grownBy w' (some b) := by
  have hl := h.look d k hd hk
  obtain ⟨D, hown, h2⟩ := h
  have hkey := key_ok d k (wf64 d hd) (wf64 k hk)
  have hz : ∀ u : World, (zeroValue 3).run Tryz.prog u = .ok (.int .i64 0) u := zeroInt
  have hown0 := hown
  obtain ⟨es, clock, hb, F, hs, hD⟩ := hown
  obtain ⟨v0, st, es1, clock1, r1, r2, r3⟩ := Go.WideElems.entry_then_store lawSlot Tryz.underlying146 hz hb F hkey
  generalize hkv : Value.agg #[.int .i64 d, .int .i64 k] = key at *
  refine ⟨v0, st, es1, clock1, r1, keep_setBlock hb _, ?_, ?_⟩
  · rcases lawSlot.find w hkey es.toList F.keys with ⟨q1, q2⟩ | ⟨j, e0, q1, q2, q3⟩
    · have hf : f d k = 0 := by
        rcases Maps.fit_look false keyedSlot Tryz.underlying146 (hz w) hb F hkey with ⟨hrun, _, _⟩ | ⟨e0, y, hm, hk0, _⟩
        · rw [hl] at hrun
          have a := (Result.ok.inj hrun).1
          exact (Value.int.inj a).2
        · exact absurd hk0 (q2 e0 hm)
      have hup : (Instr.mapUpdate 146 (.map (some b)) key (.int .i64 0)).run Tryz.prog w = .ok () (ChangeMaps.setBlock w b (.map (es.push ⟨key, .int .i64 0, clock⟩) (clock + 1))) := by
        simp [Instr.mapUpdate, run_underlying Tryz.underlying146, MapKept.run_getObj_map hb, lawSlot.check w false hkey, q1, MapKept.run_setObj_map _ hb, Result.andThen, ChangeMaps.setBlock]
      have hen : (Instr.mapEntry 146 (.map (some b)) key).run Tryz.prog w = .ok (.tuple #[.int .i64 0, goInt clock]) (ChangeMaps.setBlock w b (.map (es.push ⟨key, .int .i64 0, clock⟩) (clock + 1))) := by
        simp [Instr.mapEntry, run_underlying Tryz.underlying146, MapKept.run_getObj_map hb, lawSlot.check w false hkey, q1, hz, MapKept.run_setObj_map _ hb, Result.andThen, ChangeMaps.setBlock]
      rw [hen] at r1
      have ew := (Result.ok.inj r1).2
      rw [← ew]
      obtain ⟨w', u1, u2, _⟩ := hown0.update keyedSlot Tryz.underlying146 hn hkey (plainElem_int Tryz.underlying3 (wf64 0 (by decide)))
      rw [hup] at u1
      have ew' := (Result.ok.inj u1).2
      rw [ew']
      obtain ⟨c, hrun, hat, _⟩ := u2.lookup_int keyedSlot Tryz.underlying146 Tryz.underlying3 (zeroInt w') hkey
      rw [hrun, hf]
      have hm : IsMap D := ⟨_, hD⟩
      rw [atKey_put_same hm (keyedSlot.key hkey)] at hat
      injection hat with e
      injection e with _ e
      rw [← e]
    · have hj : es[j]? = some e0 := by simpa using q2
      have hsame : es.modify j (fun e => { e with key := key }) = es := by
        apply Array.ext'
        rw [Array.toList_modify, ChangeMaps.modify_eq_set _ _ _ _ q2]
        have : ({ e0 with key := key } : MapEntry) = e0 := by rw [← q3]
        rw [this]
        exact Go.WideElems.set_self _ _ _ q2
      have hen : (Instr.mapEntry 146 (.map (some b)) key).run Tryz.prog w = .ok (.tuple #[e0.val, goInt e0.born]) (ChangeMaps.setBlock w b (.map es clock)) := by
        simp [Instr.mapEntry, run_underlying Tryz.underlying146, MapKept.run_getObj_map hb, lawSlot.check w false hkey, q1, hj, q3, lawSlot.stays w hkey, hsame, MapKept.run_setObj_map _ hb, Result.andThen, ChangeMaps.setBlock]
      rw [hen] at r1
      have ew := (Result.ok.inj r1).2
      rw [← ew]
      have hM : MapIs (ChangeMaps.setBlock w b (.map es clock)) b n f := MapIs.block ⟨D, hown0, h2⟩ ((ChangeMaps.heap_setBlock_same hb _).trans hb.symm)
      have := hM.look d k hd hk
      rw [hkv] at this
      exact this
  · intro a ha
    obtain ⟨es', clock', e1, e2⟩ := r3 (ChangeMaps.setBlock w b (.map es1 clock1)) (.int .i64 a) (ChangeMaps.heap_setBlock_same hb _)
    refine ⟨_, e1, ?_⟩
    have hset : ChangeMaps.setBlock (ChangeMaps.setBlock w b (.map es1 clock1)) b (.map es' clock') = ChangeMaps.setBlock w b (.map es' clock') := by
      simp [ChangeMaps.setBlock]
    rw [hset]
    obtain ⟨w', u1, u2, u3⟩ := hown0.update keyedSlot Tryz.underlying146 hn hkey (plainElem_int Tryz.underlying3 (wf64 a ha))
    rw [e2] at u1
    have ew' := (Result.ok.inj u1).2
    rw [ew']
    refine ⟨⟨_, u2, fun x y l hxy => ?_⟩, u3⟩
    by_cases hx : x = d ∧ y = k
    · obtain ⟨rfl, rfl⟩ := hx
      show _ = DataW.lit (Lit.int .i64 (if x = x ∧ y = y then a else f x y))
      rw [if_pos ⟨rfl, rfl⟩]
      rw [hkv, hkey] at hxy
      cases hxy
      exact atKey_put_same ⟨_, hD⟩ (keyedSlot.key hkey) _ _
    · show _ = DataW.lit (Lit.int .i64 (if x = d ∧ y = k then a else f x y))
      rw [if_neg hx, ← h2 x y l hxy]
      refine atKey_put_other ?_ _ _
      intro e
      subst e
      have := keyedSlot.inj hxy hkey
      rw [← hkv] at this
      injection this with this
      injection this with this
      injection this with t1 t2
      injection t2 with t2
      injection t1 with _ t1
      injection t2 with _ t2
      exact hx ⟨t1, t2⟩
end Go.Proofs.YtanndhoimpnhpaaGreatDoor
namespace Go.Proofs.YtanndhoimpnhpaaGreatDoor
open Go.ChangeShapes Go.WideShapes Go.RowKit Go.WideMaps Go.Maps
def sumOf (l : List En) (d k : Int) : Int := l.foldl (fun s e => if d = e.d ∧ k = e.k then wrap64 (s + e.a) else s) 0
theorem sumOf_snoc (l : List En) (e : En) (d k : Int) : sumOf (l ++ [e]) d k = if d = e.d ∧ k = e.k then wrap64 (sumOf l d k + e.a) else sumOf l d k := by
  unfold sumOf
  rw [List.foldl_append]
  rfl
theorem wrap64_i64 (n : Int) : I64 (wrap64 n) := by
  unfold I64 wrap64
  omega
theorem infoEntry : (Tryz.prog.info? 114).map (fun i => (i.zero, i.size, i.bytes)) = some (some (.agg #[.int .i64 0, .int .i64 0, .int .i64 0]), 3, 24) := by kernel_rfl
structure BkIs (w : World) (P : Nat) (bkv : Value) (Mb : Nat) (L : List En) : Prop where
  pl : At w P [bkv, .map (some Mb)]
  ow : w.ownsRow (P + 1) 114 3 bkv L.length (ens L)
  mp : MapIs w Mb L.length (sumOf L)
  lt : Mb < P
def BkS (P Mb : Nat) (bkv : Value) (b : Nat) : Prop := b = P ∨ b = Mb ∨ bkv.ownBlock = some b
theorem BkIs.own {w : World} {P : Nat} {bkv : Value} {Mb : Nat} {L : List En} (h : BkIs w P bkv Mb L) {b : Nat} (hb : bkv.ownBlock = some b) : P < b ∧ b < w.heap.size := own_base h.ow hb
theorem BkIs.keep {S : Nat → Prop} {w w' : World} {P : Nat} {bkv : Value} {Mb : Nat} {L : List En} (h : BkIs w P bkv Mb L) (hk : Keep S w w') (hs : ∀ b, BkS P Mb bkv b → ¬ S b) : BkIs w' P bkv Mb L :=
  ⟨At.keep h.pl hk (hs P (.inl rfl)), own_keep h.ow hk (fun b hb => hs b (.inr (.inr hb))), h.mp.block (hk.block Mb h.mp.lt (hs Mb (.inr (.inl rfl)))), h.lt⟩
end Go.Proofs.YtanndhoimpnhpaaGreatDoor
namespace Go.Proofs.YtanndhoimpnhpaaGreatDoor
open Go.ChangeShapes Go.WideShapes Go.RowKit Go.WideMaps Go.Maps
set_option maxRecDepth 100000 in
set_option maxHeartbeats 4000000 in
theorem write_any (w : World) (P : Nat) (bkv : Value) (Mb : Nat) (L : List En) (h : BkIs w P bkv Mb L) (hL : L.length + 1 ≤ 5000000000000) (d k a : Int) (hd : I64 d) (hk : I64 k) (ha : I64 a) :
    Calls Tryz.prog 81 #[.pointer (some ⟨P, 0, none⟩), .agg #[.int .i64 d, .int .i64 k, .int .i64 a]] w fun e w' => e = .returned (.tuple #[]) ∧ ∃ bkv', BkIs w' P bkv' Mb (L ++ if a = 0 then [] else [⟨d, k, a⟩]) ∧ OwnNew w bkv bkv' ∧ Keep (BkS P Mb bkv) w w' := by
  obtain ⟨i0, hi, hz0, hz1, hz2⟩ := info_parts infoEntry
  have HB : Hid (BkIs w P bkv Mb L) := h
  clear h
  by_cases hz : a = 0
  · subst hz
    go_enter Tryz.func81, Tryz.ntmps81
    go_wp2
    refine bodyPost_ret (results_none rfl _ _ _) rfl ?_
    have kk : Keep (fun _ => False) w (w.alloc (.cells #[.int .i64 d, .int .i64 k, .int .i64 0] 114)) := Keep.below ((Below.refl _ _).alloc (Nat.le_refl _) _)
    refine ⟨rfl, bkv, ?_, .inl rfl, kk.mono (fun _ _ h => h.elim)⟩
    exact HB.out.keep kk (fun _ _ h => h)
  · have hzb : (a == 0) = false := by simp [hz]
    have HI : Hid (I64 d ∧ I64 k ∧ I64 a) := ⟨hd, hk, ha⟩
    have HZ : Hid (¬ a = 0) := hz
    clear hd hk ha hz
    go_enter Tryz.func81, Tryz.ntmps81
    go_upto_region 2 with fail
    have HE : Hid (At (w.alloc (.cells #[.int .i64 d, .int .i64 k, .int .i64 a] 114)) w.heap.size [.int .i64 d, .int .i64 k, .int .i64 a]) := At.alloc w _ _
    have HK0 : Hid (Keep (fun _ => False) w (w.alloc (.cells #[.int .i64 d, .int .i64 k, .int .i64 a] 114))) := Keep.below ((Below.refl _ _).alloc (Nat.le_refl _) _)
    have HPE : Hid (∀ b, BkS P Mb bkv b → ¬ b = w.heap.size) := fun b hb hE => by
      have h1 := At.lt HB.out.pl
      have h2 := HB.out.lt
      rcases hb with hb | hb | hb
      · omega
      · omega
      · have := (HB.out.own hb).2; omega
    generalize w.alloc (.cells #[.int .i64 d, .int .i64 k, .int .i64 a] 114) = V at *
    generalize w.heap.size = E at *
    go_cut [] from 7 to 16 (fun wx => ∃ bkv2, At wx P [bkv2, .map (some Mb)] ∧ wx.ownsRow (P + 1) 114 3 bkv2 (L.length + 1) (ens L ++ [.int .i64 d, .int .i64 k, .int .i64 a]) ∧ MapIs wx Mb L.length (sumOf L) ∧ At wx E [.int .i64 d, .int .i64 k, .int .i64 a] ∧ Keep (BkS P Mb bkv) V wx ∧ OwnNew V bkv bkv2)
    case first =>
      have hb := HB.out.keep HK0.out (fun _ _ h => h)
      have HSS : Hid (∀ wz, Keep (BkS P Mb bkv) V wz → At wz E [.int .i64 d, .int .i64 k, .int .i64 a]) := fun wz hk => At.keep HE.out hk (fun h => HPE.out E h rfl)
      obtain ⟨p0, cap0, rfl⟩ := own_slice hb.ow
      have oU := hb.ow.drew
      have aU : At V.drew P [.slice p0 L.length cap0, .map (some Mb)] := hb.pl.drew
      have mU : MapIs V.drew Mb L.length (sumOf L) := hb.mp
      have kU : Keep (BkS P Mb (.slice p0 L.length cap0)) V V.drew := (Keep.refl _ _).drew
      have hPl : P < V.drew.heap.size := At.lt aU
      have hMP := hb.lt
      clear hb
      refine wp_region_held_drew (S := fun wz => At wz E [.int .i64 d, .int .i64 k, .int .i64 a]) (by kernel_rfl) (HSS.out _ kU) (fun hHeld => ?_)
      generalize V.drew = U at *
      have u6 : U.cell? ⟨P, 0, none⟩ = some (.slice p0 L.length cap0) := aU.cell 0 rfl
      have oU1 := oU.alloc (.cells #[.int .i64 d, .int .i64 k, .int .i64 a] 114)
      have aU1 : At (U.alloc (.cells #[.int .i64 d, .int .i64 k, .int .i64 a] 114)) P [.slice p0 L.length cap0, .map (some Mb)] := At.over aU _
      have mU1 : MapIs (U.alloc (.cells #[.int .i64 d, .int .i64 k, .int .i64 a] 114)) Mb L.length (sumOf L) := mU.block (Keep.below (S := fun _ => False) ((Below.refl _ _).alloc (Nat.le_refl _) _) |>.block Mb mU.lt (fun h => h))
      have nU1 : At (U.alloc (.cells #[.int .i64 d, .int .i64 k, .int .i64 a] 114)) U.heap.size [.int .i64 d, .int .i64 k, .int .i64 a] := At.alloc U _ _
      have kU1 : Keep (BkS P Mb (.slice p0 L.length cap0)) V (U.alloc (.cells #[.int .i64 d, .int .i64 k, .int .i64 a] 114)) := kU.trans (Keep.below ((Below.refl _ _).alloc (Nat.le_refl _) _))
      have u7 : (U.alloc (.cells #[.int .i64 d, .int .i64 k, .int .i64 a] 114)).cell? ⟨P, 0, none⟩ = some (.slice p0 L.length cap0) := aU1.cell 0 rfl
      have gsz : P + 1 ≤ (U.alloc (.cells #[.int .i64 d, .int .i64 k, .int .i64 a] 114)).heap.size := by simp; omega
      refine wpAnyH_take (i := 0) (v := (.pointer (some ⟨P, 0, none⟩))) rfl (by kernel_rfl) (by kernel_rfl) (by kernel_rfl) (fun _ _ _ h => h) (Or.inl ⟨by rfl, fun wx hSw => by go_simp⟩) (by assumption) ?_
      simp only [Act.put, List.getElem_toArray, List.getElem_cons_zero, List.setIfInBounds_toArray, List.set_cons_zero, List.set_cons_succ]
      refine wpAnyH_take (i := 1) (v := (.pointer (some ⟨P, 0, none⟩))) rfl (by kernel_rfl) (by kernel_rfl) (by kernel_rfl) (fun _ _ _ h => h) (Or.inl ⟨by rfl, fun wx hSw => by go_simp⟩) (by assumption) ?_
      simp only [Act.put, List.getElem_toArray, List.getElem_cons_succ, List.getElem_cons_zero, List.setIfInBounds_toArray, List.set_cons_zero, List.set_cons_succ]
      refine wpAnyH_take (i := 2) (v := (.pointer (some ⟨P, 0, none⟩))) rfl (by kernel_rfl) (by kernel_rfl) (by kernel_rfl) (fun _ _ _ h => h) (Or.inl ⟨by rfl, fun wx hSw => by go_simp⟩) (by assumption) ?_
      simp only [Act.put, List.getElem_toArray, List.getElem_cons_succ, List.getElem_cons_zero, List.setIfInBounds_toArray, List.set_cons_zero, List.set_cons_succ]
      refine wpAnyH_take (i := 3) (v := (.pointer (some ⟨P, 0, none⟩))) rfl (by kernel_rfl) (by kernel_rfl) (by kernel_rfl) (fun _ _ _ h => h) (Or.inl ⟨by rfl, fun wx hSw => by go_simp⟩) (by assumption) ?_
      simp only [Act.put, List.getElem_toArray, List.getElem_cons_succ, List.getElem_cons_zero, List.setIfInBounds_toArray, List.set_cons_zero, List.set_cons_succ]
      refine wpAnyH_take (i := 5) (v := (.agg #[.int .i64 d, .int .i64 k, .int .i64 a])) rfl (by kernel_rfl) (by kernel_rfl) (by kernel_rfl) (fun _ _ _ h => h) (yieldsIf_load_mid (by rfl) 114 (.tmp 3) rfl _ _ rfl _ _ (fun _ h => At.range h) Tryz.underlying114 rfl (by kernel_rfl)) (by assumption) ?_
      simp only [Act.put, List.getElem_toArray, List.getElem_cons_succ, List.getElem_cons_zero, List.setIfInBounds_toArray, List.set_cons_zero, List.set_cons_succ]
      refine wpAnyH_ready (rs := [4, 6]) (by kernel_rfl) (by simp) ?_
      refine AllReadyH.cons rfl (fun K hK => ?_) (AllReadyH.cons rfl (fun K hK => ?_) AllReadyH.nil)
      · go_simp
        refine hK.out _ _ hHeld (fun _ => ?_)
        clear hK K
        refine wpAnyH_ready (rs := [6]) (by kernel_rfl) (by simp) ?_
        refine AllReadyH.cons rfl (fun K hK => ?_) AllReadyH.nil
        rw [if_pos (by rfl)]
        refine wp_valD (.slice (some ⟨U.heap.size, 0, none⟩) 1 1) (U.alloc (.cells #[.int .i64 d, .int .i64 k, .int .i64 a] 114)) (by kernel_rfl) ?_
        refine hK.out _ _ (HSS.out _ kU1) (fun _ => ?_)
        clear hK K u6 u7 oU aU kU hHeld
        simp only [Act.put, List.getElem_toArray, List.getElem_cons_succ, List.getElem_cons_zero, List.setIfInBounds_toArray, List.set_cons_zero, List.set_cons_succ]
        generalize U.alloc (.cells #[.int .i64 d, .int .i64 k, .int .i64 a] 114) = U1 at *
        generalize hNN : U.heap.size = NN at *
        refine wpAnyH_ready (rs := [7]) (by kernel_rfl) (by simp) ?_
        refine AllReadyH.cons rfl (fun K hK => ?_) AllReadyH.nil
        rw [if_pos (by rfl)]
        refine wp_append_at U1 (.tmp 11) (.tmp 13) 54 rfl (P + 1) 114 i0 (.agg #[.int .i64 0, .int .i64 0, .int .i64 0]) 3 24 Tryz.underlying54 hi hz0 hz1 hz2 rfl (by decide) _ _ _ rfl oU1 ⟨NN, 0, none⟩ 1 1 [.int .i64 d, .int .i64 k, .int .i64 a] rfl rfl ?_ ?_ ?_ ?_ ?_ ?_
        · intro j u hj
          have := (nU1 j u hj).1
          by_cases j0 : j = 0
          · subst j0; simpa [Addr.add] using this
          · simpa [Addr.add, j0] using this
        · intro u hu
          simp at hu
          rcases hu with rfl | rfl | rfl <;> rfl
        · unfold maxLen; omega
        · omega
        · omega
        intro v' w' h2 h3 hat
        have kp3 : Keep (fun b => some b = (Value.slice p0 L.length cap0).ownBlock) U1 w' := ⟨h3.os, h3.tape, h3.output, h3.size, fun j hj hs => h3.block j hj hs⟩
        have kv : Keep (BkS P Mb (.slice p0 L.length cap0)) V w' := kU1.trans (kp3.mono (fun b _ h => .inr (.inr h.symm)))
        have aw : At w' P [.slice p0 L.length cap0, .map (some Mb)] := At.keep aU1 kp3 (fun h => by have := (own_base oU1 h.symm).1; omega)
        obtain ⟨g', cap', rfl, _, _⟩ := h2.form (by omega)
        refine hK.out _ _ (HSS.out w' kv) (fun _ => ?_)
        clear hK K
        simp only [Act.put, List.getElem_toArray, List.getElem_cons_succ, List.getElem_cons_zero, List.setIfInBounds_toArray, List.set_cons_zero, List.set_cons_succ]
        refine wpAnyH_take (i := 8) (v := (.pointer (some ⟨P, 0, none⟩))) rfl (by kernel_rfl) (by kernel_rfl) (by kernel_rfl) (fun _ _ _ h => h) (Or.inl ⟨by rfl, fun wx hSw => by go_simp⟩) (by assumption) ?_
        simp only [Act.put, List.getElem_toArray, List.getElem_cons_succ, List.getElem_cons_zero, List.setIfInBounds_toArray, List.set_cons_zero, List.set_cons_succ]
        refine wpAnyH_take (i := 9) (v := (.pointer (some ⟨P, 0, none⟩))) rfl (by kernel_rfl) (by kernel_rfl) (by kernel_rfl) (fun _ _ _ h => h) (Or.inl ⟨by rfl, fun wx hSw => by go_simp⟩) (by assumption) ?_
        simp only [Act.put, List.getElem_toArray, List.getElem_cons_succ, List.getElem_cons_zero, List.setIfInBounds_toArray, List.set_cons_zero, List.set_cons_succ]
        refine wpAnyH_ready (rs := [10]) (by kernel_rfl) (by simp) ?_
        refine AllReadyH.cons rfl (fun K hK => ?_) AllReadyH.nil
        have y6 : w'.cell? ⟨P, 0, none⟩ = some (.slice p0 L.length cap0) := aw.cell 0 rfl
        have y7 : w'.frozen? ⟨P, 0, none⟩ = false := aw.free 0 rfl
        go_simp
        have kv2 := kv.set (S := BkS P Mb (.slice p0 L.length cap0)) (.inl rfl) 0 (.slice (some ⟨g', 0, none⟩) (L.length + 1) cap')
        have aw2 : At (w'.setCell ⟨P, 0, none⟩ (.slice (some ⟨g', 0, none⟩) (L.length + 1) cap')) P [.slice (some ⟨g', 0, none⟩) (L.length + 1) cap', .map (some Mb)] := aw.set 0 (show 0 < 2 by decide) _
        have ow2 : (w'.setCell ⟨P, 0, none⟩ (.slice (some ⟨g', 0, none⟩) (L.length + 1) cap')).ownsRow (P + 1) 114 3 (.slice (some ⟨g', 0, none⟩) (L.length + 1) cap') (L.length + 1) (ens L ++ [.int .i64 d, .int .i64 k, .int .i64 a]) := ownsRow_setCell_below h2 (Nat.lt_succ_self P) _
        have kp4 : Keep (fun b => b = P ∨ some b = (Value.slice p0 L.length cap0).ownBlock) U1 (w'.setCell ⟨P, 0, none⟩ (.slice (some ⟨g', 0, none⟩) (L.length + 1) cap')) := (kp3.mono (fun b _ h => .inr h)).set (S := fun b => b = P ∨ some b = (Value.slice p0 L.length cap0).ownBlock) (.inl rfl) 0 _
        refine hK.out _ _ (HSS.out _ kv2) (fun _ => ?_)
        have mp2 := mU1.block (kp4.block Mb mU1.lt (fun h => h.elim (fun h => by omega) (fun h => by have := (own_base oU1 h.symm).1; omega)))
        have hnew : OwnNew V (.slice p0 L.length cap0) (.slice (some ⟨g', 0, none⟩) (L.length + 1) cap') := hat.elim .inl (fun h => .inr ⟨_, h, kU1.size⟩)
        clear hK K h2 h3 y6 y7 aw kv hat oU1 aU1 nU1 kU1 kp3 kp4 mU1
        generalize w'.setCell ⟨P, 0, none⟩ (.slice (some ⟨g', 0, none⟩) (L.length + 1) cap') = w9 at *
        refine wpAnyH_done (by kernel_rfl) ?_ _
        go_wp2_with fail
        go_meet
        case rel => exact ⟨_, aw2, ow2, mp2, HSS.out _ kv2, kv2, hnew⟩
      · rw [if_pos (by rfl)]
        refine wp_valD (.slice (some ⟨U.heap.size, 0, none⟩) 1 1) (U.alloc (.cells #[.int .i64 d, .int .i64 k, .int .i64 a] 114)) (by kernel_rfl) ?_
        refine hK.out _ _ (HSS.out _ kU1) (fun hHeld2 => ?_)
        clear hK K u6
        simp only [Act.put, List.getElem_toArray, List.getElem_cons_succ, List.getElem_cons_zero, List.setIfInBounds_toArray, List.set_cons_zero, List.set_cons_succ]
        refine wpAnyH_ready (rs := [4]) (by kernel_rfl) (by simp) ?_
        refine AllReadyH.cons rfl (fun K hK => ?_) AllReadyH.nil
        go_simp
        refine hK.out _ _ hHeld2 (fun _ => ?_)
        clear hK K u7 oU aU kU hHeld hHeld2
        generalize U.alloc (.cells #[.int .i64 d, .int .i64 k, .int .i64 a] 114) = U1 at *
        generalize hNN : U.heap.size = NN at *
        refine wpAnyH_ready (rs := [7]) (by kernel_rfl) (by simp) ?_
        refine AllReadyH.cons rfl (fun K hK => ?_) AllReadyH.nil
        rw [if_pos (by rfl)]
        refine wp_append_at U1 (.tmp 11) (.tmp 13) 54 rfl (P + 1) 114 i0 (.agg #[.int .i64 0, .int .i64 0, .int .i64 0]) 3 24 Tryz.underlying54 hi hz0 hz1 hz2 rfl (by decide) _ _ _ rfl oU1 ⟨NN, 0, none⟩ 1 1 [.int .i64 d, .int .i64 k, .int .i64 a] rfl rfl ?_ ?_ ?_ ?_ ?_ ?_
        · intro j u hj
          have := (nU1 j u hj).1
          by_cases j0 : j = 0
          · subst j0; simpa [Addr.add] using this
          · simpa [Addr.add, j0] using this
        · intro u hu
          simp at hu
          rcases hu with rfl | rfl | rfl <;> rfl
        · unfold maxLen; omega
        · omega
        · omega
        intro v' w' h2 h3 hat
        have kp3 : Keep (fun b => some b = (Value.slice p0 L.length cap0).ownBlock) U1 w' := ⟨h3.os, h3.tape, h3.output, h3.size, fun j hj hs => h3.block j hj hs⟩
        have kv : Keep (BkS P Mb (.slice p0 L.length cap0)) V w' := kU1.trans (kp3.mono (fun b _ h => .inr (.inr h.symm)))
        have aw : At w' P [.slice p0 L.length cap0, .map (some Mb)] := At.keep aU1 kp3 (fun h => by have := (own_base oU1 h.symm).1; omega)
        obtain ⟨g', cap', rfl, _, _⟩ := h2.form (by omega)
        refine hK.out _ _ (HSS.out w' kv) (fun _ => ?_)
        clear hK K
        simp only [Act.put, List.getElem_toArray, List.getElem_cons_succ, List.getElem_cons_zero, List.setIfInBounds_toArray, List.set_cons_zero, List.set_cons_succ]
        refine wpAnyH_take (i := 8) (v := (.pointer (some ⟨P, 0, none⟩))) rfl (by kernel_rfl) (by kernel_rfl) (by kernel_rfl) (fun _ _ _ h => h) (Or.inl ⟨by rfl, fun wx hSw => by go_simp⟩) (by assumption) ?_
        simp only [Act.put, List.getElem_toArray, List.getElem_cons_succ, List.getElem_cons_zero, List.setIfInBounds_toArray, List.set_cons_zero, List.set_cons_succ]
        refine wpAnyH_take (i := 9) (v := (.pointer (some ⟨P, 0, none⟩))) rfl (by kernel_rfl) (by kernel_rfl) (by kernel_rfl) (fun _ _ _ h => h) (Or.inl ⟨by rfl, fun wx hSw => by go_simp⟩) (by assumption) ?_
        simp only [Act.put, List.getElem_toArray, List.getElem_cons_succ, List.getElem_cons_zero, List.setIfInBounds_toArray, List.set_cons_zero, List.set_cons_succ]
        refine wpAnyH_ready (rs := [10]) (by kernel_rfl) (by simp) ?_
        refine AllReadyH.cons rfl (fun K hK => ?_) AllReadyH.nil
        have y6 : w'.cell? ⟨P, 0, none⟩ = some (.slice p0 L.length cap0) := aw.cell 0 rfl
        have y7 : w'.frozen? ⟨P, 0, none⟩ = false := aw.free 0 rfl
        go_simp
        have kv2 := kv.set (S := BkS P Mb (.slice p0 L.length cap0)) (.inl rfl) 0 (.slice (some ⟨g', 0, none⟩) (L.length + 1) cap')
        have aw2 : At (w'.setCell ⟨P, 0, none⟩ (.slice (some ⟨g', 0, none⟩) (L.length + 1) cap')) P [.slice (some ⟨g', 0, none⟩) (L.length + 1) cap', .map (some Mb)] := aw.set 0 (show 0 < 2 by decide) _
        have ow2 : (w'.setCell ⟨P, 0, none⟩ (.slice (some ⟨g', 0, none⟩) (L.length + 1) cap')).ownsRow (P + 1) 114 3 (.slice (some ⟨g', 0, none⟩) (L.length + 1) cap') (L.length + 1) (ens L ++ [.int .i64 d, .int .i64 k, .int .i64 a]) := ownsRow_setCell_below h2 (Nat.lt_succ_self P) _
        have kp4 : Keep (fun b => b = P ∨ some b = (Value.slice p0 L.length cap0).ownBlock) U1 (w'.setCell ⟨P, 0, none⟩ (.slice (some ⟨g', 0, none⟩) (L.length + 1) cap')) := (kp3.mono (fun b _ h => .inr h)).set (S := fun b => b = P ∨ some b = (Value.slice p0 L.length cap0).ownBlock) (.inl rfl) 0 _
        refine hK.out _ _ (HSS.out _ kv2) (fun _ => ?_)
        have mp2 := mU1.block (kp4.block Mb mU1.lt (fun h => h.elim (fun h => by omega) (fun h => by have := (own_base oU1 h.symm).1; omega)))
        have hnew : OwnNew V (.slice p0 L.length cap0) (.slice (some ⟨g', 0, none⟩) (L.length + 1) cap') := hat.elim .inl (fun h => .inr ⟨_, h, kU1.size⟩)
        clear hK K h2 h3 y6 y7 aw kv hat oU1 aU1 nU1 kU1 kp3 kp4 mU1
        generalize w'.setCell ⟨P, 0, none⟩ (.slice (some ⟨g', 0, none⟩) (L.length + 1) cap') = w9 at *
        refine wpAnyH_done (by kernel_rfl) ?_ _
        go_wp2_with fail
        go_meet
        case rel => exact ⟨_, aw2, ow2, mp2, HSS.out _ kv2, kv2, hnew⟩
    case rest =>
      obtain ⟨bkv2, a2, o2, m2, e2, k2, n2⟩ := hcut
      obtain ⟨hd, hk, ha⟩ := HI.out
      have hP := At.lt HB.out.pl
      have hMP := HB.out.lt
      have hPM : ¬ P = Mb := by omega
      have hEM : ¬ E = Mb := fun e => HPE.out Mb (.inr (.inl rfl)) e.symm
      have ap : wc.drew.cell? ⟨P, 1, none⟩ = some (.map (some Mb)) := a2.cell 1 rfl
      have aE : At wc.drew E [.int .i64 d, .int .i64 k, .int .i64 a] := e2.drew
      have md : MapIs wc.drew Mb L.length (sumOf L) := m2
      obtain ⟨v0, st, es1, clock1, hen, kd, hlk2, hsto⟩ := md.store (by unfold maxLen; omega) d k hd hk
      have hlk1 := md.look d k hd hk
      obtain ⟨w5, hst, hmp, hgr⟩ := hsto (wrap64 (sumOf L d k + a)) (wrap64_i64 _)
      have k5 : Keep (fun b => b = Mb) wc w5 := (Keep.refl _ _).drew.trans (keep_grown hgr)
      have HT : Hid (∃ bkv', BkIs w5 P bkv' Mb (L ++ [⟨d, k, a⟩]) ∧ OwnNew w bkv bkv' ∧ Keep (BkS P Mb bkv) w w5) := by
        refine ⟨bkv2, ⟨At.keep a2 k5 hPM, ?_, ?_, hMP⟩, ?_, ?_⟩
        · rw [ens_append, List.length_append]
          exact own_keep o2 k5 (fun b hb e => by have := (own_base o2 hb).1; omega)
        · rw [List.length_append]
          have hs : sumOf (L ++ [⟨d, k, a⟩]) = fun x y => if x = d ∧ y = k then wrap64 (sumOf L d k + a) else sumOf L x y := by
            funext x y
            rw [sumOf_snoc]
            by_cases hx : x = d ∧ y = k
            · rw [if_pos hx, if_pos hx, hx.1, hx.2]
            · rw [if_neg hx, if_neg hx]
          rw [hs]
          exact hmp
        · rcases n2 with h | ⟨b, h1, h2⟩
          · exact .inl h
          · exact .inr ⟨b, h1, Nat.le_trans HK0.out.size h2⟩
        · exact (HK0.out.mono (fun _ _ h => h.elim)).trans (k2.trans (k5.mono (fun b _ h => .inr (.inl h))))
      have hs1 : wc.drew.cell? ⟨P, 1, none⟩ = some (.map (some Mb)) ∧ At wc.drew E [.int .i64 d, .int .i64 k, .int .i64 a] := ⟨ap, aE⟩
      have hs2 : (ChangeMaps.setBlock wc.drew Mb (.map es1 clock1)).cell? ⟨P, 1, none⟩ = some (.map (some Mb)) ∧ At (ChangeMaps.setBlock wc.drew Mb (.map es1 clock1)) E [.int .i64 d, .int .i64 k, .int .i64 a] := ⟨(At.keep a2.drew kd hPM).cell 1 rfl, At.keep aE kd hEM⟩
      have hs5 : w5.cell? ⟨P, 1, none⟩ = some (.map (some Mb)) ∧ At w5 E [.int .i64 d, .int .i64 k, .int .i64 a] := ⟨(At.keep a2 k5 hPM).cell 1 rfl, At.keep e2 k5 hEM⟩
      clear a2 o2 m2 e2 k2 n2 ap aE md hmp hgr k5 hsto kd
      go_wp2_with fail
      refine wp_region_held_drew (S := fun wz => wz.cell? ⟨P, 1, none⟩ = some (.map (some Mb)) ∧ At wz E [.int .i64 d, .int .i64 k, .int .i64 a]) (by kernel_rfl) hs1 (fun hHeld => ?_)
      generalize wc.drew = U at *
      generalize ChangeMaps.setBlock U Mb (.map es1 clock1) = U2 at *
      refine wpAnyH_take (i := 0) (v := (.pointer (some ⟨P, 0, none⟩))) rfl (by kernel_rfl) (by kernel_rfl) (by kernel_rfl) (fun _ _ _ h => h) (Or.inl ⟨by rfl, fun wx hSw => by go_simp⟩) (by assumption) ?_
      simp only [Act.put, List.getElem_toArray, List.getElem_cons_zero, List.setIfInBounds_toArray, List.set_cons_zero, List.set_cons_succ]
      refine wpAnyH_take (i := 1) (v := (.pointer (some ⟨P, 0, none⟩))) rfl (by kernel_rfl) (by kernel_rfl) (by kernel_rfl) (fun _ _ _ h => h) (Or.inl ⟨by rfl, fun wx hSw => by go_simp⟩) (by assumption) ?_
      simp only [Act.put, List.getElem_toArray, List.getElem_cons_succ, List.getElem_cons_zero, List.setIfInBounds_toArray, List.set_cons_zero, List.set_cons_succ]
      refine wpAnyH_take (i := 2) (v := (.pointer (some ⟨P, 1, none⟩))) rfl (by kernel_rfl) (by kernel_rfl) (by kernel_rfl) (fun _ _ _ h => h) (Or.inl ⟨by rfl, fun wx hSw => by go_simp⟩) (by assumption) ?_
      simp only [Act.put, List.getElem_toArray, List.getElem_cons_succ, List.getElem_cons_zero, List.setIfInBounds_toArray, List.set_cons_zero, List.set_cons_succ]
      refine wpAnyH_take (i := 3) (v := (.map (some Mb))) rfl (by kernel_rfl) (by kernel_rfl) (by kernel_rfl) (fun _ _ _ h => h) (Or.inl ⟨by rfl, fun wx hSw => by (have h1 := hSw.1; go_simp)⟩) (by assumption) ?_
      simp only [Act.put, List.getElem_toArray, List.getElem_cons_succ, List.getElem_cons_zero, List.setIfInBounds_toArray, List.set_cons_zero, List.set_cons_succ]
      refine wpAnyH_take (i := 4) (v := (.pointer (some ⟨E, 0, none⟩))) rfl (by kernel_rfl) (by kernel_rfl) (by kernel_rfl) (fun _ _ _ h => h) (Or.inl ⟨by rfl, fun wx hSw => by go_simp⟩) (by assumption) ?_
      simp only [Act.put, List.getElem_toArray, List.getElem_cons_succ, List.getElem_cons_zero, List.setIfInBounds_toArray, List.set_cons_zero, List.set_cons_succ]
      refine wpAnyH_take (i := 5) (v := (.int .i64 d)) rfl (by kernel_rfl) (by kernel_rfl) (by kernel_rfl) (fun _ _ _ h => h) (Or.inl ⟨by rfl, fun wx hSw => by (have h1 := hSw.2.cell 0 rfl; go_simp)⟩) (by assumption) ?_
      simp only [Act.put, List.getElem_toArray, List.getElem_cons_succ, List.getElem_cons_zero, List.setIfInBounds_toArray, List.set_cons_zero, List.set_cons_succ]
      refine wpAnyH_take (i := 6) (v := (.pointer (some ⟨E, 1, none⟩))) rfl (by kernel_rfl) (by kernel_rfl) (by kernel_rfl) (fun _ _ _ h => h) (Or.inl ⟨by rfl, fun wx hSw => by go_simp⟩) (by assumption) ?_
      simp only [Act.put, List.getElem_toArray, List.getElem_cons_succ, List.getElem_cons_zero, List.setIfInBounds_toArray, List.set_cons_zero, List.set_cons_succ]
      refine wpAnyH_take (i := 7) (v := (.int .i64 k)) rfl (by kernel_rfl) (by kernel_rfl) (by kernel_rfl) (fun _ _ _ h => h) (Or.inl ⟨by rfl, fun wx hSw => by (have h1 := hSw.2.cell 1 rfl; go_simp)⟩) (by assumption) ?_
      simp only [Act.put, List.getElem_toArray, List.getElem_cons_succ, List.getElem_cons_zero, List.setIfInBounds_toArray, List.set_cons_zero, List.set_cons_succ]
      refine wpAnyH_take (i := 8) (v := (.agg #[.int .i64 d, .int .i64 k])) rfl (by kernel_rfl) (by kernel_rfl) (by kernel_rfl) (fun _ _ _ h => h) (Or.inl ⟨by rfl, fun wx hSw => by go_simp⟩) (by assumption) ?_
      simp only [Act.put, List.getElem_toArray, List.getElem_cons_succ, List.getElem_cons_zero, List.setIfInBounds_toArray, List.set_cons_zero, List.set_cons_succ]
      refine wpAnyH_take (i := 10) (v := (.pointer (some ⟨E, 2, none⟩))) rfl (by kernel_rfl) (by kernel_rfl) (by kernel_rfl) (fun _ _ _ h => h) (Or.inl ⟨by rfl, fun wx hSw => by go_simp⟩) (by assumption) ?_
      simp only [Act.put, List.getElem_toArray, List.getElem_cons_succ, List.getElem_cons_zero, List.setIfInBounds_toArray, List.set_cons_zero, List.set_cons_succ]
      refine wpAnyH_take (i := 11) (v := (.int .i64 a)) rfl (by kernel_rfl) (by kernel_rfl) (by kernel_rfl) (fun _ _ _ h => h) (Or.inl ⟨by rfl, fun wx hSw => by (have h1 := hSw.2.cell 2 rfl; go_simp)⟩) (by assumption) ?_
      simp only [Act.put, List.getElem_toArray, List.getElem_cons_succ, List.getElem_cons_zero, List.setIfInBounds_toArray, List.set_cons_zero, List.set_cons_succ]
      refine wpAnyH_ready (rs := [9, 13]) (by kernel_rfl) (by simp) ?_
      refine AllReadyH.cons rfl (fun K hK => ?_) (AllReadyH.cons rfl (fun K hK => ?_) AllReadyH.nil)
      · rw [if_pos (by rfl)]
        refine wp_lookup_run (.tmp 20) (.tmp 25) 146 rfl _ _ rfl rfl hlk1 ?_
        refine hK.out _ _ hs1 (fun _ => ?_)
        clear hK K
        simp only [Act.put, List.getElem_toArray, List.getElem_cons_succ, List.getElem_cons_zero, List.setIfInBounds_toArray, List.set_cons_zero, List.set_cons_succ]
        refine wpAnyH_take (i := 12) (v := (.int .i64 (wrap64 (sumOf L d k + a)))) rfl (by kernel_rfl) (by kernel_rfl) (by kernel_rfl) (fun _ _ _ h => h) (Or.inl ⟨by rfl, fun wx hSw => by (go_simp; simp only [IntKind.wrap_i64, wrap64])⟩) (by assumption) ?_
        simp only [Act.put, List.getElem_toArray, List.getElem_cons_succ, List.getElem_cons_zero, List.setIfInBounds_toArray, List.set_cons_zero, List.set_cons_succ]
        refine wpAnyH_ready (rs := [13]) (by kernel_rfl) (by simp) ?_
        refine AllReadyH.cons rfl (fun K hK => ?_) AllReadyH.nil
        rw [if_pos (by rfl)]
        refine wp_entry_run (.tmp 20) (.tmp 25) 146 rfl _ _ rfl rfl hen ?_
        refine hK.out _ _ hs2 (fun _ => ?_)
        clear hK K
        simp only [Act.put, List.getElem_toArray, List.getElem_cons_succ, List.getElem_cons_zero, List.setIfInBounds_toArray, List.set_cons_zero, List.set_cons_succ]
        refine wpAnyH_take (i := 14) (v := (.int .i64 st)) rfl (by kernel_rfl) (by kernel_rfl) (by kernel_rfl) (fun _ _ _ h => h) (Or.inl ⟨by rfl, fun wx hSw => by go_simp⟩) (by assumption) ?_
        simp only [Act.put, List.getElem_toArray, List.getElem_cons_succ, List.getElem_cons_zero, List.setIfInBounds_toArray, List.set_cons_zero, List.set_cons_succ]
        refine wpAnyH_ready (rs := [15]) (by kernel_rfl) (by simp) ?_
        refine AllReadyH.cons rfl (fun K hK => ?_) AllReadyH.nil
        rw [if_pos (by rfl)]
        refine wp_entryStore_run (.tmp 20) (.tmp 31) (.tmp 29) 146 rfl _ _ _ rfl rfl rfl hst ?_
        refine hK.out _ _ hs5 (fun _ => ?_)
        clear hK K
        refine wpAnyH_done (by kernel_rfl) ?_ _
        go_wp2
        go_end0
        exact ⟨rfl, HT.out⟩
      · rw [if_pos (by rfl)]
        refine wp_entry_run (.tmp 20) (.tmp 25) 146 rfl _ _ rfl rfl hen ?_
        refine hK.out _ _ hs2 (fun _ => ?_)
        clear hK K
        simp only [Act.put, List.getElem_toArray, List.getElem_cons_succ, List.getElem_cons_zero, List.setIfInBounds_toArray, List.set_cons_zero, List.set_cons_succ]
        refine wpAnyH_take (i := 14) (v := (.int .i64 st)) rfl (by kernel_rfl) (by kernel_rfl) (by kernel_rfl) (fun _ _ _ h => h) (Or.inl ⟨by rfl, fun wx hSw => by go_simp⟩) (by assumption) ?_
        simp only [Act.put, List.getElem_toArray, List.getElem_cons_succ, List.getElem_cons_zero, List.setIfInBounds_toArray, List.set_cons_zero, List.set_cons_succ]
        refine wpAnyH_ready (rs := [9]) (by kernel_rfl) (by simp) ?_
        refine AllReadyH.cons rfl (fun K hK => ?_) AllReadyH.nil
        rw [if_pos (by rfl)]
        refine wp_lookup_run (.tmp 20) (.tmp 25) 146 rfl _ _ rfl rfl hlk2 ?_
        refine hK.out _ _ hs2 (fun _ => ?_)
        clear hK K
        simp only [Act.put, List.getElem_toArray, List.getElem_cons_succ, List.getElem_cons_zero, List.setIfInBounds_toArray, List.set_cons_zero, List.set_cons_succ]
        refine wpAnyH_take (i := 12) (v := (.int .i64 (wrap64 (sumOf L d k + a)))) rfl (by kernel_rfl) (by kernel_rfl) (by kernel_rfl) (fun _ _ _ h => h) (Or.inl ⟨by rfl, fun wx hSw => by (go_simp; simp only [IntKind.wrap_i64, wrap64])⟩) (by assumption) ?_
        simp only [Act.put, List.getElem_toArray, List.getElem_cons_succ, List.getElem_cons_zero, List.setIfInBounds_toArray, List.set_cons_zero, List.set_cons_succ]
        refine wpAnyH_ready (rs := [15]) (by kernel_rfl) (by simp) ?_
        refine AllReadyH.cons rfl (fun K hK => ?_) AllReadyH.nil
        rw [if_pos (by rfl)]
        refine wp_entryStore_run (.tmp 20) (.tmp 31) (.tmp 29) 146 rfl _ _ _ rfl rfl rfl hst ?_
        refine hK.out _ _ hs5 (fun _ => ?_)
        clear hK K
        refine wpAnyH_done (by kernel_rfl) ?_ _
        go_wp2
        go_end0
        exact ⟨rfl, HT.out⟩
end Go.Proofs.YtanndhoimpnhpaaGreatDoor
namespace Go.Proofs.YtanndhoimpnhpaaGreatDoor
open Go.ChangeShapes Go.WideShapes Go.RowKit Go.WideMaps Go.Maps
end Go.Proofs.YtanndhoimpnhpaaGreatDoor
namespace Go.Proofs.YtanndhoimpnhpaaGreatDoor
open Go.RowKit
def EvAt (w : World) (E : Nat) (p : Option Addr) (l : List Ln.Ev) : Prop :=
  ∀ k (hk : k < l.length), ∃ o, p = some ⟨E, o, none⟩ ∧ E < w.heap.size ∧ w.cell? ⟨E, o + k * 4, none⟩ = some (.int .i64 l[k].d) ∧ w.cell? ⟨E, o + k * 4 + 1, none⟩ = some (.int .i64 l[k].k) ∧ w.cell? ⟨E, o + k * 4 + 2, none⟩ = some (.int .i64 l[k].s) ∧ w.cell? ⟨E, o + k * 4 + 3, none⟩ = some (.int .i64 l[k].a)
def EvV (w : World) (E : Nat) (v : Value) (l : List Ln.Ev) : Prop := ∃ p cap, v = .slice p l.length cap ∧ l.length ≤ cap ∧ EvAt w E p l
theorem EvAt.keep {S : Nat → Prop} {w w' : World} {E : Nat} {p : Option Addr} {l : List Ln.Ev} (h : EvAt w E p l) (hk : Keep S w w') (hs : l ≠ [] → ¬ S E) : EvAt w' E p l := by
  intro k hkl
  obtain ⟨o, rfl, hl, c0, c1, c2, c3⟩ := h k hkl
  have hb := hk.block E hl (hs (fun e => by subst e; exact absurd hkl (Nat.not_lt_zero k)))
  exact ⟨o, rfl, Nat.lt_of_lt_of_le hl hk.size, (World.cell?_of_block (w := w) (a := ⟨E, o + k * 4, none⟩) hb).trans c0, (World.cell?_of_block (w := w) (a := ⟨E, o + k * 4 + 1, none⟩) hb).trans c1, (World.cell?_of_block (w := w) (a := ⟨E, o + k * 4 + 2, none⟩) hb).trans c2, (World.cell?_of_block (w := w) (a := ⟨E, o + k * 4 + 3, none⟩) hb).trans c3⟩
theorem EvV.keep {S : Nat → Prop} {w w' : World} {E : Nat} {v : Value} {l : List Ln.Ev} (h : EvV w E v l) (hk : Keep S w w') (hs : l ≠ [] → ¬ S E) : EvV w' E v l := by
  obtain ⟨p, cap, h1, h2, h3⟩ := h
  exact ⟨p, cap, h1, h2, h3.keep hk hs⟩
end Go.Proofs.YtanndhoimpnhpaaGreatDoor
