/- Whole structs stored into and loaded out of memory, as one step. -/
import Derived.WalkKit
import Derived.Below
import Derived.Deep.WholeRow
import Derived.Deep.MidRow
import Derived.Deep.RegionHeld3
import Derived.Test.YtanndhoimpnhpaaDoorAt
namespace Go.Proofs.YtanndhoimpnhpaaDoor
open Go.RowKit

theorem size_alloc (w : World) (o : Obj) : (w.alloc o).heap.size = w.heap.size + 1 := by simp
/-- A whole struct into the block that was made last. -/
theorem wpList_store_new {P : Program} {ops : Array Oper} {rest : List Oper} {o : Oper} {a : Act} {W : World} {Q : Exit → Act → World → Prop} (hgd : o.guard = none) (ty : TypeId) (x y : Operand) (ho : o.op = .store ty x y)
    (cells c : Array Value) (hx : a.eval x = .pointer (some ⟨W.heap.size, 0, none⟩)) (hy : a.eval y = .agg cells) (hi : (P.info? ty).map (·.size) = some cells.size) (hc : c.size = cells.size) (h1 : cells.all (·.oneCell') = true)
    (h : wpList P ops Q rest (a.put o.dst undef) (W.alloc (.cells cells ty))) : wpList P ops Q (o :: rest) a (W.alloc (.cells c ty)) := by
  refine wpList_store_row hgd ty x y ho W.heap.size cells hx hy ty c (heap_alloc_last W _) hi hc h1 ?_
  rw [World.setRow_alloc_new]
  exact h
/-- One operation that yields a value. -/
theorem wpList_val {P : Program} {ops : Array Oper} {rest : List Oper} {o : Oper} {a : Act} {w : World} {Q : Exit → Act → World → Prop} (v : Value) (w' : World) (hg : o.guard = none) (hrun : (execOp a.eval o).run P w = .ok (.value v) w')
    (h : wpList P ops Q rest (a.put o.dst v) w') : wpList P ops Q (o :: rest) a w :=
  wpList_plain hg fun K hK => by
    unfold Oper.wp
    rw [hrun]
    exact hK _ _ h
theorem At.range {w : World} {b : Nat} {l : List Value} (h : At w b l) : w.rangeAt b 0 l := fun j v hv => by
  have := (h j v hv).1
  rw [Nat.zero_add]
  exact this
/-- A piece of a block. -/
theorem At.mid {w : World} {b : Nat} {l : List Value} (h : At w b l) (o : Nat) (m : List Value) (hm : ∀ j v, m[j]? = some v → l[o + j]? = some v) : w.rangeAt b o m := fun j v hv => (h (o + j) v (hm j v hv)).1
theorem At.there {w : World} {b : Nat} {l : List Value} (h : At w b l) (n : Nat) (hn : n = l.length) : w.there b 0 n := fun j hj => by
  subst hn
  obtain ⟨h1, h2⟩ := h j l[j] (List.getElem?_eq_getElem hj)
  rw [Nat.zero_add]
  exact ⟨by rw [h1]; rfl, h2⟩
theorem At.allocs (W : World) (l : List Value) (T : TypeId) {B : Nat} (h : W.heap.size = B) : At (W.alloc (.cells l.toArray T)) B l := h ▸ At.alloc W l T
theorem At.over {W : World} {b : Nat} {v : Value} {l : List Value} (h : At W b (v :: l)) (o : Obj) : At (W.alloc o) b (v :: l) :=
  h.keep (S := fun _ => False) (Keep.below ((Below.refl _ _).alloc (Nat.le_refl _) o)) (fun x => x)
theorem At.setCells_same {w : World} {b : Nat} {l m : List Value} (h : At w b l) (hl : m.length = l.length) : At (w.setCells b 0 m) b m := by
  have ht : w.there b 0 m.length := h.there _ hl
  intro i v hi
  have hr := World.rangeAt_setCells_same w b 0 m ht i v hi
  rw [Nat.zero_add] at hr
  have hil : i < l.length := by
    have := (List.getElem?_eq_some_iff.1 hi).1
    omega
  refine ⟨hr, ?_⟩
  rw [World.frozen?_setCells]
  exact (h i l[i] (List.getElem?_eq_getElem hil)).2
theorem Keep.setCells {S : Nat → Prop} {a : World} {b : Nat} (hb : S b) : ∀ (vs : List Value) (o : Nat) (w : World), Keep S a w → Keep S a (w.setCells b o vs)
  | [], _, _, h => h
  | v :: vs, o, _, h => Keep.setCells hb vs (o + 1) _ (h.set hb o v)
theorem At.apart {w : World} {b c : Nat} {v : Value} {l : List Value} (h : At w c (v :: l)) (hne : ¬ c = b) (o : Nat) (m : List Value) : At (w.setCells b o m) c (v :: l) :=
  h.keep (S := fun x => x = b) (Keep.setCells (S := fun x => x = b) rfl m o w (Keep.refl _ w)) hne
/-- What a function with two structs as results hands back. -/
theorem results_two {Pr : Program} {fn : Func} {p q : Tmp} {ty uy : TypeId} (h : fn.results = #[.cell p ty, .cell q uy]) (tmps : Array Value) (w : World) (g k : Nat) (cs ds : List Value) (d e : TypeDesc)
    (hp : tmps.getD p undef = .pointer (some ⟨g, 0, none⟩)) (hq : tmps.getD q undef = .pointer (some ⟨k, 0, none⟩)) (hg : w.rangeAt g 0 cs) (hk : w.rangeAt k 0 ds)
    (hu : Pr.underlying ty = some d) (hv : Pr.underlying uy = some e) (hd : d.isRow = true) (he : e.isRow = true) (hi : (Pr.info? ty).map (·.size) = some cs.length) (hj : (Pr.info? uy).map (·.size) = some ds.length) :
    (results fn tmps).run Pr w = .ok (.tuple #[.agg cs.toArray, .agg ds.toArray]) w := by
  have hp' : tmps[p]?.getD undef = .pointer (some ⟨g, 0, none⟩) := by simpa using hp
  have hq' : tmps[q]?.getD undef = .pointer (some ⟨k, 0, none⟩) := by simpa using hq
  simp [results, h, hp', hq', asAddr, run_loadVar_mid w g 0 ty cs d hg hu hd hi, run_loadVar_mid w k 0 uy ds e hk hv he hj]
end Go.Proofs.YtanndhoimpnhpaaDoor
