/- Cells of one block, all of them known and none frozen: what a store, a draw and new memory do to that. -/
import Derived.WalkKit
import Derived.Below
namespace Go.Proofs.YtanndhoimpnhpaaDoor
open Go.RowKit

/-- Block b begins with these cells, none of which is frozen. -/
def At (w : World) (b : Nat) (l : List Value) : Prop := ∀ i v, l[i]? = some v → w.cell? ⟨b, i, none⟩ = some v ∧ w.frozen? ⟨b, i, none⟩ = false
theorem At.cell {w : World} {b : Nat} {l : List Value} (h : At w b l) (i : Nat) {v : Value} (hi : l[i]? = some v) : w.cell? ⟨b, i, none⟩ = some v := (h i v hi).1
theorem At.free {w : World} {b : Nat} {l : List Value} (h : At w b l) (i : Nat) {v : Value} (hi : l[i]? = some v) : w.frozen? ⟨b, i, none⟩ = false := (h i v hi).2
theorem At.lt {w : World} {b : Nat} {v : Value} {l : List Value} (h : At w b (v :: l)) : b < w.heap.size := World.block_lt_of_cell? _ _ (h 0 v rfl).1
theorem At.set {w : World} {b : Nat} {l : List Value} (h : At w b l) (i : Nat) (hi : i < l.length) (v : Value) : At (w.setCell ⟨b, i, none⟩ v) b (l.set i v) := by
  intro j u hj
  rw [World.frozen?_setCell]
  by_cases e : j = i
  · subst e
    rw [List.getElem?_set_self hi] at hj
    obtain rfl := Option.some.inj hj
    obtain ⟨h1, h2⟩ := h j l[j] (List.getElem?_eq_getElem hi)
    exact ⟨World.cell?_setCell_same _ _ _ h1, h2⟩
  · rw [List.getElem?_set_ne (Ne.symm e)] at hj
    obtain ⟨h1, h2⟩ := h j u hj
    rw [World.cell?_setCell_other _ _ _ _ (fun x => e (by injection x with _ y; exact y.symm))]
    exact ⟨h1, h2⟩
theorem At.other {w : World} {b c : Nat} {l : List Value} (h : At w b l) (hne : ¬ c = b) (i : Nat) (v : Value) : At (w.setCell ⟨c, i, none⟩ v) b l := by
  intro j u hj
  obtain ⟨h1, h2⟩ := h j u hj
  rw [World.frozen?_setCell, World.cell?_setCell_other _ _ _ _ (fun x => hne (by injection x))]
  exact ⟨h1, h2⟩
theorem At.block {w w' : World} {b : Nat} {l : List Value} (h : At w b l) (e : w'.heap[b]? = w.heap[b]?) : At w' b l := by
  intro j u hj
  obtain ⟨h1, h2⟩ := h j u hj
  rw [World.cell?_of_block (w := w) (a := ⟨b, j, none⟩) e, World.frozen?_of_block (w := w) (a := ⟨b, j, none⟩) e]
  exact ⟨h1, h2⟩
theorem At.drew {w : World} {b : Nat} {l : List Value} (h : At w b l) : At w.drew b l := h.block rfl

/-- All blocks but those of S are as they were. -/
structure Keep (S : Nat → Prop) (w w' : World) : Prop where
  os : w'.os = w.os
  tape : w'.tape = w.tape
  output : w'.output = w.output
  size : w.heap.size ≤ w'.heap.size
  block : ∀ k, k < w.heap.size → ¬ S k → w'.heap[k]? = w.heap[k]?
theorem Keep.refl (S : Nat → Prop) (w : World) : Keep S w w := ⟨rfl, rfl, rfl, Nat.le_refl _, fun _ _ _ => rfl⟩
theorem Keep.trans {S : Nat → Prop} {a b c : World} (h : Keep S a b) (k : Keep S b c) : Keep S a c :=
  ⟨k.os.trans h.os, k.tape.trans h.tape, k.output.trans h.output, Nat.le_trans h.size k.size, fun i hi hs => (k.block i (Nat.lt_of_lt_of_le hi h.size) hs).trans (h.block i hi hs)⟩
theorem Keep.mono {S T : Nat → Prop} {w w' : World} (h : Keep S w w') (hst : ∀ k, k < w.heap.size → S k → T k) : Keep T w w' :=
  ⟨h.os, h.tape, h.output, h.size, fun k hk ht => h.block k hk (fun s => ht (hst k hk s))⟩
theorem Keep.drew {S : Nat → Prop} {a w : World} (h : Keep S a w) : Keep S a w.drew := ⟨h.os, h.tape, h.output, h.size, h.block⟩
theorem Keep.set {S : Nat → Prop} {a w : World} (h : Keep S a w) {b : Nat} (hb : S b) (i : Nat) (v : Value) : Keep S a (w.setCell ⟨b, i, none⟩ v) :=
  ⟨h.os, h.tape, h.output, by simpa [World.setCell] using h.size, fun k hk hs => by
    rw [Below.heap_setCell _ _ _ _ (fun e => hs (by rw [e]; exact hb))]
    exact h.block k hk hs⟩
theorem Keep.below {S : Nat → Prop} {w w' : World} (h : Below w.heap.size w w') : Keep S w w' := ⟨h.os, h.tape, h.output, h.size, fun k hk _ => h.block k hk⟩
theorem At.keep {S : Nat → Prop} {w w' : World} {b : Nat} {v : Value} {l : List Value} (h : At w b (v :: l)) (k : Keep S w w') (hs : ¬ S b) : At w' b (v :: l) := h.block (k.block b h.lt hs)
theorem At.alloc (w : World) (l : List Value) (T : TypeId) : At (w.alloc (.cells l.toArray T)) w.heap.size l := by
  intro i v hi
  have hb : (w.alloc (.cells l.toArray T)).heap[w.heap.size]? = some (.cells l.toArray T) := (MapKept.heap_alloc w _).1
  refine ⟨?_, ?_⟩
  · simp only [World.cell?, hb]
    simpa using hi
  · simp only [World.frozen?, hb]
    simp
end Go.Proofs.YtanndhoimpnhpaaDoor
