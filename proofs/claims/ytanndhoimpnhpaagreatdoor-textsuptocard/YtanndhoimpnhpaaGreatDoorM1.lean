/- Joined by program: TxA, At, Row, Loan, Mid, Bp, TxH, Txt, TxD, Lg, LnA, Cal, CalA0, TxB, TxF. -/
import Derived.Lib.ItoaLen
import Derived.Lib.ItoaNum
import Derived.WalkKit
import Derived.Below
import Derived.Deep.WholeRow
import Derived.Deep.MidRow
import Derived.Deep.RegionHeld3
import Derived.Maps.AppendAt
import Derived.Lib.ItoaMem
import Derived.Test.YtanndhoimpnhpaaGreatDoorChecked
import Derived.ProofKit
import Derived.OpenShut
import Derived.Laws.IdiomStrings
namespace Go.Proofs.YtanndhoimpnhpaaGreatDoor
def InR (n : Int) : Prop := -9223372036854775808 ≤ n ∧ n ≤ 9223372036854775807
def lnum : List Int → List UInt8
  | [] => []
  | n :: r => 32 :: (Lib.itoa n ++ lnum r)
theorem lnum_app : ∀ a b : List Int, lnum (a ++ b) = lnum a ++ lnum b
  | [], _ => rfl
  | n :: r, b => by simp [lnum, lnum_app r b]
theorem lnum_len : ∀ l : List Int, (∀ n ∈ l, InR n) → (lnum l).length ≤ 22 * l.length
  | [], _ => by simp [lnum]
  | n :: r, h => by
    have h1 := lnum_len r (fun x hx => h x (by simp [hx]))
    have h2 := h n (by simp)
    have h3 := Lib.itoa_length_le n h2.1 h2.2
    simp only [lnum, List.length_cons, List.length_append]
    omega
theorem lnum_take (l : List Int) (k : Nat) (hk : k < l.length) : lnum (l.take (k + 1)) = lnum (l.take k) ++ 32 :: Lib.itoa l[k] := by
  rw [List.take_succ_eq_append_getElem hk, lnum_app]
  simp [lnum]
def lineB (word : List UInt8) (l : List Int) : List UInt8 := word ++ lnum l ++ [10]
end Go.Proofs.YtanndhoimpnhpaaGreatDoor
namespace Go.Proofs.YtanndhoimpnhpaaGreatDoor
open Go.RowKit
def At (w : World) (b : Nat) (l : List Value) : Prop := ∀ i v, l[i]? = some v → w.cell? ⟨b, i, none⟩ = some v ∧ w.frozen? ⟨b, i, none⟩ = false
theorem At.cell {w : World} {b : Nat} {l : List Value} (h : At w b l) (i : Nat) {v : Value} (hi : l[i]? = some v) : w.cell? ⟨b, i, none⟩ = some v := (h i v hi).1
theorem At.free {w : World} {b : Nat} {l : List Value} (h : At w b l) (i : Nat) {v : Value} (hi : l[i]? = some v) : w.frozen? ⟨b, i, none⟩ = false := (h i v hi).2
theorem At.lt {w : World} {b : Nat} {v : Value} {l : List Value} (h : At w b (v :: l)) : b < w.heap.size := World.block_lt_of_cell? _ _ (h 0 v rfl).1
theorem At.set {w : World} {b : Nat} {l : List Value} (h : At w b l) (i : Nat) (hi : i < l.length) (v : Value) : At (w.setCell ⟨b, i, none⟩ v) b (l.set i v) := by
  intro j u hj
  rw [World.frozen?_setCell]
  by_cases e : j = i
  · subst e
    rw [List.getElem?_set_self hi] at hj
    obtain rfl := Option.some.inj hj
    obtain ⟨h1, h2⟩ := h j l[j] (List.getElem?_eq_getElem hi)
    exact ⟨World.cell?_setCell_same _ _ _ h1, h2⟩
  · rw [List.getElem?_set_ne (Ne.symm e)] at hj
    obtain ⟨h1, h2⟩ := h j u hj
    rw [World.cell?_setCell_other _ _ _ _ (fun x => e (by injection x with _ y; exact y.symm))]
    exact ⟨h1, h2⟩
theorem At.other {w : World} {b c : Nat} {l : List Value} (h : At w b l) (hne : ¬ c = b) (i : Nat) (v : Value) : At (w.setCell ⟨c, i, none⟩ v) b l := by
  intro j u hj
  obtain ⟨h1, h2⟩ := h j u hj
  rw [World.frozen?_setCell, World.cell?_setCell_other _ _ _ _ (fun x => hne (by injection x))]
  exact ⟨h1, h2⟩
theorem At.block {w w' : World} {b : Nat} {l : List Value} (h : At w b l) (e : w'.heap[b]? = w.heap[b]?) : At w' b l := by
  intro j u hj
  obtain ⟨h1, h2⟩ := h j u hj
  rw [World.cell?_of_block (w := w) (a := ⟨b, j, none⟩) e, World.frozen?_of_block (w := w) (a := ⟨b, j, none⟩) e]
  exact ⟨h1, h2⟩
theorem At.drew {w : World} {b : Nat} {l : List Value} (h : At w b l) : At w.drew b l := h.block rfl
structure Keep (S : Nat → Prop) (w w' : World) : Prop where
  os : w'.os = w.os
  tape : w'.tape = w.tape
  output : w'.output = w.output
  size : w.heap.size ≤ w'.heap.size
  block : ∀ k, k < w.heap.size → ¬ S k → w'.heap[k]? = w.heap[k]?
theorem Keep.refl (S : Nat → Prop) (w : World) : Keep S w w := ⟨rfl, rfl, rfl, Nat.le_refl _, fun _ _ _ => rfl⟩
theorem Keep.trans {S : Nat → Prop} {a b c : World} (h : Keep S a b) (k : Keep S b c) : Keep S a c :=
  ⟨k.os.trans h.os, k.tape.trans h.tape, k.output.trans h.output, Nat.le_trans h.size k.size, fun i hi hs => (k.block i (Nat.lt_of_lt_of_le hi h.size) hs).trans (h.block i hi hs)⟩
theorem Keep.mono {S T : Nat → Prop} {w w' : World} (h : Keep S w w') (hst : ∀ k, k < w.heap.size → S k → T k) : Keep T w w' :=
  ⟨h.os, h.tape, h.output, h.size, fun k hk ht => h.block k hk (fun s => ht (hst k hk s))⟩
theorem Keep.drew {S : Nat → Prop} {a w : World} (h : Keep S a w) : Keep S a w.drew := ⟨h.os, h.tape, h.output, h.size, h.block⟩
theorem Keep.set {S : Nat → Prop} {a w : World} (h : Keep S a w) {b : Nat} (hb : S b) (i : Nat) (v : Value) : Keep S a (w.setCell ⟨b, i, none⟩ v) :=
  ⟨h.os, h.tape, h.output, by simpa [World.setCell] using h.size, fun k hk hs => by
    rw [Below.heap_setCell _ _ _ _ (fun e => hs (by rw [e]; exact hb))]
    exact h.block k hk hs⟩
theorem Keep.below {S : Nat → Prop} {w w' : World} (h : Below w.heap.size w w') : Keep S w w' := ⟨h.os, h.tape, h.output, h.size, fun k hk _ => h.block k hk⟩
theorem At.keep {S : Nat → Prop} {w w' : World} {b : Nat} {v : Value} {l : List Value} (h : At w b (v :: l)) (k : Keep S w w') (hs : ¬ S b) : At w' b (v :: l) := h.block (k.block b h.lt hs)
theorem At.alloc (w : World) (l : List Value) (T : TypeId) : At (w.alloc (.cells l.toArray T)) w.heap.size l := by
  intro i v hi
  have hb : (w.alloc (.cells l.toArray T)).heap[w.heap.size]? = some (.cells l.toArray T) := (MapKept.heap_alloc w _).1
  refine ⟨?_, ?_⟩
  · simp only [World.cell?, hb]
    simpa using hi
  · simp only [World.frozen?, hb]
    simp
end Go.Proofs.YtanndhoimpnhpaaGreatDoor
namespace Go.Proofs.YtanndhoimpnhpaaGreatDoor
open Go.RowKit
theorem size_alloc (w : World) (o : Obj) : (w.alloc o).heap.size = w.heap.size + 1 := by simp
theorem wpList_store_new {P : Program} {ops : Array Oper} {rest : List Oper} {o : Oper} {a : Act} {W : World} {Q : Exit → Act → World → Prop} (hgd : o.guard = none) (ty : TypeId) (x y : Operand) (ho : o.op = .store ty x y)
    (cells c : Array Value) (hx : a.eval x = .pointer (some ⟨W.heap.size, 0, none⟩)) (hy : a.eval y = .agg cells) (hi : (P.info? ty).map (·.size) = some cells.size) (hc : c.size = cells.size) (h1 : cells.all (·.oneCell') = true)
    (h : wpList P ops Q rest (a.put o.dst undef) (W.alloc (.cells cells ty))) : wpList P ops Q (o :: rest) a (W.alloc (.cells c ty)) := by
  refine wpList_store_row hgd ty x y ho W.heap.size cells hx hy ty c (heap_alloc_last W _) hi hc h1 ?_
  rw [World.setRow_alloc_new]
  exact h
theorem wpList_val {P : Program} {ops : Array Oper} {rest : List Oper} {o : Oper} {a : Act} {w : World} {Q : Exit → Act → World → Prop} (v : Value) (w' : World) (hg : o.guard = none) (hrun : (execOp a.eval o).run P w = .ok (.value v) w')
    (h : wpList P ops Q rest (a.put o.dst v) w') : wpList P ops Q (o :: rest) a w :=
  wpList_plain hg fun K hK => by
    unfold Oper.wp
    rw [hrun]
    exact hK _ _ h
theorem At.range {w : World} {b : Nat} {l : List Value} (h : At w b l) : w.rangeAt b 0 l := fun j v hv => by
  have := (h j v hv).1
  rw [Nat.zero_add]
  exact this
theorem At.mid {w : World} {b : Nat} {l : List Value} (h : At w b l) (o : Nat) (m : List Value) (hm : ∀ j v, m[j]? = some v → l[o + j]? = some v) : w.rangeAt b o m := fun j v hv => (h (o + j) v (hm j v hv)).1
theorem At.there {w : World} {b : Nat} {l : List Value} (h : At w b l) (n : Nat) (hn : n = l.length) : w.there b 0 n := fun j hj => by
  subst hn
  obtain ⟨h1, h2⟩ := h j l[j] (List.getElem?_eq_getElem hj)
  rw [Nat.zero_add]
  exact ⟨by rw [h1]; rfl, h2⟩
theorem At.allocs (W : World) (l : List Value) (T : TypeId) {B : Nat} (h : W.heap.size = B) : At (W.alloc (.cells l.toArray T)) B l := h ▸ At.alloc W l T
theorem At.over {W : World} {b : Nat} {v : Value} {l : List Value} (h : At W b (v :: l)) (o : Obj) : At (W.alloc o) b (v :: l) :=
  h.keep (S := fun _ => False) (Keep.below ((Below.refl _ _).alloc (Nat.le_refl _) o)) (fun x => x)
theorem At.setCells_same {w : World} {b : Nat} {l m : List Value} (h : At w b l) (hl : m.length = l.length) : At (w.setCells b 0 m) b m := by
  have ht : w.there b 0 m.length := h.there _ hl
  intro i v hi
  have hr := World.rangeAt_setCells_same w b 0 m ht i v hi
  rw [Nat.zero_add] at hr
  have hil : i < l.length := by
    have := (List.getElem?_eq_some_iff.1 hi).1
    omega
  refine ⟨hr, ?_⟩
  rw [World.frozen?_setCells]
  exact (h i l[i] (List.getElem?_eq_getElem hil)).2
theorem Keep.setCells {S : Nat → Prop} {a : World} {b : Nat} (hb : S b) : ∀ (vs : List Value) (o : Nat) (w : World), Keep S a w → Keep S a (w.setCells b o vs)
  | [], _, _, h => h
  | v :: vs, o, _, h => Keep.setCells hb vs (o + 1) _ (h.set hb o v)
end Go.Proofs.YtanndhoimpnhpaaGreatDoor
namespace Go.Proofs.YtanndhoimpnhpaaGreatDoor.Ln
structure Terms where
  st : Int
  pr : Int
  rt : Int
  fi : Int
  ba : Int
  du : Int
structure Ev where
  d : Int
  k : Int
  s : Int
  a : Int
structure St where
  pr : Int
  it : Int
  du : Int
  la : Int
  fi : Int
  cr : Int
  rt : Int
  fr : Int
  ea : Int
  fn : Int
structure Dy where
  g : St
  am : Nat → Int
def upd (f : Nat → Int) (k : Nat) (a : Int) : Nat → Int := fun i => if i = k then f i + a else f i
def move (g : St) (k : Nat) (a : Int) : St :=
  match k with
  | 1 => { g with pr := g.pr + a }
  | 2 => { g with la := g.la + a, du := g.du - a }
  | 3 => { g with du := g.du + a, it := g.it - a }
  | 4 => { g with pr := g.pr + a, it := g.it - a }
  | 5 => { g with fi := g.fi - a }
  | 6 => { g with la := g.la - a }
  | 7 => { g with du := g.du - a }
  | 8 => { g with it := g.it - a }
  | 9 => { g with pr := g.pr - a }
  | 10 => { g with cr := g.cr + a }
  | 11 => { g with it := g.it + a }
  | 12 => { g with fi := g.fi + a }
  | _ => g
def enter (y : Dy) (k : Nat) (a : Int) : Dy := ⟨move y.g k a, upd y.am k a⟩
def least (a b : Int) : Int := if b < a then b else a
def pay (y : Dy) (a : Int) : Dy :=
  let x5 := least y.g.fi a
  let x6 := least y.g.la (a - x5)
  let x7 := least y.g.du (a - x5 - x6)
  let x8 := least y.g.it (a - x5 - x6 - x7)
  let x9 := least y.g.pr (a - x5 - x6 - x7 - x8)
  enter (enter (enter (enter (enter (enter y 5 x5) 6 x6) 7 x7) 8 x8) 9 x9) 10 (a - x5 - x6 - x7 - x8 - x9)
def event (n : Int) (y : Dy) (e : Ev) : Dy :=
  if e.d ≠ n then y
  else if e.k = 1 then enter y 1 e.a
  else if e.k = 2 then { y with g := { y.g with rt := e.a } }
  else if e.k = 3 then (if y.g.fr < n + e.a then { y with g := { y.g with fr := n + e.a } } else y)
  else if e.k = 4 then enter y 4 y.g.it
  else if e.k = 5 then pay y e.a
  else y
def year (t : Terms) : Int := if t.ba = 1 then 365 else 360
def part (t : Terms) (x : Int) : Int := x / 1000000 / year t
def early (t : Terms) (n cd : Int) (g : St) : Dy :=
  let y0 : Dy := ⟨g, fun _ => 0⟩
  let y1 := if n = t.st then enter y0 1 t.pr else y0
  if n ≠ t.st ∧ cd = t.du ∧ y1.g.fr ≤ n then (let y2 := enter y1 2 y1.g.du; enter y2 3 y2.g.it) else y1
def late (t : Terms) (w : Int) (y : Dy) : Dy :=
  let ea := y.g.ea + y.g.pr * (y.g.rt * w)
  let fn := y.g.fn + y.g.la * (t.fi * w)
  let y1 : Dy := ⟨{ y.g with ea := ea, fn := fn }, y.am⟩
  enter (enter y1 11 (part t ea - part t y.g.ea)) 12 (part t fn - part t y.g.fn)
def day (t : Terms) (n cd w : Int) (l : List Ev) (g : St) : Dy := late t w (l.foldl (event n) (early t n cd g))
def start (t : Terms) : St := ⟨0, 0, 0, 0, 0, 0, t.rt, 0, 0, 0⟩
def run (t : Terms) (cd wt : Int → Int) (l : List Ev) : Nat → St
  | 0 => start t
  | k + 1 => (day t (t.st + k) (cd (t.st + k)) (wt (t.st + k)) l (run t cd wt l k)).g
structure OkT (t : Terms) : Prop where
  st0 : 0 ≤ t.st
  st1 : t.st ≤ 105872
  pr0 : 0 ≤ t.pr
  pr1 : t.pr ≤ 100000000000
  rt0 : 0 ≤ t.rt
  rt1 : t.rt ≤ 1000000
  fi0 : 0 ≤ t.fi
  fi1 : t.fi ≤ 1000000
  ba0 : 1 ≤ t.ba
  ba1 : t.ba ≤ 3
structure OkE (t : Terms) (e : Ev) : Prop where
  d0 : t.st ≤ e.d
  d1 : e.d ≤ t.st + 3700
  k0 : 1 ≤ e.k
  k1 : e.k ≤ 5
  a0 : 0 ≤ e.a
  a1 : e.a ≤ 100000000000
  rt : e.k = 2 → e.a ≤ 1000000
  ho : e.k = 3 → e.a ≤ 400
def den (t : Terms) : Int := 1000000 * year t
def lent (n : Int) (e : Ev) : Int := if e.d = n then e.a else 0
end Go.Proofs.YtanndhoimpnhpaaGreatDoor.Ln
namespace Go.Proofs.YtanndhoimpnhpaaGreatDoor
open Go.RowKit
def setl : List Value → Nat → List Value → List Value
  | l, _, [] => l
  | l, o, v :: r => setl (l.set o v) (o + 1) r
theorem At.setCells {b : Nat} : ∀ (m : List Value) (o : Nat) (l : List Value) (w : World), At w b l → o + m.length ≤ l.length → At (w.setCells b o m) b (setl l o m)
  | [], _, _, _, h, _ => h
  | v :: r, o, l, w, h, hl => by
    have hl' : o + (r.length + 1) ≤ l.length := hl
    exact At.setCells r (o + 1) (l.set o v) _ (h.set o (by omega) v) (by rw [List.length_set]; omega)
theorem At.there_mid {w : World} {b : Nat} {l : List Value} (h : At w b l) (o n : Nat) (hn : o + n ≤ l.length) : w.there b o n := fun j hj => by
  obtain ⟨h1, h2⟩ := h (o + j) l[o + j] (List.getElem?_eq_getElem (by omega))
  exact ⟨by rw [h1]; rfl, h2⟩
end Go.Proofs.YtanndhoimpnhpaaGreatDoor
namespace Go.Proofs.YtanndhoimpnhpaaGreatDoor
open Go.RowKit
structure En where
  d : Int
  k : Int
  a : Int
def ens : List En → List Value
  | [] => []
  | e :: r => .int .i64 e.d :: .int .i64 e.k :: .int .i64 e.a :: ens r
theorem ens_len : ∀ l : List En, (ens l).length = l.length * 3
  | [] => rfl
  | e :: r => by
    have := ens_len r
    simp only [ens, List.length_cons]
    omega
theorem ens_append : ∀ l r : List En, ens (l ++ r) = ens l ++ ens r
  | [], _ => rfl
  | e :: l, r => by simp only [List.cons_append, ens, ens_append l r]
theorem ens_at : ∀ (l : List En) (k : Nat) (h : k < l.length), (ens l)[k * 3]? = some (.int .i64 l[k].d) ∧ (ens l)[k * 3 + 1]? = some (.int .i64 l[k].k) ∧ (ens l)[k * 3 + 2]? = some (.int .i64 l[k].a)
  | e :: r, 0, _ => ⟨rfl, rfl, rfl⟩
  | e :: r, k + 1, h => by
    have ih := ens_at r k (by simpa using h)
    have e1 : (k + 1) * 3 = k * 3 + 1 + 1 + 1 := by omega
    rw [e1]
    exact ih
theorem en_range {w : World} {base : Nat} {T : TypeId} {n cap g : Nat} {L : List En} (h : w.ownsRow base T 3 (.slice (some ⟨g, 0, none⟩) n cap) n (ens L)) (hn : n = L.length) (k : Nat) (hk : k < L.length) :
    w.cell? ⟨g, k * 3, none⟩ = some (.int .i64 L[k].d) ∧ w.cell? ⟨g, k * 3 + 1, none⟩ = some (.int .i64 L[k].k) ∧ w.cell? ⟨g, k * 3 + 2, none⟩ = some (.int .i64 L[k].a) := by
  obtain ⟨q0, q1, q2⟩ := ens_at L k hk
  exact ⟨(h.cellAt _ (by omega)).trans q0, (h.cellAt _ (by omega)).trans q1, (h.cellAt _ (by omega)).trans q2⟩
def hv (st : Int) (l : List En) (i : Nat) : Int := l.foldl (fun s e => if 13 * (e.d - st) + e.k = i then IntKind.i64.wrap (s + e.a) else s) 0
def hc (n : Nat) (f : Nat → Int) : List Value := (List.range n).map (fun i => .int .i64 (f i))
theorem hc_at (n : Nat) (f : Nat → Int) (i : Nat) (h : i < n) : (hc n f)[i]? = some (.int .i64 (f i)) := by
  unfold hc
  rw [List.getElem?_map, List.getElem?_range h]
  rfl
theorem hc_len (n : Nat) (f : Nat → Int) : (hc n f).length = n := by simp [hc]
theorem hc_set (n : Nat) (f g : Nat → Int) (i : Nat) (v : Int) (hg : ∀ j, j < n → g j = if j = i then v else f j) : (hc n f).set i (.int .i64 v) = hc n g := by
  apply List.ext_getElem?
  intro j
  by_cases hj : j < n
  · rw [hc_at n g j hj, hg j hj]
    by_cases e : j = i
    · subst e
      rw [if_pos rfl, List.getElem?_set_self (by rw [hc_len]; exact hj)]
    · rw [if_neg e, List.getElem?_set_ne (Ne.symm e), hc_at n f j hj]
  · rw [List.getElem?_eq_none (by rw [List.length_set, hc_len]; omega), List.getElem?_eq_none (by rw [hc_len]; omega)]
end Go.Proofs.YtanndhoimpnhpaaGreatDoor
namespace Go.Proofs.YtanndhoimpnhpaaGreatDoor
def wLoan : List UInt8 := [108, 111, 97, 110]
def wEvent : List UInt8 := [101, 118, 101, 110, 116]
def wAt : List UInt8 := [97, 116]
def wNow : List UInt8 := [110, 111, 119]
def wEntry : List UInt8 := [101, 110, 116, 114, 121]
def wEnd : List UInt8 := [101, 110, 100]
def tmN (t : Ln.Terms) : List Int := [t.st, t.pr, t.rt, t.fi, t.ba, t.du]
def evN (e : Ln.Ev) : List Int := [e.d, e.k, e.s, e.a]
def nwN (g : Ln.St) : List Int := [g.pr, g.it, g.du, g.la, g.fi, g.cr, g.rt]
def enN (e : En) : List Int := [e.d, e.k, e.a]
def evT : List Ln.Ev → List UInt8
  | [] => []
  | e :: r => lineB wEvent (evN e) ++ evT r
def enT : List En → List UInt8
  | [] => []
  | e :: r => lineB wEntry (enN e) ++ enT r
def txtB (t : Ln.Terms) (E : List Ln.Ev) (g : Ln.St) (day : Int) (L : List En) : List UInt8 :=
  lineB wLoan (tmN t) ++ evT E ++ lineB wAt [day] ++ lineB wNow (nwN g) ++ enT L ++ lineB wEnd []
theorem evT_app : ∀ a b : List Ln.Ev, evT (a ++ b) = evT a ++ evT b
  | [], _ => rfl
  | e :: r, b => by simp [evT, evT_app r b]
theorem enT_app : ∀ a b : List En, enT (a ++ b) = enT a ++ enT b
  | [], _ => rfl
  | e :: r, b => by simp [enT, enT_app r b]
structure Rg (t : Ln.Terms) (E : List Ln.Ev) (g : Ln.St) (day : Int) (L : List En) : Prop where
  tm : ∀ n ∈ tmN t, InR n
  ev : ∀ e ∈ E, ∀ n ∈ evN e, InR n
  nw : ∀ n ∈ nwN g, InR n
  dy : InR day
  en : ∀ e ∈ L, ∀ n ∈ enN e, InR n
theorem lineB_len (word : List UInt8) (l : List Int) (h : ∀ n ∈ l, InR n) : (lineB word l).length ≤ word.length + 22 * l.length + 1 := by
  have := lnum_len l h
  unfold lineB
  simp only [List.length_append, List.length_singleton]
  omega
theorem evT_len : ∀ E : List Ln.Ev, (∀ e ∈ E, ∀ n ∈ evN e, InR n) → (evT E).length ≤ 100 * E.length
  | [], _ => by simp [evT]
  | e :: r, h => by
    have h1 := evT_len r (fun x hx => h x (by simp [hx]))
    have h2 := lineB_len wEvent (evN e) (h e (by simp))
    have h3 : wEvent.length = 5 := rfl
    have h4 : (evN e).length = 4 := rfl
    simp only [evT, List.length_append, List.length_cons]
    omega
theorem enT_len : ∀ L : List En, (∀ e ∈ L, ∀ n ∈ enN e, InR n) → (enT L).length ≤ 100 * L.length
  | [], _ => by simp [enT]
  | e :: r, h => by
    have h1 := enT_len r (fun x hx => h x (by simp [hx]))
    have h2 := lineB_len wEntry (enN e) (h e (by simp))
    have h3 : wEntry.length = 5 := rfl
    have h4 : (enN e).length = 3 := rfl
    simp only [enT, List.length_append, List.length_cons]
    omega
theorem evT_take (E : List Ln.Ev) (k : Nat) (hk : k < E.length) : evT (E.take (k + 1)) = evT (E.take k) ++ lineB wEvent (evN E[k]) := by
  rw [List.take_succ_eq_append_getElem hk, evT_app]
  simp [evT]
theorem enT_take (L : List En) (k : Nat) (hk : k < L.length) : enT (L.take (k + 1)) = enT (L.take k) ++ lineB wEntry (enN L[k]) := by
  rw [List.take_succ_eq_append_getElem hk, enT_app]
  simp [enT]
end Go.Proofs.YtanndhoimpnhpaaGreatDoor
namespace Go.Proofs.YtanndhoimpnhpaaGreatDoor.Txt
def dg (c : UInt8) : Bool := decide (48 ≤ c.toNat) && decide (c.toNat ≤ 57)
def allD (l : List UInt8) : Bool := l.all dg
def dval (l : List UInt8) : Int := l.foldl (fun n c => 10 * n + (c.toNat : Int) - 48) 0
theorem dg_yes {c : UInt8} (a : 48 ≤ (c.toNat : Int)) (b : (c.toNat : Int) ≤ 57) : dg c = true := by simp [dg]; omega
theorem dg_bd {c : UInt8} (h : dg c = true) : 48 ≤ (c.toNat : Int) ∧ (c.toNat : Int) ≤ 57 := by simp [dg] at h; omega
theorem dval_snoc (l : List UInt8) (c : UInt8) : dval (l ++ [c]) = 10 * dval l + (c.toNat : Int) - 48 := by simp [dval, List.foldl_append]
theorem allD_snoc (l : List UInt8) (c : UInt8) : allD (l ++ [c]) = (allD l && dg c) := by simp [allD]
theorem take_snoc (s : ByteArray) (k : Nat) (h : k < s.size) : s.data.toList.take (k + 1) = s.data.toList.take k ++ [s[k]] := by
  rw [List.take_succ_eq_append_getElem (by simpa using h)]; rfl
theorem take_all (s : ByteArray) (k : Nat) (h : ¬ k < s.size) : s.data.toList.take k = s.data.toList := List.take_of_length_le (by simp; omega)
theorem fold_bd (l : List UInt8) : ∀ n : Int, 0 ≤ n → l.all dg = true → 0 ≤ l.foldl (fun n c => 10 * n + (c.toNat : Int) - 48) n ∧ l.foldl (fun n c => 10 * n + (c.toNat : Int) - 48) n < (n + 1) * 10 ^ l.length := by
  induction l with
  | nil => intro n hn _; simp; omega
  | cons c r ih =>
    intro n hn h
    simp only [List.all_cons, Bool.and_eq_true] at h
    have hb := dg_bd h.1
    have := ih (10 * n + (c.toNat : Int) - 48) (by omega) h.2
    refine ⟨this.1, Int.lt_of_lt_of_le this.2 ?_⟩
    have e : (n + 1) * 10 ^ (c :: r).length = (10 * (n + 1)) * 10 ^ r.length := by
      rw [List.length_cons, Int.pow_succ, Int.mul_comm ((10 : Int) ^ r.length) 10, ← Int.mul_assoc, Int.mul_comm (n + 1) 10]
    rw [e]
    refine Int.mul_le_mul_of_nonneg_right (by omega) (Int.le_of_lt (Int.pow_pos (by decide)))
theorem dval_lt (l : List UInt8) (h : allD l = true) (n : Nat) (k : l.length = n) : 0 ≤ dval l ∧ dval l < 10 ^ n := by
  have := fold_bd l 0 (by omega) h
  refine ⟨this.1, ?_⟩
  have h2 : dval l < 10 ^ l.length := by simpa [dval] using this.2
  rw [k] at h2
  exact h2
end Go.Proofs.YtanndhoimpnhpaaGreatDoor.Txt
namespace Go.Proofs.YtanndhoimpnhpaaGreatDoor
open Txt
theorem dg_of (d : Nat) (h : d < 10) : dg (UInt8.ofNat (48 + d)) = true ∧ ((UInt8.ofNat (48 + d)).toNat : Int) = 48 + d := by
  have e : (UInt8.ofNat (48 + d)).toNat = 48 + d := UInt8.toNat_ofNat_of_lt' (show 48 + d < 256 by omega)
  refine ⟨dg_yes ?_ ?_, ?_⟩ <;> rw [e] <;> omega
theorem dec_split (u : Nat) (h : 10 ≤ u) : Lib.decDigits u = Lib.decDigits (u / 10) ++ [UInt8.ofNat (48 + u % 10)] := by
  rw [Lib.decDigits, dif_neg (by omega)]
theorem dec_val : ∀ (k u : Nat), u < k → dval (Lib.decDigits u) = u ∧ allD (Lib.decDigits u) = true ∧ 1 ≤ (Lib.decDigits u).length
  | 0, u, h => absurd h (Nat.not_lt_zero u)
  | k + 1, u, h => by
    by_cases h10 : 10 ≤ u
    · obtain ⟨h1, h2, h3⟩ := dec_val k (u / 10) (by omega)
      obtain ⟨h4, h5⟩ := dg_of (u % 10) (by omega)
      rw [dec_split u h10, dval_snoc, allD_snoc, h1, h2, h4, h5, List.length_append]
      exact ⟨by omega, rfl, by simp⟩
    · obtain ⟨h4, h5⟩ := dg_of u (by omega)
      rw [Lib.decDigits_one (by omega), show [UInt8.ofNat (48 + u)] = [] ++ [UInt8.ofNat (48 + u)] from rfl, dval_snoc, allD_snoc, h4, h5]
      exact ⟨by simp [dval]; omega, rfl, by simp⟩
theorem dval_dec (u : Nat) : dval (Lib.decDigits u) = u := (dec_val (u + 1) u (by omega)).1
theorem allD_dec (u : Nat) : allD (Lib.decDigits u) = true := (dec_val (u + 1) u (by omega)).2.1
theorem dec_ne (u : Nat) : 1 ≤ (Lib.decDigits u).length := (dec_val (u + 1) u (by omega)).2.2
theorem dec_big : ∀ (n u : Nat), n + 1 ≤ (Lib.decDigits u).length → 1 ≤ n → 10 ^ n ≤ u
  | 0, _, _, h => absurd h (by omega)
  | n + 1, u, h, _ => by
    have h10 : 10 ≤ u := by
      rcases Nat.lt_or_ge u 10 with hu | hu
      · rw [Lib.decDigits_one hu] at h; simp at h
      · exact hu
    rw [dec_split u h10, List.length_append, List.length_singleton] at h
    by_cases hn : n = 0
    · subst hn; omega
    · have := dec_big n (u / 10) (by omega) (by omega)
      have e : 10 ^ (n + 1) = 10 ^ n * 10 := Nat.pow_succ 10 n
      omega
theorem dec_short (u : Nat) (h : u ≤ 9223372036854775808) : (Lib.decDigits u).length ≤ 19 := by
  rcases Nat.lt_or_ge 19 (Lib.decDigits u).length with hl | hl
  · have := dec_big 19 u (by omega) (by omega)
    have e : (10 : Nat) ^ 19 = 10000000000000000000 := by decide
    omega
  · exact hl
theorem dval_app (a : List UInt8) : ∀ b : List UInt8, allD a = true → allD b = true → dval a ≤ dval (a ++ b) ∧ 0 ≤ dval a
  | [], h, _ => by
    rw [List.append_nil]
    exact ⟨Int.le_refl _, by have := fold_bd a 0 (by omega) h; exact this.1⟩
  | c :: r, h, hb => by
    have hc : dg c = true ∧ allD r = true := by
      unfold allD at hb
      rw [List.all_cons, Bool.and_eq_true] at hb
      exact hb
    have h0 : 0 ≤ dval a := by have := fold_bd a 0 (by omega) h; exact this.1
    have h1 : allD (a ++ [c]) = true := by rw [allD_snoc, h, hc.1]; rfl
    have h2 := dval_app (a ++ [c]) r h1 hc.2
    rw [List.append_assoc] at h2
    have h3 := dval_snoc a c
    have h4 := dg_bd hc.1
    refine ⟨?_, h0⟩
    have h5 : dval a ≤ dval (a ++ [c]) := by rw [h3]; omega
    exact Int.le_trans h5 h2.1
def Can (d : List UInt8) (m : Nat) : Prop := ∃ u : Nat, u ≤ m ∧ d = Lib.decDigits u
theorem Can.len {d : List UInt8} {m : Nat} (h : Can d m) (hm : m ≤ 9223372036854775808) : 1 ≤ d.length ∧ d.length ≤ 19 := by
  obtain ⟨u, hu, rfl⟩ := h
  exact ⟨dec_ne u, dec_short u (by omega)⟩
theorem Can.dig {d : List UInt8} {m : Nat} (h : Can d m) : allD d = true := by
  obtain ⟨u, hu, rfl⟩ := h
  exact allD_dec u
theorem Can.val {d : List UInt8} {m : Nat} (h : Can d m) : dval d ≤ m := by
  obtain ⟨u, hu, rfl⟩ := h
  rw [dval_dec]
  omega
theorem allD_take {d : List UInt8} (h : allD d = true) (k : Nat) : allD (d.take k) = true ∧ allD (d.drop k) = true := by
  have : allD (d.take k ++ d.drop k) = true := by rw [List.take_append_drop]; exact h
  unfold allD at this ⊢
  rw [List.all_append, Bool.and_eq_true] at this
  exact this
theorem Can.pre {d : List UInt8} {m : Nat} (h : Can d m) (k : Nat) : dval (d.take k) ≤ m := by
  have h1 := allD_take h.dig k
  have h2 := (dval_app (d.take k) (d.drop k) h1.1 h1.2).1
  rw [List.take_append_drop] at h2
  exact Int.le_trans h2 h.val
theorem itoa_cases (n : Int) (h : InR n) (s : List UInt8) (hs : s = Lib.itoa n) : (¬ s.head? = some 45 ∧ 0 ≤ n ∧ Can s 9223372036854775807) ∨ (∃ d, s = 45 :: d ∧ n < 0 ∧ Can d 9223372036854775808) := by
  unfold InR at h
  by_cases hn : 0 ≤ n
  · obtain ⟨u, rfl⟩ := Int.eq_ofNat_of_zero_le hn
    rw [Lib.itoa_nonneg] at hs
    refine .inl ⟨fun e => ?_, hn, u, by omega, hs⟩
    have h1 := allD_dec u
    rw [← hs] at h1
    cases s with
    | nil => simp at e
    | cons c r =>
      simp at e
      subst e
      simp [allD, dg] at h1
  · obtain ⟨u, rfl⟩ : ∃ u : Nat, n = -(u : Int) := ⟨n.natAbs, by omega⟩
    rw [Lib.itoa_neg u (by omega)] at hs
    exact .inr ⟨_, hs, by omega, u, by omega, rfl⟩
theorem itoa_inj (a b : Int) (ha : InR a) (hb : InR b) (h : Lib.itoa a = Lib.itoa b) : a = b := by
  have key : ∀ n : Int, (0 ≤ n → dval (Lib.itoa n) = n) ∧ (n < 0 → Lib.itoa n = 45 :: Lib.decDigits n.natAbs) := fun n => by
    refine ⟨fun hn => ?_, fun hn => ?_⟩
    · obtain ⟨u, rfl⟩ := Int.eq_ofNat_of_zero_le hn
      rw [Lib.itoa_nonneg, dval_dec]
    · unfold Lib.itoa; rw [if_pos hn]
  rcases itoa_cases a ha _ rfl with ⟨h1, h2, _⟩ | ⟨d, h1, h2, _⟩
  · rcases itoa_cases b hb _ rfl with ⟨h3, h4, _⟩ | ⟨d', h3, h4, _⟩
    · have e1 := (key a).1 h2
      have e2 := (key b).1 h4
      rw [h] at e1
      omega
    · rw [h, h3] at h1
      simp at h1
  · rcases itoa_cases b hb _ rfl with ⟨h3, h4, _⟩ | ⟨d', h3, h4, _⟩
    · rw [← h, h1] at h3
      simp at h3
    · have e1 := (key a).2 h2
      have e2 := (key b).2 h4
      rw [h, e2] at e1
      simp only [List.cons.injEq, true_and] at e1
      have e3 := dval_dec a.natAbs
      have e4 := dval_dec b.natAbs
      rw [← e1, e4] at e3
      omega
end Go.Proofs.YtanndhoimpnhpaaGreatDoor
namespace Go.Proofs.YtanndhoimpnhpaaGreatDoor.Lg
end Go.Proofs.YtanndhoimpnhpaaGreatDoor.Lg
namespace Go.Proofs.YtanndhoimpnhpaaGreatDoor
open Go.ChangeShapes Go.WideShapes Go.ChangeAt Go.RowKit Lg
end Go.Proofs.YtanndhoimpnhpaaGreatDoor
namespace Go.Proofs.YtanndhoimpnhpaaGreatDoor.Cal
def lp (y : Int) : Int := if y % 4 = 0 ∧ (¬ y % 100 = 0 ∨ y % 400 = 0) then 1 else 0
def dim (y m : Int) : Int := if m = 2 then 28 + lp y else if m = 4 ∨ m = 6 ∨ m = 9 ∨ m = 11 then 30 else 31
def ys (y : Int) : Int := 365 * (y - 1900) + ((y - 1) / 4 - (y - 1) / 100 + (y - 1) / 400) - 460
def cum (y m : Int) : Int := if m ≤ 2 then 31 * (m - 1) else (153 * (m - 3) + 2) / 5 + 59 + lp y
def num (y m d : Int) : Int := ys y + cum y m + d - 1
def Ok (y m d : Int) : Prop := 1900 ≤ y ∧ y ≤ 2200 ∧ 1 ≤ m ∧ m ≤ 12 ∧ 1 ≤ d ∧ d ≤ dim y m
def cap (d : Int) : Int := if d ≤ 30 then d else 30
def t3 (y m d : Int) : Int := 360 * y + 30 * m + cap d
def nm (y m d : Int) : Int := if d < dim y m then m else if m < 12 then m + 1 else 1
end Go.Proofs.YtanndhoimpnhpaaGreatDoor.Cal
namespace Go.Proofs.YtanndhoimpnhpaaGreatDoor
open Go.ChangeShapes Go.WideShapes Go.ChangeAt Go.RowKit Cal
end Go.Proofs.YtanndhoimpnhpaaGreatDoor
namespace Go.Proofs.YtanndhoimpnhpaaGreatDoor
open Go.ChangeShapes Go.WideShapes Go.ChangeAt Go.RowKit Lg Cal
def bs (l : List UInt8) : ByteArray := ⟨l.toArray⟩
theorem bs_size (l : List UInt8) : (bs l).size = l.length := by
  unfold bs
  simp [ByteArray.size]
theorem bs_app (a b : List UInt8) : bs a ++ bs b = bs (a ++ b) := by
  unfold bs
  apply ByteArray.ext
  simp [ByteArray.data_append]
theorem bs_list (l : List UInt8) : (bs l).data.toList = l := by simp [bs]
theorem bs_of (s : ByteArray) : bs s.data.toList = s := by
  unfold bs
  apply ByteArray.ext
  simp
theorem dec_more (u : Nat) (h : 10 ≤ u) : Lib.decDigits u = Lib.decDigits (u / 10) ++ [UInt8.ofNat (48 + u % 10)] := by
  rw [Lib.decDigits, dif_neg (by omega)]
def dgt (d : Nat) : List UInt8 := [UInt8.ofNat (48 + d)]
theorem one_text (d : Nat) (hd : d < 10) (z : Int) (hz : z = 48 + (d : Int)) (w : World) :
    (convert 101 9 (.slice (some ⟨w.heap.size, 0, none⟩) 1 1)).run Tryz.prog (w.alloc (.cells #[.int .u8 z] 5)) = .ok (.string (bs (dgt d))) (w.alloc (.cells #[.int .u8 z] 5)) := by
  subst hz
  refine run_convert_bytes_back (P := Tryz.prog) _ 101 9 5 ⟨w.heap.size, 0, none⟩ 1 [UInt8.ofNat (48 + d)] Tryz.underlying101 Tryz.underlying5 Tryz.underlying9 ?_
  intro j hj
  match j, hj with
  | 0, _ =>
    have e : ((UInt8.ofNat (48 + d)).toNat : Int) = 48 + (d : Int) := by
      rw [UInt8.toNat_ofNat_of_lt' (show 48 + d < 256 by omega)]
      omega
    simp only [List.getElem_cons_zero]
    rw [e]
    simp [Addr.add]
theorem dec_len (u : Nat) (h : u ≤ 9223372036854775808) : (Lib.decDigits u).length ≤ 21 := by
  by_cases h1 : u = 0
  · subst h1; rw [Lib.decDigits_one (by omega)]; simp
  · have := Lib.itoa_length_le (-(u : Int)) (by omega) (by omega)
    rw [Lib.itoa_neg u (by omega)] at this
    simp only [List.length_cons] at this
    omega
set_option maxRecDepth 10000 in
theorem dec_nat : ∀ (k u : Nat), u < k → u ≤ 9223372036854775807 → ∀ w : World, Calls Tryz.prog 126 #[.int .i64 (u : Int)] w fun e w' => e = .returned (.string (bs (Lib.decDigits u))) ∧ Below w.heap.size w w'
  | 0, u, h, _, _ => absurd h (Nat.not_lt_zero u)
  | k + 1, u, h, hu, w => by
    have hz : ¬ (u : Int) < 0 := by omega
    by_cases h10 : 10 ≤ u
    · have ih := dec_nat k (u / 10) (by omega) (by omega)
      have e1 : ((u / 10 : Nat) : Int) = (u : Int) / 10 := by omega
      rw [e1] at ih
      have hg : (10 : Int) ≤ (u : Int) := by omega
      have hcv := one_text (u % 10) (by omega) (48 + (u : Int) % 10) (by omega)
      have HE : Hid (bs (Lib.decDigits u) = bs (Lib.decDigits (u / 10)) ++ bs (dgt (u % 10))) := by
        show _ = _
        rw [bs_app, dec_more u h10]
        rfl
      have hs : ¬ 9223372036854775807 < (bs (Lib.decDigits (u / 10))).size + (bs (dgt (u % 10))).size := by
        rw [bs_size, bs_size]
        have := dec_len (u / 10) (by omega)
        unfold dgt
        simp only [List.length_singleton]
        omega
      generalize bs (Lib.decDigits (u / 10)) = S at *
      generalize bs (dgt (u % 10)) = T at *
      go_enter Tryz.func126, Tryz.ntmps126
      go_wp2_with fail
      refine (ih _).mono ?_
      rintro e w1 ⟨rfl, hb1⟩
      have HB : Hid (Below w.heap.size w (w1.alloc (.cells #[.int .u8 (48 + (u : Int) % 10)] 5))) := hb1.alloc hb1.size _
      clear hb1 ih
      have hc := hcv w1
      clear hcv
      go_wp2
      go_ret
      exact ⟨by rw [HE.out]; rfl, HB.out⟩
    · have hg : ¬ (10 : Int) ≤ (u : Int) := by omega
      have e2 : (u : Int) % 10 = u := by omega
      rw [Lib.decDigits_one (show u < 10 by omega)]
      have hc := one_text u (by omega) (48 + (u : Int)) rfl w
      have HB : Hid (Below w.heap.size w (w.alloc (.cells #[.int .u8 (48 + (u : Int))] 5))) := (Below.refl _ _).alloc (Nat.le_refl _) _
      have HE : Hid (bs [UInt8.ofNat (48 + u)] = ByteArray.empty ++ bs (dgt u)) := by
        show _ = _
        rw [show ByteArray.empty = bs [] from rfl, bs_app]
        rfl
      have hs : ¬ 9223372036854775807 < (bs (dgt u)).size := by
        rw [bs_size]
        unfold dgt
        simp
      generalize bs (dgt u) = T at *
      generalize bs [UInt8.ofNat (48 + u)] = R at *
      go_enter Tryz.func126, Tryz.ntmps126
      go_wp2
      go_ret
      exact ⟨by rw [HE.out]; rfl, HB.out⟩
set_option maxRecDepth 10000 in
theorem dec_any (n : Int) (h0 : -9223372036854775808 ≤ n) (h1 : n ≤ 9223372036854775807) (w : World) : Calls Tryz.prog 126 #[.int .i64 n] w fun e w' => e = .returned (.string (bs (Lib.itoa n))) ∧ Below w.heap.size w w' := by
  by_cases hn : 0 ≤ n
  · obtain ⟨u, rfl⟩ := Int.eq_ofNat_of_zero_le hn
    rw [Lib.itoa_nonneg]
    exact dec_nat (u + 1) u (by omega) (by omega) w
  · obtain ⟨u, rfl⟩ : ∃ u : Nat, n = -(u : Int) := ⟨n.natAbs, by omega⟩
    rw [Lib.itoa_neg u (by omega)]
    have hlt : -(u : Int) < 0 := by omega
    by_cases h10 : 10 ≤ u
    · have ih := dec_nat (u / 10 + 1) (u / 10) (by omega) (by omega)
      have hle : -(u : Int) ≤ -10 := by omega
      have e1 : (-(u : Int)).tdiv 10 = -((u / 10 : Nat) : Int) := by rw [Int.neg_tdiv, Int.tdiv_eq_ediv_of_nonneg (by omega)]; omega
      have e2 : (-(u : Int)).tmod 10 = -((u % 10 : Nat) : Int) := by rw [Int.neg_tmod, Int.tmod_eq_emod_of_nonneg (by omega)]; omega
      have hcv := one_text (u % 10) (by omega) (48 + ((u % 10 : Nat) : Int)) rfl
      have HE : Hid (bs (45 :: Lib.decDigits u) = bs [45] ++ bs (Lib.decDigits (u / 10)) ++ bs (dgt (u % 10))) := by
        show _ = _
        rw [bs_app, bs_app, dec_more u h10]
        rfl
      have hs1 : ¬ 9223372036854775807 < 1 + (bs (Lib.decDigits (u / 10))).size := by
        rw [bs_size]
        have := dec_len (u / 10) (by omega)
        omega
      have hs2 : ¬ 9223372036854775807 < 1 + (bs (Lib.decDigits (u / 10))).size + (bs (dgt (u % 10))).size := by
        rw [bs_size, bs_size]
        have := dec_len (u / 10) (by omega)
        unfold dgt
        simp only [List.length_singleton]
        omega
      generalize bs (Lib.decDigits (u / 10)) = S at *
      generalize bs (dgt (u % 10)) = T at *
      generalize bs (45 :: Lib.decDigits u) = R at *
      obtain ⟨q, hq⟩ : ∃ q, q = u / 10 := ⟨_, rfl⟩
      obtain ⟨r, hr⟩ : ∃ r, r = u % 10 := ⟨_, rfl⟩
      rw [← hq] at e1 ih
      rw [← hr] at e2 hcv
      have hr9 : r ≤ 9 := by omega
      have hq9 : q ≤ 922337203685477580 := by omega
      clear hq hr
      go_enter Tryz.func126, Tryz.ntmps126
      go_wp2_with fail
      refine (ih _).mono ?_
      rintro e w1 ⟨rfl, hb1⟩
      have HB : Hid (Below w.heap.size w (w1.alloc (.cells #[.int .u8 (48 + (r : Int))] 5))) := hb1.alloc hb1.size _
      clear hb1 ih
      have hc := hcv w1
      clear hcv
      go_wp2
      go_ret
      exact ⟨by rw [HE.out]; rfl, HB.out⟩
    · have hg : ¬ -(u : Int) ≤ -10 := by omega
      have hc := one_text u (by omega) (48 + (u : Int)) rfl w
      have HB : Hid (Below w.heap.size w (w.alloc (.cells #[.int .u8 (48 + (u : Int))] 5))) := (Below.refl _ _).alloc (Nat.le_refl _) _
      have HE : Hid (bs (45 :: Lib.decDigits u) = bs [45] ++ bs (dgt u)) := by
        show _ = _
        rw [bs_app, Lib.decDigits_one (show u < 10 by omega)]
        rfl
      have hs : ¬ 9223372036854775807 < 1 + (bs (dgt u)).size := by
        rw [bs_size]
        unfold dgt
        simp
      have e1 : (48 : Int) - -(u : Int) = 48 + u := by omega
      generalize bs (dgt u) = T at *
      generalize bs (45 :: Lib.decDigits u) = R at *
      go_enter Tryz.func126, Tryz.ntmps126
      go_wp2
      go_ret
      exact ⟨by rw [HE.out]; rfl, HB.out⟩
end Go.Proofs.YtanndhoimpnhpaaGreatDoor
namespace Go.Proofs.YtanndhoimpnhpaaGreatDoor
open Txt
def bj : List (List UInt8) → List UInt8
  | [] => []
  | p :: r => 32 :: (p ++ bj r)
theorem bj_app : ∀ a b : List (List UInt8), bj (a ++ b) = bj a ++ bj b
  | [], _ => rfl
  | p :: r, b => by simp [bj, bj_app r b]
theorem lnum_bj : ∀ ns : List Int, lnum ns = bj (ns.map Lib.itoa)
  | [] => rfl
  | n :: r => by simp [lnum, bj, lnum_bj r]
def NoB (l : List UInt8) : Prop := ∀ c ∈ l, ¬ c = 32
theorem noB_itoa (n : Int) : NoB (Lib.itoa n) := by
  have hd : ∀ u : Nat, NoB (Lib.decDigits u) := fun u c hc e => by
    have h1 := allD_dec u
    unfold allD at h1
    rw [List.all_eq_true] at h1
    have h2 := dg_bd (h1 c hc)
    subst e
    have h3 : ((32 : UInt8).toNat : Int) = 32 := rfl
    omega
  intro c hc
  unfold Lib.itoa at hc
  split at hc
  · rcases List.mem_cons.1 hc with h | h
    · subst h; decide
    · exact hd _ c h
  · exact hd _ c hc
theorem cut_blanks : ∀ l : List UInt8, ∃ (word : List UInt8) (P : List (List UInt8)), l = word ++ bj P ∧ NoB word ∧ ∀ p ∈ P, NoB p
  | [] => ⟨[], [], rfl, fun c hc => by simp at hc, fun p hp => by simp at hp⟩
  | c :: r => by
    obtain ⟨word, P, h1, h2, h3⟩ := cut_blanks r
    by_cases hc : c = 32
    · refine ⟨[], word :: P, by rw [hc, h1]; rfl, fun c hc => by simp at hc, fun p hp => ?_⟩
      rcases List.mem_cons.1 hp with h | h
      · subst h; exact h2
      · exact h3 p h
    · refine ⟨c :: word, P, by rw [h1]; rfl, fun x hx => ?_, h3⟩
      rcases List.mem_cons.1 hx with h | h
      · subst h; exact hc
      · exact h2 x h
theorem cut_one : ∀ (a b : List UInt8) (P Q : List (List UInt8)), NoB a → NoB b → (∀ p ∈ P, NoB p) → (∀ p ∈ Q, NoB p) → a ++ bj P = b ++ bj Q → a = b ∧ P = Q
  | [], [], [], [], _, _, _, _, _ => ⟨rfl, rfl⟩
  | [], [], [], q :: Q, _, _, _, _, h => by simp [bj] at h
  | [], [], p :: P, [], _, _, _, _, h => by simp [bj] at h
  | [], [], p :: P, q :: Q, _, _, hP, hQ, h => by
    simp only [List.nil_append, bj, List.cons.injEq, true_and] at h
    obtain ⟨h1, h2⟩ := cut_one p q P Q (hP p (by simp)) (hQ q (by simp)) (fun x hx => hP x (by simp [hx])) (fun x hx => hQ x (by simp [hx])) h
    exact ⟨rfl, by rw [h1, h2]⟩
  | c :: a, [], P, [], _, _, _, _, h => by simp [bj] at h
  | c :: a, [], P, q :: Q, ha, _, _, _, h => by
    simp only [List.cons_append, List.nil_append, bj, List.cons.injEq] at h
    exact absurd h.1 (ha c (by simp))
  | [], c :: b, [], Q, _, _, _, _, h => by simp [bj] at h
  | [], c :: b, p :: P, Q, _, hb, _, _, h => by
    simp only [List.cons_append, List.nil_append, bj, List.cons.injEq] at h
    exact absurd h.1.symm (hb c (by simp))
  | c :: a, e :: b, P, Q, ha, hb, hP, hQ, h => by
    simp only [List.cons_append, List.cons.injEq] at h
    obtain ⟨h1, h2⟩ := cut_one a b P Q (fun x hx => ha x (by simp [hx])) (fun x hx => hb x (by simp [hx])) hP hQ h.2
    exact ⟨by rw [h.1, h1], h2⟩
def Says (P : List (List UInt8)) (ns : List Int) : Prop := P = ns.map Lib.itoa ∧ ∀ n ∈ ns, InR n
theorem Says.one {P : List (List UInt8)} {a b : List Int} (h : Says P a) (k : Says P b) : a = b := by
  obtain ⟨h1, h2⟩ := h
  obtain ⟨k1, k2⟩ := k
  rw [h1] at k1
  clear h1 P
  induction a generalizing b with
  | nil => cases b with
    | nil => rfl
    | cons y b => simp at k1
  | cons x a ih =>
    cases b with
    | nil => simp at k1
    | cons y b =>
      simp only [List.map_cons, List.cons.injEq] at k1
      have e := itoa_inj x y (h2 x (by simp)) (k2 y (by simp)) k1.1
      rw [e, ih (fun n hn => h2 n (by simp [hn])) k1.2 (fun n hn => k2 n (by simp [hn]))]
theorem bs_extract (l : List UInt8) (a b : Nat) : (bs l).extract a b = bs ((l.drop a).take (b - a)) := by
  unfold bs
  apply ByteArray.ext
  rw [ByteArray.data_extract]
  apply Array.toList_inj.1
  rw [Array.toList_extract]
theorem bs_get (l : List UInt8) (i : Nat) (_ : i < l.length) (h : i < (bs l).size) : (bs l)[i]'h = l[i] := rfl
def bpos (word : List UInt8) (P : List (List UInt8)) (j : Nat) : Nat := word.length + (bj (P.take j)).length
theorem bpos_succ (word : List UInt8) (P : List (List UInt8)) (j : Nat) (hj : j < P.length) : bpos word P (j + 1) = bpos word P j + 1 + P[j].length := by
  unfold bpos
  rw [List.take_succ_eq_append_getElem hj, bj_app]
  simp [bj]
  omega
theorem bpos_all (word : List UInt8) (P : List (List UInt8)) : bpos word P P.length = (word ++ bj P).length := by
  unfold bpos
  rw [List.take_length, List.length_append]
theorem bpos_lt (word : List UInt8) (P : List (List UInt8)) (j : Nat) : bpos word P (j + 1) ≤ (word ++ bj P).length := by
  unfold bpos
  have : bj P = bj (P.take (j + 1)) ++ bj (P.drop (j + 1)) := by rw [← bj_app, List.take_append_drop]
  rw [List.length_append, this, List.length_append]
  omega
theorem bpos_drop (word : List UInt8) (P : List (List UInt8)) (j : Nat) (hj : j < P.length) : (word ++ bj P).drop (bpos word P j) = 32 :: (P[j] ++ bj (P.drop (j + 1))) := by
  have e : bj P = bj (P.take j) ++ bj (P.drop j) := by rw [← bj_app, List.take_append_drop]
  rw [e, ← List.append_assoc]
  unfold bpos
  rw [← List.length_append, List.drop_left, List.drop_eq_getElem_cons hj]
  rfl
theorem bpos_piece (word : List UInt8) (P : List (List UInt8)) (j : Nat) (hj : j < P.length) : ((word ++ bj P).drop (bpos word P j + 1)).take (P[j].length) = P[j] := by
  rw [← List.drop_drop, bpos_drop word P j hj]
  simp
theorem bpos_at (word : List UInt8) (P : List (List UInt8)) (j : Nat) (hj : j < P.length) (i : Nat) (hi : i < P[j].length) : (word ++ bj P)[bpos word P j + 1 + i]? = some P[j][i] := by
  have h := congrArg (fun l : List UInt8 => l[1 + i]?) (bpos_drop word P j hj)
  simp only [List.getElem?_drop] at h
  rw [Nat.add_assoc, h, Nat.add_comm 1 i, List.getElem?_cons_succ, List.getElem?_append_left hi, List.getElem?_eq_getElem hi]
theorem bpos_blank (word : List UInt8) (P : List (List UInt8)) (j : Nat) (hj : j < P.length) : (word ++ bj P)[bpos word P j]? = some 32 := by
  have h := congrArg (fun l : List UInt8 => l[0]?) (bpos_drop word P j hj)
  simp only [List.getElem?_drop, Nat.add_zero] at h
  rw [h]
  rfl
end Go.Proofs.YtanndhoimpnhpaaGreatDoor
