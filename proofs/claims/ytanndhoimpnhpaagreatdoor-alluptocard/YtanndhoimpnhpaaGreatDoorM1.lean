/- Joined by program: Tk, TxA, At, Row, Loan, Mid, Bp, TxH, Txt, TxD, Lg, LnA. -/
import Derived.Deep.RegionHeld3
import Derived.Deep.CutRange
import Derived.WalkKit
import Derived.Below
import Derived.Lib.ItoaLen
import Derived.Lib.ItoaNum
import Derived.Deep.WholeRow
import Derived.Deep.MidRow
import Derived.Maps.AppendAt
import Derived.Lib.ItoaMem
import Derived.Test.YtanndhoimpnhpaaGreatDoorChecked
import Derived.ProofKit
import Derived.OpenShut
/- Steps of a region, said shortly. -/
namespace Go.Proofs.YtanndhoimpnhpaaGreatDoor
theorem uP : (∀ (a : Act) (d : Tmp) (v : Value), a.put (some d) v = { a with tmps := a.tmps.setIfInBounds d v }) ∧ (∀ (a : Act) (v : Value), a.put none v = a) ∧ (∀ {α : Type} (l : List α) (i : Nat) (h : i < l.toArray.size), l.toArray[i]'h = l[i]'(by simpa using h)) ∧ (∀ {α : Type} (x : α) (l : List α) (i : Nat) (h : i + 1 < (x :: l).length), (x :: l)[i + 1]'h = l[i]'(by simpa using h)) ∧ (∀ {α : Type} (x : α) (l : List α) (h : 0 < (x :: l).length), (x :: l)[0]'h = x) ∧ (∀ {α : Type} (l : List α) (i : Nat) (x : α), l.toArray.setIfInBounds i x = (l.set i x).toArray) ∧ (∀ {α : Type} (x y : α) (l : List α), (x :: l).set 0 y = y :: l) ∧ (∀ {α : Type} (x y : α) (l : List α) (i : Nat), (x :: l).set (i + 1) y = x :: l.set i y) :=
  ⟨fun _ _ _ => rfl, fun _ _ => rfl, fun _ _ _ => by simp, fun _ _ _ _ => rfl, fun _ _ _ => rfl, fun _ _ _ => by simp, fun _ _ _ => rfl, fun _ _ _ _ => rfl⟩
theorem hid {p : Prop} (h : p) : Go.RowKit.Hid p := h
section
variable {P : Program} {ops : Array Oper} {Q : Exit → Act → World → Prop} {md : Region.Mode} {S : World → Prop} {oi : Oper} {fuel : Nat} {listed : Array Bool} {a : Act} {w : World}
theorem tkh (i : Nat) (v : Value) (hi : ops[i]? = some oi) (hv : ∀ wx, S wx → (execOp a.eval oi).run P wx = .ok (.value v) wx) (h : wpAnyH P md ops Q S fuel (listed.setIfInBounds i true) (a.put oi.dst v) w) (hs : Region.noSelect ops = true := by kernel_rfl) (hf : Region.free md ops listed i = true := by kernel_rfl) (hr : (Region.ready md ops listed).contains i = true := by kernel_rfl) (hg : Region.wanted oi (yielded ops a.tmps) = true := by rfl) (hS : S w := by assumption) (hQ : ∀ c a w, Q (.panic c) (a.put oi.dst v) w → Q (.panic c) a w := by exact fun _ _ _ h => h) : wpAnyH P md ops Q S (fuel + 1) listed a w := wpAnyH_take hi hs hf hr hQ (.inl ⟨hg, hv⟩) hS h
theorem tkk (i : Nat) (v : Value) (hi : ops[i]? = some oi) (h : wpAnyH P md ops Q S fuel (listed.setIfInBounds i true) (a.put oi.dst v) w) (hv : ∀ wx, S wx → (execOp a.eval oi).run P wx = .ok (.value v) wx := by intro wx hSw; kernel_rfl) (hs : Region.noSelect ops = true := by kernel_rfl) (hf : Region.free md ops listed i = true := by kernel_rfl) (hr : (Region.ready md ops listed).contains i = true := by kernel_rfl) (hg : Region.wanted oi (yielded ops a.tmps) = true := by rfl) (hS : S w := by assumption) (hQ : ∀ c a w, Q (.panic c) (a.put oi.dst v) w → Q (.panic c) a w := by exact fun _ _ _ h => h) : wpAnyH P md ops Q S (fuel + 1) listed a w := wpAnyH_take hi hs hf hr hQ (.inl ⟨hg, hv⟩) hS h
theorem tka (i : Nat) (v : Value) (hi : ops[i]? = some oi) (h : wpAnyH P md ops Q S fuel (listed.setIfInBounds i true) (a.put oi.dst v) w) (hv : ∀ wx, S wx → (execOp a.eval oi).run P wx = .ok (.value v) wx := by intro wx hSw; (try dsimp only at hSw); go_simp) (hs : Region.noSelect ops = true := by kernel_rfl) (hf : Region.free md ops listed i = true := by kernel_rfl) (hr : (Region.ready md ops listed).contains i = true := by kernel_rfl) (hg : Region.wanted oi (yielded ops a.tmps) = true := by rfl) (hS : S w := by assumption) (hQ : ∀ c a w, Q (.panic c) (a.put oi.dst v) w → Q (.panic c) a w := by exact fun _ _ _ h => h) : wpAnyH P md ops Q S (fuel + 1) listed a w := wpAnyH_take hi hs hf hr hQ (.inl ⟨hg, hv⟩) hS h
theorem tkc (i : Nat) (v : Value) (hi : ops[i]? = some oi) (h : wpAnyH P md ops Q S fuel (listed.setIfInBounds i true) (a.put oi.dst v) w) (hv : ∀ wx, S wx → (execOp a.eval oi).run P wx = .ok (.value v) wx := by intro wx hSw; subst hSw; go_simp) (hs : Region.noSelect ops = true := by kernel_rfl) (hf : Region.free md ops listed i = true := by kernel_rfl) (hr : (Region.ready md ops listed).contains i = true := by kernel_rfl) (hg : Region.wanted oi (yielded ops a.tmps) = true := by rfl) (hS : S w := by assumption) (hQ : ∀ c a w, Q (.panic c) (a.put oi.dst v) w → Q (.panic c) a w := by exact fun _ _ _ h => h) : wpAnyH P md ops Q S (fuel + 1) listed a w := wpAnyH_take hi hs hf hr hQ (.inl ⟨hg, hv⟩) hS h
theorem tkg (i : Nat) (v : Value) (hi : ops[i]? = some oi) (h : wpAnyH P md ops Q S fuel (listed.setIfInBounds i true) (a.put oi.dst v) w) (hv : ∀ wx, S wx → (execOp a.eval oi).run P wx = .ok (.value v) wx := by intro wx hSw; go_simp) (hs : Region.noSelect ops = true := by kernel_rfl) (hf : Region.free md ops listed i = true := by kernel_rfl) (hr : (Region.ready md ops listed).contains i = true := by kernel_rfl) (hg : Region.wanted oi (yielded ops a.tmps) = true := by rfl) (hS : S w := by assumption) (hQ : ∀ c a w, Q (.panic c) (a.put oi.dst v) w → Q (.panic c) a w := by exact fun _ _ _ h => h) : wpAnyH P md ops Q S (fuel + 1) listed a w := wpAnyH_take hi hs hf hr hQ (.inl ⟨hg, hv⟩) hS h
theorem tku (i : Nat) (hi : ops[i]? = some oi) (h : wpAnyH P md ops Q S fuel (listed.setIfInBounds i true) (a.put oi.dst undef) w) (hs : Region.noSelect ops = true := by kernel_rfl) (hf : Region.free md ops listed i = true := by kernel_rfl) (hr : (Region.ready md ops listed).contains i = true := by kernel_rfl) (hg : Region.wanted oi (yielded ops a.tmps) = false := by rfl) (hS : S w := by assumption) (hQ : ∀ c a w, Q (.panic c) (a.put oi.dst undef) w → Q (.panic c) a w := by exact fun _ _ _ h => h) : wpAnyH P md ops Q S (fuel + 1) listed a w := wpAnyH_take hi hs hf hr hQ (.inr ⟨hg, rfl⟩) hS h
theorem rdy (i : Nat) (ho : ops[i]? = some oi)
    (h : ∀ K' : Act → World → Prop, Shut (∀ a w, S w → (S w → wpAnyH P md ops Q S fuel (listed.setIfInBounds i true) a w) → K' a w) → if Region.wanted oi (yielded ops a.tmps) = true then Oper.wp P oi a w K' Q else K' (a.put oi.dst undef) w)
    (hr : Region.ready md ops listed = [i] := by kernel_rfl) : wpAnyH P md ops Q S (fuel + 1) listed a w := wpAnyH_ready hr (by simp) (AllReadyH.cons ho h AllReadyH.nil)
end
def InR (n:Int):Prop:=-9223372036854775808≤n∧n≤9223372036854775807
def lnum:List Int→List UInt8
 | []=>[]
 | n :: r=>32 :: (Lib.itoa n ++ lnum r)
theorem lnum_app:∀ a b:List Int,lnum (a ++ b) = lnum a ++ lnum b
 | [],_=>rfl
 | n :: r,b=>by simp [lnum,lnum_app r b]
theorem lnum_len:∀ l:List Int,(∀ n∈l,InR n)→(lnum l).length≤22*l.length
 | [],_=>by simp [lnum]
 | n :: r,h=>by
  have h1:=lnum_len r (fun x hx=>h x (by simp [hx]))
  have h2:=h n (by simp)
  have h3:=Lib.itoa_length_le n h2.1 h2.2
  simp only [lnum,List.length_cons,List.length_append]
  omega
theorem lnum_take (l:List Int) (k:Nat) (hk:k < l.length):lnum (l.take (k+1)) = lnum (l.take k) ++ 32 :: Lib.itoa l[k]:=by
 rw [List.take_succ_eq_append_getElem hk,lnum_app]
 simp [lnum]
def lineB (word:List UInt8) (l:List Int):List UInt8:=word ++ lnum l ++ [10]
end Go.Proofs.YtanndhoimpnhpaaGreatDoor
namespace Go.Proofs.YtanndhoimpnhpaaGreatDoor
open Go.RowKit
def At (w:World) (b:Nat) (l:List Value):Prop:=∀ i v,l[i]? = some v→w.cell? ⟨b,i,none⟩ = some v∧w.frozen? ⟨b,i,none⟩ = false
theorem At.cell {w:World} {b:Nat} {l:List Value} (h:At w b l) (i:Nat) {v:Value} (hi:l[i]? = some v):w.cell? ⟨b,i,none⟩ = some v:=(h i v hi).1
theorem At.free {w:World} {b:Nat} {l:List Value} (h:At w b l) (i:Nat) {v:Value} (hi:l[i]? = some v):w.frozen? ⟨b,i,none⟩ = false:=(h i v hi).2
theorem At.lt {w:World} {b:Nat} {v:Value} {l:List Value} (h:At w b (v :: l)):b < w.heap.size:=World.block_lt_of_cell? _ _ (h 0 v rfl).1
theorem At.set {w:World} {b:Nat} {l:List Value} (h:At w b l) (i:Nat) (hi:i < l.length) (v:Value):At (w.setCell ⟨b,i,none⟩ v) b (l.set i v):=by
 intro j u hj
 rw [World.frozen?_setCell]
 by_cases e:j = i
 ·subst e
  rw [List.getElem?_set_self hi] at hj
  obtain rfl:=Option.some.inj hj
  obtain ⟨h1,h2⟩:=h j l[j] (List.getElem?_eq_getElem hi)
  exact ⟨World.cell?_setCell_same _ _ _ h1,h2⟩
 ·rw [List.getElem?_set_ne (Ne.symm e)] at hj
  obtain ⟨h1,h2⟩:=h j u hj
  rw [World.cell?_setCell_other _ _ _ _ (fun x=>e (by injection x with _ y; exact y.symm))]
  exact ⟨h1,h2⟩
theorem At.other {w:World} {b c:Nat} {l:List Value} (h:At w b l) (hne:¬ c = b) (i:Nat) (v:Value):At (w.setCell ⟨c,i,none⟩ v) b l:=by
 intro j u hj
 obtain ⟨h1,h2⟩:=h j u hj
 rw [World.frozen?_setCell,World.cell?_setCell_other _ _ _ _ (fun x=>hne (by injection x))]
 exact ⟨h1,h2⟩
theorem At.block {w w':World} {b:Nat} {l:List Value} (h:At w b l) (e:w'.heap[b]? = w.heap[b]?):At w' b l:=by
 intro j u hj
 obtain ⟨h1,h2⟩:=h j u hj
 rw [World.cell?_of_block (w:=w) (a:=⟨b,j,none⟩) e,World.frozen?_of_block (w:=w) (a:=⟨b,j,none⟩) e]
 exact ⟨h1,h2⟩
theorem At.drew {w:World} {b:Nat} {l:List Value} (h:At w b l):At w.drew b l:=h.block rfl
structure Keep (S:Nat→Prop) (w w':World):Prop where
 os:w'.os = w.os
 tape:w'.tape = w.tape
 output:w'.output = w.output
 size:w.heap.size≤w'.heap.size
 block:∀ k,k < w.heap.size→¬ S k→w'.heap[k]? = w.heap[k]?
theorem Keep.refl (S:Nat→Prop) (w:World):Keep S w w:=⟨rfl,rfl,rfl,Nat.le_refl _,fun _ _ _=>rfl⟩
theorem Keep.trans {S:Nat→Prop} {a b c:World} (h:Keep S a b) (k:Keep S b c):Keep S a c :=
 ⟨k.os.trans h.os,k.tape.trans h.tape,k.output.trans h.output,Nat.le_trans h.size k.size,fun i hi hs=>(k.block i (Nat.lt_of_lt_of_le hi h.size) hs).trans (h.block i hi hs)⟩
theorem Keep.mono {S T:Nat→Prop} {w w':World} (h:Keep S w w') (hst:∀ k,k < w.heap.size→S k→T k):Keep T w w' :=
 ⟨h.os,h.tape,h.output,h.size,fun k hk ht=>h.block k hk (fun s=>ht (hst k hk s))⟩
theorem Keep.drew {S:Nat→Prop} {a w:World} (h:Keep S a w):Keep S a w.drew:=⟨h.os,h.tape,h.output,h.size,h.block⟩
theorem Keep.set {S:Nat→Prop} {a w:World} (h:Keep S a w) {b:Nat} (hb:S b) (i:Nat) (v:Value):Keep S a (w.setCell ⟨b,i,none⟩ v) :=
 ⟨h.os,h.tape,h.output,by simpa [World.setCell] using h.size,fun k hk hs=>by
  rw [Below.heap_setCell _ _ _ _ (fun e=>hs (by rw [e]; exact hb))]
  exact h.block k hk hs⟩
theorem Keep.below {S:Nat→Prop} {w w':World} (h:Below w.heap.size w w'):Keep S w w':=⟨h.os,h.tape,h.output,h.size,fun k hk _=>h.block k hk⟩
theorem At.keep {S:Nat→Prop} {w w':World} {b:Nat} {v:Value} {l:List Value} (h:At w b (v :: l)) (k:Keep S w w') (hs:¬ S b):At w' b (v :: l):=h.block (k.block b h.lt hs)
theorem At.alloc (w:World) (l:List Value) (T:TypeId):At (w.alloc (.cells l.toArray T)) w.heap.size l:=by
 intro i v hi
 have hb:(w.alloc (.cells l.toArray T)).heap[w.heap.size]? = some (.cells l.toArray T):=(MapKept.heap_alloc w _).1
 refine ⟨?_,?_⟩
 ·simp only [World.cell?,hb]
  simpa using hi
 ·simp only [World.frozen?,hb]
  simp
theorem size_alloc (w:World) (o:Obj):(w.alloc o).heap.size = w.heap.size+1:=by simp
theorem wpList_store_new {P:Program} {ops:Array Oper} {rest:List Oper} {o:Oper} {a:Act} {W:World} {Q:Exit→Act→World→Prop} (hgd:o.guard = none) (ty:TypeId) (x y:Operand) (ho:o.op = .store ty x y)
  (cells c:Array Value) (hx:a.eval x = .pointer (some ⟨W.heap.size,0,none⟩)) (hy:a.eval y = .agg cells) (hi:(P.info? ty).map (·.size) = some cells.size) (hc:c.size = cells.size) (h1:cells.all (·.oneCell') = true)
  (h:wpList P ops Q rest (a.put o.dst undef) (W.alloc (.cells cells ty))):wpList P ops Q (o :: rest) a (W.alloc (.cells c ty)):=by
 refine wpList_store_row hgd ty x y ho W.heap.size cells hx hy ty c (heap_alloc_last W _) hi hc h1 ?_
 rw [World.setRow_alloc_new]
 exact h
theorem wpList_val {P:Program} {ops:Array Oper} {rest:List Oper} {o:Oper} {a:Act} {w:World} {Q:Exit→Act→World→Prop} (v:Value) (w':World) (hg:o.guard = none) (hrun:(execOp a.eval o).run P w = .ok (.value v) w')
  (h:wpList P ops Q rest (a.put o.dst v) w'):wpList P ops Q (o :: rest) a w :=
 wpList_plain hg fun K hK=>by
  unfold Oper.wp
  rw [hrun]
  exact hK _ _ h
theorem At.range {w:World} {b:Nat} {l:List Value} (h:At w b l):w.rangeAt b 0 l:=fun j v hv=>by
 have:=(h j v hv).1
 rw [Nat.zero_add]
 exact this
theorem At.mid {w:World} {b:Nat} {l:List Value} (h:At w b l) (o:Nat) (m:List Value) (hm:∀ j v,m[j]? = some v→l[o+j]? = some v):w.rangeAt b o m:=fun j v hv=>(h (o+j) v (hm j v hv)).1
theorem At.there {w:World} {b:Nat} {l:List Value} (h:At w b l) (n:Nat) (hn:n = l.length):w.there b 0 n:=fun j hj=>by
 subst hn
 obtain ⟨h1,h2⟩:=h j l[j] (List.getElem?_eq_getElem hj)
 rw [Nat.zero_add]
 exact ⟨by rw [h1]; rfl,h2⟩
theorem At.allocs (W:World) (l:List Value) (T:TypeId) {B:Nat} (h:W.heap.size = B):At (W.alloc (.cells l.toArray T)) B l:=h ▸ At.alloc W l T
theorem At.over {W:World} {b:Nat} {v:Value} {l:List Value} (h:At W b (v :: l)) (o:Obj):At (W.alloc o) b (v :: l) :=
 h.keep (S:=fun _=>False) (Keep.below ((Below.refl _ _).alloc (Nat.le_refl _) o)) (fun x=>x)
theorem At.setCells_same {w:World} {b:Nat} {l m:List Value} (h:At w b l) (hl:m.length = l.length):At (w.setCells b 0 m) b m:=by
 have ht:w.there b 0 m.length:=h.there _ hl
 intro i v hi
 have hr:=World.rangeAt_setCells_same w b 0 m ht i v hi
 rw [Nat.zero_add] at hr
 have hil:i < l.length:=by
  have:=(List.getElem?_eq_some_iff.1 hi).1
  omega
 refine ⟨hr,?_⟩
 rw [World.frozen?_setCells]
 exact (h i l[i] (List.getElem?_eq_getElem hil)).2
theorem Keep.setCells {S:Nat→Prop} {a:World} {b:Nat} (hb:S b):∀ (vs:List Value) (o:Nat) (w:World),Keep S a w→Keep S a (w.setCells b o vs)
 | [],_,_,h=>h
 | v :: vs,o,_,h=>Keep.setCells hb vs (o+1) _ (h.set hb o v)
theorem At.apart {w:World} {b c:Nat} {v:Value} {l:List Value} (h:At w c (v :: l)) (hne:¬ c = b) (o:Nat) (m:List Value):At (w.setCells b o m) c (v :: l) :=
 h.keep (S:=fun x=>x = b) (Keep.setCells (S:=fun x=>x = b) rfl m o w (Keep.refl _ w)) hne
theorem results_two {Pr:Program} {fn:Func} {p q:Tmp} {ty uy:TypeId} (h:fn.results = #[.cell p ty,.cell q uy]) (tmps:Array Value) (w:World) (g k:Nat) (cs ds:List Value) (d e:TypeDesc)
  (hp:tmps.getD p undef = .pointer (some ⟨g,0,none⟩)) (hq:tmps.getD q undef = .pointer (some ⟨k,0,none⟩)) (hg:w.rangeAt g 0 cs) (hk:w.rangeAt k 0 ds)
  (hu:Pr.underlying ty = some d) (hv:Pr.underlying uy = some e) (hd:d.isRow = true) (he:e.isRow = true) (hi:(Pr.info? ty).map (·.size) = some cs.length) (hj:(Pr.info? uy).map (·.size) = some ds.length) :
  (results fn tmps).run Pr w = .ok (.tuple #[.agg cs.toArray,.agg ds.toArray]) w:=by
 have hp':tmps[p]?.getD undef = .pointer (some ⟨g,0,none⟩):=by simpa using hp
 have hq':tmps[q]?.getD undef = .pointer (some ⟨k,0,none⟩):=by simpa using hq
 simp [results,h,hp',hq',asAddr,run_loadVar_mid w g 0 ty cs d hg hu hd hi,run_loadVar_mid w k 0 uy ds e hk hv he hj]
end Go.Proofs.YtanndhoimpnhpaaGreatDoor
namespace Go.Proofs.YtanndhoimpnhpaaGreatDoor.Ln
structure Terms where
 st:Int
 pr:Int
 rt:Int
 fi:Int
 ba:Int
 du:Int
structure Ev where
 d:Int
 k:Int
 s:Int
 a:Int
structure St where
 pr:Int
 it:Int
 du:Int
 la:Int
 fi:Int
 cr:Int
 rt:Int
 fr:Int
 ea:Int
 fn:Int
structure Dy where
 g:St
 am:Nat→Int
def upd (f:Nat→Int) (k:Nat) (a:Int):Nat→Int:=fun i=>if i = k then f i+a else f i
def move (g:St) (k:Nat) (a:Int):St :=
 match k with
 | 1=>{ g with pr:=g.pr+a }
 | 2=>{ g with la:=g.la+a,du:=g.du - a }
 | 3=>{ g with du:=g.du+a,it:=g.it - a }
 | 4=>{ g with pr:=g.pr+a,it:=g.it - a }
 | 5=>{ g with fi:=g.fi - a }
 | 6=>{ g with la:=g.la - a }
 | 7=>{ g with du:=g.du - a }
 | 8=>{ g with it:=g.it - a }
 | 9=>{ g with pr:=g.pr - a }
 | 10=>{ g with cr:=g.cr+a }
 | 11=>{ g with it:=g.it+a }
 | 12=>{ g with fi:=g.fi+a }
 | _=>g
def enter (y:Dy) (k:Nat) (a:Int):Dy:=⟨move y.g k a,upd y.am k a⟩
def least (a b:Int):Int:=if b < a then b else a
def pay (y:Dy) (a:Int):Dy :=
 let x5:=least y.g.fi a
 let x6:=least y.g.la (a - x5)
 let x7:=least y.g.du (a - x5 - x6)
 let x8:=least y.g.it (a - x5 - x6 - x7)
 let x9:=least y.g.pr (a - x5 - x6 - x7 - x8)
 enter (enter (enter (enter (enter (enter y 5 x5) 6 x6) 7 x7) 8 x8) 9 x9) 10 (a - x5 - x6 - x7 - x8 - x9)
def event (n:Int) (y:Dy) (e:Ev):Dy :=
 if e.d ≠ n then y
 else if e.k = 1 then enter y 1 e.a
 else if e.k = 2 then { y with g:={ y.g with rt:=e.a } }
 else if e.k = 3 then (if y.g.fr < n+e.a then { y with g:={ y.g with fr:=n+e.a } } else y)
 else if e.k = 4 then enter y 4 y.g.it
 else if e.k = 5 then pay y e.a
 else y
def year (t:Terms):Int:=if t.ba = 1 then 365 else 360
def part (t:Terms) (x:Int):Int:=x / 1000000 / year t
def early (t:Terms) (n cd:Int) (g:St):Dy :=
 let y0:Dy:=⟨g,fun _=>0⟩
 let y1:=if n = t.st then enter y0 1 t.pr else y0
 if n ≠ t.st∧cd = t.du∧y1.g.fr≤n then (let y2:=enter y1 2 y1.g.du; enter y2 3 y2.g.it) else y1
def late (t:Terms) (w:Int) (y:Dy):Dy :=
 let ea:=y.g.ea+y.g.pr*(y.g.rt*w)
 let fn:=y.g.fn+y.g.la*(t.fi*w)
 let y1:Dy:=⟨{ y.g with ea:=ea,fn:=fn },y.am⟩
 enter (enter y1 11 (part t ea - part t y.g.ea)) 12 (part t fn - part t y.g.fn)
def day (t:Terms) (n cd w:Int) (l:List Ev) (g:St):Dy:=late t w (l.foldl (event n) (early t n cd g))
def start (t:Terms):St:=⟨0,0,0,0,0,0,t.rt,0,0,0⟩
def run (t:Terms) (cd wt:Int→Int) (l:List Ev):Nat→St
 | 0=>start t
 | k+1=>(day t (t.st+k) (cd (t.st+k)) (wt (t.st+k)) l (run t cd wt l k)).g
structure OkT (t:Terms):Prop where
 st0:0≤t.st
 st1:t.st≤105872
 pr0:0≤t.pr
 pr1:t.pr≤100000000000
 rt0:0≤t.rt
 rt1:t.rt≤1000000
 fi0:0≤t.fi
 fi1:t.fi≤1000000
 ba0:1≤t.ba
 ba1:t.ba≤3
structure OkE (t:Terms) (e:Ev):Prop where
 d0:t.st≤e.d
 d1:e.d≤t.st+3700
 k0:1≤e.k
 k1:e.k≤5
 a0:0≤e.a
 a1:e.a≤100000000000
 rt:e.k = 2→e.a≤1000000
 ho:e.k = 3→e.a≤400
def den (t:Terms):Int:=1000000*year t
theorem year_bd (t:Terms):360≤year t∧year t≤365:=by unfold year; split <;> omega
theorem den_bd (t:Terms):360000000≤den t∧den t≤365000000:=by
 have:=year_bd t
 unfold den; omega
theorem part_den (t:Terms) (x:Int):part t x = x / den t:=by
 unfold part den
 rw [Int.ediv_ediv_of_nonneg (by decide)]
structure Inv (t:Terms) (L:Int) (s:Nat) (g:St):Prop where
 pr:0≤g.pr
 it:0≤g.it
 du:0≤g.du
 la:0≤g.la
 fi:0≤g.fi
 cr:0≤g.cr
 rt0:0≤g.rt
 rt1:g.rt≤1000000
 ea:0≤g.ea
 fn:0≤g.fn
 L0:0≤L
 cr1:g.cr≤L
 fi1:g.fi≤g.fn / den t
 grow:(den t*(g.pr+g.it+g.du+g.la)+g.ea % den t)*360 ^ s≤den t*L*361 ^ s
theorem Inv.start {t:Terms} (h:OkT t):Inv t 0 0 (start t):=by
 refine ⟨?_,?_,?_,?_,?_,?_,h.rt0,h.rt1,?_,?_,Int.le_refl _,?_,?_,?_⟩ <;> simp [Ln.start]
theorem pw:∀ s:Nat,(360:Int) ^ s≤361 ^ s
 | 0=>by decide
 | s+1=>by
  rw [Int.pow_succ,Int.pow_succ]
  exact Int.mul_le_mul (pw s) (by decide) (by decide) (Int.le_of_lt (Int.pow_pos (by decide)))
theorem Inv.lend {t:Terms} {L:Int} {s:Nat} {g:St} (h:Inv t L s g) (a:Int) (ha:0≤a):Inv t (L+a) s { g with pr:=g.pr+a }:=by
 have hd:=den_bd t
 refine ⟨by have:=h.pr; show 0≤g.pr+a; omega,h.it,h.du,h.la,h.fi,h.cr,h.rt0,h.rt1,h.ea,h.fn,by have:=h.L0; omega,by have:=h.cr1; show g.cr≤L+a; omega,h.fi1,?_⟩
 show (den t*(g.pr+a+g.it+g.du+g.la)+g.ea % den t)*360 ^ s≤den t*(L+a)*361 ^ s
 have e1:(den t*(g.pr+a+g.it+g.du+g.la)+g.ea % den t)*360 ^ s = (den t*(g.pr+g.it+g.du+g.la)+g.ea % den t)*360 ^ s+den t*a*360 ^ s:=by
  rw [← Int.add_mul]; congr 1
  have:den t*(g.pr+a+g.it+g.du+g.la) = den t*(g.pr+g.it+g.du+g.la)+den t*a:=by rw [← Int.mul_add]; congr 1; omega
  omega
 have e2:den t*(L+a)*361 ^ s = den t*L*361 ^ s+den t*a*361 ^ s:=by rw [Int.mul_add,Int.add_mul]
 have:=Int.mul_le_mul_of_nonneg_left (pw s) (show 0≤den t*a from Int.mul_nonneg (by omega) ha)
 have hg:=h.grow
 rw [e1,e2]
 omega
theorem Inv.more {t:Terms} {L:Int} {s:Nat} {g:St} (h:Inv t L s g) (a:Int) (ha:0≤a):Inv t (L+a) s g:=by
 have hd:=den_bd t
 refine ⟨h.pr,h.it,h.du,h.la,h.fi,h.cr,h.rt0,h.rt1,h.ea,h.fn,by have:=h.L0; omega,by have:=h.cr1; omega,h.fi1,Int.le_trans h.grow ?_⟩
 refine Int.mul_le_mul_of_nonneg_right ?_ (Int.le_of_lt (Int.pow_pos (by decide)))
 exact Int.mul_le_mul_of_nonneg_left (by omega) (by omega)
theorem Inv.less {t:Terms} {L:Int} {s:Nat} {g g':St} (h:Inv t L s g) (p:0≤g'.pr) (i:0≤g'.it) (d:0≤g'.du) (l:0≤g'.la) (f:0≤g'.fi) (c:0≤g'.cr) (r0:0≤g'.rt) (r1:g'.rt≤1000000) (he:g'.ea = g.ea) (hf:g'.fn = g.fn)
  (hle:g'.pr+g'.it+g'.du+g'.la≤g.pr+g.it+g.du+g.la) (hc:g'.cr≤L) (hff:g'.fi≤g.fi):Inv t L s g':=by
 have hd:=den_bd t
 refine ⟨p,i,d,l,f,c,r0,r1,by rw [he]; exact h.ea,by rw [hf]; exact h.fn,h.L0,hc,by rw [hf]; exact Int.le_trans hff h.fi1,?_⟩
 rw [he]
 refine Int.le_trans (Int.mul_le_mul_of_nonneg_right ?_ (Int.le_of_lt (Int.pow_pos (by decide)))) h.grow
 have:=Int.mul_le_mul_of_nonneg_left hle (show 0≤den t by omega)
 omega
theorem least_le (a b:Int):least a b≤a∧least a b≤b:=by unfold least; split <;> omega
theorem least_nn (a b:Int) (ha:0≤a) (hb:0≤b):0≤least a b:=by unfold least; split <;> omega
theorem Inv.pay {t:Terms} {L:Int} {s:Nat} {y:Dy} (h:Inv t L s y.g) (a:Int) (ha:0≤a):Inv t (L+a) s (Ln.pay y a).g:=by
 have l5:=least_le y.g.fi a
 have n5:=least_nn y.g.fi a h.fi ha
 have l6:=least_le y.g.la (a - least y.g.fi a)
 have n6:=least_nn y.g.la (a - least y.g.fi a) h.la (by omega)
 have l7:=least_le y.g.du (a - least y.g.fi a - least y.g.la (a - least y.g.fi a))
 have n7:=least_nn y.g.du (a - least y.g.fi a - least y.g.la (a - least y.g.fi a)) h.du (by omega)
 generalize e5:least y.g.fi a = x5 at *
 generalize e6:least y.g.la (a - x5) = x6 at *
 generalize e7:least y.g.du (a - x5 - x6) = x7 at *
 have l8:=least_le y.g.it (a - x5 - x6 - x7)
 have n8:=least_nn y.g.it (a - x5 - x6 - x7) h.it (by omega)
 generalize e8:least y.g.it (a - x5 - x6 - x7) = x8 at *
 have l9:=least_le y.g.pr (a - x5 - x6 - x7 - x8)
 have n9:=least_nn y.g.pr (a - x5 - x6 - x7 - x8) h.pr (by omega)
 generalize e9:least y.g.pr (a - x5 - x6 - x7 - x8) = x9 at *
 have hp:=h.pr
 have hi:=h.it
 have hd:=h.du
 have hl:=h.la
 have hf:=h.fi
 have hc:=h.cr
 have e:(Ln.pay y a).g = { y.g with fi:=y.g.fi - x5,la:=y.g.la - x6,du:=y.g.du - x7,it:=y.g.it - x8,pr:=y.g.pr - x9,cr:=y.g.cr+(a - x5 - x6 - x7 - x8 - x9) }:=by
  unfold Ln.pay
  simp only [e5,e6,e7,e8,e9]
  rfl
 rw [e]
 have hc1:=h.cr1
 refine (h.more a ha).less ?_ ?_ ?_ ?_ ?_ ?_ h.rt0 h.rt1 rfl rfl ?_ ?_ ?_
 ·show 0≤y.g.pr - x9; omega
 ·show 0≤y.g.it - x8; omega
 ·show 0≤y.g.du - x7; omega
 ·show 0≤y.g.la - x6; omega
 ·show 0≤y.g.fi - x5; omega
 ·show 0≤y.g.cr+(a - x5 - x6 - x7 - x8 - x9); omega
 ·show y.g.pr - x9+(y.g.it - x8)+(y.g.du - x7)+(y.g.la - x6)≤_; omega
 ·show y.g.cr+(a - x5 - x6 - x7 - x8 - x9)≤L+a; omega
 ·show y.g.fi - x5≤y.g.fi; omega
def lent (n:Int) (e:Ev):Int:=if e.d = n then e.a else 0
theorem Inv.event {t:Terms} {L:Int} {s:Nat} {y:Dy} (h:Inv t L s y.g) (n:Int) (e:Ev) (he:OkE t e):Inv t (L+lent n e) s (Ln.event n y e).g:=by
 have ha:=he.a0
 unfold Ln.event lent
 by_cases hd:e.d = n
 ·simp only [hd,ne_eq,not_true,if_false,if_true]
  have hm:=h.more e.a ha
  by_cases h1:e.k = 1
  ·simp only [h1,if_true]
   exact h.lend e.a ha
  ·simp only [h1,if_false]
   by_cases h2:e.k = 2
   ·simp only [h2,if_true]
    exact hm.less h.pr h.it h.du h.la h.fi h.cr ha (he.rt h2) rfl rfl (Int.le_refl _) hm.cr1 (Int.le_refl _)
   ·simp only [h2,if_false]
    by_cases h3:e.k = 3
    ·simp only [h3,if_true]
     split
     ·exact hm.less h.pr h.it h.du h.la h.fi h.cr h.rt0 h.rt1 rfl rfl (Int.le_refl _) hm.cr1 (Int.le_refl _)
     ·exact hm
    ·simp only [h3,if_false]
     by_cases h4:e.k = 4
     ·simp only [h4,if_true]
      have hp:=h.pr
      have hi:=h.it
      refine hm.less ?_ ?_ h.du h.la h.fi h.cr h.rt0 h.rt1 rfl rfl ?_ hm.cr1 (Int.le_refl _)
      ·show 0≤y.g.pr+y.g.it; omega
      ·show 0≤y.g.it - y.g.it; omega
      ·show y.g.pr+y.g.it+(y.g.it - y.g.it)+y.g.du+y.g.la≤_; omega
     ·simp only [h4,if_false]
      have h5:e.k = 5:=by have:=he.k0; have:=he.k1; omega
      simp only [h5,if_true]
      exact h.pay e.a ha
 ·simp only [hd,ne_eq,not_false_eq_true,if_true,if_false,Int.add_zero]
  exact h
def lents (n:Int):List Ev→Int
 | []=>0
 | e :: r=>lent n e+lents n r
theorem Inv.events {t:Terms} (n:Int):∀ (l:List Ev) {L:Int} {s:Nat} {y:Dy},Inv t L s y.g→(∀ e∈l,OkE t e)→Inv t (L+lents n l) s (l.foldl (Ln.event n) y).g
 | [],L,s,y,h,_=>by simpa [lents] using h
 | e :: r,L,s,y,h,hl=>by
  have h1:=Inv.event h n e (hl e (by simp))
  have h2:=Inv.events n r h1 (fun x hx=>hl x (by simp [hx]))
  rw [Int.add_assoc] at h2
  exact h2
theorem Inv.early {t:Terms} {L:Int} {s:Nat} {g:St} (h:Inv t L s g) (n cd:Int) (ht:OkT t):Inv t (L+(if n = t.st then t.pr else 0)) s (Ln.early t n cd g).g:=by
 unfold Ln.early
 by_cases hn:n = t.st
 ·simp only [hn,if_true,ne_eq,not_true,false_and,if_false]
  exact h.lend t.pr ht.pr0
 ·simp only [hn,if_false,ne_eq,not_false_eq_true,true_and,Int.add_zero]
  split
  ·have hi:=h.it
   have hd:=h.du
   have hl:=h.la
   refine h.less h.pr ?_ ?_ ?_ h.fi h.cr h.rt0 h.rt1 rfl rfl ?_ h.cr1 (Int.le_refl _)
   ·show 0≤g.it - g.it; omega
   ·show 0≤g.du - g.du+g.it; omega
   ·show 0≤g.la+g.du; omega
   ·show g.pr+(g.it - g.it)+(g.du - g.du+g.it)+(g.la+g.du)≤_; omega
  ·exact h
theorem day_pw (s w:Nat) (hw:w≤3):(360+(w:Int))*360 ^ (s+w)*361 ^ s≤360*361 ^ (s+w)*360 ^ s:=by
 have e1:(360:Int) ^ (s+w) = 360 ^ s*360 ^ w:=Int.pow_add ..
 have e2:(361:Int) ^ (s+w) = 361 ^ s*361 ^ w:=Int.pow_add ..
 rw [e1,e2]
 have hk:(360+(w:Int))*360 ^ w≤360*361 ^ w:=by
  rcases (show w = 0∨w = 1∨w = 2∨w = 3 by omega) with h | h | h | h <;> subst h <;> decide
 have hp:(0:Int)≤360 ^ s*361 ^ s:=Int.mul_nonneg (Int.le_of_lt (Int.pow_pos (by decide))) (Int.le_of_lt (Int.pow_pos (by decide)))
 have:=Int.mul_le_mul_of_nonneg_right hk hp
 have a1:(360+(w:Int))*(360 ^ s*360 ^ w)*361 ^ s = (360+(w:Int))*360 ^ w*(360 ^ s*361 ^ s):=by
  simp only [Int.mul_assoc,Int.mul_left_comm]
 have a2:360*(361 ^ s*361 ^ w)*360 ^ s = 360*361 ^ w*((360:Int) ^ s*361 ^ s):=by
  simp only [Int.mul_assoc,Int.mul_left_comm,Int.mul_comm ((361:Int) ^ w)]
 rw [a1,a2]
 exact this
theorem Inv.late {t:Terms} {L:Int} {s:Nat} {y:Dy} (h:Inv t L s y.g) (ht:OkT t) (w:Nat) (hw:w≤3):Inv t L (s+w) (Ln.late t w y).g:=by
 have hd:=den_bd t
 have hp:=h.pr
 have hi:=h.it
 have hdu:=h.du
 have hla:=h.la
 have hea:=h.ea
 have hfn:=h.fn
 have hr0:=h.rt0
 have hr1:=h.rt1
 have hw0:(0:Int)≤w:=by omega
 have m1:0≤y.g.pr*(y.g.rt*w):=Int.mul_nonneg hp (Int.mul_nonneg hr0 hw0)
 have m2:0≤y.g.la*(t.fi*w):=Int.mul_nonneg hla (Int.mul_nonneg ht.fi0 hw0)
 have q1:y.g.ea / den t≤(y.g.ea+y.g.pr*(y.g.rt*w)) / den t:=Int.ediv_le_ediv (by omega) (by omega)
 have q2:y.g.fn / den t≤(y.g.fn+y.g.la*(t.fi*w)) / den t:=Int.ediv_le_ediv (by omega) (by omega)
 have e:(Ln.late t w y).g = { y.g with ea:=y.g.ea+y.g.pr*(y.g.rt*w),fn:=y.g.fn+y.g.la*(t.fi*w),it:=y.g.it+((y.g.ea+y.g.pr*(y.g.rt*w)) / den t - y.g.ea / den t),fi:=y.g.fi+((y.g.fn+y.g.la*(t.fi*w)) / den t - y.g.fn / den t) }:=by
  unfold Ln.late
  simp only [part_den]
  rfl
 rw [e]
 have hfi:=h.fi
 have hf1:=h.fi1
 refine ⟨hp,?_,hdu,hla,?_,h.cr,hr0,hr1,?_,?_,h.L0,h.cr1,?_,?_⟩
 ·show 0≤y.g.it+_; omega
 ·show 0≤y.g.fi+_; omega
 ·show 0≤y.g.ea+_; omega
 ·show 0≤y.g.fn+_; omega
 ·show y.g.fi+((y.g.fn+y.g.la*(t.fi*w)) / den t - y.g.fn / den t)≤(y.g.fn+y.g.la*(t.fi*w)) / den t; omega
 ·show (den t*(y.g.pr+(y.g.it+((y.g.ea+y.g.pr*(y.g.rt*w)) / den t - y.g.ea / den t))+y.g.du+y.g.la)+(y.g.ea+y.g.pr*(y.g.rt*w)) % den t)*360 ^ (s+w)≤den t*L*361 ^ (s+w)
  generalize hx:y.g.pr*(y.g.rt*w) = x at *
  have r1:=Int.mul_ediv_add_emod y.g.ea (den t)
  have r2:=Int.mul_ediv_add_emod (y.g.ea+x) (den t)
  have v1:den t*(y.g.pr+(y.g.it+((y.g.ea+x) / den t - y.g.ea / den t))+y.g.du+y.g.la)+(y.g.ea+x) % den t = den t*(y.g.pr+y.g.it+y.g.du+y.g.la)+y.g.ea % den t+x:=by
   have:den t*(y.g.pr+(y.g.it+((y.g.ea+x) / den t - y.g.ea / den t))+y.g.du+y.g.la) = den t*(y.g.pr+y.g.it+y.g.du+y.g.la)+(den t*((y.g.ea+x) / den t) - den t*(y.g.ea / den t)):=by
    rw [← Int.mul_sub,← Int.mul_add]
    congr 1
    omega
   omega
  rw [v1]
  have hm0:0≤y.g.ea % den t:=Int.emod_nonneg _ (by omega)
  have hX:den t*y.g.pr≤den t*(y.g.pr+y.g.it+y.g.du+y.g.la):=Int.mul_le_mul_of_nonneg_left (by omega) (by omega)
  have hP:360000000*y.g.pr≤den t*y.g.pr:=Int.mul_le_mul_of_nonneg_right (by omega) hp
  have hxb:x≤y.g.pr*(1000000*w):=by
   rw [← hx]
   exact Int.mul_le_mul_of_nonneg_left (Int.mul_le_mul_of_nonneg_right hr1 hw0) hp
  have hg:=h.grow
  generalize hV:den t*(y.g.pr+y.g.it+y.g.du+y.g.la)+y.g.ea % den t = V at *
  have hV0:0≤V:=by
   have:0≤den t*y.g.pr:=Int.mul_nonneg (by omega) hp
   omega
  have hVx:360*(V+x)≤V*(360+w):=by
   have a1:360000000*y.g.pr*w≤V*w:=Int.mul_le_mul_of_nonneg_right (by omega) hw0
   have a2:360000000*y.g.pr*w = 360*(y.g.pr*(1000000*w)):=by
    rw [show (360000000:Int) = 360*1000000 by decide]
    simp only [Int.mul_assoc,Int.mul_left_comm]
   have a3:V*(360+(w:Int)) = 360*V+V*w:=by rw [Int.mul_add,Int.mul_comm V 360]
   omega
  have p1:(0:Int) < 360*361 ^ s:=Int.mul_pos (by decide) (Int.pow_pos (by decide))
  have p2:(0:Int)≤360 ^ (s+w)*361 ^ s:=Int.mul_nonneg (Int.le_of_lt (Int.pow_pos (by decide))) (Int.le_of_lt (Int.pow_pos (by decide)))
  have p3:(0:Int)≤360*361 ^ (s+w):=Int.mul_nonneg (by decide) (Int.le_of_lt (Int.pow_pos (by decide)))
  refine Int.le_of_mul_le_mul_left ?_ p1
  have b1:=Int.mul_le_mul_of_nonneg_right hVx p2
  have b2:=Int.mul_le_mul_of_nonneg_left (day_pw s w hw) hV0
  have b3:=Int.mul_le_mul_of_nonneg_left hg p3
  have c1:360*361 ^ s*((V+x)*360 ^ (s+w)) = 360*(V+x)*(360 ^ (s+w)*361 ^ s):=by simp only [Int.mul_assoc,Int.mul_left_comm,Int.mul_comm]
  have c2:V*(360+(w:Int))*(360 ^ (s+w)*361 ^ s) = V*((360+(w:Int))*360 ^ (s+w)*361 ^ s):=by simp only [Int.mul_assoc]
  have c3:V*(360*361 ^ (s+w)*360 ^ s) = 360*361 ^ (s+w)*(V*360 ^ s):=by simp only [Int.mul_assoc,Int.mul_left_comm,Int.mul_comm]
  have c4:360*361 ^ (s+w)*(den t*L*361 ^ s) = 360*361 ^ s*(den t*L*361 ^ (s+w)):=by simp only [Int.mul_assoc,Int.mul_left_comm,Int.mul_comm]
  rw [c1,← c4]
  rw [c2] at b1
  rw [c3] at b2
  exact Int.le_trans b1 (Int.le_trans b2 b3)
theorem Inv.day {t:Terms} {L:Int} {s:Nat} {g:St} (h:Inv t L s g) (ht:OkT t) (n cd:Int) (w:Nat) (hw:w≤3) (l:List Ev) (hl:∀ e∈l,OkE t e) :
  Inv t (L+(if n = t.st then t.pr else 0)+lents n l) (s+w) (Ln.day t n cd w l g).g:=by
 unfold Ln.day
 exact (Inv.events n l (h.early n cd ht) hl).late ht w hw
def tot (t:Terms) (k:Nat):List Ev→Int
 | []=>0
 | e :: r=>(if e.d < t.st+k then e.a else 0)+tot t k r
theorem tot_zero (t:Terms):∀ l:List Ev,(∀ e∈l,OkE t e)→tot t 0 l = 0
 | [],_=>rfl
 | e :: r,h=>by
  have h1:=(h e (by simp)).d0
  have h2:=tot_zero t r (fun x hx=>h x (by simp [hx]))
  show (if e.d < t.st+(0:Nat) then e.a else 0)+tot t 0 r = 0
  rw [if_neg (by omega),h2]; rfl
theorem tot_succ (t:Terms) (k:Nat):∀ l:List Ev,tot t (k+1) l = tot t k l+lents (t.st+k) l
 | []=>rfl
 | e :: r=>by
  have h2:=tot_succ t k r
  show (if e.d < t.st+(k+1:Nat) then e.a else 0)+tot t (k+1) r = (if e.d < t.st+k then e.a else 0)+tot t k r+(lent (t.st+k) e+lents (t.st+k) r)
  rw [h2]
  unfold lent
  repeat' split
  all_goals omega
theorem tot_le (t:Terms) (k:Nat):∀ l:List Ev,(∀ e∈l,OkE t e)→0≤tot t k l∧tot t k l≤100000000000*l.length
 | [],_=>by simp [tot]
 | e :: r,h=>by
  have h0:=(h e (by simp)).a0
  have h1:=(h e (by simp)).a1
  have h2:=tot_le t k r (fun x hx=>h x (by simp [hx]))
  show 0≤(if e.d < t.st+k then e.a else 0)+tot t k r∧(if e.d < t.st+k then e.a else 0)+tot t k r≤100000000000*((r.length+1:Nat):Int)
  split <;> omega
def sw (ws:Nat→Nat):Nat→Nat
 | 0=>0
 | k+1=>sw ws k+ws k
theorem run_inv {t:Terms} (ht:OkT t) (cd wt:Int→Int) (ws:Nat→Nat) (hws:∀ k,ws k≤3) (hwt:∀ k:Nat,wt (t.st+k) = ws k) (l:List Ev) (hl:∀ e∈l,OkE t e) :
  ∀ k:Nat,Inv t ((if 0 < k then t.pr else 0)+tot t k l) (sw ws k) (run t cd wt l k)
 | 0=>by
  rw [tot_zero t l hl]
  exact Inv.start ht
 | k+1=>by
  have h:=Inv.day (run_inv ht cd wt ws hws hwt l hl k) ht (t.st+k) (cd (t.st+k)) (ws k) (hws k) l hl
  rw [← hwt k] at h
  have e:(if 0 < k then t.pr else 0)+tot t k l+(if t.st+(k:Int) = t.st then t.pr else 0)+lents (t.st+k) l = (if 0 < k+1 then t.pr else 0)+tot t (k+1) l:=by
   rw [tot_succ,if_pos (Nat.succ_pos k)]
   by_cases hk:0 < k
   ·rw [if_pos hk,if_neg (by omega)]; omega
   ·rw [if_neg hk,if_pos (by omega)]; omega
  rw [e] at h
  exact h
theorem pow_nat (b:Nat) (s:Nat):((b ^ s:Nat):Int) = (b:Int) ^ s:=Int.natCast_pow b s
theorem top:(361:Nat) ^ 4320≤160200*360 ^ 4320:=by decide +kernel
theorem top_le (s:Nat) (hs:s≤4320):(361:Nat) ^ s≤160200*360 ^ s:=by
 have h1:(361:Nat) ^ s*360 ^ (4320 - s)≤361 ^ s*361 ^ (4320 - s):=Nat.mul_le_mul_left _ (Nat.pow_le_pow_left (by decide) _)
 rw [← Nat.pow_add,Nat.add_sub_cancel' hs] at h1
 have h2:=Nat.le_trans h1 top
 have e:(160200:Nat)*360 ^ 4320 = 160200*360 ^ s*360 ^ (4320 - s):=by rw [Nat.mul_assoc,← Nat.pow_add,Nat.add_sub_cancel' hs]
 rw [e] at h2
 exact Nat.le_of_mul_le_mul_right h2 (Nat.pow_pos (by decide))
theorem top_int (s:Nat) (hs:s≤4320):(361:Int) ^ s≤160200*360 ^ s:=by
 have h:=Int.ofNat_le.mpr (top_le s hs)
 rw [Int.natCast_mul,pow_nat,pow_nat] at h
 exact h
theorem Inv.bound {t:Terms} {L:Int} {s:Nat} {g:St} (h:Inv t L s g) (hs:s≤4320) (hL:L≤4100000000000):g.pr+g.it+g.du+g.la≤656820000000000000:=by
 have hd:=den_bd t
 have hm:0≤g.ea % den t:=Int.emod_nonneg _ (by omega)
 have p0:(0:Int) < 360 ^ s:=Int.pow_pos (by decide)
 have h1:=h.grow
 have h2:den t*L*361 ^ s≤den t*L*(160200*360 ^ s):=Int.mul_le_mul_of_nonneg_left (top_int s hs) (Int.mul_nonneg (by omega) h.L0)
 have h3:=Int.le_trans h1 h2
 rw [← Int.mul_assoc] at h3
 have h4:=Int.le_of_mul_le_mul_right h3 p0
 have h5:den t*(g.pr+g.it+g.du+g.la)≤den t*(L*160200):=by rw [← Int.mul_assoc]; omega
 have h6:=Int.le_of_mul_le_mul_left h5 (by omega)
 omega
end Go.Proofs.YtanndhoimpnhpaaGreatDoor.Ln
namespace Go.Proofs.YtanndhoimpnhpaaGreatDoor
open Go.RowKit
def setl:List Value→Nat→List Value→List Value
 | l,_,[]=>l
 | l,o,v :: r=>setl (l.set o v) (o+1) r
theorem At.setCells {b:Nat}:∀ (m:List Value) (o:Nat) (l:List Value) (w:World),At w b l→o+m.length≤l.length→At (w.setCells b o m) b (setl l o m)
 | [],_,_,_,h,_=>h
 | v :: r,o,l,w,h,hl=>by
  have hl':o+(r.length+1)≤l.length:=hl
  exact At.setCells r (o+1) (l.set o v) _ (h.set o (by omega) v) (by rw [List.length_set]; omega)
theorem At.there_mid {w:World} {b:Nat} {l:List Value} (h:At w b l) (o n:Nat) (hn:o+n≤l.length):w.there b o n:=fun j hj=>by
 obtain ⟨h1,h2⟩:=h (o+j) l[o+j] (List.getElem?_eq_getElem (by omega))
 exact ⟨by rw [h1]; rfl,h2⟩
def tl6 (t:Ln.Terms):List Value:=[.int .i64 t.st,.int .i64 t.pr,.int .i64 t.rt,.int .i64 t.fi,.int .i64 t.ba,.int .i64 t.du]
def bl8 (g:Ln.St) (day:Int):List Value:=[.int .i64 g.pr,.int .i64 g.it,.int .i64 g.du,.int .i64 g.la,.int .i64 g.fi,.int .i64 g.cr,.int .i64 g.rt,.int .i64 day]
structure En where
 d:Int
 k:Int
 a:Int
def ens:List En→List Value
 | []=>[]
 | e :: r=>.int .i64 e.d :: .int .i64 e.k :: .int .i64 e.a :: ens r
theorem ens_len:∀ l:List En,(ens l).length = l.length*3
 | []=>rfl
 | e :: r=>by
  have:=ens_len r
  simp only [ens,List.length_cons]
  omega
theorem ens_append:∀ l r:List En,ens (l ++ r) = ens l ++ ens r
 | [],_=>rfl
 | e :: l,r=>by simp only [List.cons_append,ens,ens_append l r]
theorem ens_at:∀ (l:List En) (k:Nat) (h:k < l.length),(ens l)[k*3]? = some (.int .i64 l[k].d)∧(ens l)[k*3+1]? = some (.int .i64 l[k].k)∧(ens l)[k*3+2]? = some (.int .i64 l[k].a)
 | e :: r,0,_=>⟨rfl,rfl,rfl⟩
 | e :: r,k+1,h=>by
  have ih:=ens_at r k (by simpa using h)
  have e1:(k+1)*3 = k*3+1+1+1:=by omega
  rw [e1]
  exact ih
theorem en_range {w:World} {base:Nat} {T:TypeId} {n cap g:Nat} {L:List En} (h:w.ownsRow base T 3 (.slice (some ⟨g,0,none⟩) n cap) n (ens L)) (hn:n = L.length) (k:Nat) (hk:k < L.length) :
  w.cell? ⟨g,k*3,none⟩ = some (.int .i64 L[k].d)∧w.cell? ⟨g,k*3+1,none⟩ = some (.int .i64 L[k].k)∧w.cell? ⟨g,k*3+2,none⟩ = some (.int .i64 L[k].a):=by
 obtain ⟨q0,q1,q2⟩:=ens_at L k hk
 exact ⟨(h.cellAt _ (by omega)).trans q0,(h.cellAt _ (by omega)).trans q1,(h.cellAt _ (by omega)).trans q2⟩
def hv (st:Int) (l:List En) (i:Nat):Int:=l.foldl (fun s e=>if 13*(e.d - st)+e.k = i then IntKind.i64.wrap (s+e.a) else s) 0
theorem hv_take (st:Int) (l:List En) (k:Nat) (hk:k < l.length) (i:Nat):hv st (l.take (k+1)) i = if 13*(l[k].d - st)+l[k].k = i then IntKind.i64.wrap (hv st (l.take k) i+l[k].a) else hv st (l.take k) i:=by
 unfold hv
 rw [List.take_succ_eq_append_getElem hk,List.foldl_append]
 rfl
def hc (n:Nat) (f:Nat→Int):List Value:=(List.range n).map (fun i=>.int .i64 (f i))
theorem hc_at (n:Nat) (f:Nat→Int) (i:Nat) (h:i < n):(hc n f)[i]? = some (.int .i64 (f i)):=by
 unfold hc
 rw [List.getElem?_map,List.getElem?_range h]
 rfl
theorem hc_len (n:Nat) (f:Nat→Int):(hc n f).length = n:=by simp [hc]
theorem hc_set (n:Nat) (f g:Nat→Int) (i:Nat) (v:Int) (hg:∀ j,j < n→g j = if j = i then v else f j):(hc n f).set i (.int .i64 v) = hc n g:=by
 apply List.ext_getElem?
 intro j
 by_cases hj:j < n
 ·rw [hc_at n g j hj,hg j hj]
  by_cases e:j = i
  ·subst e
   rw [if_pos rfl,List.getElem?_set_self (by rw [hc_len]; exact hj)]
  ·rw [if_neg e,List.getElem?_set_ne (Ne.symm e),hc_at n f j hj]
 ·rw [List.getElem?_eq_none (by rw [List.length_set,hc_len]; omega),List.getElem?_eq_none (by rw [hc_len]; omega)]
def kindW (n:Int) (k:Nat) (is am:Int):List En :=
 if is = am then [] else (if is = 0 then [] else [⟨n,k,wrap64 (-is)⟩]) ++ (if am = 0 then [] else [⟨n,k,am⟩])
def kindsW (n:Int) (h am:Nat→Int):Nat→List En
 | 0=>[]
 | j+1=>kindsW n h am j ++ kindW n (j+1) (h (j+1)) (am (j+1))
theorem kindW_len (n:Int) (k:Nat) (is am:Int):(kindW n k is am).length≤2:=by
 unfold kindW
 (repeat' split) <;> simp
theorem kindsW_len (n:Int) (h am:Nat→Int):∀ j,(kindsW n h am j).length≤2*j
 | 0=>Nat.le_refl _
 | j+1=>by
  have h1:=kindsW_len n h am j
  have h2:=kindW_len n (j+1) (h (j+1)) (am (j+1))
  simp only [kindsW,List.length_append]
  omega
def bookW (st:Int) (hf:Nat→Int) (am:Nat→Nat→Int) (M0:List En):Nat→List En
 | 0=>M0
 | k+1=>bookW st hf am M0 k ++ kindsW (st+k) (fun j=>hf (13*k+j)) (am k) 12
theorem bookW_len (st:Int) (hf:Nat→Int) (am:Nat→Nat→Int) (M0:List En):∀ k,(bookW st hf am M0 k).length≤M0.length+24*k
 | 0=>Nat.le_refl _
 | k+1=>by
  have h1:=bookW_len st hf am M0 k
  have h2:=kindsW_len (st+k) (fun j=>hf (13*k+j)) (am k) 12
  simp only [bookW,List.length_append]
  omega
def loopsOf:Code→List Code
 | .loop c=>c :: loopsOf c
 | .seq a b=>loopsOf a ++ loopsOf b
 | .block _ c=>loopsOf c
 | .scope c=>loopsOf c
 | .cond _ a b=>loopsOf a ++ loopsOf b
 | _=>[]
end Go.Proofs.YtanndhoimpnhpaaGreatDoor
namespace Go.Proofs.YtanndhoimpnhpaaGreatDoor
def wLoan:List UInt8:=[108,111,97,110]
def wEvent:List UInt8:=[101,118,101,110,116]
def wAt:List UInt8:=[97,116]
def wNow:List UInt8:=[110,111,119]
def wEntry:List UInt8:=[101,110,116,114,121]
def wEnd:List UInt8:=[101,110,100]
def tmN (t:Ln.Terms):List Int:=[t.st,t.pr,t.rt,t.fi,t.ba,t.du]
def evN (e:Ln.Ev):List Int:=[e.d,e.k,e.s,e.a]
def nwN (g:Ln.St):List Int:=[g.pr,g.it,g.du,g.la,g.fi,g.cr,g.rt]
def enN (e:En):List Int:=[e.d,e.k,e.a]
def evT:List Ln.Ev→List UInt8
 | []=>[]
 | e :: r=>lineB wEvent (evN e) ++ evT r
def enT:List En→List UInt8
 | []=>[]
 | e :: r=>lineB wEntry (enN e) ++ enT r
def txtB (t:Ln.Terms) (E:List Ln.Ev) (g:Ln.St) (day:Int) (L:List En):List UInt8 :=
 lineB wLoan (tmN t) ++ evT E ++ lineB wAt [day] ++ lineB wNow (nwN g) ++ enT L ++ lineB wEnd []
theorem evT_app:∀ a b:List Ln.Ev,evT (a ++ b) = evT a ++ evT b
 | [],_=>rfl
 | e :: r,b=>by simp [evT,evT_app r b]
theorem enT_app:∀ a b:List En,enT (a ++ b) = enT a ++ enT b
 | [],_=>rfl
 | e :: r,b=>by simp [enT,enT_app r b]
structure Rg (t:Ln.Terms) (E:List Ln.Ev) (g:Ln.St) (day:Int) (L:List En):Prop where
 tm:∀ n∈tmN t,InR n
 ev:∀ e∈E,∀ n∈evN e,InR n
 nw:∀ n∈nwN g,InR n
 dy:InR day
 en:∀ e∈L,∀ n∈enN e,InR n
theorem lineB_len (word:List UInt8) (l:List Int) (h:∀ n∈l,InR n):(lineB word l).length≤word.length+22*l.length+1:=by
 have:=lnum_len l h
 unfold lineB
 simp only [List.length_append,List.length_singleton]
 omega
theorem evT_len:∀ E:List Ln.Ev,(∀ e∈E,∀ n∈evN e,InR n)→(evT E).length≤100*E.length
 | [],_=>by simp [evT]
 | e :: r,h=>by
  have h1:=evT_len r (fun x hx=>h x (by simp [hx]))
  have h2:=lineB_len wEvent (evN e) (h e (by simp))
  have h3:wEvent.length = 5:=rfl
  have h4:(evN e).length = 4:=rfl
  simp only [evT,List.length_append,List.length_cons]
  omega
theorem enT_len:∀ L:List En,(∀ e∈L,∀ n∈enN e,InR n)→(enT L).length≤100*L.length
 | [],_=>by simp [enT]
 | e :: r,h=>by
  have h1:=enT_len r (fun x hx=>h x (by simp [hx]))
  have h2:=lineB_len wEntry (enN e) (h e (by simp))
  have h3:wEntry.length = 5:=rfl
  have h4:(enN e).length = 3:=rfl
  simp only [enT,List.length_append,List.length_cons]
  omega
theorem evT_take (E:List Ln.Ev) (k:Nat) (hk:k < E.length):evT (E.take (k+1)) = evT (E.take k) ++ lineB wEvent (evN E[k]):=by
 rw [List.take_succ_eq_append_getElem hk,evT_app]
 simp [evT]
theorem enT_take (L:List En) (k:Nat) (hk:k < L.length):enT (L.take (k+1)) = enT (L.take k) ++ lineB wEntry (enN L[k]):=by
 rw [List.take_succ_eq_append_getElem hk,enT_app]
 simp [enT]
end Go.Proofs.YtanndhoimpnhpaaGreatDoor
namespace Go.Proofs.YtanndhoimpnhpaaGreatDoor.Txt
def dg (c:UInt8):Bool:=decide (48≤c.toNat) && decide (c.toNat≤57)
def allD (l:List UInt8):Bool:=l.all dg
def dval (l:List UInt8):Int:=l.foldl (fun n c=>10*n+(c.toNat:Int) - 48) 0
theorem dg_yes {c:UInt8} (a:48≤(c.toNat:Int)) (b:(c.toNat:Int)≤57):dg c = true:=by simp [dg]; omega
theorem dg_bd {c:UInt8} (h:dg c = true):48≤(c.toNat:Int)∧(c.toNat:Int)≤57:=by simp [dg] at h; omega
theorem dval_snoc (l:List UInt8) (c:UInt8):dval (l ++ [c]) = 10*dval l+(c.toNat:Int) - 48:=by simp [dval,List.foldl_append]
theorem allD_snoc (l:List UInt8) (c:UInt8):allD (l ++ [c]) = (allD l && dg c):=by simp [allD]
theorem take_snoc (s:ByteArray) (k:Nat) (h:k < s.size):s.data.toList.take (k+1) = s.data.toList.take k ++ [s[k]]:=by
 rw [List.take_succ_eq_append_getElem (by simpa using h)]; rfl
theorem take_all (s:ByteArray) (k:Nat) (h:¬ k < s.size):s.data.toList.take k = s.data.toList:=List.take_of_length_le (by simp; omega)
theorem fold_bd (l:List UInt8):∀ n:Int,0≤n→l.all dg = true→0≤l.foldl (fun n c=>10*n+(c.toNat:Int) - 48) n∧l.foldl (fun n c=>10*n+(c.toNat:Int) - 48) n < (n+1)*10 ^ l.length:=by
 induction l with
 | nil=>intro n hn _; simp; omega
 | cons c r ih =>
  intro n hn h
  simp only [List.all_cons,Bool.and_eq_true] at h
  have hb:=dg_bd h.1
  have:=ih (10*n+(c.toNat:Int) - 48) (by omega) h.2
  refine ⟨this.1,Int.lt_of_lt_of_le this.2 ?_⟩
  have e:(n+1)*10 ^ (c :: r).length = (10*(n+1))*10 ^ r.length:=by
   rw [List.length_cons,Int.pow_succ,Int.mul_comm ((10:Int) ^ r.length) 10,← Int.mul_assoc,Int.mul_comm (n+1) 10]
  rw [e]
  refine Int.mul_le_mul_of_nonneg_right (by omega) (Int.le_of_lt (Int.pow_pos (by decide)))
theorem dval_lt (l:List UInt8) (h:allD l = true) (n:Nat) (k:l.length = n):0≤dval l∧dval l < 10 ^ n:=by
 have:=fold_bd l 0 (by omega) h
 refine ⟨this.1,?_⟩
 have h2:dval l < 10 ^ l.length:=by simpa [dval] using this.2
 rw [k] at h2
 exact h2
end Go.Proofs.YtanndhoimpnhpaaGreatDoor.Txt
namespace Go.Proofs.YtanndhoimpnhpaaGreatDoor
open Txt
theorem dg_of (d:Nat) (h:d < 10):dg (UInt8.ofNat (48+d)) = true∧((UInt8.ofNat (48+d)).toNat:Int) = 48+d:=by
 have e:(UInt8.ofNat (48+d)).toNat = 48+d:=UInt8.toNat_ofNat_of_lt' (show 48+d < 256 by omega)
 refine ⟨dg_yes ?_ ?_,?_⟩ <;> rw [e] <;> omega
theorem dec_split (u:Nat) (h:10≤u):Lib.decDigits u = Lib.decDigits (u / 10) ++ [UInt8.ofNat (48+u % 10)]:=by
 rw [Lib.decDigits,dif_neg (by omega)]
theorem dec_val:∀ (k u:Nat),u < k→dval (Lib.decDigits u) = u∧allD (Lib.decDigits u) = true∧1≤(Lib.decDigits u).length
 | 0,u,h=>absurd h (Nat.not_lt_zero u)
 | k+1,u,h=>by
  by_cases h10:10≤u
  ·obtain ⟨h1,h2,h3⟩:=dec_val k (u / 10) (by omega)
   obtain ⟨h4,h5⟩:=dg_of (u % 10) (by omega)
   rw [dec_split u h10,dval_snoc,allD_snoc,h1,h2,h4,h5,List.length_append]
   exact ⟨by omega,rfl,by simp⟩
  ·obtain ⟨h4,h5⟩:=dg_of u (by omega)
   rw [Lib.decDigits_one (by omega),show [UInt8.ofNat (48+u)] = [] ++ [UInt8.ofNat (48+u)] from rfl,dval_snoc,allD_snoc,h4,h5]
   exact ⟨by simp [dval]; omega,rfl,by simp⟩
theorem dval_dec (u:Nat):dval (Lib.decDigits u) = u:=(dec_val (u+1) u (by omega)).1
theorem allD_dec (u:Nat):allD (Lib.decDigits u) = true:=(dec_val (u+1) u (by omega)).2.1
theorem dec_ne (u:Nat):1≤(Lib.decDigits u).length:=(dec_val (u+1) u (by omega)).2.2
theorem dec_big:∀ (n u:Nat),n+1≤(Lib.decDigits u).length→1≤n→10 ^ n≤u
 | 0,_,_,h=>absurd h (by omega)
 | n+1,u,h,_=>by
  have h10:10≤u:=by
   rcases Nat.lt_or_ge u 10 with hu | hu
   ·rw [Lib.decDigits_one hu] at h; simp at h
   ·exact hu
  rw [dec_split u h10,List.length_append,List.length_singleton] at h
  by_cases hn:n = 0
  ·subst hn; omega
  ·have:=dec_big n (u / 10) (by omega) (by omega)
   have e:10 ^ (n+1) = 10 ^ n*10:=Nat.pow_succ 10 n
   omega
theorem dec_short (u:Nat) (h:u≤9223372036854775808):(Lib.decDigits u).length≤19:=by
 rcases Nat.lt_or_ge 19 (Lib.decDigits u).length with hl | hl
 ·have:=dec_big 19 u (by omega) (by omega)
  have e:(10:Nat) ^ 19 = 10000000000000000000:=by decide
  omega
 ·exact hl
theorem dval_app (a:List UInt8):∀ b:List UInt8,allD a = true→allD b = true→dval a≤dval (a ++ b)∧0≤dval a
 | [],h,_=>by
  rw [List.append_nil]
  exact ⟨Int.le_refl _,by have:=fold_bd a 0 (by omega) h; exact this.1⟩
 | c :: r,h,hb=>by
  have hc:dg c = true∧allD r = true:=by
   unfold allD at hb
   rw [List.all_cons,Bool.and_eq_true] at hb
   exact hb
  have h0:0≤dval a:=by have:=fold_bd a 0 (by omega) h; exact this.1
  have h1:allD (a ++ [c]) = true:=by rw [allD_snoc,h,hc.1]; rfl
  have h2:=dval_app (a ++ [c]) r h1 hc.2
  rw [List.append_assoc] at h2
  have h3:=dval_snoc a c
  have h4:=dg_bd hc.1
  refine ⟨?_,h0⟩
  have h5:dval a≤dval (a ++ [c]):=by rw [h3]; omega
  exact Int.le_trans h5 h2.1
def Can (d:List UInt8) (m:Nat):Prop:=∃ u:Nat,u≤m∧d = Lib.decDigits u
theorem Can.len {d:List UInt8} {m:Nat} (h:Can d m) (hm:m≤9223372036854775808):1≤d.length∧d.length≤19:=by
 obtain ⟨u,hu,rfl⟩:=h
 exact ⟨dec_ne u,dec_short u (by omega)⟩
theorem Can.dig {d:List UInt8} {m:Nat} (h:Can d m):allD d = true:=by
 obtain ⟨u,hu,rfl⟩:=h
 exact allD_dec u
theorem Can.val {d:List UInt8} {m:Nat} (h:Can d m):dval d≤m:=by
 obtain ⟨u,hu,rfl⟩:=h
 rw [dval_dec]
 omega
theorem allD_take {d:List UInt8} (h:allD d = true) (k:Nat):allD (d.take k) = true∧allD (d.drop k) = true:=by
 have:allD (d.take k ++ d.drop k) = true:=by rw [List.take_append_drop]; exact h
 unfold allD at this ⊢
 rw [List.all_append,Bool.and_eq_true] at this
 exact this
theorem Can.pre {d:List UInt8} {m:Nat} (h:Can d m) (k:Nat):dval (d.take k)≤m:=by
 have h1:=allD_take h.dig k
 have h2:=(dval_app (d.take k) (d.drop k) h1.1 h1.2).1
 rw [List.take_append_drop] at h2
 exact Int.le_trans h2 h.val
theorem itoa_cases (n:Int) (h:InR n) (s:List UInt8) (hs:s = Lib.itoa n):(¬ s.head? = some 45∧0≤n∧Can s 9223372036854775807)∨(∃ d,s = 45 :: d∧n < 0∧Can d 9223372036854775808):=by
 unfold InR at h
 by_cases hn:0≤n
 ·obtain ⟨u,rfl⟩:=Int.eq_ofNat_of_zero_le hn
  rw [Lib.itoa_nonneg] at hs
  refine .inl ⟨fun e=>?_,hn,u,by omega,hs⟩
  have h1:=allD_dec u
  rw [← hs] at h1
  cases s with
  | nil=>simp at e
  | cons c r =>
   simp at e
   subst e
   simp [allD,dg] at h1
 ·obtain ⟨u,rfl⟩:∃ u:Nat,n = -(u:Int):=⟨n.natAbs,by omega⟩
  rw [Lib.itoa_neg u (by omega)] at hs
  exact .inr ⟨_,hs,by omega,u,by omega,rfl⟩
theorem itoa_inj (a b:Int) (ha:InR a) (hb:InR b) (h:Lib.itoa a = Lib.itoa b):a = b:=by
 have key:∀ n:Int,(0≤n→dval (Lib.itoa n) = n)∧(n < 0→Lib.itoa n = 45 :: Lib.decDigits n.natAbs):=fun n=>by
  refine ⟨fun hn=>?_,fun hn=>?_⟩
  ·obtain ⟨u,rfl⟩:=Int.eq_ofNat_of_zero_le hn
   rw [Lib.itoa_nonneg,dval_dec]
  ·unfold Lib.itoa; rw [if_pos hn]
 rcases itoa_cases a ha _ rfl with ⟨h1,h2,_⟩ | ⟨d,h1,h2,_⟩
 ·rcases itoa_cases b hb _ rfl with ⟨h3,h4,_⟩ | ⟨d',h3,h4,_⟩
  ·have e1:=(key a).1 h2
   have e2:=(key b).1 h4
   rw [h] at e1
   omega
  ·rw [h,h3] at h1
   simp at h1
 ·rcases itoa_cases b hb _ rfl with ⟨h3,h4,_⟩ | ⟨d',h3,h4,_⟩
  ·rw [← h,h1] at h3
   simp at h3
  ·have e1:=(key a).2 h2
   have e2:=(key b).2 h4
   rw [h,e2] at e1
   simp only [List.cons.injEq,true_and] at e1
   have e3:=dval_dec a.natAbs
   have e4:=dval_dec b.natAbs
   rw [← e1,e4] at e3
   omega
end Go.Proofs.YtanndhoimpnhpaaGreatDoor
namespace Go.Proofs.YtanndhoimpnhpaaGreatDoor.Lg
def lv:List Int→Int
 | []=>0
 | d :: r=>d+1000000*lv r
def Dig (l:List Int):Prop:=∀ d∈l,0≤d∧d < 1000000
theorem lv_nn:∀ l:List Int,Dig l→0≤lv l
 | [],_=>Int.le_refl _
 | d :: r,h=>by
  have h1:=h d (by simp)
  have h2:=lv_nn r (fun x hx=>h x (by simp [hx]))
  show 0≤d+1000000*lv r
  omega
theorem lv_drop (l:List Int) (k:Nat) (h:k < l.length):lv (l.drop k) = l.getD k 0+1000000*lv (l.drop (k+1)):=by
 rw [List.drop_eq_getElem_cons h]
 show l[k]+1000000*lv (l.drop (k+1)) = _
 rw [List.getD_eq_getElem?_getD,List.getElem?_eq_getElem h]
 rfl
theorem dig_drop {l:List Int} (h:Dig l) (k:Nat):Dig (l.drop k):=fun d hd=>h d (List.mem_of_mem_drop hd)
theorem dig_at {l:List Int} (h:Dig l) (k:Nat) (hk:k < l.length):0≤l.getD k 0∧l.getD k 0 < 1000000:=by
 rw [List.getD_eq_getElem?_getD,List.getElem?_eq_getElem hk]
 exact h _ (List.getElem_mem hk)
theorem div_step (H n y:Int) (hy:0 < y):(n+1000000*H) / y = 1000000*(H / y)+(1000000*(H % y)+n) / y∧(n+1000000*H) % y = (1000000*(H % y)+n) % y:=by
 have e:n+1000000*H = (1000000*(H % y)+n)+(1000000*(H / y))*y:=by
  have:=Int.mul_ediv_add_emod H y
  have h2:1000000*(y*(H / y)) = 1000000*(H / y)*y:=by rw [Int.mul_comm y,Int.mul_assoc]
  omega
 rw [e]
 refine ⟨?_,?_⟩
 ·rw [Int.add_mul_ediv_right _ _ (by omega)]; omega
 ·rw [Int.add_mul_emod_self_right]
theorem lv_low (d:Int) (r:List Int) (h0:0≤d) (h1:d < 1000000):lv (d :: r) / 1000000 = lv r:=by
 show (d+1000000*lv r) / 1000000 = lv r
 omega
def addTo (c a b:Int):List Int→List Int
 | []=>[]
 | d :: r=>(c+d+a % 1000000*b) % 1000000 :: addTo ((c+d+a % 1000000*b) / 1000000) (a / 1000000) b r
theorem addTo_dig (b:Int):∀ (l:List Int) (c a:Int),Dig (addTo c a b l)
 | [],_,_=>by intro d hd; simp [addTo] at hd
 | d :: r,c,a=>by
  intro x hx
  simp only [addTo,List.mem_cons] at hx
  rcases hx with rfl | hx
  ·omega
  ·exact addTo_dig b r _ _ x hx
theorem addTo_len (b:Int):∀ (l:List Int) (c a:Int),(addTo c a b l).length = l.length
 | [],_,_=>rfl
 | _ :: r,c,a=>by simp [addTo,addTo_len b r]
theorem addTo_lv (b:Int) (hb:0≤b):∀ (l:List Int) (c a:Int),Dig l→0≤c→0≤a→c+lv l+a*b < 1000000 ^ l.length→lv (addTo c a b l) = c+lv l+a*b
 | [],c,a,_,hc,ha,hs=>by
  have hm:=Int.mul_nonneg ha hb
  have h1:c+0+a*b < 1:=hs
  show (0:Int) = c+0+a*b
  omega
 | d :: r,c,a,hd,hc,ha,hs=>by
  have h1:=hd d (by simp)
  have hr:Dig r:=fun x hx=>hd x (by simp [hx])
  have hn:=lv_nn r hr
  have q0:0≤a / 1000000:=Int.ediv_nonneg ha (by decide)
  have m0:0≤a % 1000000*b:=Int.mul_nonneg (Int.emod_nonneg _ (by decide)) hb
  have e1:a*b = a % 1000000*b+1000000*(a / 1000000*b):=by
   have:=Int.mul_ediv_add_emod a 1000000
   rw [← Int.mul_assoc,← Int.add_mul]
   congr 1
   omega
  have hs2:c+(d+1000000*lv r)+a*b < 1000000 ^ r.length*1000000:=by
   have:(1000000:Int) ^ (d :: r).length = 1000000 ^ r.length*1000000:=by rw [List.length_cons,Int.pow_succ]
   rw [← this]
   exact hs
  generalize hx:c+d+a % 1000000*b = x at *
  have hx0:0≤x:=by omega
  have ih:=addTo_lv b hb r (x / 1000000) (a / 1000000) hr (Int.ediv_nonneg hx0 (by decide)) q0 (by
   generalize a / 1000000*b = z at *
   generalize (1000000:Int) ^ r.length = p at *
   omega)
  show lv ((c+d+a % 1000000*b) % 1000000 :: addTo ((c+d+a % 1000000*b) / 1000000) (a / 1000000) b r) = _
  rw [hx]
  show x % 1000000+1000000*lv (addTo (x / 1000000) (a / 1000000) b r) = c+(d+1000000*lv r)+a*b
  rw [ih]
  generalize a / 1000000*b = z at *
  omega
end Go.Proofs.YtanndhoimpnhpaaGreatDoor.Lg
namespace Go.Proofs.YtanndhoimpnhpaaGreatDoor
open Go.ChangeShapes Go.WideShapes Go.ChangeAt Go.RowKit Lg
def Ints (w:World) (b:Nat) (l:List Int):Prop:=∀ j,j < l.length→w.cell? ⟨b,j,none⟩ = some (.int .i64 (l.getD j 0))
theorem part_nil (year:Int) (cap:Nat) (w:World) :
  Calls Tryz.prog 122 #[.slice none 0 cap,.int .i64 year] w fun e w'=>e = .returned (.int .i64 0)∧w' = w:=by
 go_enter Tryz.func122,Tryz.ntmps122
 go_wp2
 go_loop [5,7] (fun o i=>o = .int .i64 0∧i = .int .i64 (-1)) (fun _ _=>0)
 case atStart=>exact ⟨rfl,rfl⟩
 case round =>
  obtain ⟨rfl,rfl⟩:=hrel
  go_wp2
  go_ret
  exact ⟨rfl,rfl⟩
set_option maxHeartbeats 400000 in
theorem part_any (l:List Int) (b cap:Nat) (year:Int) (w:World) (hl:l.length = 6) (hD:Dig l) (hc:Ints w b l) (y0:1≤year) (y1:year≤400) (hb:lv (l.drop 1) / year≤9000000000000000000) :
  Calls Tryz.prog 122 #[.slice (some ⟨b,0,none⟩) 6 cap,.int .i64 year] w fun e w'=>e = .returned (.int .i64 (lv l / 1000000 / year))∧w' = w:=by
 have hlow:lv l / 1000000 = lv (l.drop 1):=by
  match l,hl with
  | d :: r,_=>exact lv_low d r (hD d (by simp)).1 (hD d (by simp)).2
 rw [hlow]
 clear hlow
 go_enter Tryz.func122,Tryz.ntmps122
 go_wp2
 go_loop [5,6,7] (fun o r i=>∃ k:Nat,k≤5∧i = .int .i64 k∧o = .int .i64 (lv (l.drop (k+1)) / year)∧r = .int .i64 (lv (l.drop (k+1)) % year)) (fun _ _ i=>(intOf i).toNat)
 case atStart=>exact ⟨5,by omega,rfl,by rw [List.drop_of_length_le (by omega)]; simp [lv],by rw [List.drop_of_length_le (by omega)]; simp [lv]⟩
 case round =>
  obtain ⟨k,hk,rfl,rfl,rfl⟩:=hrel
  by_cases h1:1≤k
  ·have hcell:=hc k (by omega)
   obtain ⟨g0,g1⟩:=dig_at hD k (by omega)
   have hd:=lv_drop l k (by omega)
   have hs:=div_step (lv (l.drop (k+1))) (l.getD k 0) year (by omega)
   rw [← hd] at hs
   have hn:=lv_nn _ (dig_drop hD (k+1))
   have hm0:=Int.emod_nonneg (lv (l.drop (k+1))) (show year ≠ 0 by omega)
   have hm1:=Int.emod_lt_of_pos (lv (l.drop (k+1))) (show 0 < year by omega)
   have hq0:0≤lv (l.drop (k+1)) / year:=Int.ediv_nonneg hn (by omega)
   have hmono:∀ j:Nat,1≤j→j≤5→lv (l.drop j) / year≤9000000000000000000:=by
    intro j j1 j5
    have step:∀ i:Nat,i < 6→lv (l.drop (i+1)) / year≤lv (l.drop i) / year:=fun i hi=>by
     have e1:=lv_drop l i (by omega)
     have e2:=dig_at hD i (by omega)
     have e3:=lv_nn _ (dig_drop hD (i+1))
     exact Int.ediv_le_ediv (by omega) (by omega)
    have a1:lv (l.drop 2) / year≤lv (l.drop 1) / year:=step 1 (by omega)
    have a2:lv (l.drop 3) / year≤lv (l.drop 2) / year:=step 2 (by omega)
    have a3:lv (l.drop 4) / year≤lv (l.drop 3) / year:=step 3 (by omega)
    have a4:lv (l.drop 5) / year≤lv (l.drop 4) / year:=step 4 (by omega)
    rcases (show j = 1∨j = 2∨j = 3∨j = 4∨j = 5 by omega) with rfl | rfl | rfl | rfl | rfl <;> omega
   have hbk:=hmono k h1 hk
   have HS:=(show Hid _ from hs)
   have hq1:1000000*(lv (l.drop (k+1)) / year)≤9000000000000000000:=by
    have:=hs.1
    have:0≤(1000000*(lv (l.drop (k+1)) % year)+l.getD k 0) / year:=Int.ediv_nonneg (by omega) (by omega)
    omega
   have hq2:1000000*(lv (l.drop (k+1)) / year)+(1000000*(lv (l.drop (k+1)) % year)+l.getD k 0) / year≤9000000000000000000:=by rw [← hs.1]; exact hbk
   have hq3:0≤(1000000*(lv (l.drop (k+1)) % year)+l.getD k 0) / year:=Int.ediv_nonneg (by omega) (by omega)
   clear hs hd hmono hbk hb
   generalize lv (l.drop (k+1)) % year = m at *
   generalize lv (l.drop (k+1)) / year = q at *
   generalize l.getD k 0 = v at *
   have hk':(0:Int)≤(k:Int)∧(k:Int) < 6:=by omega
   go_wp2
   go_round
   case rel=>exact ⟨k - 1,by omega,by go_num,by rw [show k - 1+1 = k by omega,HS.out.1],by rw [show k - 1+1 = k by omega,HS.out.2]⟩
   case measure=>simp [intOf]; omega
  ·obtain rfl:k = 0:=by omega
   go_wp2
   go_ret
   exact ⟨rfl,rfl⟩
end Go.Proofs.YtanndhoimpnhpaaGreatDoor
