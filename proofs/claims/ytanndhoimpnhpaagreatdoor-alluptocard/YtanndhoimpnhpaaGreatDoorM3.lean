/- Joined by program: PrC, CalA, CalB, Cd, PrE, PrF. -/
import Derived.Test.YtanndhoimpnhpaaGreatDoorM2
import Derived.Test.YtanndhoimpnhpaaGreatDoorProg
import Derived.Deep.QuietTactic
import Derived.BigQuiet
import Derived.WalkSmall
namespace Go.Proofs.YtanndhoimpnhpaaGreatDoor
open Go.RowKit
def mvl:List Value:=[.int .i64 0,.int .i64 0,.int .i64 1,.int .i64 0,.int .i64 4,.int .i64 3,.int .i64 3,.int .i64 2,.int .i64 1,.int .i64 2,.int .i64 0,.int .i64 5,.int .i64 0,.int .i64 4,.int .i64 0,.int .i64 3,.int .i64 0,.int .i64 2,.int .i64 0,.int .i64 1,.int .i64 0,.int .i64 6,.int .i64 2,.int .i64 7,.int .i64 5,.int .i64 8]
def Mv (w:World):Prop:=∀ i v,mvl[i]? = some v→w.cell? ⟨1,i,none⟩ = some v
theorem Mv.keep {S:Nat→Prop} {w w':World} (h:Mv w) (k:Keep S w w') (hs:¬ S 1):Mv w':=by
 intro i v hi
 have h0:=h i v hi
 rw [World.cell?_of_block (w:=w) (a:=⟨1,i,none⟩) (k.block _ (World.block_lt_of_cell? _ _ h0) hs)]
 exact h0
def pl (t:Ln.Terms) (n:Int) (y:Ln.Dy) (c i f:Int):List Value :=
 [.int .i64 t.st,.int .i64 t.pr,.int .i64 t.rt,.int .i64 t.fi,.int .i64 t.ba,.int .i64 t.du,.int .i64 n,
 .int .i64 c,.int .i64 y.g.pr,.int .i64 y.g.it,.int .i64 y.g.du,.int .i64 y.g.la,.int .i64 y.g.fi,.int .i64 (-y.g.cr),.int .i64 i,.int .i64 f,
 .int .i64 y.g.rt,.int .i64 y.g.fr,.int .u64 (y.g.ea % Ln.den t),.int .u64 (y.g.fn % Ln.den t),
 .int .i64 (y.am 0),.int .i64 (y.am 1),.int .i64 (y.am 2),.int .i64 (y.am 3),.int .i64 (y.am 4),.int .i64 (y.am 5),.int .i64 (y.am 6),.int .i64 (y.am 7),.int .i64 (y.am 8),.int .i64 (y.am 9),.int .i64 (y.am 10),.int .i64 (y.am 11),.int .i64 (y.am 12)]
def Pas (w:World) (P:Nat) (t:Ln.Terms) (n:Int) (y:Ln.Dy):Prop:=∃ c i f:Int,At w P (pl t n y c i f)
theorem Pas.lt {w:World} {P:Nat} {t:Ln.Terms} {n:Int} {y:Ln.Dy} (h:Pas w P t n y):P < w.heap.size:=by
 obtain ⟨c,i,f,h⟩:=h
 exact At.lt (v:=.int .i64 t.st) h
theorem Pas.drew {w:World} {P:Nat} {t:Ln.Terms} {n:Int} {y:Ln.Dy} (h:Pas w P t n y):Pas w.drew P t n y:=by
 obtain ⟨c,i,f,h⟩:=h
 exact ⟨c,i,f,h.drew⟩
theorem Mv.drew {w:World} (h:Mv w):Mv w.drew:=h
theorem Pas.keep {S:Nat→Prop} {w w':World} {P:Nat} {t:Ln.Terms} {n:Int} {y:Ln.Dy} (h:Pas w P t n y) (k:Keep S w w') (hs:¬ S P):Pas w' P t n y:=by
 obtain ⟨c,i,f,h⟩:=h
 exact ⟨c,i,f,At.keep (v:=.int .i64 t.st) h k hs⟩
theorem w64 (n:Int) (h:-9223372036854775808≤n∧n≤9223372036854775807):wrap64 n = n:=by unfold wrap64; omega
set_option maxRecDepth 10000 in
set_option maxHeartbeats 1000000 in
theorem pmove_1 (P o:Nat) (a xt xf:Int) (w:World) (_h1:¬ P = 1) (_h2:¬ 1 = P)
  (m0:w.cell? ⟨1,2,none⟩ = some (.int .i64 1)) (m1:w.cell? ⟨1,3,none⟩ = some (.int .i64 0))
  (ct:w.cell? ⟨P,o+1,none⟩ = some (.int .i64 xt)) (zt:w.frozen? ⟨P,o+1,none⟩ = false) (cf:w.cell? ⟨P,o,none⟩ = some (.int .i64 xf)) (zf:w.frozen? ⟨P,o,none⟩ = false) :
  Calls Tryz.prog 125 #[.pointer (some ⟨P,o,none⟩),.int .i64 1,.int .i64 a] w fun e w'=>e = .returned (.tuple #[])∧w' = ((w.setCell ⟨P,o+1,none⟩ (.int .i64 (wrap64 (xt+a)))).setCell ⟨P,o,none⟩ (.int .i64 (wrap64 (xf - a)))).drew.drew:=by
 go_enter Tryz.func125,Tryz.ntmps125
 go_wp2
 go_region
 go_wp2
 go_region
 go_wp2
 go_end0
 exact ⟨rfl,rfl⟩
set_option maxRecDepth 10000 in
set_option maxHeartbeats 1000000 in
theorem pmove_2 (P o:Nat) (a xt xf:Int) (w:World) (_h1:¬ P = 1) (_h2:¬ 1 = P)
  (m0:w.cell? ⟨1,4,none⟩ = some (.int .i64 4)) (m1:w.cell? ⟨1,5,none⟩ = some (.int .i64 3))
  (ct:w.cell? ⟨P,o+4,none⟩ = some (.int .i64 xt)) (zt:w.frozen? ⟨P,o+4,none⟩ = false) (cf:w.cell? ⟨P,o+3,none⟩ = some (.int .i64 xf)) (zf:w.frozen? ⟨P,o+3,none⟩ = false) :
  Calls Tryz.prog 125 #[.pointer (some ⟨P,o,none⟩),.int .i64 2,.int .i64 a] w fun e w'=>e = .returned (.tuple #[])∧w' = ((w.setCell ⟨P,o+4,none⟩ (.int .i64 (wrap64 (xt+a)))).setCell ⟨P,o+3,none⟩ (.int .i64 (wrap64 (xf - a)))).drew.drew:=by
 go_enter Tryz.func125,Tryz.ntmps125
 go_wp2
 go_region
 go_wp2
 go_region
 go_wp2
 go_end0
 exact ⟨rfl,rfl⟩
set_option maxRecDepth 10000 in
set_option maxHeartbeats 1000000 in
theorem pmove_3 (P o:Nat) (a xt xf:Int) (w:World) (_h1:¬ P = 1) (_h2:¬ 1 = P)
  (m0:w.cell? ⟨1,6,none⟩ = some (.int .i64 3)) (m1:w.cell? ⟨1,7,none⟩ = some (.int .i64 2))
  (ct:w.cell? ⟨P,o+3,none⟩ = some (.int .i64 xt)) (zt:w.frozen? ⟨P,o+3,none⟩ = false) (cf:w.cell? ⟨P,o+2,none⟩ = some (.int .i64 xf)) (zf:w.frozen? ⟨P,o+2,none⟩ = false) :
  Calls Tryz.prog 125 #[.pointer (some ⟨P,o,none⟩),.int .i64 3,.int .i64 a] w fun e w'=>e = .returned (.tuple #[])∧w' = ((w.setCell ⟨P,o+3,none⟩ (.int .i64 (wrap64 (xt+a)))).setCell ⟨P,o+2,none⟩ (.int .i64 (wrap64 (xf - a)))).drew.drew:=by
 go_enter Tryz.func125,Tryz.ntmps125
 go_wp2
 go_region
 go_wp2
 go_region
 go_wp2
 go_end0
 exact ⟨rfl,rfl⟩
set_option maxRecDepth 10000 in
set_option maxHeartbeats 1000000 in
theorem pmove_4 (P o:Nat) (a xt xf:Int) (w:World) (_h1:¬ P = 1) (_h2:¬ 1 = P)
  (m0:w.cell? ⟨1,8,none⟩ = some (.int .i64 1)) (m1:w.cell? ⟨1,9,none⟩ = some (.int .i64 2))
  (ct:w.cell? ⟨P,o+1,none⟩ = some (.int .i64 xt)) (zt:w.frozen? ⟨P,o+1,none⟩ = false) (cf:w.cell? ⟨P,o+2,none⟩ = some (.int .i64 xf)) (zf:w.frozen? ⟨P,o+2,none⟩ = false) :
  Calls Tryz.prog 125 #[.pointer (some ⟨P,o,none⟩),.int .i64 4,.int .i64 a] w fun e w'=>e = .returned (.tuple #[])∧w' = ((w.setCell ⟨P,o+1,none⟩ (.int .i64 (wrap64 (xt+a)))).setCell ⟨P,o+2,none⟩ (.int .i64 (wrap64 (xf - a)))).drew.drew:=by
 go_enter Tryz.func125,Tryz.ntmps125
 go_wp2
 go_region
 go_wp2
 go_region
 go_wp2
 go_end0
 exact ⟨rfl,rfl⟩
set_option maxRecDepth 10000 in
set_option maxHeartbeats 1000000 in
theorem pmove_5 (P o:Nat) (a xt xf:Int) (w:World) (_h1:¬ P = 1) (_h2:¬ 1 = P)
  (m0:w.cell? ⟨1,10,none⟩ = some (.int .i64 0)) (m1:w.cell? ⟨1,11,none⟩ = some (.int .i64 5))
  (ct:w.cell? ⟨P,o,none⟩ = some (.int .i64 xt)) (zt:w.frozen? ⟨P,o,none⟩ = false) (cf:w.cell? ⟨P,o+5,none⟩ = some (.int .i64 xf)) (zf:w.frozen? ⟨P,o+5,none⟩ = false) :
  Calls Tryz.prog 125 #[.pointer (some ⟨P,o,none⟩),.int .i64 5,.int .i64 a] w fun e w'=>e = .returned (.tuple #[])∧w' = ((w.setCell ⟨P,o,none⟩ (.int .i64 (wrap64 (xt+a)))).setCell ⟨P,o+5,none⟩ (.int .i64 (wrap64 (xf - a)))).drew.drew:=by
 go_enter Tryz.func125,Tryz.ntmps125
 go_wp2
 go_region
 go_wp2
 go_region
 go_wp2
 go_end0
 exact ⟨rfl,rfl⟩
set_option maxRecDepth 10000 in
set_option maxHeartbeats 1000000 in
theorem pmove_6 (P o:Nat) (a xt xf:Int) (w:World) (_h1:¬ P = 1) (_h2:¬ 1 = P)
  (m0:w.cell? ⟨1,12,none⟩ = some (.int .i64 0)) (m1:w.cell? ⟨1,13,none⟩ = some (.int .i64 4))
  (ct:w.cell? ⟨P,o,none⟩ = some (.int .i64 xt)) (zt:w.frozen? ⟨P,o,none⟩ = false) (cf:w.cell? ⟨P,o+4,none⟩ = some (.int .i64 xf)) (zf:w.frozen? ⟨P,o+4,none⟩ = false) :
  Calls Tryz.prog 125 #[.pointer (some ⟨P,o,none⟩),.int .i64 6,.int .i64 a] w fun e w'=>e = .returned (.tuple #[])∧w' = ((w.setCell ⟨P,o,none⟩ (.int .i64 (wrap64 (xt+a)))).setCell ⟨P,o+4,none⟩ (.int .i64 (wrap64 (xf - a)))).drew.drew:=by
 go_enter Tryz.func125,Tryz.ntmps125
 go_wp2
 go_region
 go_wp2
 go_region
 go_wp2
 go_end0
 exact ⟨rfl,rfl⟩
set_option maxRecDepth 10000 in
set_option maxHeartbeats 1000000 in
theorem pmove_7 (P o:Nat) (a xt xf:Int) (w:World) (_h1:¬ P = 1) (_h2:¬ 1 = P)
  (m0:w.cell? ⟨1,14,none⟩ = some (.int .i64 0)) (m1:w.cell? ⟨1,15,none⟩ = some (.int .i64 3))
  (ct:w.cell? ⟨P,o,none⟩ = some (.int .i64 xt)) (zt:w.frozen? ⟨P,o,none⟩ = false) (cf:w.cell? ⟨P,o+3,none⟩ = some (.int .i64 xf)) (zf:w.frozen? ⟨P,o+3,none⟩ = false) :
  Calls Tryz.prog 125 #[.pointer (some ⟨P,o,none⟩),.int .i64 7,.int .i64 a] w fun e w'=>e = .returned (.tuple #[])∧w' = ((w.setCell ⟨P,o,none⟩ (.int .i64 (wrap64 (xt+a)))).setCell ⟨P,o+3,none⟩ (.int .i64 (wrap64 (xf - a)))).drew.drew:=by
 go_enter Tryz.func125,Tryz.ntmps125
 go_wp2
 go_region
 go_wp2
 go_region
 go_wp2
 go_end0
 exact ⟨rfl,rfl⟩
set_option maxRecDepth 10000 in
set_option maxHeartbeats 1000000 in
theorem pmove_8 (P o:Nat) (a xt xf:Int) (w:World) (_h1:¬ P = 1) (_h2:¬ 1 = P)
  (m0:w.cell? ⟨1,16,none⟩ = some (.int .i64 0)) (m1:w.cell? ⟨1,17,none⟩ = some (.int .i64 2))
  (ct:w.cell? ⟨P,o,none⟩ = some (.int .i64 xt)) (zt:w.frozen? ⟨P,o,none⟩ = false) (cf:w.cell? ⟨P,o+2,none⟩ = some (.int .i64 xf)) (zf:w.frozen? ⟨P,o+2,none⟩ = false) :
  Calls Tryz.prog 125 #[.pointer (some ⟨P,o,none⟩),.int .i64 8,.int .i64 a] w fun e w'=>e = .returned (.tuple #[])∧w' = ((w.setCell ⟨P,o,none⟩ (.int .i64 (wrap64 (xt+a)))).setCell ⟨P,o+2,none⟩ (.int .i64 (wrap64 (xf - a)))).drew.drew:=by
 go_enter Tryz.func125,Tryz.ntmps125
 go_wp2
 go_region
 go_wp2
 go_region
 go_wp2
 go_end0
 exact ⟨rfl,rfl⟩
set_option maxRecDepth 10000 in
set_option maxHeartbeats 1000000 in
theorem pmove_9 (P o:Nat) (a xt xf:Int) (w:World) (_h1:¬ P = 1) (_h2:¬ 1 = P)
  (m0:w.cell? ⟨1,18,none⟩ = some (.int .i64 0)) (m1:w.cell? ⟨1,19,none⟩ = some (.int .i64 1))
  (ct:w.cell? ⟨P,o,none⟩ = some (.int .i64 xt)) (zt:w.frozen? ⟨P,o,none⟩ = false) (cf:w.cell? ⟨P,o+1,none⟩ = some (.int .i64 xf)) (zf:w.frozen? ⟨P,o+1,none⟩ = false) :
  Calls Tryz.prog 125 #[.pointer (some ⟨P,o,none⟩),.int .i64 9,.int .i64 a] w fun e w'=>e = .returned (.tuple #[])∧w' = ((w.setCell ⟨P,o,none⟩ (.int .i64 (wrap64 (xt+a)))).setCell ⟨P,o+1,none⟩ (.int .i64 (wrap64 (xf - a)))).drew.drew:=by
 go_enter Tryz.func125,Tryz.ntmps125
 go_wp2
 go_region
 go_wp2
 go_region
 go_wp2
 go_end0
 exact ⟨rfl,rfl⟩
set_option maxRecDepth 10000 in
set_option maxHeartbeats 1000000 in
theorem pmove_10 (P o:Nat) (a xt xf:Int) (w:World) (_h1:¬ P = 1) (_h2:¬ 1 = P)
  (m0:w.cell? ⟨1,20,none⟩ = some (.int .i64 0)) (m1:w.cell? ⟨1,21,none⟩ = some (.int .i64 6))
  (ct:w.cell? ⟨P,o,none⟩ = some (.int .i64 xt)) (zt:w.frozen? ⟨P,o,none⟩ = false) (cf:w.cell? ⟨P,o+6,none⟩ = some (.int .i64 xf)) (zf:w.frozen? ⟨P,o+6,none⟩ = false) :
  Calls Tryz.prog 125 #[.pointer (some ⟨P,o,none⟩),.int .i64 10,.int .i64 a] w fun e w'=>e = .returned (.tuple #[])∧w' = ((w.setCell ⟨P,o,none⟩ (.int .i64 (wrap64 (xt+a)))).setCell ⟨P,o+6,none⟩ (.int .i64 (wrap64 (xf - a)))).drew.drew:=by
 go_enter Tryz.func125,Tryz.ntmps125
 go_wp2
 go_region
 go_wp2
 go_region
 go_wp2
 go_end0
 exact ⟨rfl,rfl⟩
set_option maxRecDepth 10000 in
set_option maxHeartbeats 1000000 in
theorem pmove_11 (P o:Nat) (a xt xf:Int) (w:World) (_h1:¬ P = 1) (_h2:¬ 1 = P)
  (m0:w.cell? ⟨1,22,none⟩ = some (.int .i64 2)) (m1:w.cell? ⟨1,23,none⟩ = some (.int .i64 7))
  (ct:w.cell? ⟨P,o+2,none⟩ = some (.int .i64 xt)) (zt:w.frozen? ⟨P,o+2,none⟩ = false) (cf:w.cell? ⟨P,o+7,none⟩ = some (.int .i64 xf)) (zf:w.frozen? ⟨P,o+7,none⟩ = false) :
  Calls Tryz.prog 125 #[.pointer (some ⟨P,o,none⟩),.int .i64 11,.int .i64 a] w fun e w'=>e = .returned (.tuple #[])∧w' = ((w.setCell ⟨P,o+2,none⟩ (.int .i64 (wrap64 (xt+a)))).setCell ⟨P,o+7,none⟩ (.int .i64 (wrap64 (xf - a)))).drew.drew:=by
 go_enter Tryz.func125,Tryz.ntmps125
 go_wp2
 go_region
 go_wp2
 go_region
 go_wp2
 go_end0
 exact ⟨rfl,rfl⟩
set_option maxRecDepth 10000 in
set_option maxHeartbeats 1000000 in
theorem pmove_12 (P o:Nat) (a xt xf:Int) (w:World) (_h1:¬ P = 1) (_h2:¬ 1 = P)
  (m0:w.cell? ⟨1,24,none⟩ = some (.int .i64 5)) (m1:w.cell? ⟨1,25,none⟩ = some (.int .i64 8))
  (ct:w.cell? ⟨P,o+5,none⟩ = some (.int .i64 xt)) (zt:w.frozen? ⟨P,o+5,none⟩ = false) (cf:w.cell? ⟨P,o+8,none⟩ = some (.int .i64 xf)) (zf:w.frozen? ⟨P,o+8,none⟩ = false) :
  Calls Tryz.prog 125 #[.pointer (some ⟨P,o,none⟩),.int .i64 12,.int .i64 a] w fun e w'=>e = .returned (.tuple #[])∧w' = ((w.setCell ⟨P,o+5,none⟩ (.int .i64 (wrap64 (xt+a)))).setCell ⟨P,o+8,none⟩ (.int .i64 (wrap64 (xf - a)))).drew.drew:=by
 go_enter Tryz.func125,Tryz.ntmps125
 go_wp2
 go_region
 go_wp2
 go_region
 go_wp2
 go_end0
 exact ⟨rfl,rfl⟩
set_option maxRecDepth 10000 in
set_option maxHeartbeats 1000000 in
theorem penter_1 (P:Nat) (x a xt xf:Int) (t0:0≤xt) (t1:xt+a≤9000000000000000000) (a0:0≤a) (x0:0≤x) (x1:x+a≤9000000000000000000) (w:World) (_h1:¬ P = 1) (_h2:¬ 1 = P)
  (m0:w.cell? ⟨1,2,none⟩ = some (.int .i64 1)) (m1:w.cell? ⟨1,3,none⟩ = some (.int .i64 0))
  (ct:w.cell? ⟨P,8,none⟩ = some (.int .i64 xt)) (zt:w.frozen? ⟨P,8,none⟩ = false) (cf:w.cell? ⟨P,7,none⟩ = some (.int .i64 xf)) (zf:w.frozen? ⟨P,7,none⟩ = false) (c2:w.cell? ⟨P,21,none⟩ = some (.int .i64 x)) (z2:w.frozen? ⟨P,21,none⟩ = false) :
  Calls Tryz.prog 105 #[.pointer (some ⟨P,0,none⟩),.int .i64 1,.int .i64 a] w fun e w'=>e = .returned (.tuple #[])∧w' = (((w.setCell ⟨P,8,none⟩ (.int .i64 (xt+a))).setCell ⟨P,7,none⟩ (.int .i64 (wrap64 (xf - a)))).setCell ⟨P,21,none⟩ (.int .i64 (x+a))).drew.drew.drew:=by
 have hM:=pmove_1 P 7 a xt xf w _h1 _h2 m0 m1 ct zt cf zf
 rw [w64 (xt+a) (by omega)] at hM
 simp only [Nat.reduceAdd] at hM
 go_enter Tryz.func105,Tryz.ntmps105
 go_wp2_with fail
 refine hM.mono ?_
 rintro e w1 ⟨rfl,rfl⟩
 clear hM
 go_wp2
 go_region
 go_wp2
 go_end0
 exact ⟨rfl,rfl⟩
set_option maxRecDepth 10000 in
set_option maxHeartbeats 1000000 in
theorem penter_2 (P:Nat) (x a xt xf:Int) (t0:0≤xt) (t1:xt+a≤9000000000000000000) (f0:xf≤9000000000000000000) (f1:a≤xf) (a0:0≤a) (x0:0≤x) (x1:x+a≤9000000000000000000) (w:World) (_h1:¬ P = 1) (_h2:¬ 1 = P)
  (m0:w.cell? ⟨1,4,none⟩ = some (.int .i64 4)) (m1:w.cell? ⟨1,5,none⟩ = some (.int .i64 3))
  (ct:w.cell? ⟨P,11,none⟩ = some (.int .i64 xt)) (zt:w.frozen? ⟨P,11,none⟩ = false) (cf:w.cell? ⟨P,10,none⟩ = some (.int .i64 xf)) (zf:w.frozen? ⟨P,10,none⟩ = false) (c2:w.cell? ⟨P,22,none⟩ = some (.int .i64 x)) (z2:w.frozen? ⟨P,22,none⟩ = false) :
  Calls Tryz.prog 105 #[.pointer (some ⟨P,0,none⟩),.int .i64 2,.int .i64 a] w fun e w'=>e = .returned (.tuple #[])∧w' = (((w.setCell ⟨P,11,none⟩ (.int .i64 (xt+a))).setCell ⟨P,10,none⟩ (.int .i64 (xf - a))).setCell ⟨P,22,none⟩ (.int .i64 (x+a))).drew.drew.drew:=by
 have hM:=pmove_2 P 7 a xt xf w _h1 _h2 m0 m1 ct zt cf zf
 rw [w64 (xt+a) (by omega),w64 (xf - a) (by omega)] at hM
 simp only [Nat.reduceAdd] at hM
 go_enter Tryz.func105,Tryz.ntmps105
 go_wp2_with fail
 refine hM.mono ?_
 rintro e w1 ⟨rfl,rfl⟩
 clear hM
 go_wp2
 go_region
 go_wp2
 go_end0
 exact ⟨rfl,rfl⟩
set_option maxRecDepth 10000 in
set_option maxHeartbeats 1000000 in
theorem penter_3 (P:Nat) (x a xt xf:Int) (t0:0≤xt) (t1:xt+a≤9000000000000000000) (f0:xf≤9000000000000000000) (f1:a≤xf) (a0:0≤a) (x0:0≤x) (x1:x+a≤9000000000000000000) (w:World) (_h1:¬ P = 1) (_h2:¬ 1 = P)
  (m0:w.cell? ⟨1,6,none⟩ = some (.int .i64 3)) (m1:w.cell? ⟨1,7,none⟩ = some (.int .i64 2))
  (ct:w.cell? ⟨P,10,none⟩ = some (.int .i64 xt)) (zt:w.frozen? ⟨P,10,none⟩ = false) (cf:w.cell? ⟨P,9,none⟩ = some (.int .i64 xf)) (zf:w.frozen? ⟨P,9,none⟩ = false) (c2:w.cell? ⟨P,23,none⟩ = some (.int .i64 x)) (z2:w.frozen? ⟨P,23,none⟩ = false) :
  Calls Tryz.prog 105 #[.pointer (some ⟨P,0,none⟩),.int .i64 3,.int .i64 a] w fun e w'=>e = .returned (.tuple #[])∧w' = (((w.setCell ⟨P,10,none⟩ (.int .i64 (xt+a))).setCell ⟨P,9,none⟩ (.int .i64 (xf - a))).setCell ⟨P,23,none⟩ (.int .i64 (x+a))).drew.drew.drew:=by
 have hM:=pmove_3 P 7 a xt xf w _h1 _h2 m0 m1 ct zt cf zf
 rw [w64 (xt+a) (by omega),w64 (xf - a) (by omega)] at hM
 simp only [Nat.reduceAdd] at hM
 go_enter Tryz.func105,Tryz.ntmps105
 go_wp2_with fail
 refine hM.mono ?_
 rintro e w1 ⟨rfl,rfl⟩
 clear hM
 go_wp2
 go_region
 go_wp2
 go_end0
 exact ⟨rfl,rfl⟩
set_option maxRecDepth 10000 in
set_option maxHeartbeats 1000000 in
theorem penter_4 (P:Nat) (x a xt xf:Int) (t0:0≤xt) (t1:xt+a≤9000000000000000000) (f0:xf≤9000000000000000000) (f1:a≤xf) (a0:0≤a) (x0:0≤x) (x1:x+a≤9000000000000000000) (w:World) (_h1:¬ P = 1) (_h2:¬ 1 = P)
  (m0:w.cell? ⟨1,8,none⟩ = some (.int .i64 1)) (m1:w.cell? ⟨1,9,none⟩ = some (.int .i64 2))
  (ct:w.cell? ⟨P,8,none⟩ = some (.int .i64 xt)) (zt:w.frozen? ⟨P,8,none⟩ = false) (cf:w.cell? ⟨P,9,none⟩ = some (.int .i64 xf)) (zf:w.frozen? ⟨P,9,none⟩ = false) (c2:w.cell? ⟨P,24,none⟩ = some (.int .i64 x)) (z2:w.frozen? ⟨P,24,none⟩ = false) :
  Calls Tryz.prog 105 #[.pointer (some ⟨P,0,none⟩),.int .i64 4,.int .i64 a] w fun e w'=>e = .returned (.tuple #[])∧w' = (((w.setCell ⟨P,8,none⟩ (.int .i64 (xt+a))).setCell ⟨P,9,none⟩ (.int .i64 (xf - a))).setCell ⟨P,24,none⟩ (.int .i64 (x+a))).drew.drew.drew:=by
 have hM:=pmove_4 P 7 a xt xf w _h1 _h2 m0 m1 ct zt cf zf
 rw [w64 (xt+a) (by omega),w64 (xf - a) (by omega)] at hM
 simp only [Nat.reduceAdd] at hM
 go_enter Tryz.func105,Tryz.ntmps105
 go_wp2_with fail
 refine hM.mono ?_
 rintro e w1 ⟨rfl,rfl⟩
 clear hM
 go_wp2
 go_region
 go_wp2
 go_end0
 exact ⟨rfl,rfl⟩
set_option maxRecDepth 10000 in
set_option maxHeartbeats 1000000 in
theorem penter_5 (P:Nat) (x a xt xf:Int) (f0:xf≤9000000000000000000) (f1:a≤xf) (a0:0≤a) (x0:0≤x) (x1:x+a≤9000000000000000000) (w:World) (_h1:¬ P = 1) (_h2:¬ 1 = P)
  (m0:w.cell? ⟨1,10,none⟩ = some (.int .i64 0)) (m1:w.cell? ⟨1,11,none⟩ = some (.int .i64 5))
  (ct:w.cell? ⟨P,7,none⟩ = some (.int .i64 xt)) (zt:w.frozen? ⟨P,7,none⟩ = false) (cf:w.cell? ⟨P,12,none⟩ = some (.int .i64 xf)) (zf:w.frozen? ⟨P,12,none⟩ = false) (c2:w.cell? ⟨P,25,none⟩ = some (.int .i64 x)) (z2:w.frozen? ⟨P,25,none⟩ = false) :
  Calls Tryz.prog 105 #[.pointer (some ⟨P,0,none⟩),.int .i64 5,.int .i64 a] w fun e w'=>e = .returned (.tuple #[])∧w' = (((w.setCell ⟨P,7,none⟩ (.int .i64 (wrap64 (xt+a)))).setCell ⟨P,12,none⟩ (.int .i64 (xf - a))).setCell ⟨P,25,none⟩ (.int .i64 (x+a))).drew.drew.drew:=by
 have hM:=pmove_5 P 7 a xt xf w _h1 _h2 m0 m1 ct zt cf zf
 rw [w64 (xf - a) (by omega)] at hM
 simp only [Nat.reduceAdd] at hM
 go_enter Tryz.func105,Tryz.ntmps105
 go_wp2_with fail
 refine hM.mono ?_
 rintro e w1 ⟨rfl,rfl⟩
 clear hM
 go_wp2
 go_region
 go_wp2
 go_end0
 exact ⟨rfl,rfl⟩
set_option maxRecDepth 10000 in
set_option maxHeartbeats 1000000 in
theorem penter_6 (P:Nat) (x a xt xf:Int) (f0:xf≤9000000000000000000) (f1:a≤xf) (a0:0≤a) (x0:0≤x) (x1:x+a≤9000000000000000000) (w:World) (_h1:¬ P = 1) (_h2:¬ 1 = P)
  (m0:w.cell? ⟨1,12,none⟩ = some (.int .i64 0)) (m1:w.cell? ⟨1,13,none⟩ = some (.int .i64 4))
  (ct:w.cell? ⟨P,7,none⟩ = some (.int .i64 xt)) (zt:w.frozen? ⟨P,7,none⟩ = false) (cf:w.cell? ⟨P,11,none⟩ = some (.int .i64 xf)) (zf:w.frozen? ⟨P,11,none⟩ = false) (c2:w.cell? ⟨P,26,none⟩ = some (.int .i64 x)) (z2:w.frozen? ⟨P,26,none⟩ = false) :
  Calls Tryz.prog 105 #[.pointer (some ⟨P,0,none⟩),.int .i64 6,.int .i64 a] w fun e w'=>e = .returned (.tuple #[])∧w' = (((w.setCell ⟨P,7,none⟩ (.int .i64 (wrap64 (xt+a)))).setCell ⟨P,11,none⟩ (.int .i64 (xf - a))).setCell ⟨P,26,none⟩ (.int .i64 (x+a))).drew.drew.drew:=by
 have hM:=pmove_6 P 7 a xt xf w _h1 _h2 m0 m1 ct zt cf zf
 rw [w64 (xf - a) (by omega)] at hM
 simp only [Nat.reduceAdd] at hM
 go_enter Tryz.func105,Tryz.ntmps105
 go_wp2_with fail
 refine hM.mono ?_
 rintro e w1 ⟨rfl,rfl⟩
 clear hM
 go_wp2
 go_region
 go_wp2
 go_end0
 exact ⟨rfl,rfl⟩
set_option maxRecDepth 10000 in
set_option maxHeartbeats 1000000 in
theorem penter_7 (P:Nat) (x a xt xf:Int) (f0:xf≤9000000000000000000) (f1:a≤xf) (a0:0≤a) (x0:0≤x) (x1:x+a≤9000000000000000000) (w:World) (_h1:¬ P = 1) (_h2:¬ 1 = P)
  (m0:w.cell? ⟨1,14,none⟩ = some (.int .i64 0)) (m1:w.cell? ⟨1,15,none⟩ = some (.int .i64 3))
  (ct:w.cell? ⟨P,7,none⟩ = some (.int .i64 xt)) (zt:w.frozen? ⟨P,7,none⟩ = false) (cf:w.cell? ⟨P,10,none⟩ = some (.int .i64 xf)) (zf:w.frozen? ⟨P,10,none⟩ = false) (c2:w.cell? ⟨P,27,none⟩ = some (.int .i64 x)) (z2:w.frozen? ⟨P,27,none⟩ = false) :
  Calls Tryz.prog 105 #[.pointer (some ⟨P,0,none⟩),.int .i64 7,.int .i64 a] w fun e w'=>e = .returned (.tuple #[])∧w' = (((w.setCell ⟨P,7,none⟩ (.int .i64 (wrap64 (xt+a)))).setCell ⟨P,10,none⟩ (.int .i64 (xf - a))).setCell ⟨P,27,none⟩ (.int .i64 (x+a))).drew.drew.drew:=by
 have hM:=pmove_7 P 7 a xt xf w _h1 _h2 m0 m1 ct zt cf zf
 rw [w64 (xf - a) (by omega)] at hM
 simp only [Nat.reduceAdd] at hM
 go_enter Tryz.func105,Tryz.ntmps105
 go_wp2_with fail
 refine hM.mono ?_
 rintro e w1 ⟨rfl,rfl⟩
 clear hM
 go_wp2
 go_region
 go_wp2
 go_end0
 exact ⟨rfl,rfl⟩
set_option maxRecDepth 10000 in
set_option maxHeartbeats 1000000 in
theorem penter_8 (P:Nat) (x a xt xf:Int) (f0:xf≤9000000000000000000) (f1:a≤xf) (a0:0≤a) (x0:0≤x) (x1:x+a≤9000000000000000000) (w:World) (_h1:¬ P = 1) (_h2:¬ 1 = P)
  (m0:w.cell? ⟨1,16,none⟩ = some (.int .i64 0)) (m1:w.cell? ⟨1,17,none⟩ = some (.int .i64 2))
  (ct:w.cell? ⟨P,7,none⟩ = some (.int .i64 xt)) (zt:w.frozen? ⟨P,7,none⟩ = false) (cf:w.cell? ⟨P,9,none⟩ = some (.int .i64 xf)) (zf:w.frozen? ⟨P,9,none⟩ = false) (c2:w.cell? ⟨P,28,none⟩ = some (.int .i64 x)) (z2:w.frozen? ⟨P,28,none⟩ = false) :
  Calls Tryz.prog 105 #[.pointer (some ⟨P,0,none⟩),.int .i64 8,.int .i64 a] w fun e w'=>e = .returned (.tuple #[])∧w' = (((w.setCell ⟨P,7,none⟩ (.int .i64 (wrap64 (xt+a)))).setCell ⟨P,9,none⟩ (.int .i64 (xf - a))).setCell ⟨P,28,none⟩ (.int .i64 (x+a))).drew.drew.drew:=by
 have hM:=pmove_8 P 7 a xt xf w _h1 _h2 m0 m1 ct zt cf zf
 rw [w64 (xf - a) (by omega)] at hM
 simp only [Nat.reduceAdd] at hM
 go_enter Tryz.func105,Tryz.ntmps105
 go_wp2_with fail
 refine hM.mono ?_
 rintro e w1 ⟨rfl,rfl⟩
 clear hM
 go_wp2
 go_region
 go_wp2
 go_end0
 exact ⟨rfl,rfl⟩
set_option maxRecDepth 10000 in
set_option maxHeartbeats 1000000 in
theorem penter_9 (P:Nat) (x a xt xf:Int) (f0:xf≤9000000000000000000) (f1:a≤xf) (a0:0≤a) (x0:0≤x) (x1:x+a≤9000000000000000000) (w:World) (_h1:¬ P = 1) (_h2:¬ 1 = P)
  (m0:w.cell? ⟨1,18,none⟩ = some (.int .i64 0)) (m1:w.cell? ⟨1,19,none⟩ = some (.int .i64 1))
  (ct:w.cell? ⟨P,7,none⟩ = some (.int .i64 xt)) (zt:w.frozen? ⟨P,7,none⟩ = false) (cf:w.cell? ⟨P,8,none⟩ = some (.int .i64 xf)) (zf:w.frozen? ⟨P,8,none⟩ = false) (c2:w.cell? ⟨P,29,none⟩ = some (.int .i64 x)) (z2:w.frozen? ⟨P,29,none⟩ = false) :
  Calls Tryz.prog 105 #[.pointer (some ⟨P,0,none⟩),.int .i64 9,.int .i64 a] w fun e w'=>e = .returned (.tuple #[])∧w' = (((w.setCell ⟨P,7,none⟩ (.int .i64 (wrap64 (xt+a)))).setCell ⟨P,8,none⟩ (.int .i64 (xf - a))).setCell ⟨P,29,none⟩ (.int .i64 (x+a))).drew.drew.drew:=by
 have hM:=pmove_9 P 7 a xt xf w _h1 _h2 m0 m1 ct zt cf zf
 rw [w64 (xf - a) (by omega)] at hM
 simp only [Nat.reduceAdd] at hM
 go_enter Tryz.func105,Tryz.ntmps105
 go_wp2_with fail
 refine hM.mono ?_
 rintro e w1 ⟨rfl,rfl⟩
 clear hM
 go_wp2
 go_region
 go_wp2
 go_end0
 exact ⟨rfl,rfl⟩
set_option maxRecDepth 10000 in
set_option maxHeartbeats 1000000 in
theorem penter_10 (P:Nat) (x a xt xf:Int) (f0:xf≤0) (f1:-9000000000000000000≤xf - a) (a0:0≤a) (x0:0≤x) (x1:x+a≤9000000000000000000) (w:World) (_h1:¬ P = 1) (_h2:¬ 1 = P)
  (m0:w.cell? ⟨1,20,none⟩ = some (.int .i64 0)) (m1:w.cell? ⟨1,21,none⟩ = some (.int .i64 6))
  (ct:w.cell? ⟨P,7,none⟩ = some (.int .i64 xt)) (zt:w.frozen? ⟨P,7,none⟩ = false) (cf:w.cell? ⟨P,13,none⟩ = some (.int .i64 xf)) (zf:w.frozen? ⟨P,13,none⟩ = false) (c2:w.cell? ⟨P,30,none⟩ = some (.int .i64 x)) (z2:w.frozen? ⟨P,30,none⟩ = false) :
  Calls Tryz.prog 105 #[.pointer (some ⟨P,0,none⟩),.int .i64 10,.int .i64 a] w fun e w'=>e = .returned (.tuple #[])∧w' = (((w.setCell ⟨P,7,none⟩ (.int .i64 (wrap64 (xt+a)))).setCell ⟨P,13,none⟩ (.int .i64 (xf - a))).setCell ⟨P,30,none⟩ (.int .i64 (x+a))).drew.drew.drew:=by
 have hM:=pmove_10 P 7 a xt xf w _h1 _h2 m0 m1 ct zt cf zf
 rw [w64 (xf - a) (by omega)] at hM
 simp only [Nat.reduceAdd] at hM
 go_enter Tryz.func105,Tryz.ntmps105
 go_wp2_with fail
 refine hM.mono ?_
 rintro e w1 ⟨rfl,rfl⟩
 clear hM
 go_wp2
 go_region
 go_wp2
 go_end0
 exact ⟨rfl,rfl⟩
set_option maxRecDepth 10000 in
set_option maxHeartbeats 1000000 in
theorem penter_11 (P:Nat) (x a xt xf:Int) (t0:0≤xt) (t1:xt+a≤9000000000000000000) (a0:0≤a) (x0:0≤x) (x1:x+a≤9000000000000000000) (w:World) (_h1:¬ P = 1) (_h2:¬ 1 = P)
  (m0:w.cell? ⟨1,22,none⟩ = some (.int .i64 2)) (m1:w.cell? ⟨1,23,none⟩ = some (.int .i64 7))
  (ct:w.cell? ⟨P,9,none⟩ = some (.int .i64 xt)) (zt:w.frozen? ⟨P,9,none⟩ = false) (cf:w.cell? ⟨P,14,none⟩ = some (.int .i64 xf)) (zf:w.frozen? ⟨P,14,none⟩ = false) (c2:w.cell? ⟨P,31,none⟩ = some (.int .i64 x)) (z2:w.frozen? ⟨P,31,none⟩ = false) :
  Calls Tryz.prog 105 #[.pointer (some ⟨P,0,none⟩),.int .i64 11,.int .i64 a] w fun e w'=>e = .returned (.tuple #[])∧w' = (((w.setCell ⟨P,9,none⟩ (.int .i64 (xt+a))).setCell ⟨P,14,none⟩ (.int .i64 (wrap64 (xf - a)))).setCell ⟨P,31,none⟩ (.int .i64 (x+a))).drew.drew.drew:=by
 have hM:=pmove_11 P 7 a xt xf w _h1 _h2 m0 m1 ct zt cf zf
 rw [w64 (xt+a) (by omega)] at hM
 simp only [Nat.reduceAdd] at hM
 go_enter Tryz.func105,Tryz.ntmps105
 go_wp2_with fail
 refine hM.mono ?_
 rintro e w1 ⟨rfl,rfl⟩
 clear hM
 go_wp2
 go_region
 go_wp2
 go_end0
 exact ⟨rfl,rfl⟩
set_option maxRecDepth 10000 in
set_option maxHeartbeats 1000000 in
theorem penter_12 (P:Nat) (x a xt xf:Int) (t0:0≤xt) (t1:xt+a≤9000000000000000000) (a0:0≤a) (x0:0≤x) (x1:x+a≤9000000000000000000) (w:World) (_h1:¬ P = 1) (_h2:¬ 1 = P)
  (m0:w.cell? ⟨1,24,none⟩ = some (.int .i64 5)) (m1:w.cell? ⟨1,25,none⟩ = some (.int .i64 8))
  (ct:w.cell? ⟨P,12,none⟩ = some (.int .i64 xt)) (zt:w.frozen? ⟨P,12,none⟩ = false) (cf:w.cell? ⟨P,15,none⟩ = some (.int .i64 xf)) (zf:w.frozen? ⟨P,15,none⟩ = false) (c2:w.cell? ⟨P,32,none⟩ = some (.int .i64 x)) (z2:w.frozen? ⟨P,32,none⟩ = false) :
  Calls Tryz.prog 105 #[.pointer (some ⟨P,0,none⟩),.int .i64 12,.int .i64 a] w fun e w'=>e = .returned (.tuple #[])∧w' = (((w.setCell ⟨P,12,none⟩ (.int .i64 (xt+a))).setCell ⟨P,15,none⟩ (.int .i64 (wrap64 (xf - a)))).setCell ⟨P,32,none⟩ (.int .i64 (x+a))).drew.drew.drew:=by
 have hM:=pmove_12 P 7 a xt xf w _h1 _h2 m0 m1 ct zt cf zf
 rw [w64 (xt+a) (by omega)] at hM
 simp only [Nat.reduceAdd] at hM
 go_enter Tryz.func105,Tryz.ntmps105
 go_wp2_with fail
 refine hM.mono ?_
 rintro e w1 ⟨rfl,rfl⟩
 clear hM
 go_wp2
 go_region
 go_wp2
 go_end0
 exact ⟨rfl,rfl⟩
theorem Keep.three {w:World} {P:Nat} (i j k:Nat) (u v x:Value):Keep (fun b=>b = P) w (((w.setCell ⟨P,i,none⟩ u).setCell ⟨P,j,none⟩ v).setCell ⟨P,k,none⟩ x).drew.drew.drew :=
 ((((((Keep.refl _ w).set (S:=fun b=>b = P) rfl i u).set rfl j v).set rfl k x).drew).drew).drew
set_option maxRecDepth 10000 in
theorem penter_any (w:World) (P:Nat) (t:Ln.Terms) (n:Int) (y:Ln.Dy) (h:Pas w P t n y) (hm:Mv w) (hP:¬ P = 1) (hf:Ln.Fit y) (k:Nat) (a:Int) (hc:Ln.CanEnter y k a) :
  Calls Tryz.prog 105 #[.pointer (some ⟨P,0,none⟩),.int .i64 k,.int .i64 a] w fun e w'=>e = .returned (.tuple #[])∧Pas w' P t n (Ln.enter y k a)∧Keep (fun b=>b = P) w w':=by
 obtain ⟨c,i,f,h⟩:=h
 have hP':¬ 1 = P:=fun e=>hP e.symm
 obtain ⟨a0,x0,x1,hk⟩:=hc
 match k,x0,x1,hk with
 | 1,x0,x1,m0 =>
  refine (penter_1 P (y.am 1) a y.g.pr c hf.pr0 m0 a0 x0 x1 w hP hP' (hm 2 _ rfl) (hm 3 _ rfl) (h.cell 8 rfl) (h.free 8 rfl) (h.cell 7 rfl) (h.free 7 rfl) (h.cell 21 rfl) (h.free 21 rfl)).mono ?_
  rintro e w' ⟨rfl,hw⟩
  subst hw
  exact ⟨rfl,⟨wrap64 (c - a),i,f,(((((h.set 8 (show 8 < 33 by decide) (.int .i64 (y.g.pr+a))).set 7 (show 7 < 33 by decide) (.int .i64 (wrap64 (c - a)))).set 21 (show 21 < 33 by decide) (.int .i64 (y.am 1+a))).drew).drew).drew⟩,Keep.three _ _ _ _ _ _⟩
 | 2,x0,x1,⟨m0,m1⟩ =>
  refine (penter_2 P (y.am 2) a y.g.la y.g.du hf.la0 m0 (by have:=hf.du1; omega) m1 a0 x0 x1 w hP hP' (hm 4 _ rfl) (hm 5 _ rfl) (h.cell 11 rfl) (h.free 11 rfl) (h.cell 10 rfl) (h.free 10 rfl) (h.cell 22 rfl) (h.free 22 rfl)).mono ?_
  rintro e w' ⟨rfl,hw⟩
  subst hw
  exact ⟨rfl,⟨c,i,f,(((((h.set 11 (show 11 < 33 by decide) (.int .i64 (y.g.la+a))).set 10 (show 10 < 33 by decide) (.int .i64 (y.g.du - a))).set 22 (show 22 < 33 by decide) (.int .i64 (y.am 2+a))).drew).drew).drew⟩,Keep.three _ _ _ _ _ _⟩
 | 3,x0,x1,⟨m0,m1⟩ =>
  refine (penter_3 P (y.am 3) a y.g.du y.g.it hf.du0 m0 (by have:=hf.it1; omega) m1 a0 x0 x1 w hP hP' (hm 6 _ rfl) (hm 7 _ rfl) (h.cell 10 rfl) (h.free 10 rfl) (h.cell 9 rfl) (h.free 9 rfl) (h.cell 23 rfl) (h.free 23 rfl)).mono ?_
  rintro e w' ⟨rfl,hw⟩
  subst hw
  exact ⟨rfl,⟨c,i,f,(((((h.set 10 (show 10 < 33 by decide) (.int .i64 (y.g.du+a))).set 9 (show 9 < 33 by decide) (.int .i64 (y.g.it - a))).set 23 (show 23 < 33 by decide) (.int .i64 (y.am 3+a))).drew).drew).drew⟩,Keep.three _ _ _ _ _ _⟩
 | 4,x0,x1,⟨m0,m1⟩ =>
  refine (penter_4 P (y.am 4) a y.g.pr y.g.it hf.pr0 m0 (by have:=hf.it1; omega) m1 a0 x0 x1 w hP hP' (hm 8 _ rfl) (hm 9 _ rfl) (h.cell 8 rfl) (h.free 8 rfl) (h.cell 9 rfl) (h.free 9 rfl) (h.cell 24 rfl) (h.free 24 rfl)).mono ?_
  rintro e w' ⟨rfl,hw⟩
  subst hw
  exact ⟨rfl,⟨c,i,f,(((((h.set 8 (show 8 < 33 by decide) (.int .i64 (y.g.pr+a))).set 9 (show 9 < 33 by decide) (.int .i64 (y.g.it - a))).set 24 (show 24 < 33 by decide) (.int .i64 (y.am 4+a))).drew).drew).drew⟩,Keep.three _ _ _ _ _ _⟩
 | 5,x0,x1,m0 =>
  refine (penter_5 P (y.am 5) a c y.g.fi (by have:=hf.fi1; omega) m0 a0 x0 x1 w hP hP' (hm 10 _ rfl) (hm 11 _ rfl) (h.cell 7 rfl) (h.free 7 rfl) (h.cell 12 rfl) (h.free 12 rfl) (h.cell 25 rfl) (h.free 25 rfl)).mono ?_
  rintro e w' ⟨rfl,hw⟩
  subst hw
  exact ⟨rfl,⟨wrap64 (c+a),i,f,(((((h.set 7 (show 7 < 33 by decide) (.int .i64 (wrap64 (c+a)))).set 12 (show 12 < 33 by decide) (.int .i64 (y.g.fi - a))).set 25 (show 25 < 33 by decide) (.int .i64 (y.am 5+a))).drew).drew).drew⟩,Keep.three _ _ _ _ _ _⟩
 | 6,x0,x1,m0 =>
  refine (penter_6 P (y.am 6) a c y.g.la (by have:=hf.la1; omega) m0 a0 x0 x1 w hP hP' (hm 12 _ rfl) (hm 13 _ rfl) (h.cell 7 rfl) (h.free 7 rfl) (h.cell 11 rfl) (h.free 11 rfl) (h.cell 26 rfl) (h.free 26 rfl)).mono ?_
  rintro e w' ⟨rfl,hw⟩
  subst hw
  exact ⟨rfl,⟨wrap64 (c+a),i,f,(((((h.set 7 (show 7 < 33 by decide) (.int .i64 (wrap64 (c+a)))).set 11 (show 11 < 33 by decide) (.int .i64 (y.g.la - a))).set 26 (show 26 < 33 by decide) (.int .i64 (y.am 6+a))).drew).drew).drew⟩,Keep.three _ _ _ _ _ _⟩
 | 7,x0,x1,m0 =>
  refine (penter_7 P (y.am 7) a c y.g.du (by have:=hf.du1; omega) m0 a0 x0 x1 w hP hP' (hm 14 _ rfl) (hm 15 _ rfl) (h.cell 7 rfl) (h.free 7 rfl) (h.cell 10 rfl) (h.free 10 rfl) (h.cell 27 rfl) (h.free 27 rfl)).mono ?_
  rintro e w' ⟨rfl,hw⟩
  subst hw
  exact ⟨rfl,⟨wrap64 (c+a),i,f,(((((h.set 7 (show 7 < 33 by decide) (.int .i64 (wrap64 (c+a)))).set 10 (show 10 < 33 by decide) (.int .i64 (y.g.du - a))).set 27 (show 27 < 33 by decide) (.int .i64 (y.am 7+a))).drew).drew).drew⟩,Keep.three _ _ _ _ _ _⟩
 | 8,x0,x1,m0 =>
  refine (penter_8 P (y.am 8) a c y.g.it (by have:=hf.it1; omega) m0 a0 x0 x1 w hP hP' (hm 16 _ rfl) (hm 17 _ rfl) (h.cell 7 rfl) (h.free 7 rfl) (h.cell 9 rfl) (h.free 9 rfl) (h.cell 28 rfl) (h.free 28 rfl)).mono ?_
  rintro e w' ⟨rfl,hw⟩
  subst hw
  exact ⟨rfl,⟨wrap64 (c+a),i,f,(((((h.set 7 (show 7 < 33 by decide) (.int .i64 (wrap64 (c+a)))).set 9 (show 9 < 33 by decide) (.int .i64 (y.g.it - a))).set 28 (show 28 < 33 by decide) (.int .i64 (y.am 8+a))).drew).drew).drew⟩,Keep.three _ _ _ _ _ _⟩
 | 9,x0,x1,m0 =>
  refine (penter_9 P (y.am 9) a c y.g.pr (by have:=hf.pr1; omega) m0 a0 x0 x1 w hP hP' (hm 18 _ rfl) (hm 19 _ rfl) (h.cell 7 rfl) (h.free 7 rfl) (h.cell 8 rfl) (h.free 8 rfl) (h.cell 29 rfl) (h.free 29 rfl)).mono ?_
  rintro e w' ⟨rfl,hw⟩
  subst hw
  exact ⟨rfl,⟨wrap64 (c+a),i,f,(((((h.set 7 (show 7 < 33 by decide) (.int .i64 (wrap64 (c+a)))).set 8 (show 8 < 33 by decide) (.int .i64 (y.g.pr - a))).set 29 (show 29 < 33 by decide) (.int .i64 (y.am 9+a))).drew).drew).drew⟩,Keep.three _ _ _ _ _ _⟩
 | 10,x0,x1,m0 =>
  refine (penter_10 P (y.am 10) a c (-y.g.cr) (by have:=hf.cr0; omega) (by have hm0:y.g.cr+a≤9000000000000000000:=m0; omega) a0 x0 x1 w hP hP' (hm 20 _ rfl) (hm 21 _ rfl) (h.cell 7 rfl) (h.free 7 rfl) (h.cell 13 rfl) (h.free 13 rfl) (h.cell 30 rfl) (h.free 30 rfl)).mono ?_
  rintro e w' ⟨rfl,hw⟩
  rw [show -y.g.cr - a = -(y.g.cr+a) by omega] at hw
  subst hw
  exact ⟨rfl,⟨wrap64 (c+a),i,f,(((((h.set 7 (show 7 < 33 by decide) (.int .i64 (wrap64 (c+a)))).set 13 (show 13 < 33 by decide) (.int .i64 (-(y.g.cr+a)))).set 30 (show 30 < 33 by decide) (.int .i64 (y.am 10+a))).drew).drew).drew⟩,Keep.three _ _ _ _ _ _⟩
 | 11,x0,x1,m0 =>
  refine (penter_11 P (y.am 11) a y.g.it i hf.it0 m0 a0 x0 x1 w hP hP' (hm 22 _ rfl) (hm 23 _ rfl) (h.cell 9 rfl) (h.free 9 rfl) (h.cell 14 rfl) (h.free 14 rfl) (h.cell 31 rfl) (h.free 31 rfl)).mono ?_
  rintro e w' ⟨rfl,hw⟩
  subst hw
  exact ⟨rfl,⟨c,wrap64 (i - a),f,(((((h.set 9 (show 9 < 33 by decide) (.int .i64 (y.g.it+a))).set 14 (show 14 < 33 by decide) (.int .i64 (wrap64 (i - a)))).set 31 (show 31 < 33 by decide) (.int .i64 (y.am 11+a))).drew).drew).drew⟩,Keep.three _ _ _ _ _ _⟩
 | 12,x0,x1,m0 =>
  refine (penter_12 P (y.am 12) a y.g.fi f hf.fi0 m0 a0 x0 x1 w hP hP' (hm 24 _ rfl) (hm 25 _ rfl) (h.cell 12 rfl) (h.free 12 rfl) (h.cell 15 rfl) (h.free 15 rfl) (h.cell 32 rfl) (h.free 32 rfl)).mono ?_
  rintro e w' ⟨rfl,hw⟩
  subst hw
  exact ⟨rfl,⟨c,i,wrap64 (f - a),(((((h.set 12 (show 12 < 33 by decide) (.int .i64 (y.g.fi+a))).set 15 (show 15 < 33 by decide) (.int .i64 (wrap64 (f - a)))).set 32 (show 32 < 33 by decide) (.int .i64 (y.am 12+a))).drew).drew).drew⟩,Keep.three _ _ _ _ _ _⟩
end Go.Proofs.YtanndhoimpnhpaaGreatDoor
namespace Go.Proofs.YtanndhoimpnhpaaGreatDoor
open Go.ChangeShapes Go.WideShapes Go.ChangeAt Go.RowKit Cal
theorem isLeap_any (y:Int) (w:World) (h0:0≤y) (h1:y≤100000) :
  Calls Tryz.prog 178 #[.int .i64 y] w fun e w'=>e = .returned (.bool (lp y == 1))∧w' = w:=by
 by_cases h4:y % 4 = 0
 ·by_cases h100:y % 100 = 0
  ·by_cases h400:y % 400 = 0
   all_goals
    have e:(lp y == 1) = decide (y % 400 = 0):=by simp [lp,h4,h100,h400]
    go_enter Tryz.func178,Tryz.ntmps178
    go_wp2
    go_ret
    exact ⟨by simp [e,h400],rfl⟩
  ·have e:(lp y == 1) = true:=by simp [lp,h4,h100]
   go_enter Tryz.func178,Tryz.ntmps178
   go_wp2
   go_ret
   exact ⟨by simp [e],rfl⟩
 ·have e:(lp y == 1) = false:=by simp [lp,h4]
  go_enter Tryz.func178,Tryz.ntmps178
  go_wp2
  go_ret
  exact ⟨by simp [e],rfl⟩
theorem monthLength_any (y m:Int) (w:World) (h0:0≤y) (h1:y≤100000) :
  Calls Tryz.prog 165 #[.int .i64 y,.int .i64 m] w fun e w'=>e = .returned (.int .i64 (dim y m))∧w' = w:=by
 by_cases h2:m = 2
 ·subst h2
  have e:dim y 2 = 28+lp y:=by simp [dim]
  have E:=hid e
  clear e
  rcases (show lp y = 0∨lp y = 1 by have:=lp_01 y; omega) with hl | hl
  all_goals
   go_enter Tryz.func165,Tryz.ntmps165
   go_wp2_with (go_at_call 178; refine (isLeap_any _ _ (by omega) (by omega)).mono ?_; rintro e w' ⟨rfl,rfl⟩; rw [hl])
   go_ret
   exact ⟨ret_int (by rw [E.out,hl]; rfl),rfl⟩
 ·by_cases h30:m = 4∨m = 6∨m = 9∨m = 11
  ·have e:dim y m = 30:=by simp [dim,h2,h30]
   have E:=hid e
   clear e
   rcases h30 with h | h | h | h
   all_goals
    subst h
    go_enter Tryz.func165,Tryz.ntmps165
    go_wp2
    go_ret
    exact ⟨ret_int E.out.symm,rfl⟩
  ·have e:dim y m = 31:=by simp [dim,h2,h30]
   have E:=hid e
   clear e
   obtain ⟨a,b,c,d⟩:¬ m = 4∧¬ m = 6∧¬ m = 9∧¬ m = 11:=by omega
   clear h30
   go_enter Tryz.func165,Tryz.ntmps165
   go_wp2
   go_ret
   exact ⟨ret_int E.out.symm,rfl⟩
theorem yearStart_any (y:Int) (w:World) (h0:1≤y) (h1:y≤100000) :
  Calls Tryz.prog 164 #[.int .i64 y] w fun e w'=>e = .returned (.int .i64 (ys y))∧w' = w:=by
 go_enter Tryz.func164,Tryz.ntmps164
 go_wp2
 go_ret
 exact ⟨ret_int (by simp only [ys]),rfl⟩
set_option maxHeartbeats 1000000 in
theorem civilOf_any (n:Int) (w:World) (h0:0≤n) (h1:n≤109573) :
  Calls Tryz.prog 145 #[.int .i64 n] w fun e w'=>∃ y m d:Int,e = .returned (.agg #[.int .i64 y,.int .i64 m,.int .i64 d])∧Ok y m d∧num y m d = n∧Below w.heap.size w w':=by
 have g0:=ys_guess n h0
 go_enter Tryz.func145,Tryz.ntmps145
 go_wp2
 go_loop [3] (fun t=>∃ y:Int,1900≤y∧y≤2200∧ys y≤n∧t = .int .i64 y) (fun t=>(2200 - intOf t).toNat)
 case atStart=>exact ⟨_,by omega,by omega,g0,rfl⟩
 case round =>
  obtain ⟨y,hy1,hy2,hy3,rfl⟩:=hrel
  clear g0
  have hs:=ys_succ y
  have hl:=lp_01 y
  have hb:=ys_bd y hy1 (by omega)
  have HS:=hid hs
  clear hs
  by_cases hd:ys (y+1)≤n
  ·have hlt:y < 2200:=by
    apply Int.not_le.mp
    intro h
    obtain rfl:y = 2200:=by omega
    have:=ys_last
    have:=HS.out
    omega
   go_wp2_with (go_at_call 164; refine (yearStart_any _ _ (by omega) (by omega)).mono ?_; rintro e w' ⟨rfl,rfl⟩)
   go_round
   case rel=>exact ⟨y+1,by omega,by omega,hd,rfl⟩
   case measure=>simp [intOf]; omega
  ·have hz:n < ys (y+1):=by omega
   clear hd
   go_wp2_with (go_at_call 164; refine (yearStart_any _ _ (by omega) (by omega)).mono ?_; rintro e w' ⟨rfl,rfl⟩)
   go_loop [4,5] (fun r k=>∃ m:Int,1≤m∧m≤12∧k = .int .i64 m∧0≤n - ys y - cum y m∧r = .int .i64 (n - ys y - cum y m)) (fun _ k=>(12 - intOf k).toNat)
   case atStart=>exact ⟨1,by omega,by omega,rfl,by rw [cum_one]; omega,by rw [cum_one]; simp⟩
   case round =>
    obtain ⟨m,hm1,hm2,rfl,hr,rfl⟩:=hrel
    have cb:=cum_bd y m hm1 (by omega)
    have db:=dim_bd y m
    have CS:Hid (cum y (m+1) = cum y m+dim y m):=cum_succ y m hm1 hm2
    by_cases hd:dim y m≤n - ys y - cum y m
    ·have hm:=month_end n y m hm1 hm2 hz hd
     go_wp2_with (go_at_call 165; refine (monthLength_any _ _ _ (by omega) (by omega)).mono ?_; rintro e w' ⟨rfl,rfl⟩)
     go_round
     case rel=>exact ⟨m+1,by omega,by omega,rfl,by rw [CS.out]; omega,by rw [CS.out]; go_num⟩
     case measure=>simp [intOf]; omega
    ·have hv:n - ys y - cum y m < dim y m:=by omega
     clear hd
     go_wp2_with (go_at_call 165; refine (monthLength_any _ _ _ (by omega) (by omega)).mono ?_; rintro e w' ⟨rfl,rfl⟩)
     refine bodyPost_ret (v:=.agg #[.int .i64 y,.int .i64 m,.int .i64 (n - ys y - cum y m+1)]) (by simp [results,Tryz.results145,go_sem]) rfl ⟨y,m,_,rfl,ok_mk hy1 hy2 hm1 hm2 (by omega) (by omega),by unfold num; omega,?_⟩
     exact (Below.refl _ _).alloc (Nat.le_refl _) _
end Go.Proofs.YtanndhoimpnhpaaGreatDoor
namespace Go.Proofs.YtanndhoimpnhpaaGreatDoor.Cal
def IsD (n d:Int):Prop:=∃ y m,Ok y m d∧num y m d = n
theorem IsD.one {n d d':Int} (h:IsD n d) (h':IsD n d'):d = d':=by
 obtain ⟨y,m,o,e⟩:=h
 obtain ⟨y',m',o',e'⟩:=h'
 exact (one_date y m d y' m' d' o o' (e.trans e'.symm)).2.2
open Classical in
noncomputable def cdOf (n:Int):Int:=if h:∃ d,IsD n d then Classical.choose h else 0
theorem cdOf_is {n d:Int} (h:IsD n d):cdOf n = d:=by
 have hx:∃ d,IsD n d:=⟨d,h⟩
 unfold cdOf
 rw [dif_pos hx]
 exact (Classical.choose_spec hx).one h
open Classical in
noncomputable def tOf (n:Int):Int:=if h:∃ t,IsT n t then Classical.choose h else 0
theorem tOf_is {n t:Int} (h:IsT n t):tOf n = t:=by
 have hx:∃ t,IsT n t:=⟨t,h⟩
 unfold tOf
 rw [dif_pos hx]
 exact (Classical.choose_spec hx).one h
open Classical in
noncomputable def wtOf (b n:Int):Int:=if b = 3∧0≤n∧n≤109572 then tOf (n+1) - tOf n else 1
theorem wtOf_one {b:Int} (n:Int) (h:¬ b = 3):wtOf b n = 1:=by
 unfold wtOf
 rw [if_neg (fun x=>h x.1)]
theorem wtOf_three {n p q:Int} (h0:0≤n) (h1:n≤109572) (hp:IsT (n+1) p) (hq:IsT n q):wtOf 3 n = p - q:=by
 unfold wtOf
 rw [if_pos ⟨rfl,h0,h1⟩,tOf_is hp,tOf_is hq]
theorem t3_next (y m d:Int) (h:Ok y m d):0≤t3 (ny y m d) (nm y m d) (nd y m d) - t3 y m d∧t3 (ny y m d) (nm y m d) (nd y m d) - t3 y m d≤3:=by
 obtain ⟨a1,a2,a3,a4,a5,a6⟩:=h
 have hb:=dim_bd y m
 unfold t3 cap ny nm nd
 by_cases h1:d < dim y m
 ·simp only [h1,if_true]
  (repeat' split) <;> omega
 ·simp only [h1,if_false]
  by_cases h2:m < 12
  ·simp only [h2,if_true]
   (repeat' split) <;> omega
  ·simp only [h2,if_false]
   have h12:m = 12:=by omega
   subst h12
   have:dim y 12 = 31:=by simp [dim]
   (repeat' split) <;> omega
end Go.Proofs.YtanndhoimpnhpaaGreatDoor.Cal
namespace Go.Proofs.YtanndhoimpnhpaaGreatDoor
open Go.RowKit Cal
theorem dayOfMonth_any (n:Int) (w:World) (h0:0≤n) (h1:n≤109573) :
  Calls Tryz.prog 131 #[.int .i64 n] w fun e w'=>e = .returned (.int .i64 (cdOf n))∧Below w.heap.size w w':=by
 have hc:∀ d,IsD n d→Hid (cdOf n = d):=fun d h=>cdOf_is h
 generalize cdOf n = c at *
 go_enter Tryz.func131,Tryz.ntmps131
 go_wp2_with fail
 refine (civilOf_any _ _ h0 h1).mono ?_
 rintro e w1 ⟨y,m,d,rfl,hok,hn,hb⟩
 have hcd:=hc d ⟨y,m,hok,hn⟩
 clear hc hok hn
 have hfd:∀ wi:World,Sem.run Tryz.prog (Instr.field 214 (.agg #[.int .i64 y,.int .i64 m,.int .i64 d]) 2) wi = .ok (.int .i64 d) wi:=fun _=>by kernel_rfl
 go_wp2
 go_ret
 rw [hcd.out]
 exact ⟨rfl,hb⟩
theorem keepP {w W W':World} {P:Nat} {a b c:Value} (hb:Below W.heap.size W W')
  (h:W.cell? ⟨P,5,none⟩ = some a∧W.cell? ⟨P,6,none⟩ = some b∧W.cell? ⟨P,17,none⟩ = some c∧Below w.heap.size w W) :
  W'.cell? ⟨P,5,none⟩ = some a∧W'.cell? ⟨P,6,none⟩ = some b∧W'.cell? ⟨P,17,none⟩ = some c∧Below w.heap.size w W':=by
 obtain ⟨h1,h2,h3,h4⟩:=h
 have hl:=World.block_lt_of_cell? _ _ h1
 exact ⟨(hb.cell (p:=⟨P,5,none⟩) hl).trans h1,(hb.cell (p:=⟨P,6,none⟩) hl).trans h2,(hb.cell (p:=⟨P,17,none⟩) hl).trans h3,h4.trans (hb.mono h4.size)⟩
set_option maxRecDepth 10000 in
set_option maxHeartbeats 1000000 in
theorem fallsDue_core (P:Nat) (du n fr c:Int) (w:World) (c5:w.cell? ⟨P,5,none⟩ = some (.int .i64 du)) (c6:w.cell? ⟨P,6,none⟩ = some (.int .i64 n)) (c17:w.cell? ⟨P,17,none⟩ = some (.int .i64 fr))
  (hD:∀ W:World,Calls Tryz.prog 131 #[.int .i64 n] W fun e w'=>e = .returned (.int .i64 c)∧Below W.heap.size W w') (b:Bool) (hb:Hid (b = decide (c = du∧fr≤n))) :
  Calls Tryz.prog 106 #[.pointer (some ⟨P,0,none⟩)] w fun e w'=>e = .returned (.bool b)∧Below w.heap.size w w':=by
 by_cases h1:c = du
 ·by_cases h2:fr≤n
  ·obtain rfl:b = true:=by rw [hb.out]; simp [h1,h2]
   clear hb
   have e1:(c == du) = true:=by simp [h1]
   have e2:decide (fr≤n) = true:=by simp [h2]
   have hB0:Below w.heap.size w w.drew:=(Below.refl _ _).drew
   go_enter Tryz.func106,Tryz.ntmps106
   go_wp2_with fail
   go_region_held3 (fun w'=>w'.cell? ⟨P,5,none⟩ = some (.int .i64 du)∧w'.cell? ⟨P,6,none⟩ = some (.int .i64 n)∧w'.cell? ⟨P,17,none⟩ = some (.int .i64 fr)∧Below w.heap.size w w') (first | go_keep | exact keepP (by assumption) (by assumption))
    ((go_at_call 131; refine (hD _).mono ?_; rintro e w' ⟨rfl,hb'⟩))
   have hw:=(‹_∧_∧_∧Below _ _ _›).2.2.2
   go_wp2
   go_ret
   exact ⟨rfl,hw⟩
  ·obtain rfl:b = false:=by rw [hb.out]; simp [h2]
   clear hb
   have e1:(c == du) = true:=by simp [h1]
   have e2:decide (fr≤n) = false:=by simp; omega
   have hB0:Below w.heap.size w w.drew:=(Below.refl _ _).drew
   go_enter Tryz.func106,Tryz.ntmps106
   go_wp2_with fail
   go_region_held3 (fun w'=>w'.cell? ⟨P,5,none⟩ = some (.int .i64 du)∧w'.cell? ⟨P,6,none⟩ = some (.int .i64 n)∧w'.cell? ⟨P,17,none⟩ = some (.int .i64 fr)∧Below w.heap.size w w') (first | go_keep | exact keepP (by assumption) (by assumption))
    ((go_at_call 131; refine (hD _).mono ?_; rintro e w' ⟨rfl,hb'⟩))
   have hw:=(‹_∧_∧_∧Below _ _ _›).2.2.2
   go_wp2
   go_ret
   exact ⟨rfl,hw⟩
 ·obtain rfl:b = false:=by rw [hb.out]; simp [h1]
  clear hb
  have e1:(c == du) = false:=by simpa using h1
  go_enter Tryz.func106,Tryz.ntmps106
  go_wp2_with fail
  refine wp_region_held_drew (S:=fun w'=>w'.cell? ⟨P,5,none⟩ = some (.int .i64 du)∧w'.cell? ⟨P,6,none⟩ = some (.int .i64 n)∧w'.cell? ⟨P,17,none⟩ = some (.int .i64 fr)∧Below w.heap.size w w') (by kernel_rfl) ⟨c5,c6,c17,(Below.refl _ _).drew⟩ (fun hHeld=>?_)
  refine tka 0 (.pointer (some ⟨P,0,none⟩)) rfl ?_
  simp only [uP]
  refine tka 1 (.pointer (some ⟨P,0,none⟩)) rfl ?_
  simp only [uP]
  refine tka 2 (.pointer (some ⟨P,6,none⟩)) rfl ?_
  simp only [uP]
  refine tka 3 (.int .i64 n) rfl ?_
  simp only [uP]
  refine tka 5 (.pointer (some ⟨P,0,none⟩)) rfl ?_
  simp only [uP]
  refine tka 6 (.pointer (some ⟨P,0,none⟩)) rfl ?_
  simp only [uP]
  refine tka 7 (.pointer (some ⟨P,0,none⟩)) rfl ?_
  simp only [uP]
  refine tka 8 (.pointer (some ⟨P,5,none⟩)) rfl ?_
  simp only [uP]
  refine tka 9 (.int .i64 du) rfl ?_
  simp only [uP]
  refine rdy 4 rfl (fun K hK=>?_)
  go_simp
  refine (hD _).mono ?_
  rintro e w' ⟨rfl,hb'⟩
  go_wp2_with fail
  refine hK.out _ _ (keepP hb' hHeld) (fun hHeld2=>?_)
  clear hK K hHeld hb'
  refine tka 10 (.bool false) rfl ?_
  simp only [uP]
  refine tka 11 (.bool false) rfl ?_
  simp only [uP]
  refine tku 12 rfl ?_
  simp only [uP]
  refine tku 13 rfl ?_
  simp only [uP]
  refine tku 14 rfl ?_
  simp only [uP]
  refine tku 15 rfl ?_
  simp only [uP]
  refine tku 16 rfl ?_
  simp only [uP]
  refine tku 17 rfl ?_
  simp only [uP]
  refine tku 18 rfl ?_
  simp only [uP]
  refine tku 19 rfl ?_
  simp only [uP]
  refine tku 20 rfl ?_
  simp only [uP]
  refine tku 21 rfl ?_
  simp only [uP]
  refine tka 22 (.bool false) rfl ?_
  simp only [uP]
  refine tka 23 (.bool false) rfl ?_
  simp only [uP]
  refine wpAnyH_done (by kernel_rfl) ?_ _
  have hw:=hHeld2.2.2.2
  go_wp2
  go_ret
  exact ⟨rfl,hw⟩
namespace Ln
theorem Inv.fit_over {t:Terms} {L:Int} {s:Nat} {g:St} (h:Inv t L s g) (hs:s≤4320) (hL:L≤4100000000000) (hfn:g.fn / den t≤8000000000000000000) (am:Nat→Int):Fit (enter ⟨g,am⟩ 2 g.du):=by
 have hf:=h.fit hs hL hfn am
 have hb:=h.bound hs hL
 have h1:=h.pr
 have h2:=h.it
 have h3:=h.du
 have h4:=h.la
 exact ⟨hf.pr0,hf.pr1,hf.it0,hf.it1,by show 0≤g.du - g.du; omega,by show g.du - g.du≤_; omega,by show 0≤g.la+g.du; omega,by show g.la+g.du≤_; omega,hf.fi0,hf.fi1,hf.cr0,hf.cr1⟩
theorem Inv.can_lent {t:Terms} {L:Int} {s:Nat} {g:St} (h:Inv t L s g) (hs:s≤4320) (hL:L≤4100000000000) (ht:OkT t):CanEnter ⟨g,fun _=>0⟩ 1 t.pr:=by
 have hb:=h.bound hs hL
 have h1:=h.pr
 have h2:=h.it
 have h3:=h.du
 have h4:=h.la
 have:=ht.pr0
 have:=ht.pr1
 exact ⟨by assumption,Int.le_refl _,by show 0+t.pr≤_; omega,by show g.pr+t.pr≤_; omega⟩
theorem Inv.can_over {t:Terms} {L:Int} {s:Nat} {g:St} (h:Inv t L s g) (hs:s≤4320) (hL:L≤4100000000000):CanEnter ⟨g,fun _=>0⟩ 2 g.du:=by
 have hb:=h.bound hs hL
 have h1:=h.pr
 have h2:=h.it
 have h3:=h.du
 have h4:=h.la
 exact ⟨h3,Int.le_refl _,by show 0+g.du≤_; omega,by show g.la+g.du≤_; omega,Int.le_refl _⟩
theorem Inv.can_fall {t:Terms} {L:Int} {s:Nat} {g:St} (h:Inv t L s g) (hs:s≤4320) (hL:L≤4100000000000):CanEnter (enter ⟨g,fun _=>0⟩ 2 g.du) 3 g.it:=by
 have hb:=h.bound hs hL
 have h1:=h.pr
 have h2:=h.it
 have h3:=h.du
 have h4:=h.la
 exact ⟨h2,Int.le_refl _,by show 0+g.it≤_; omega,by show g.du - g.du+g.it≤_; omega,Int.le_refl _⟩
theorem early_start {t:Terms} (cd:Int) (g:St):early t t.st cd g = enter ⟨g,fun _=>0⟩ 1 t.pr:=by
 unfold early
 simp
theorem early_due {t:Terms} {n:Int} (cd:Int) (g:St) (hn:¬ n = t.st) (hd:cd = t.du∧g.fr≤n):early t n cd g = enter (enter ⟨g,fun _=>0⟩ 2 g.du) 3 g.it:=by
 unfold early
 simp only [hn,if_false,not_false_eq_true,ne_eq,true_and]
 rw [if_pos hd]
 rfl
theorem early_not {t:Terms} {n:Int} (cd:Int) (g:St) (hn:¬ n = t.st) (hd:¬ (cd = t.du∧g.fr≤n)):early t n cd g = ⟨g,fun _=>0⟩:=by
 unfold early
 simp only [hn,if_false,not_false_eq_true,ne_eq,true_and]
 rw [if_neg hd]
end Ln
set_option maxRecDepth 10000 in
set_option maxHeartbeats 1000000 in
theorem pbegin_any (w:World) (P:Nat) (t:Ln.Terms) (n:Int) (g:Ln.St) (n0:0≤n) (n1:n≤109573) (h:Pas w P t n ⟨g,fun _=>0⟩) (hm:Mv w) (hP:¬ P = 1) (L:Int) (s:Nat) (hI:Ln.Inv t L s g) (hs:s≤4320) (hL:L≤4100000000000) (hfn:g.fn / Ln.den t≤8000000000000000000) (ht:Ln.OkT t) :
  Calls Tryz.prog 78 #[.pointer (some ⟨P,0,none⟩)] w fun e w'=>e = .returned (.tuple #[])∧Pas w' P t n (Ln.early t n (cdOf n) g)∧Keep (fun b=>b = P) w w':=by
 have hf:=hI.fit hs hL hfn (fun _=>0)
 obtain ⟨c,i,f,hA⟩:=id h
 have c0:w.cell? ⟨P,0,none⟩ = some (.int .i64 t.st):=hA.cell 0 rfl
 have c1:w.cell? ⟨P,1,none⟩ = some (.int .i64 t.pr):=hA.cell 1 rfl
 have c5:w.cell? ⟨P,5,none⟩ = some (.int .i64 t.du):=hA.cell 5 rfl
 have c6:w.cell? ⟨P,6,none⟩ = some (.int .i64 n):=hA.cell 6 rfl
 have c17:w.cell? ⟨P,17,none⟩ = some (.int .i64 g.fr):=hA.cell 17 rfl
 by_cases hn:n = t.st
 ·subst hn
  have hE:=penter_any w.drew P t t.st _ h.drew hm.drew hP hf 1 t.pr (hI.can_lent hs hL ht)
  rw [← Ln.early_start (cdOf t.st)] at hE
  clear hI hf h hA c5 c17 ht hm
  generalize Ln.early t t.st (cdOf t.st) g = y at *
  go_enter Tryz.func78,Tryz.ntmps78
  go_wp2
  go_region
  go_wp2_with fail
  refine hE.mono ?_
  rintro e w1 ⟨rfl,hg1,hk1⟩
  clear hE
  go_wp2
  go_end0
  exact ⟨rfl,hg1,(Keep.refl _ w).drew.trans hk1⟩
 ·have e1:(n == t.st) = false:=by simpa using hn
  have hF:∀ b:Bool,Hid (b = decide (cdOf n = t.du∧g.fr≤n))→Calls Tryz.prog 106 #[.pointer (some ⟨P,0,none⟩)] w.drew fun e w'=>e = .returned (.bool b)∧Below w.drew.heap.size w.drew w' :=
   fun b hb=>fallsDue_core P t.du n g.fr (cdOf n) w.drew c5 c6 c17 (fun W=>dayOfMonth_any n W n0 n1) b hb
  by_cases hd:cdOf n = t.du∧g.fr≤n
  ·have hE2:∀ W:World,Keep (fun _=>False) w.drew W→Calls Tryz.prog 105 #[.pointer (some ⟨P,0,none⟩),.int .i64 2,.int .i64 g.du] W fun e w'=>e = .returned (.tuple #[])∧Pas w' P t n (Ln.enter ⟨g,fun _=>0⟩ 2 g.du)∧Keep (fun b=>b = P) W w' :=
    fun W k=>penter_any W P t n _ (h.drew.keep k (fun x=>x)) (hm.drew.keep k (fun x=>x)) hP hf 2 g.du (hI.can_over hs hL)
   have hE3:∀ W:World,Keep (fun b=>b = P) w.drew W→Pas W P t n (Ln.enter ⟨g,fun _=>0⟩ 2 g.du)→Calls Tryz.prog 105 #[.pointer (some ⟨P,0,none⟩),.int .i64 3,.int .i64 g.it] W fun e w'=>e = .returned (.tuple #[])∧Pas w' P t n (Ln.enter (Ln.enter ⟨g,fun _=>0⟩ 2 g.du) 3 g.it)∧Keep (fun b=>b = P) W w' :=
    fun W k hp=>penter_any W P t n _ hp (hm.drew.keep k (fun e=>hP e.symm)) hP (hI.fit_over hs hL hfn _) 3 g.it (hI.can_fall hs hL)
   rw [Ln.early_due (cdOf n) g hn hd]
   have hF':=hF true (by show true = decide _; simp [hd])
   have c10:w.cell? ⟨P,10,none⟩ = some (.int .i64 g.du):=hA.cell 10 rfl
   have hl:P < w.heap.size:=h.lt
   clear hF hI hf hA ht hm hd
   go_enter Tryz.func78,Tryz.ntmps78
   go_wp2
   go_region
   go_wp2_with fail
   refine hF'.mono ?_
   rintro e w1 ⟨rfl,hb1⟩
   clear hF'
   have k1:Keep (fun _=>False) w.drew w1:=Keep.below hb1
   have d10:w1.cell? ⟨P,10,none⟩ = some (.int .i64 g.du):=(hb1.cell (p:=⟨P,10,none⟩) hl).trans c10
   go_wp2_with fail
   refine (hE2 _ k1).mono ?_
   rintro e w2 ⟨rfl,hg2,k2⟩
   have k2':Keep (fun b=>b = P) w.drew w2:=(k1.mono (fun _ _ h=>h.elim)).trans k2
   have d9:w2.cell? ⟨P,9,none⟩ = some (.int .i64 g.it):=by
    obtain ⟨c',i',f',hA'⟩:=hg2
    exact hA'.cell 9 rfl
   clear hE2
   go_wp2_with fail
   refine (hE3 _ k2' hg2).mono ?_
   rintro e w3 ⟨rfl,hg3,k3⟩
   clear hE3
   go_wp2
   go_end0
   exact ⟨rfl,hg3,((Keep.refl _ w).drew.trans k2').trans k3⟩
  ·rw [Ln.early_not (cdOf n) g hn hd]
   have hF':=hF false (by show false = decide _; simp [hd])
   clear hF hI hf hA ht hm
   go_enter Tryz.func78,Tryz.ntmps78
   go_wp2
   go_region
   go_wp2_with fail
   refine hF'.mono ?_
   rintro e w1 ⟨rfl,hb1⟩
   clear hF'
   go_wp2
   go_end0
   have k1:Keep (fun b=>b = P) w w1:=(Keep.refl _ w).drew.trans (Keep.below hb1)
   exact ⟨rfl,h.keep (S:=fun _=>False) ((Keep.refl _ w).drew.trans (Keep.below hb1)) (fun x=>x),k1⟩
end Go.Proofs.YtanndhoimpnhpaaGreatDoor
