/- Joined by program: CalR, CalE, LnH, So, LnS, LnT. -/
import Derived.Test.YtanndhoimpnhpaaGreatDoorM6
import Derived.Laws.OwnMore
import Derived.OwnWalk
namespace Go.Proofs.YtanndhoimpnhpaaGreatDoor
open Go.ChangeShapes Go.WideShapes Go.ChangeAt Go.RowKit Cal
theorem dim_two (y:Int):dim y 2 = 28+lp y:=by simp [dim]
set_option maxHeartbeats 1000000 in
theorem refcivil_any (n:Int) (w:World) (h0:0≤n) (h1:n≤109573) :
  Calls Tryz.prog 94 #[.int .i64 n] w fun e w'=>∃ y m d:Int,e = .returned (.agg #[.int .i64 y,.int .i64 m,.int .i64 d])∧Ok y m d∧num y m d = n∧Below w.heap.size w w':=by
 have y1:=ys_first
 have Y1:=hid y1
 clear y1
 go_enter Tryz.func94,Tryz.ntmps94
 go_wp2
 go_loopw [0] (fun t wr=>∃ y:Int,1900≤y∧y≤2200∧ys y≤n∧t = .int .i64 (n - ys y)∧wr = (w.alloc (.cells #[.int .i64 0,.int .i64 0,.int .i64 0] 169)).alloc (.cells #[.int .i64 y,.int .i64 1,.int .i64 1] 169)) (fun t _=>(intOf t).toNat)
 case atStart=>exact ⟨1900,by omega,by omega,by rw [Y1.out]; omega,by rw [Y1.out]; simp,rfl⟩
 case round =>
  obtain ⟨y,hy1,hy2,hy3,rfl,rfl⟩:=hrel
  have hl:=lp_01 y
  have hb:=ys_bd y hy1 (by omega)
  have HS:Hid (ys (y+1) = ys y+365+lp y):=ys_succ y
  have HD:Hid (dim y 2 = 28+lp y):=dim_two y
  have db:=dim_bd y 2
  by_cases hd:337+dim y 2≤n - ys y
  ·have hlt:y < 2200:=by
    apply Int.not_le.mp
    intro h
    obtain rfl:y = 2200:=by omega
    have:=ys_last
    have:=HD.out
    omega
   go_wp2_with (go_at_call 118; refine (long_any _ _ _ (by omega) (by omega)).mono ?_; rintro e w' ⟨rfl,rfl⟩)
   go_roundw
   case rel=>exact ⟨y+1,by omega,by omega,by rw [HS.out]; have:=HD.out; omega,by rw [HS.out]; have:=HD.out; go_num,rfl⟩
   case measure=>simp [intOf]; omega
  ·have hz:n < ys (y+1):=by rw [HS.out]; have:=HD.out; omega
   go_wp2_with (go_at_call 118; refine (long_any _ _ _ (by omega) (by omega)).mono ?_; rintro e w' ⟨rfl,rfl⟩)
   clear hd db
   go_loopw [0] (fun r wr=>∃ m:Int,1≤m∧m≤12∧0≤n - ys y - cum y m∧r = .int .i64 (n - ys y - cum y m)∧wr = (w.alloc (.cells #[.int .i64 0,.int .i64 0,.int .i64 0] 169)).alloc (.cells #[.int .i64 y,.int .i64 m,.int .i64 1] 169)) (fun r _=>(intOf r).toNat)
   case atStart=>exact ⟨1,by omega,by omega,by rw [cum_one]; omega,by rw [cum_one]; simp,rfl⟩
   case round =>
    obtain ⟨m,hm1,hm2,hr,rfl,rfl⟩:=hrel
    have cb:=cum_bd y m hm1 (by omega)
    have db:=dim_bd y m
    have CS:Hid (cum y (m+1) = cum y m+dim y m):=cum_succ y m hm1 hm2
    by_cases hd:dim y m≤n - ys y - cum y m
    ·have hm:=month_end n y m hm1 hm2 hz hd
     go_wp2_with (go_at_call 118; refine (long_any _ _ _ (by omega) (by omega)).mono ?_; rintro e w' ⟨rfl,rfl⟩)
     go_roundw
     case rel=>exact ⟨m+1,by omega,by omega,by rw [CS.out]; omega,by rw [CS.out]; go_num,rfl⟩
     case measure=>simp [intOf]; omega
    ·have hv:n - ys y - cum y m < dim y m:=by omega
     clear hd
     go_wp2_with (go_at_call 118; refine (long_any _ _ _ (by omega) (by omega)).mono ?_; rintro e w' ⟨rfl,rfl⟩)
     refine bodyPost_ret (v:=.agg #[.int .i64 y,.int .i64 m,.int .i64 (n - ys y - cum y m+1)]) (by simp [results,Tryz.results94,go_sem]) rfl ⟨y,m,_,rfl,ok_mk hy1 hy2 hm1 hm2 (by omega) (by omega),by unfold num; omega,?_⟩
     exact ((Below.refl _ _).alloc (Nat.le_refl _) _).alloc (by simp) _
theorem refweight_one (b y m d:Int) (w:World) (h:¬ b = 3) :
  Calls Tryz.prog 121 #[.int .i64 b,.agg #[.int .i64 y,.int .i64 m,.int .i64 d]] w fun e w'=>e = .returned (.int .i64 1)∧Below w.heap.size w w':=by
 go_enter Tryz.func121,Tryz.ntmps121
 go_wp2
 go_ret
 exact ⟨rfl,(Below.refl _ _).alloc (Nat.le_refl _) _⟩
set_option maxHeartbeats 1000000 in
theorem refweight_core (y m d Y M D:Int) (w:World) (y0:1900≤y) (y1:y≤2200) (m0:1≤m) (m1:m≤12) (d0:1≤d) (d1:d≤31) (Y0:1900≤Y) (Y1:Y≤2201) (M0:1≤M) (M1:M≤12) (D0:1≤D) (D1:D≤31)
  (hnext:∀ w:World,Calls Tryz.prog 96 #[.agg #[.int .i64 y,.int .i64 m,.int .i64 d]] w fun e w'=>e = .returned (.agg #[.int .i64 Y,.int .i64 M,.int .i64 D])∧Below w.heap.size w w') :
  Calls Tryz.prog 121 #[.int .i64 3,.agg #[.int .i64 y,.int .i64 m,.int .i64 d]] w fun e w'=>e = .returned (.int .i64 (t3 Y M D - t3 y m d))∧Below w.heap.size w w':=by
 by_cases hd:30 < d
 all_goals
  by_cases hD:30 < D
  all_goals
   have E:Hid (t3 Y M D - t3 y m d = 360*(Y - y)+30*(M - m)+cap D - cap d):=by unfold t3 Hid; omega
   have C1:Hid (cap d = if d≤30 then d else 30):=rfl
   have C2:Hid (cap D = if D≤30 then D else 30):=rfl
   go_enter Tryz.func121,Tryz.ntmps121
   go_wp2_with (go_at_call 96; refine (hnext _).mono ?_; rintro e w1 ⟨rfl,hb⟩; obtain ⟨hc,hf⟩:=bcell hb; have hz:w.heap.size < w1.heap.size:=by (have:=hb.size; simp at this; omega))
   go_ret
   refine ⟨ret_int (E.out.trans (by rw [C1.out,C2.out]; (repeat' split) <;> omega)).symm,?_⟩
   have hbw:Below w.heap.size w w1:=((Below.refl _ _).alloc (Nat.le_refl _) _).trans (hb.mono (by simp))
   first
    | exact hbw.alloc hbw.size _
    | exact (hbw.setCell (Nat.le_refl _) _).alloc (hbw.setCell (Nat.le_refl _) _).size _
theorem refweight_three (y m d:Int) (w:World) (h:Ok y m d) (hn:num y m d≤109572) :
  Calls Tryz.prog 121 #[.int .i64 3,.agg #[.int .i64 y,.int .i64 m,.int .i64 d]] w fun e w'=>e = .returned (.int .i64 (t3 (ny y m d) (nm y m d) (nd y m d) - t3 y m d))∧Below w.heap.size w w':=by
 obtain ⟨b1,b2,b3,b4,b5,b6⟩:=next_ok y m d h hn
 have hnx:=fun w=>next_any y m d w h
 have g1:=dim_bd (ny y m d) (nm y m d)
 have g2:=dim_bd y m
 obtain ⟨a1,a2,a3,a4,a5,a6⟩:=h
 exact refweight_core y m d _ _ _ w a1 a2 a3 a4 a5 (by omega) b1 (by omega) b3 b4 b5 (by omega) hnx
end Go.Proofs.YtanndhoimpnhpaaGreatDoor
namespace Go.Proofs.YtanndhoimpnhpaaGreatDoor
open Go.ChangeShapes Go.WideShapes Go.ChangeAt Go.RowKit Lg
theorem mk13 (w:World):(Instr.makeSlice 38 (.int .i64 13) (.int .i64 13)).run Tryz.prog w = .ok (.slice (some ⟨w.heap.size,0,none⟩) 13 13) (w.alloc (.cells #[.int .i64 0,.int .i64 0,.int .i64 0,.int .i64 0,.int .i64 0,.int .i64 0,.int .i64 0,.int .i64 0,.int .i64 0,.int .i64 0,.int .i64 0,.int .i64 0,.int .i64 0] 3)):=by kernel_rfl
def zero13:List Value:=[.int .i64 0,.int .i64 0,.int .i64 0,.int .i64 0,.int .i64 0,.int .i64 0,.int .i64 0,.int .i64 0,.int .i64 0,.int .i64 0,.int .i64 0,.int .i64 0,.int .i64 0]
theorem day_world (w:World) (G:Nat) (t:Ln.Terms) (g:Ln.St) (dy:Int) (ev fv av:Value) (cy cm cd:Int) (T1 T2:TypeId) (hG:At w G (gl t g dy ev fv av)) :
  Gon (((w.setCell ⟨G,17,none⟩ (.slice (some ⟨w.heap.size+1,0,none⟩) 13 13)).alloc (.cells #[.int .i64 cy,.int .i64 cm,.int .i64 cd] T1)).alloc (.cells #[.int .i64 0,.int .i64 0,.int .i64 0,.int .i64 0,.int .i64 0,.int .i64 0,.int .i64 0,.int .i64 0,.int .i64 0,.int .i64 0,.int .i64 0,.int .i64 0,.int .i64 0] T2)) G (w.heap.size+1) t ⟨g,fun _=>0⟩ dy ev fv ∧
  At (((w.setCell ⟨G,17,none⟩ (.slice (some ⟨w.heap.size+1,0,none⟩) 13 13)).alloc (.cells #[.int .i64 cy,.int .i64 cm,.int .i64 cd] T1)).alloc (.cells #[.int .i64 0,.int .i64 0,.int .i64 0,.int .i64 0,.int .i64 0,.int .i64 0,.int .i64 0,.int .i64 0,.int .i64 0,.int .i64 0,.int .i64 0,.int .i64 0,.int .i64 0] T2)) w.heap.size [.int .i64 cy,.int .i64 cm,.int .i64 cd] ∧
  Keep (fun b=>b = G) w (((w.setCell ⟨G,17,none⟩ (.slice (some ⟨w.heap.size+1,0,none⟩) 13 13)).alloc (.cells #[.int .i64 cy,.int .i64 cm,.int .i64 cd] T1)).alloc (.cells #[.int .i64 0,.int .i64 0,.int .i64 0,.int .i64 0,.int .i64 0,.int .i64 0,.int .i64 0,.int .i64 0,.int .i64 0,.int .i64 0,.int .i64 0,.int .i64 0,.int .i64 0] T2)) ∧
  (((w.setCell ⟨G,17,none⟩ (.slice (some ⟨w.heap.size+1,0,none⟩) 13 13)).alloc (.cells #[.int .i64 cy,.int .i64 cm,.int .i64 cd] T1)).alloc (.cells #[.int .i64 0,.int .i64 0,.int .i64 0,.int .i64 0,.int .i64 0,.int .i64 0,.int .i64 0,.int .i64 0,.int .i64 0,.int .i64 0,.int .i64 0,.int .i64 0,.int .i64 0] T2)).heap.size = w.heap.size+2:=by
 have hl:=hG.lt
 have hs1:(w.setCell ⟨G,17,none⟩ (.slice (some ⟨w.heap.size+1,0,none⟩) 13 13)).heap.size = w.heap.size:=by simp [World.setCell]
 have hg1:At (w.setCell ⟨G,17,none⟩ (.slice (some ⟨w.heap.size+1,0,none⟩) 13 13)) G (gl t g dy ev fv (.slice (some ⟨w.heap.size+1,0,none⟩) 13 13)):=hG.set 17 (show 17 < 18 by decide) _
 have hk1:Keep (fun b=>b = G) w (w.setCell ⟨G,17,none⟩ (.slice (some ⟨w.heap.size+1,0,none⟩) 13 13)):=(Keep.refl (fun b=>b = G) w).set (S:=fun b=>b = G) rfl 17 _
 generalize w.setCell ⟨G,17,none⟩ (.slice (some ⟨w.heap.size+1,0,none⟩) 13 13) = w1 at *
 have hb2:Below w1.heap.size w1 (w1.alloc (.cells #[.int .i64 cy,.int .i64 cm,.int .i64 cd] T1)):=(Below.refl _ _).alloc (Nat.le_refl _) _
 have ha2:At (w1.alloc (.cells #[.int .i64 cy,.int .i64 cm,.int .i64 cd] T1)) w1.heap.size [.int .i64 cy,.int .i64 cm,.int .i64 cd]:=At.alloc w1 _ T1
 have hs2:(w1.alloc (.cells #[.int .i64 cy,.int .i64 cm,.int .i64 cd] T1)).heap.size = w1.heap.size+1:=by simp
 generalize w1.alloc (.cells #[.int .i64 cy,.int .i64 cm,.int .i64 cd] T1) = w2 at *
 have hb3:Below w2.heap.size w2 (w2.alloc (.cells #[.int .i64 0,.int .i64 0,.int .i64 0,.int .i64 0,.int .i64 0,.int .i64 0,.int .i64 0,.int .i64 0,.int .i64 0,.int .i64 0,.int .i64 0,.int .i64 0,.int .i64 0] T2)):=(Below.refl _ _).alloc (Nat.le_refl _) _
 have ha3:At (w2.alloc (.cells #[.int .i64 0,.int .i64 0,.int .i64 0,.int .i64 0,.int .i64 0,.int .i64 0,.int .i64 0,.int .i64 0,.int .i64 0,.int .i64 0,.int .i64 0,.int .i64 0,.int .i64 0] T2)) w2.heap.size zero13:=At.alloc w2 zero13 T2
 have hs3:(w2.alloc (.cells #[.int .i64 0,.int .i64 0,.int .i64 0,.int .i64 0,.int .i64 0,.int .i64 0,.int .i64 0,.int .i64 0,.int .i64 0,.int .i64 0,.int .i64 0,.int .i64 0,.int .i64 0] T2)).heap.size = w2.heap.size+1:=by simp
 generalize w2.alloc (.cells #[.int .i64 0,.int .i64 0,.int .i64 0,.int .i64 0,.int .i64 0,.int .i64 0,.int .i64 0,.int .i64 0,.int .i64 0,.int .i64 0,.int .i64 0,.int .i64 0,.int .i64 0] T2) = w3 at *
 have e1:w2.heap.size = w.heap.size+1:=by omega
 rw [e1] at ha3
 rw [hs1] at ha2
 have k2:Keep (fun _=>False) w1 w2:=Keep.below hb2
 have k3:Keep (fun _=>False) w2 w3:=Keep.below hb3
 refine ⟨⟨by omega,⟨13,(hg1.keep k2 (fun x=>x)).keep k3 (fun x=>x)⟩,ha3⟩,ha2.keep k3 (fun x=>x),(hk1.trans (k2.mono (fun _ _ h=>h.elim))).trans (k3.mono (fun _ _ h=>h.elim)),by omega⟩
def upto (t:Ln.Terms) (n cd:Int) (l:List Ln.Ev) (g:Ln.St) (k:Nat):Ln.Dy:=(l.take k).foldl (Ln.event n) (Ln.early t n cd g)
theorem upto_succ (t:Ln.Terms) (n cd:Int) (l:List Ln.Ev) (g:Ln.St) (k:Nat) (h:k < l.length):upto t n cd l g (k+1) = Ln.event n (upto t n cd l g k) l[k]:=by
 unfold upto
 rw [List.take_succ_eq_append_getElem h,List.foldl_append]
 rfl
theorem early_start (t:Ln.Terms) (n cd:Int) (g:Ln.St) (h:n = t.st):Ln.early t n cd g = Ln.enter ⟨g,fun _=>0⟩ 1 t.pr:=by
 unfold Ln.early
 simp [h]
theorem early_none (t:Ln.Terms) (n cd:Int) (g:Ln.St) (h:¬ n = t.st) (h2:¬ (cd = t.du∧g.fr≤n)):Ln.early t n cd g = ⟨g,fun _=>0⟩:=by
 unfold Ln.early
 simp only [h,if_false]
 rw [if_neg (fun x=>h2 ⟨x.2.1,x.2.2⟩)]
theorem early_due (t:Ln.Terms) (n cd:Int) (g:Ln.St) (h:¬ n = t.st) (h2:cd = t.du) (h3:g.fr≤n):Ln.early t n cd g = Ln.enter (Ln.enter ⟨g,fun _=>0⟩ 2 g.du) 3 g.it:=by
 unfold Ln.early
 simp only [h,if_false]
 rw [if_pos ⟨h,h2,h3⟩]
 rfl
theorem ev_skip (n:Int) (y:Ln.Dy) (e:Ln.Ev) (h:¬ e.d = n):Ln.event n y e = y:=by simp [Ln.event,h]
theorem ev_1 (n:Int) (y:Ln.Dy) (e:Ln.Ev) (h:e.d = n) (k:e.k = 1):Ln.event n y e = Ln.enter y 1 e.a:=by simp [Ln.event,h,k]
theorem ev_2 (n:Int) (y:Ln.Dy) (e:Ln.Ev) (h:e.d = n) (k:e.k = 2):Ln.event n y e = { y with g:={ y.g with rt:=e.a } }:=by simp [Ln.event,h,k]
theorem ev_3 (n:Int) (y:Ln.Dy) (e:Ln.Ev) (h:e.d = n) (k:e.k = 3) (f:y.g.fr < n+e.a):Ln.event n y e = { y with g:={ y.g with fr:=n+e.a } }:=by simp [Ln.event,h,k,f]
theorem ev_3n (n:Int) (y:Ln.Dy) (e:Ln.Ev) (h:e.d = n) (k:e.k = 3) (f:¬ y.g.fr < n+e.a):Ln.event n y e = y:=by simp [Ln.event,h,k,f]
theorem ev_4 (n:Int) (y:Ln.Dy) (e:Ln.Ev) (h:e.d = n) (k:e.k = 4):Ln.event n y e = Ln.enter y 4 y.g.it:=by simp [Ln.event,h,k]
theorem ev_5 (n:Int) (y:Ln.Dy) (e:Ln.Ev) (h:e.d = n) (k:e.k = 5):Ln.event n y e = Ln.pay y e.a:=by simp [Ln.event,h,k]
theorem Gon.set {w:World} {G A:Nat} {t:Ln.Terms} {y y':Ln.Dy} {dy:Int} {ev fv:Value} (h:Gon w G A t y dy ev fv) (i:Nat) (hi:i < 18) (v:Value) (ha:y'.am = y.am) (he:∀ av,(gl t y.g dy ev fv av).set i v = gl t y'.g dy ev fv av):Gon (w.setCell ⟨G,i,none⟩ v) G A t y' dy ev fv:=by
 obtain ⟨ne,⟨cap,hg⟩,hA⟩:=h
 refine ⟨ne,⟨cap,?_⟩,?_⟩
 ·rw [← he]
  exact hg.set i hi v
 ·rw [ha]
  exact hA.other (fun x=>ne x.symm) i v
theorem Gon.drewN {w:World} {G A:Nat} {t:Ln.Terms} {y:Ln.Dy} {dy:Int} {ev fv:Value} (h:Gon w G A t y dy ev fv) (n:Nat):Gon (w.drewN n) G A t y dy ev fv:=h.below (below_drewN (Below.refl _ _) n)
def first (t:Ln.Terms) (n:Int) (g:Ln.St):Ln.Dy:=if n = t.st then Ln.enter ⟨g,fun _=>0⟩ 1 t.pr else ⟨g,fun _=>0⟩
def due (t:Ln.Terms) (n cd:Int) (g:Ln.St):Bool:=!(n == t.st) && (cd == t.du) && decide (g.fr≤n)
theorem first_fr (t:Ln.Terms) (n:Int) (g:Ln.St):(first t n g).g.fr = g.fr:=by unfold first; split <;> rfl
theorem early_first (t:Ln.Terms) (n cd:Int) (g:Ln.St) (h:due t n cd g = false):Ln.early t n cd g = first t n g:=by
 unfold first
 split
 ·rename_i hn
  exact early_start t n cd g hn
 ·rename_i hn
  refine early_none t n cd g hn ?_
  intro x
  simp [due,hn,x.1,x.2] at h
theorem early_then (t:Ln.Terms) (n cd:Int) (g:Ln.St) (h:due t n cd g = true):first t n g = ⟨g,fun _=>0⟩∧Ln.early t n cd g = Ln.enter (Ln.enter ⟨g,fun _=>0⟩ 2 g.du) 3 g.it:=by
 simp only [due,Bool.and_eq_true,Bool.not_eq_true',beq_eq_false_iff_ne,beq_iff_eq,decide_eq_true_eq] at h
 obtain ⟨⟨h1,h2⟩,h3⟩:=h
 exact ⟨by unfold first; rw [if_neg h1],early_due t n cd g h1 h2 h3⟩
theorem infoEv:(Tryz.prog.info? 50).map (fun i=>(i.zero,i.size,i.bytes)) = some (some (.agg #[.int .i64 0,.int .i64 0,.int .i64 0,.int .i64 0]),4,32):=by kernel_rfl
theorem ev_cells {w:World} {E:Nat} {l:List Ln.Ev} (h:At w E (evs l)) (k:Nat) (hk:k < l.length):w.rangeAt E (k*4) [.int .i64 l[k].d,.int .i64 l[k].k,.int .i64 l[k].s,.int .i64 l[k].a]:=by
 obtain ⟨q0,q1,q2,q3⟩:=evs_at l k hk
 intro j v hj
 match j,hj with
 | 0,hj=>obtain rfl:=Option.some.inj hj; exact h.cell _ q0
 | 1,hj=>obtain rfl:=Option.some.inj hj; exact h.cell _ q1
 | 2,hj=>obtain rfl:=Option.some.inj hj; exact h.cell _ q2
 | 3,hj=>obtain rfl:=Option.some.inj hj; exact h.cell _ q3
 | j+4,hj=>exact absurd hj (by simp)
theorem range_below {W W':World} {b o:Nat} {cs:List Value} (h:W.rangeAt b o cs) (hb:Below W.heap.size W W') (hl:b < W.heap.size):W'.rangeAt b o cs:=fun j v hj=>(hb.cell (p:=⟨b,o+j,none⟩) hl).trans (h j v hj)
theorem own_below {W W':World} {base:Nat} {e:TypeId} {size n cap g:Nat} {xs:List Value} (h:W.ownsRow base e size (.slice (some ⟨g,0,none⟩) n cap) n xs) (hb:Below W.heap.size W W') (hg:g < W.heap.size):W'.ownsRow base e size (.slice (some ⟨g,0,none⟩) n cap) n xs:=by
 obtain ⟨h1,⟨h2,_⟩ | ⟨g',cap',cur,h3,h4,h5,h6⟩⟩:=h
 ·cases h2
 ·cases h3
  exact ⟨h1,.inr ⟨g,cap,cur,rfl,h4,(hb.block g hg).trans h5,h6⟩⟩
theorem own_store4 {w:World} {base:Nat} {T:TypeId} {n cap g:Nat} {L:List Ln.Ev} (h:w.ownsRow base T 4 (.slice (some ⟨g,0,none⟩) n cap) n (evs L)) (k:Nat) (hk:k < L.length) (e:Ln.Ev) :
  ((((w.setCell ⟨g,k*4,none⟩ (.int .i64 e.d)).setCell ⟨g,k*4+1,none⟩ (.int .i64 e.k)).setCell ⟨g,k*4+2,none⟩ (.int .i64 e.s)).setCell ⟨g,k*4+3,none⟩ (.int .i64 e.a)).ownsRow base T 4 (.slice (some ⟨g,0,none⟩) n cap) n (evs (L.set k e)):=by
 rw [← So.evs_set L k hk e]
 exact ((((h.stored (k*4) (.int .i64 e.d)).1.stored (k*4+1) (.int .i64 e.k)).1.stored (k*4+2) (.int .i64 e.s)).1.stored (k*4+3) (.int .i64 e.a)).1
theorem own_range {w:World} {base:Nat} {T:TypeId} {n cap g:Nat} {L:List Ln.Ev} (h:w.ownsRow base T 4 (.slice (some ⟨g,0,none⟩) n cap) n (evs L)) (hn:n = L.length) (k:Nat) (e:Ln.Ev) (he:L[k]? = some e) :
  w.rangeAt g (k*4) [.int .i64 e.d,.int .i64 e.k,.int .i64 e.s,.int .i64 e.a]∧∀ o,w.frozen? ⟨g,o,none⟩ = false:=by
 have hk:k < L.length:=(List.getElem?_eq_some_iff.1 he).1
 have hx:L[k] = e:=(List.getElem?_eq_some_iff.1 he).2
 obtain ⟨q0,q1,q2,q3⟩:=evs_at L k hk
 rw [hx] at q0 q1 q2 q3
 refine ⟨?_,fun o=>h.frozenAt o⟩
 intro j v hj
 match j,hj with
 | 0,hj=>obtain rfl:=Option.some.inj hj; exact (h.cellAt _ (by omega)).trans q0
 | 1,hj=>obtain rfl:=Option.some.inj hj; exact (h.cellAt _ (by omega)).trans q1
 | 2,hj=>obtain rfl:=Option.some.inj hj; exact (h.cellAt _ (by omega)).trans q2
 | 3,hj=>obtain rfl:=Option.some.inj hj; exact (h.cellAt _ (by omega)).trans q3
 | j+4,hj=>exact absurd hj (by simp)
set_option maxRecDepth 10000 in
set_option maxHeartbeats 4000000 in
theorem sorted_any (w:World) (pa:Option Addr) (ecap E:Nat) (l:List Ln.Ev) (hl:l.length≤40) (hE:l ≠ []→pa = some ⟨E,0,none⟩∧At w E (evs l)) (hdd:l.Pairwise (fun a b=>¬ a.s = b.s)) :
  Calls Tryz.prog 93 #[.slice pa l.length ecap] w fun e w'=>∃ v R,e = .returned v∧w'.ownsRow w.heap.size 50 4 v l.length (evs R)∧R.Perm l∧R.Pairwise So.Ah∧Below w.heap.size w w':=by
 obtain ⟨i0,hi,hz0,hz1,hz2⟩:=info_parts infoEv
 have HE:=(show Hid _ from hE)
 have HD:=(show Hid _ from hdd)
 clear hE hdd
 go_enter Tryz.func93,Tryz.ntmps93
 go_wp2
 go_loopw [3,4] (fun o i wr=>∃ (k:Nat) (R:List Ln.Ev),k≤l.length∧i = .int .i64 k∧wr.ownsRow w.heap.size 50 4 o k (evs R)∧R.Perm (l.take k)∧R.Pairwise So.Ah∧Below w.heap.size w wr) (fun _ i _=>l.length - (intOf i).toNat)
 case atStart=>exact ⟨0,[],by omega,rfl,World.ownsRow_nil _ _ _ _,by simp,List.Pairwise.nil,Below.refl _ _⟩
 case round =>
  obtain ⟨k,R,hk,rfl,hown,hperm,hsort,hbel⟩:=hrel
  have hRl:R.length = k:=by rw [hperm.length_eq,List.length_take]; omega
  obtain ⟨p0,cap0,rfl⟩:=own_slice hown
  by_cases hlt:k < l.length
  ·have hne:l ≠ []:=by intro x; subst x; simp at hlt
   obtain ⟨rfl,hEw⟩:=HE.out hne
   have hEl:E < w.heap.size:=World.block_lt_of_cell? _ _ (hEw.cell _ (evs_at l k hlt).1)
   have hrg:w.rangeAt E (k*4) [.int .i64 l[k].d,.int .i64 l[k].k,.int .i64 l[k].s,.int .i64 l[k].a]:=ev_cells hEw k hlt
   have r0:wr.cell? ⟨E,k*4,none⟩ = some (.int .i64 l[k].d):=(hbel.cell (p:=⟨E,_,none⟩) hEl).trans (hrg 0 _ rfl)
   have r1:wr.cell? ⟨E,k*4+1,none⟩ = some (.int .i64 l[k].k):=(hbel.cell (p:=⟨E,_,none⟩) hEl).trans (hrg 1 _ rfl)
   have r2:wr.cell? ⟨E,k*4+2,none⟩ = some (.int .i64 l[k].s):=(hbel.cell (p:=⟨E,_,none⟩) hEl).trans (hrg 2 _ rfl)
   have r3:wr.cell? ⟨E,k*4+3,none⟩ = some (.int .i64 l[k].a):=(hbel.cell (p:=⟨E,_,none⟩) hEl).trans (hrg 3 _ rfl)
   have HX:Hid (∀ x∈R,¬ x.s = l[k].s):=by
    intro x hx
    have hx':=hperm.mem_iff.1 hx
    obtain ⟨j,hj,rfl⟩:=List.getElem_of_mem hx'
    have hj2:j < k:=by rw [List.length_take] at hj; omega
    rw [List.getElem_take]
    exact List.pairwise_iff_getElem.1 HD.out j k (by omega) hlt hj2
   have HT:Hid (l.take (k+1) = l.take k ++ [l[k]]):=List.take_succ_eq_append_getElem hlt
   have HR:=(show Hid (w.rangeAt E (k*4) [.int .i64 l[k].d,.int .i64 l[k].k,.int .i64 l[k].s,.int .i64 l[k].a]) from hrg)
   clear hrg hEw HD HE
   generalize l[k] = e at *
   obtain ⟨ed,ek,es,ea⟩:=e
   simp only at r0 r1 r2 r3
   go_wp2_with (at_builtin; refine wpList_append_own _ rfl _ _ 42 rfl w.heap.size 50 i0 (.agg #[.int .i64 0,.int .i64 0,.int .i64 0,.int .i64 0]) 4 32 Tryz.underlying42 hi hz0 hz1 hz2 rfl (by decide) _ _ _ rfl (hown.alloc _) ⟨wr.heap.size,0,none⟩ 1 1 [.int .i64 ed,.int .i64 ek,.int .i64 es,.int .i64 ea] rfl rfl ?c1 ?c2 ?c3 ?c4 ?c5 ?_)
   case c2=>exact ⟨rfl,rfl,rfl,rfl⟩
   case c3=>unfold maxLen; omega
   case c4=>omega
   case c5=>have:=hbel.size; simp; omega
   ·intro v' w1 hown' hgrow _
    have hb1:Below w.heap.size w w1:=(hbel.alloc hbel.size _).grown hgrow (by simp; exact Nat.le_succ_of_le hbel.size) (fun j hj=>own_from hown hj)
    obtain ⟨g,cap1,rfl,hgb,hgl⟩:=hown'.form (by omega)
    have hown2:w1.ownsRow w.heap.size 50 4 (.slice (some ⟨g,0,none⟩) (k+1) cap1) (k+1) (evs (So.insAt ⟨ed,ek,es,ea⟩ R k)):=by
     have e1:evs (So.insAt ⟨ed,ek,es,ea⟩ R k) = evs R ++ [.int .i64 ed,.int .i64 ek,.int .i64 es,.int .i64 ea]:=by
      rw [← hRl,So.insAt_end,So.evs_append]
      rfl
     rw [e1]
     exact hown'
    clear hown' hgrow hown hbel r0 r1 r2 r3
    go_wp2
    go_loopw [5] (fun q wz=>∃ (j:Nat) (h:Ln.Ev),j≤k∧q = .int .i64 j∧wz.ownsRow w.heap.size 50 4 (.slice (some ⟨g,0,none⟩) (k+1) cap1) (k+1) (evs (So.insAt h R j))∧(∀ i (hi:i < R.length),j≤i→So.Ah ⟨ed,ek,es,ea⟩ R[i])∧Below w.heap.size w wz) (fun q _=>(intOf q).toNat)
    case atStart=>exact ⟨k,⟨ed,ek,es,ea⟩,by omega,rfl,hown2,fun i hi h=>by omega,hb1⟩
    case round =>
     obtain ⟨j,h,hj,rfl,hownz,hahead,hbz⟩:=hrel
     clear hown2 hb1
     have hIl:(So.insAt h R j).length = k+1:=by rw [So.insAt_len h R j (by omega),hRl]
     have hEr:wr.rangeAt E (k*4) [.int .i64 ed,.int .i64 ek,.int .i64 es,.int .i64 ea]:=fun j' v' h'=>(hbz.cell (p:=⟨E,_,none⟩) hEl).trans (HR.out j' v' h')
     have s0:wr.cell? ⟨E,k*4,none⟩ = some (.int .i64 ed):=hEr 0 _ rfl
     have s1:wr.cell? ⟨E,k*4+1,none⟩ = some (.int .i64 ek):=hEr 1 _ rfl
     have s2:wr.cell? ⟨E,k*4+2,none⟩ = some (.int .i64 es):=hEr 2 _ rfl
     have s3:wr.cell? ⟨E,k*4+3,none⟩ = some (.int .i64 ea):=hEr 3 _ rfl
     by_cases hj0:j = 0
     ·subst hj0
      have hat:(So.insAt h R 0)[0]? = some h:=rfl
      obtain ⟨hrg3,hfz⟩:=own_range hownz hIl.symm 0 h hat
      have t0:wr.cell? ⟨g,0,none⟩ = some (.int .i64 h.d):=hrg3 0 _ rfl
      have t1:wr.cell? ⟨g,1,none⟩ = some (.int .i64 h.k):=hrg3 1 _ rfl
      have t2:wr.cell? ⟨g,2,none⟩ = some (.int .i64 h.s):=hrg3 2 _ rfl
      have t3:wr.cell? ⟨g,3,none⟩ = some (.int .i64 h.a):=hrg3 3 _ rfl
      have hnew:=own_store4 hownz.drew 0 (by omega) ⟨ed,ek,es,ea⟩
      rw [So.insAt_set h ⟨ed,ek,es,ea⟩ R 0 (by omega)] at hnew
      simp only [Nat.zero_mul,Nat.zero_add] at hnew
      have HNW:=(show Hid _ from hnew)
      have HBZ:Hid (Below w.heap.size w ((((wr.drew.setCell ⟨g,0,none⟩ (.int .i64 ed)).setCell ⟨g,1,none⟩ (.int .i64 ek)).setCell ⟨g,2,none⟩ (.int .i64 es)).setCell ⟨g,3,none⟩ (.int .i64 ea))):=((((hbz.drew).setCell hgb _).setCell hgb _).setCell hgb _).setCell hgb _
      clear hnew hrg3 hownz hEr
      go_wp2_with fail
      refine wp_region_held_drew (S:=fun _=>True) (by kernel_rfl) trivial (fun hHeld=>?_)
      refine tka 0 (.int .i64 ((0:Nat):Int)) rfl ?_
      simp only [uP]
      refine tka 1 (.bool false) rfl ?_
      simp only [uP]
      refine tka 2 (.bool false) rfl ?_
      simp only [uP]
      refine tku 3 rfl ?_
      simp only [uP]
      refine tku 4 rfl ?_
      simp only [uP]
      refine tku 5 rfl ?_
      simp only [uP]
      refine tku 6 rfl ?_
      simp only [uP]
      refine tku 7 rfl ?_
      simp only [uP]
      refine tku 8 rfl ?_
      simp only [uP]
      refine tku 9 rfl ?_
      simp only [uP]
      refine tku 10 rfl ?_
      simp only [uP]
      refine tku 11 rfl ?_
      simp only [uP]
      refine tku 12 rfl ?_
      simp only [uP]
      refine tka 13 (.bool false) rfl ?_
      simp only [uP]
      refine wpAnyH_done (by kernel_rfl) ?_ _
      clear hHeld
      go_wp2_with fail
      go_roundw
      case rel=>exact ⟨k+1,So.insAt ⟨ed,ek,es,ea⟩ R 0,by omega,by go_num,HNW.out,by rw [HT.out]; exact (So.insAt_perm _ R 0).trans ((hperm.cons _).trans (List.perm_append_singleton _ _).symm),So.ins_sorted ⟨ed,ek,es,ea⟩ R 0 (by omega) hsort HX.out (fun a b c=>hahead a b c) (.inl rfl),HBZ.out⟩
      case measure=>simp [intOf]; omega
     ·obtain ⟨i,rfl⟩:∃ i,j = i+1:=⟨j - 1,by omega⟩
      have hi2:i < R.length:=by omega
      have hlo:(So.insAt h R (i+1))[i]? = some R[i]:=So.insAt_low h R (i+1) i (by omega) (by omega)
      have hat:(So.insAt h R (i+1))[i+1]? = some h:=by
       unfold So.insAt
       rw [List.getElem?_append_right (by simp; omega)]
       simp [Nat.min_eq_left (show i+1≤R.length by omega)]
      obtain ⟨hrg2,hfz⟩:=own_range hownz hIl.symm i R[i] hlo
      obtain ⟨hrg3,_⟩:=own_range hownz hIl.symm (i+1) h hat
      have hgz:g < wr.heap.size:=World.block_lt_of_cell? _ _ (hrg2 0 _ rfl)
      have hdown:=So.insAt_down R i hi2
      generalize hx:R[i] = x at *
      have hxm:x∈R:=by rw [← hx]; exact List.getElem_mem hi2
      have hwi:IntKind.i64.wrap (i:Int) = i:=by rw [IntKind.wrap_i64]; omega
      have hki:¬ (k:Int)+1≤i:=by omega
      have hAh:=fun W=>ahead_any ⟨ed,ek,es,ea⟩ x W
      have hon:=hownz.drew
      go_wp2_with fail
      refine wp_region_held_drew (S:=fun wz=>wz.rangeAt E (k*4) [.int .i64 ed,.int .i64 ek,.int .i64 es,.int .i64 ea]∧wz.rangeAt g (i*4) [.int .i64 x.d,.int .i64 x.k,.int .i64 x.s,.int .i64 x.a]) (by kernel_rfl) ⟨hEr,hrg2⟩ (fun hHeld=>?_)
      refine tka 0 (.int .i64 ((i+1:Nat):Int)) rfl ?_
      simp only [uP]
      refine tka 1 (.bool true) rfl ?_
      simp only [uP]
      refine tka 2 (.bool true) rfl ?_
      simp only [uP]
      refine tka 3 (.slice (some ⟨E,0,none⟩) l.length ecap) rfl ?_
      simp only [uP]
      refine tka 4 (.int .i64 k) rfl ?_
      simp only [uP]
      refine tka 5 (.pointer (some ⟨E,k*4,none⟩)) rfl ?_
      simp only [uP]
      refine wpAnyH_take (i:=6) (v:=.agg #[.int .i64 ed,.int .i64 ek,.int .i64 es,.int .i64 ea]) rfl (by kernel_rfl) (by kernel_rfl) (by kernel_rfl) (fun _ _ _ h=>h) (yieldsIf_load_mid (by rfl) 50 (.tmp 26) rfl _ _ rfl _ _ (fun _ h=>h.1) Tryz.underlying50 rfl (by kernel_rfl)) (by assumption) ?_
      simp only [uP]
      refine tka 7 (.slice (some ⟨g,0,none⟩) (k+1) cap1) rfl ?_
      simp only [uP]
      refine tka 8 (.int .i64 ((i+1:Nat):Int)) rfl ?_
      simp only [uP]
      refine tka 9 (.int .i64 i) rfl ?_
      simp only [uP]
      refine tka 10 (.pointer (some ⟨g,i*4,none⟩)) rfl ?_
      simp only [uP]
      refine wpAnyH_take (i:=11) (v:=.agg #[.int .i64 x.d,.int .i64 x.k,.int .i64 x.s,.int .i64 x.a]) rfl (by kernel_rfl) (by kernel_rfl) (by kernel_rfl) (fun _ _ _ h=>h) (yieldsIf_load_mid (by rfl) 50 (.tmp 31) rfl _ _ rfl _ _ (fun _ h=>h.2) Tryz.underlying50 rfl (by kernel_rfl)) (by assumption) ?_
      simp only [uP]
      refine rdy 12 rfl (fun K hK=>?_)
      go_simp
      refine (hAh _).mono ?_
      rintro e2 w2 ⟨rfl,hb2⟩
      go_wp2_with fail
      have hE2:=range_below hHeld.1 hb2 (Nat.lt_of_lt_of_le hEl hbz.size)
      have hg2:=range_below hHeld.2 hb2 hgz
      refine hK.out _ _ ⟨hE2,hg2⟩ (fun hHeld2=>?_)
      have hon2:=own_below hon hb2 hgz
      have hbz2:=hbz.drew.trans (hb2.mono hbz.size)
      clear hK K hHeld hb2 hAh hon hownz hEr hrg2 hrg3 hfz hgz s0 s1 s2 s3 hbz
      refine tka 13 (.bool (aheadB ⟨ed,ek,es,ea⟩ x)) rfl ?_
      simp only [uP]
      refine wpAnyH_done (by kernel_rfl) ?_ _
      clear hHeld2
      obtain ⟨hrg4,hfz⟩:=own_range hon2 hIl.symm (i+1) h hat
      have s0:w2.cell? ⟨E,k*4,none⟩ = some (.int .i64 ed):=hE2 0 _ rfl
      have s1:w2.cell? ⟨E,k*4+1,none⟩ = some (.int .i64 ek):=hE2 1 _ rfl
      have s2:w2.cell? ⟨E,k*4+2,none⟩ = some (.int .i64 es):=hE2 2 _ rfl
      have s3:w2.cell? ⟨E,k*4+3,none⟩ = some (.int .i64 ea):=hE2 3 _ rfl
      have v0:w2.cell? ⟨g,i*4,none⟩ = some (.int .i64 x.d):=hg2 0 _ rfl
      have v1:w2.cell? ⟨g,i*4+1,none⟩ = some (.int .i64 x.k):=hg2 1 _ rfl
      have v2:w2.cell? ⟨g,i*4+2,none⟩ = some (.int .i64 x.s):=hg2 2 _ rfl
      have v3:w2.cell? ⟨g,i*4+3,none⟩ = some (.int .i64 x.a):=hg2 3 _ rfl
      have t0:w2.cell? ⟨g,(i+1)*4,none⟩ = some (.int .i64 h.d):=hrg4 0 _ rfl
      have t1:w2.cell? ⟨g,(i+1)*4+1,none⟩ = some (.int .i64 h.k):=hrg4 1 _ rfl
      have t2:w2.cell? ⟨g,(i+1)*4+2,none⟩ = some (.int .i64 h.s):=hrg4 2 _ rfl
      have t3:w2.cell? ⟨g,(i+1)*4+3,none⟩ = some (.int .i64 h.a):=hrg4 3 _ rfl
      clear hE2 hg2 hrg4
      cases hab:aheadB ⟨ed,ek,es,ea⟩ x
      ·clear v0 v1 v2 v3
       have hna:¬ So.Ah ⟨ed,ek,es,ea⟩ R[i]:=by rw [hx]; unfold So.Ah; rw [hab]; decide
       have hnew:=own_store4 hon2 (i+1) (by omega) ⟨ed,ek,es,ea⟩
       rw [So.insAt_set h ⟨ed,ek,es,ea⟩ R (i+1) (by omega)] at hnew
       have HNW:=(show Hid _ from hnew)
       have HBZ:Hid (Below w.heap.size w ((((w2.setCell ⟨g,(i+1)*4,none⟩ (.int .i64 ed)).setCell ⟨g,(i+1)*4+1,none⟩ (.int .i64 ek)).setCell ⟨g,(i+1)*4+2,none⟩ (.int .i64 es)).setCell ⟨g,(i+1)*4+3,none⟩ (.int .i64 ea))):=(((hbz2.setCell hgb _).setCell hgb _).setCell hgb _).setCell hgb _
       clear hnew hon2
       go_wp2_with fail
       go_roundw
       case rel=>exact ⟨k+1,So.insAt ⟨ed,ek,es,ea⟩ R (i+1),by omega,by go_num,HNW.out,by rw [HT.out]; exact (So.insAt_perm _ R (i+1)).trans ((hperm.cons _).trans (List.perm_append_singleton _ _).symm),So.ins_sorted ⟨ed,ek,es,ea⟩ R (i+1) (by omega) hsort HX.out (fun a b c=>hahead a b c) (.inr ⟨hi2,hna⟩),HBZ.out⟩
       case measure=>simp [intOf]; omega
      ·clear s0 s1 s2 s3
       have hnew:=own_store4 hon2 (i+1) (by omega) x
       rw [So.insAt_set h x R (i+1) (by omega),hdown] at hnew
       have HNW:=(show Hid _ from hnew)
       have HBZ:Hid (Below w.heap.size w ((((w2.setCell ⟨g,(i+1)*4,none⟩ (.int .i64 x.d)).setCell ⟨g,(i+1)*4+1,none⟩ (.int .i64 x.k)).setCell ⟨g,(i+1)*4+2,none⟩ (.int .i64 x.s)).setCell ⟨g,(i+1)*4+3,none⟩ (.int .i64 x.a))):=(((hbz2.setCell hgb _).setCell hgb _).setCell hgb _).setCell hgb _
       have HAH:Hid (∀ a (ha:a < R.length),i≤a→So.Ah ⟨ed,ek,es,ea⟩ R[a]):=by
        intro a ha hia
        by_cases hai:a = i
        ·subst hai
         rw [hx]
         exact hab
        ·exact hahead a ha (by omega)
       clear hnew hon2
       go_wp2_with fail
       go_roundw
       case rel=>exact ⟨i,x,by omega,by go_num,HNW.out,HAH.out,HBZ.out⟩
       case measure=>simp [intOf]
  ·obtain rfl:k = l.length:=by omega
   clear hlt HE HD
   rw [List.take_length] at hperm
   go_wp2
   go_ret
   exact ⟨_,R,rfl,hown,hperm,hsort,hbel⟩
def wo (q:Int) (l:List Ln.Ev):List Ln.Ev:=l.filter (fun e=>!(e.s == q))
theorem wo_snoc (q:Int) (l:List Ln.Ev) (k:Nat) (hk:k < l.length):wo q (l.take (k+1)) = if l[k].s = q then wo q (l.take k) else wo q (l.take k) ++ [l[k]]:=by
 unfold wo
 rw [List.take_succ_eq_append_getElem hk,List.filter_append]
 by_cases h:l[k].s = q
 ·simp [h]
 ·simp [h]
theorem wo_le (q:Int) (l:List Ln.Ev):(wo q l).length≤l.length:=List.length_filter_le _ _
set_option maxRecDepth 10000 in
set_option maxHeartbeats 4000000 in
theorem refcancel_core (w:World) (B:Nat) (t:Ln.Terms) (g:Ln.St) (day q:Int) (bk:Value) (pa:Option Addr) (ecap E:Nat) (l:List Ln.Ev) (hl:l.length≤40) (hB:At w B (dl t (.slice pa l.length ecap) g day bk)) (hE:l ≠ []→pa = some ⟨E,0,none⟩∧At w E (evs l)) :
  Calls Tryz.prog 59 #[.pointer (some ⟨B,0,none⟩),.int .i64 q] w fun e w' =>
   ((wo q l).length = l.length∧e = .returned (.int .i64 9)∧Below w.heap.size w w') ∨
   (¬ (wo q l).length = l.length∧e = .returned (.int .i64 0)∧∃ v,w'.ownsRow w.heap.size 50 4 v (wo q l).length (evs (wo q l))∧At w' B (dl t v g day bk)∧Keep (fun b=>b = B) w w'):=by
 obtain ⟨i0,hi,hz0,hz1,hz2⟩:=info_parts infoEv
 have hBl:B < w.heap.size:=At.lt (v:=.int .i64 t.st) hB
 have HE:=(show Hid _ from hE)
 have HB:=(show Hid _ from hB)
 clear hE hB
 go_enter Tryz.func59,Tryz.ntmps59
 go_wp2
 go_loopw [5,6] (fun o i wr=>∃ (k:Nat),k≤l.length∧i = .int .i64 k∧wr.ownsRow w.heap.size 50 4 o (wo q (l.take k)).length (evs (wo q (l.take k)))∧Below w.heap.size w wr) (fun _ i _=>l.length - (intOf i).toNat)
 case atStart=>exact ⟨0,by omega,rfl,World.ownsRow_nil _ _ _ _,Below.refl _ _⟩
 case round =>
  obtain ⟨k,hk,rfl,hown,hbel⟩:=hrel
  obtain ⟨p0,cap0,rfl⟩:=own_slice hown
  have hAr:At wr B (dl t (.slice pa l.length ecap) g day bk):=At.keep (S:=fun _=>False) (v:=.int .i64 t.st) HB.out (Keep.below hbel) (fun x=>x)
  have c6:wr.cell? ⟨B,6,none⟩ = some (.slice pa l.length ecap):=hAr.cell 6 rfl
  have hwl:=wo_le q (l.take k)
  rw [List.length_take] at hwl
  by_cases hlt:k < l.length
  ·have hne:l ≠ []:=by intro x; subst x; simp at hlt
   obtain ⟨rfl,hEw⟩:=HE.out hne
   have hEl:E < w.heap.size:=World.block_lt_of_cell? _ _ (hEw.cell _ (evs_at l k hlt).1)
   have hrg:w.rangeAt E (k*4) [.int .i64 l[k].d,.int .i64 l[k].k,.int .i64 l[k].s,.int .i64 l[k].a]:=ev_cells hEw k hlt
   have r0:wr.cell? ⟨E,k*4,none⟩ = some (.int .i64 l[k].d):=(hbel.cell (p:=⟨E,_,none⟩) hEl).trans (hrg 0 _ rfl)
   have r1:wr.cell? ⟨E,k*4+1,none⟩ = some (.int .i64 l[k].k):=(hbel.cell (p:=⟨E,_,none⟩) hEl).trans (hrg 1 _ rfl)
   have r2:wr.cell? ⟨E,k*4+2,none⟩ = some (.int .i64 l[k].s):=(hbel.cell (p:=⟨E,_,none⟩) hEl).trans (hrg 2 _ rfl)
   have r3:wr.cell? ⟨E,k*4+3,none⟩ = some (.int .i64 l[k].a):=(hbel.cell (p:=⟨E,_,none⟩) hEl).trans (hrg 3 _ rfl)
   have HS:=(show Hid _ from wo_snoc q l k hlt)
   clear hrg hEw HE hAr
   generalize l[k] = e at *
   obtain ⟨ed,ek,es,ea⟩:=e
   simp only at r0 r1 r2 r3 HS
   generalize wo q (l.take k) = R at *
   by_cases hq:es = q
   ·have e1:(es != q) = false:=by simp [hq]
    have HS2:Hid (wo q (l.take (k+1)) = R):=by show wo q (l.take (k+1)) = R; rw [HS.out,if_pos hq]
    clear hq HS
    go_wp2_with fail
    go_roundw
    case rel=>exact ⟨k+1,by omega,by go_num,by rw [HS2.out]; exact hown,hbel⟩
    case measure=>simp [intOf]; omega
   ·have e1:(es != q) = true:=by simp [hq]
    have HS2:Hid (wo q (l.take (k+1)) = R ++ [⟨ed,ek,es,ea⟩]):=by show wo q (l.take (k+1)) = _; rw [HS.out,if_neg hq]
    clear hq HS
    go_wp2_with (at_builtin; refine wpList_append_own _ rfl _ _ 42 rfl w.heap.size 50 i0 (.agg #[.int .i64 0,.int .i64 0,.int .i64 0,.int .i64 0]) 4 32 Tryz.underlying42 hi hz0 hz1 hz2 rfl (by decide) _ _ _ rfl (hown.alloc _) ⟨wr.heap.size,0,none⟩ 1 1 [.int .i64 ed,.int .i64 ek,.int .i64 es,.int .i64 ea] rfl rfl ?c1 ?c2 ?c3 ?c4 ?c5 ?_)
    case c1 =>
     intro j u hj
     match j,hj with
     | 0,hj=>simp at hj; subst hj; simp [Addr.add]
     | 1,hj=>simp at hj; subst hj; simp [Addr.add]
     | 2,hj=>simp at hj; subst hj; simp [Addr.add]
     | 3,hj=>simp at hj; subst hj; simp [Addr.add]
     | j+4,hj=>exact absurd hj (by simp)
    case c2=>intro u hu; simp at hu; rcases hu with rfl | rfl | rfl | rfl <;> rfl
    case c3=>unfold maxLen; omega
    case c4=>omega
    case c5=>have:=hbel.size; simp; omega
    ·intro v' w1 hown' hgrow _
     have hb1:Below w.heap.size w w1:=(hbel.alloc hbel.size _).grown hgrow (by simp; exact Nat.le_succ_of_le hbel.size) (fun j hj=>own_from hown hj)
     have hown2:w1.ownsRow w.heap.size 50 4 v' (R ++ [(⟨ed,ek,es,ea⟩:Ln.Ev)]).length (evs (R ++ [(⟨ed,ek,es,ea⟩:Ln.Ev)])):=by
      rw [So.evs_append,List.length_append]
      exact hown'
     clear hown' hgrow hown hbel r0 r1 r2 r3 c6
     go_wp2
     go_roundw
     case rel=>exact ⟨k+1,by omega,by go_num,by rw [HS2.out]; exact hown2,hb1⟩
     case measure=>simp [intOf]; omega
  ·obtain rfl:k = l.length:=by omega
   rw [List.take_length] at *
   have z6:wr.frozen? ⟨B,6,none⟩ = false:=hAr.free 6 rfl
   have hset:At (wr.setCell ⟨B,6,none⟩ (.slice p0 (wo q l).length cap0)) B (dl t (.slice p0 (wo q l).length cap0) g day bk):=hAr.set 6 (show 6 < 16 by decide) _
   have hkp:Keep (fun b=>b = B) w (wr.setCell ⟨B,6,none⟩ (.slice p0 (wo q l).length cap0)):=(Keep.below (S:=fun b=>b = B) hbel).set (S:=fun b=>b = B) rfl 6 _
   have hos:(wr.setCell ⟨B,6,none⟩ (.slice p0 (wo q l).length cap0)).ownsRow w.heap.size 50 4 (.slice p0 (wo q l).length cap0) (wo q l).length (evs (wo q l)):=ownsRow_setCell_below hown hBl _
   have H1:=(show Hid _ from hset)
   have H2:=(show Hid _ from hkp)
   have H3:=(show Hid _ from hos)
   clear hset hkp hos hAr hlt HE
   by_cases hc:(wo q l).length = l.length
   ·have e1:(((wo q l).length:Int) == (l.length:Int)) = true:=by simp [hc]
    have HC:=(show Hid _ from hc)
    clear hc
    go_wp2
    go_ret
    exact .inl ⟨HC.out,rfl,hbel⟩
   ·have e1:(((wo q l).length:Int) == (l.length:Int)) = false:=by simp; omega
    go_wp2
    go_ret
    exact .inr ⟨hc,rfl,_,H3.out,H1.out,H2.out⟩
end Go.Proofs.YtanndhoimpnhpaaGreatDoor
