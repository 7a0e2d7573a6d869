/- Joined by program: PrD, PrG, PrA, PrB, CalC0, PrH, PrI, PrJ0, Dy. -/
import Derived.Test.YtanndhoimpnhpaaGreatDoorM3
import Derived.Laws.EntriesVeiled
import Derived.Lib.Mul64
import Derived.Laws.Bits64b
import Derived.Laws.Externs
namespace Go.Proofs.YtanndhoimpnhpaaGreatDoor
open Go.RowKit
set_option maxRecDepth 10000 in
set_option maxHeartbeats 2000000 in
theorem ppay_any (w:World) (P:Nat) (t:Ln.Terms) (n:Int) (y:Ln.Dy) (h:Pas w P t n y) (hm:Mv w) (hP:¬ P = 1) (hf:Ln.Fit y) (L:Int) (hLm:L≤4100000000000) (hA:Ln.Am y L) (hc:y.g.cr≤4100000000000) (a:Int) (a0:0≤a) (a1:a≤100000000000) :
  Calls Tryz.prog 111 #[.pointer (some ⟨P,0,none⟩),.int .i64 a] w fun e w'=>e = .returned (.tuple #[])∧Pas w' P t n (Ln.pay y a)∧Keep (fun b=>b = P) w w':=by
 go_enter Tryz.func111,Tryz.ntmps111
 go_wp2
 go_loopw [1,8] (fun l i wr=>∃ k:Nat,k≤5∧i = .int .i64 k∧l = .int .i64 (Ln.payK y a k).2∧Pas wr P t n (Ln.payK y a k).1∧Keep (fun b=>b = P) w wr) (fun _ i _=>5 - (intOf i).toNat)
 case atStart=>exact ⟨0,by omega,rfl,rfl,h,Keep.refl _ _⟩
 case round =>
  obtain ⟨k,hk,rfl,rfl,hg,hkeep⟩:=hrel
  have hl:=Ln.payK_left y a hf a0 k
  have hfk:=Ln.payK_fit y a hf a0 k hk
  have hmr:Mv wr:=hm.keep hkeep (fun e=>hP e.symm)
  by_cases hlt:k < 5
  ·have hcan:=Ln.payK_can y a L hLm hf hA a0 a1 k hlt
   have hw0:=Ln.owed_nn hf k
   have hE:=penter_any wr.drew P t n (Ln.payK y a k).1 hg.drew hmr.drew hP hfk (5+k) _ hcan
   have hL:Hid (Ln.least (Ln.owed y.g k) (Ln.payK y a k).2 = if (Ln.payK y a k).2 < Ln.owed y.g k then (Ln.payK y a k).2 else Ln.owed y.g k):=rfl
   have hP1:Hid ((Ln.payK y a (k+1)).1 = Ln.enter (Ln.payK y a k).1 (5+k) (Ln.least (Ln.owed y.g k) (Ln.payK y a k).2)):=rfl
   have hP2:Hid ((Ln.payK y a (k+1)).2 = (Ln.payK y a k).2 - Ln.least (Ln.owed y.g k) (Ln.payK y a k).2):=rfl
   match k,hlt with
   | 0,_ =>
    have hcell:wr.cell? ⟨P,12,none⟩ = some (.int .i64 (Ln.owed y.g 0)):=by
     obtain ⟨c,i,f,hg⟩:=hg
     exact hg.cell 12 rfl
    have hmv:wr.cell? ⟨1,11,none⟩ = some (.int .i64 5):=hmr 11 _ rfl
    have hix:∀ wi:World,Sem.run Tryz.prog (Instr.index 200 (.agg #[.int .i64 5,.int .i64 6,.int .i64 7,.int .i64 8,.int .i64 9]) (.int .i64 0)) wi = .ok (.int .i64 5) wi:=fun _=>by kernel_rfl
    clear hA hf hfk hcan h hg hm hmr
    generalize (Ln.payK y a 0).2 = left at *
    generalize Ln.owed y.g 0 = x at *
    by_cases hx:left≤x
    ·have hq:Hid ((if left < x then left else x) = left):=by show (if left < x then left else x) = left; split <;> omega
     rw [hL.out,hq.out] at hE hP1 hP2
     go_wp2
     go_region
     go_wp2_with fail
     refine hE.mono ?_
     rintro e w1 ⟨rfl,hg1,hk1⟩
     clear hE
     go_wp2
     go_roundw
     case rel=>exact ⟨1,by omega,by go_num,by rw [hP2.out]; simp,by rw [hP1.out]; exact hg1,hkeep.drew.trans hk1⟩
     case measure=>simp [intOf]
    ·have hx':x < left:=by omega
     rw [hL.out,if_neg (by omega)] at hE hP1 hP2
     go_wp2
     go_region
     go_wp2_with fail
     refine hE.mono ?_
     rintro e w1 ⟨rfl,hg1,hk1⟩
     clear hE
     go_wp2
     go_roundw
     case rel=>exact ⟨1,by omega,by go_num,by rw [hP2.out],by rw [hP1.out]; exact hg1,hkeep.drew.trans hk1⟩
     case measure=>simp [intOf]
   | 1,_ =>
    have hcell:wr.cell? ⟨P,11,none⟩ = some (.int .i64 (Ln.owed y.g 1)):=by
     obtain ⟨c,i,f,hg⟩:=hg
     exact hg.cell 11 rfl
    have hmv:wr.cell? ⟨1,13,none⟩ = some (.int .i64 4):=hmr 13 _ rfl
    have hix:∀ wi:World,Sem.run Tryz.prog (Instr.index 200 (.agg #[.int .i64 5,.int .i64 6,.int .i64 7,.int .i64 8,.int .i64 9]) (.int .i64 1)) wi = .ok (.int .i64 6) wi:=fun _=>by kernel_rfl
    clear hA hf hfk hcan h hg hm hmr
    generalize (Ln.payK y a 1).2 = left at *
    generalize Ln.owed y.g 1 = x at *
    by_cases hx:left≤x
    ·have hq:Hid ((if left < x then left else x) = left):=by show (if left < x then left else x) = left; split <;> omega
     rw [hL.out,hq.out] at hE hP1 hP2
     go_wp2
     go_region
     go_wp2_with fail
     refine hE.mono ?_
     rintro e w1 ⟨rfl,hg1,hk1⟩
     clear hE
     go_wp2
     go_roundw
     case rel=>exact ⟨2,by omega,by go_num,by rw [hP2.out]; simp,by rw [hP1.out]; exact hg1,hkeep.drew.trans hk1⟩
     case measure=>simp [intOf]
    ·have hx':x < left:=by omega
     rw [hL.out,if_neg (by omega)] at hE hP1 hP2
     go_wp2
     go_region
     go_wp2_with fail
     refine hE.mono ?_
     rintro e w1 ⟨rfl,hg1,hk1⟩
     clear hE
     go_wp2
     go_roundw
     case rel=>exact ⟨2,by omega,by go_num,by rw [hP2.out],by rw [hP1.out]; exact hg1,hkeep.drew.trans hk1⟩
     case measure=>simp [intOf]
   | 2,_ =>
    have hcell:wr.cell? ⟨P,10,none⟩ = some (.int .i64 (Ln.owed y.g 2)):=by
     obtain ⟨c,i,f,hg⟩:=hg
     exact hg.cell 10 rfl
    have hmv:wr.cell? ⟨1,15,none⟩ = some (.int .i64 3):=hmr 15 _ rfl
    have hix:∀ wi:World,Sem.run Tryz.prog (Instr.index 200 (.agg #[.int .i64 5,.int .i64 6,.int .i64 7,.int .i64 8,.int .i64 9]) (.int .i64 2)) wi = .ok (.int .i64 7) wi:=fun _=>by kernel_rfl
    clear hA hf hfk hcan h hg hm hmr
    generalize (Ln.payK y a 2).2 = left at *
    generalize Ln.owed y.g 2 = x at *
    by_cases hx:left≤x
    ·have hq:Hid ((if left < x then left else x) = left):=by show (if left < x then left else x) = left; split <;> omega
     rw [hL.out,hq.out] at hE hP1 hP2
     go_wp2
     go_region
     go_wp2_with fail
     refine hE.mono ?_
     rintro e w1 ⟨rfl,hg1,hk1⟩
     clear hE
     go_wp2
     go_roundw
     case rel=>exact ⟨3,by omega,by go_num,by rw [hP2.out]; simp,by rw [hP1.out]; exact hg1,hkeep.drew.trans hk1⟩
     case measure=>simp [intOf]
    ·have hx':x < left:=by omega
     rw [hL.out,if_neg (by omega)] at hE hP1 hP2
     go_wp2
     go_region
     go_wp2_with fail
     refine hE.mono ?_
     rintro e w1 ⟨rfl,hg1,hk1⟩
     clear hE
     go_wp2
     go_roundw
     case rel=>exact ⟨3,by omega,by go_num,by rw [hP2.out],by rw [hP1.out]; exact hg1,hkeep.drew.trans hk1⟩
     case measure=>simp [intOf]
   | 3,_ =>
    have hcell:wr.cell? ⟨P,9,none⟩ = some (.int .i64 (Ln.owed y.g 3)):=by
     obtain ⟨c,i,f,hg⟩:=hg
     exact hg.cell 9 rfl
    have hmv:wr.cell? ⟨1,17,none⟩ = some (.int .i64 2):=hmr 17 _ rfl
    have hix:∀ wi:World,Sem.run Tryz.prog (Instr.index 200 (.agg #[.int .i64 5,.int .i64 6,.int .i64 7,.int .i64 8,.int .i64 9]) (.int .i64 3)) wi = .ok (.int .i64 8) wi:=fun _=>by kernel_rfl
    clear hA hf hfk hcan h hg hm hmr
    generalize (Ln.payK y a 3).2 = left at *
    generalize Ln.owed y.g 3 = x at *
    by_cases hx:left≤x
    ·have hq:Hid ((if left < x then left else x) = left):=by show (if left < x then left else x) = left; split <;> omega
     rw [hL.out,hq.out] at hE hP1 hP2
     go_wp2
     go_region
     go_wp2_with fail
     refine hE.mono ?_
     rintro e w1 ⟨rfl,hg1,hk1⟩
     clear hE
     go_wp2
     go_roundw
     case rel=>exact ⟨4,by omega,by go_num,by rw [hP2.out]; simp,by rw [hP1.out]; exact hg1,hkeep.drew.trans hk1⟩
     case measure=>simp [intOf]
    ·have hx':x < left:=by omega
     rw [hL.out,if_neg (by omega)] at hE hP1 hP2
     go_wp2
     go_region
     go_wp2_with fail
     refine hE.mono ?_
     rintro e w1 ⟨rfl,hg1,hk1⟩
     clear hE
     go_wp2
     go_roundw
     case rel=>exact ⟨4,by omega,by go_num,by rw [hP2.out],by rw [hP1.out]; exact hg1,hkeep.drew.trans hk1⟩
     case measure=>simp [intOf]
   | 4,_ =>
    have hcell:wr.cell? ⟨P,8,none⟩ = some (.int .i64 (Ln.owed y.g 4)):=by
     obtain ⟨c,i,f,hg⟩:=hg
     exact hg.cell 8 rfl
    have hmv:wr.cell? ⟨1,19,none⟩ = some (.int .i64 1):=hmr 19 _ rfl
    have hix:∀ wi:World,Sem.run Tryz.prog (Instr.index 200 (.agg #[.int .i64 5,.int .i64 6,.int .i64 7,.int .i64 8,.int .i64 9]) (.int .i64 4)) wi = .ok (.int .i64 9) wi:=fun _=>by kernel_rfl
    clear hA hf hfk hcan h hg hm hmr
    generalize (Ln.payK y a 4).2 = left at *
    generalize Ln.owed y.g 4 = x at *
    by_cases hx:left≤x
    ·have hq:Hid ((if left < x then left else x) = left):=by show (if left < x then left else x) = left; split <;> omega
     rw [hL.out,hq.out] at hE hP1 hP2
     go_wp2
     go_region
     go_wp2_with fail
     refine hE.mono ?_
     rintro e w1 ⟨rfl,hg1,hk1⟩
     clear hE
     go_wp2
     go_roundw
     case rel=>exact ⟨5,by omega,by go_num,by rw [hP2.out]; simp,by rw [hP1.out]; exact hg1,hkeep.drew.trans hk1⟩
     case measure=>simp [intOf]
    ·have hx':x < left:=by omega
     rw [hL.out,if_neg (by omega)] at hE hP1 hP2
     go_wp2
     go_region
     go_wp2_with fail
     refine hE.mono ?_
     rintro e w1 ⟨rfl,hg1,hk1⟩
     clear hE
     go_wp2
     go_roundw
     case rel=>exact ⟨5,by omega,by go_num,by rw [hP2.out],by rw [hP1.out]; exact hg1,hkeep.drew.trans hk1⟩
     case measure=>simp [intOf]
  ·obtain rfl:k = 5:=by omega
   have hE:=penter_any wr P t n (Ln.payK y a 5).1 hg hmr hP hfk 10 _ (Ln.pay_can y a L hLm hf hA hc a0 a1)
   rw [← Ln.pay_eq] at hE
   clear hA hf hfk h hg hc hm hmr
   generalize (Ln.payK y a 5).2 = left at *
   go_wp2_with fail
   refine hE.mono ?_
   rintro e w1 ⟨rfl,hg1,hk1⟩
   clear hE
   go_wp2
   go_end0
   exact ⟨rfl,hg1,hkeep.trans hk1⟩
end Go.Proofs.YtanndhoimpnhpaaGreatDoor
namespace Go.Proofs.YtanndhoimpnhpaaGreatDoor
open Go.RowKit Cal
set_option maxRecDepth 10000 in
set_option maxHeartbeats 1000000 in
theorem draw_any (w:World) (P:Nat) (t:Ln.Terms) (n:Int) (y:Ln.Dy) (h:Pas w P t n y) (hm:Mv w) (hP:¬ P = 1) (hf:Ln.Fit y) (a:Int) (hc:Ln.CanEnter y 1 a) :
  Calls Tryz.prog 107 #[.pointer (some ⟨P,0,none⟩),.int .i64 a] w fun e w'=>e = .returned (.tuple #[])∧Pas w' P t n (Ln.enter y 1 a)∧Keep (fun b=>b = P) w w':=by
 have hE:=penter_any w P t n y h hm hP hf 1 a hc
 clear h hm hf hc
 go_enter Tryz.func107,Tryz.ntmps107
 go_wp2_with fail
 refine hE.mono ?_
 rintro e w1 ⟨rfl,hg1,hk1⟩
 clear hE
 go_wp2
 go_end0
 exact ⟨rfl,hg1,hk1⟩
set_option maxRecDepth 10000 in
set_option maxHeartbeats 1000000 in
theorem capitalise_any (w:World) (P:Nat) (t:Ln.Terms) (n:Int) (y:Ln.Dy) (h:Pas w P t n y) (hm:Mv w) (hP:¬ P = 1) (hf:Ln.Fit y) (a:Int) (hc:Ln.CanEnter y 4 y.g.it) :
  Calls Tryz.prog 110 #[.pointer (some ⟨P,0,none⟩),.int .i64 a] w fun e w'=>e = .returned (.tuple #[])∧Pas w' P t n (Ln.enter y 4 y.g.it)∧Keep (fun b=>b = P) w w':=by
 have hE:=penter_any w P t n y h hm hP hf 4 y.g.it hc
 have c9:w.cell? ⟨P,9,none⟩ = some (.int .i64 y.g.it):=by
  obtain ⟨c,i,f,h⟩:=h
  exact h.cell 9 rfl
 clear h hm hf hc
 go_enter Tryz.func110,Tryz.ntmps110
 go_wp2_with fail
 refine hE.mono ?_
 rintro e w1 ⟨rfl,hg1,hk1⟩
 clear hE
 go_wp2
 go_end0
 exact ⟨rfl,hg1,hk1⟩
set_option maxRecDepth 10000 in
theorem setRate_any (w:World) (P:Nat) (t:Ln.Terms) (n:Int) (y:Ln.Dy) (h:Pas w P t n y) (a:Int) :
  Calls Tryz.prog 108 #[.pointer (some ⟨P,0,none⟩),.int .i64 a] w fun e w'=>e = .returned (.tuple #[])∧Pas w' P t n { y with g:={ y.g with rt:=a } }∧Keep (fun b=>b = P) w w':=by
 obtain ⟨c,i,f,h⟩:=h
 have c16:w.cell? ⟨P,16,none⟩ = some (.int .i64 y.g.rt):=h.cell 16 rfl
 have z16:w.frozen? ⟨P,16,none⟩ = false:=h.free 16 rfl
 have hR:Pas (w.setCell ⟨P,16,none⟩ (.int .i64 a)) P t n { y with g:={ y.g with rt:=a } }:=⟨c,i,f,h.set 16 (show 16 < 33 by decide) (.int .i64 a)⟩
 have hK:Keep (fun b=>b = P) w (w.setCell ⟨P,16,none⟩ (.int .i64 a)):=(Keep.refl _ w).set (S:=fun b=>b = P) rfl 16 _
 clear h
 go_enter Tryz.func108,Tryz.ntmps108
 go_wp2
 go_end0
 exact ⟨rfl,hR,hK⟩
def hol (n:Int) (y:Ln.Dy) (a:Int):Ln.Dy:=if y.g.fr < n+a then { y with g:={ y.g with fr:=n+a } } else y
set_option maxRecDepth 10000 in
theorem beginHoliday_any (w:World) (P:Nat) (t:Ln.Terms) (n:Int) (y:Ln.Dy) (h:Pas w P t n y) (a:Int) (n0:0≤n) (n1:n≤109573) (a0:0≤a) (a1:a≤400) :
  Calls Tryz.prog 109 #[.pointer (some ⟨P,0,none⟩),.int .i64 a] w fun e w'=>e = .returned (.tuple #[])∧Pas w' P t n (hol n y a)∧Keep (fun b=>b = P) w w':=by
 obtain ⟨c,i,f,h⟩:=h
 have c6:w.cell? ⟨P,6,none⟩ = some (.int .i64 n):=h.cell 6 rfl
 have c17:w.cell? ⟨P,17,none⟩ = some (.int .i64 y.g.fr):=h.cell 17 rfl
 have z17:w.frozen? ⟨P,17,none⟩ = false:=h.free 17 rfl
 have hR:∀ v:Int,Pas (w.setCell ⟨P,17,none⟩ (.int .i64 v)).drew P t n { y with g:={ y.g with fr:=v } }:=fun v=>⟨c,i,f,(h.set 17 (show 17 < 33 by decide) (.int .i64 v)).drew⟩
 have hK:∀ v:Int,Keep (fun b=>b = P) w (w.setCell ⟨P,17,none⟩ (.int .i64 v)).drew:=fun v=>((Keep.refl _ w).set (S:=fun b=>b = P) rfl 17 _).drew
 clear h
 by_cases hx:y.g.fr < n+a
 ·have e:hol n y a = { y with g:={ y.g with fr:=n+a } }:=by
   unfold hol
   rw [if_pos hx]
  have hx':¬ n+a≤y.g.fr:=by omega
  rw [e]
  go_enter Tryz.func109,Tryz.ntmps109
  go_wp2
  go_region
  go_wp2
  go_end0
  exact ⟨rfl,hR _,hK _⟩
 ·have e:hol n y a = { y with g:={ y.g with fr:=y.g.fr } }:=by
   unfold hol
   rw [if_neg (by omega)]
  have hx':n+a≤y.g.fr:=by omega
  rw [e]
  go_enter Tryz.func109,Tryz.ntmps109
  go_wp2
  go_region
  go_wp2
  go_end0
  exact ⟨rfl,hR _,hK _⟩
set_option maxRecDepth 10000 in
set_option maxHeartbeats 1000000 in
theorem happen_1 (w:World) (P:Nat) (t:Ln.Terms) (n:Int) (y:Ln.Dy) (d s a:Int)
  (hE:∀ W:World,Keep (fun _=>False) w W→Calls Tryz.prog 107 #[.pointer (some ⟨P,0,none⟩),.int .i64 a] W fun e w'=>e = .returned (.tuple #[])∧Pas w' P t n y∧Keep (fun b=>b = P) W w') :
  Calls Tryz.prog 79 #[.pointer (some ⟨P,0,none⟩),.agg #[.int .i64 d,.int .i64 1,.int .i64 s,.int .i64 a]] w fun e w'=>e = .returned (.tuple #[])∧Pas w' P t n y∧Keep (fun b=>b = P) w w':=by
 have hK:∀ (S:Nat→Prop) (o p:Obj),Keep S w ((w.alloc o).alloc p).drew:=fun S o p=>Keep.below ((((Below.refl _ _).alloc (Nat.le_refl _) o).alloc (by simp) p).drew)
 go_enter Tryz.func79,Tryz.ntmps79
 go_wp2_with fail
 go_region_with ((go_at_call 107; refine (hE _ (hK _ _ _)).mono ?_; rintro e w' ⟨rfl,hg1,hk1⟩))
 all_goals
  go_wp2
  go_end0
  exact ⟨rfl,hg1,(hK _ _ _).trans hk1⟩
set_option maxRecDepth 10000 in
set_option maxHeartbeats 1000000 in
theorem happen_2 (w:World) (P:Nat) (t:Ln.Terms) (n:Int) (y:Ln.Dy) (d s a:Int)
  (hE:∀ W:World,Keep (fun _=>False) w W→Calls Tryz.prog 108 #[.pointer (some ⟨P,0,none⟩),.int .i64 a] W fun e w'=>e = .returned (.tuple #[])∧Pas w' P t n y∧Keep (fun b=>b = P) W w') :
  Calls Tryz.prog 79 #[.pointer (some ⟨P,0,none⟩),.agg #[.int .i64 d,.int .i64 2,.int .i64 s,.int .i64 a]] w fun e w'=>e = .returned (.tuple #[])∧Pas w' P t n y∧Keep (fun b=>b = P) w w':=by
 have hK:∀ (S:Nat→Prop) (o p:Obj),Keep S w ((w.alloc o).alloc p).drew:=fun S o p=>Keep.below ((((Below.refl _ _).alloc (Nat.le_refl _) o).alloc (by simp) p).drew)
 go_enter Tryz.func79,Tryz.ntmps79
 go_wp2_with fail
 go_region_with ((go_at_call 108; refine (hE _ (hK _ _ _)).mono ?_; rintro e w' ⟨rfl,hg1,hk1⟩))
 all_goals
  go_wp2
  go_end0
  exact ⟨rfl,hg1,(hK _ _ _).trans hk1⟩
set_option maxRecDepth 10000 in
set_option maxHeartbeats 1000000 in
theorem happen_3 (w:World) (P:Nat) (t:Ln.Terms) (n:Int) (y:Ln.Dy) (d s a:Int)
  (hE:∀ W:World,Keep (fun _=>False) w W→Calls Tryz.prog 109 #[.pointer (some ⟨P,0,none⟩),.int .i64 a] W fun e w'=>e = .returned (.tuple #[])∧Pas w' P t n y∧Keep (fun b=>b = P) W w') :
  Calls Tryz.prog 79 #[.pointer (some ⟨P,0,none⟩),.agg #[.int .i64 d,.int .i64 3,.int .i64 s,.int .i64 a]] w fun e w'=>e = .returned (.tuple #[])∧Pas w' P t n y∧Keep (fun b=>b = P) w w':=by
 have hK:∀ (S:Nat→Prop) (o p:Obj),Keep S w ((w.alloc o).alloc p).drew:=fun S o p=>Keep.below ((((Below.refl _ _).alloc (Nat.le_refl _) o).alloc (by simp) p).drew)
 go_enter Tryz.func79,Tryz.ntmps79
 go_wp2_with fail
 go_region_with ((go_at_call 109; refine (hE _ (hK _ _ _)).mono ?_; rintro e w' ⟨rfl,hg1,hk1⟩))
 all_goals
  go_wp2
  go_end0
  exact ⟨rfl,hg1,(hK _ _ _).trans hk1⟩
set_option maxRecDepth 10000 in
set_option maxHeartbeats 1000000 in
theorem happen_4 (w:World) (P:Nat) (t:Ln.Terms) (n:Int) (y:Ln.Dy) (d s a:Int)
  (hE:∀ W:World,Keep (fun _=>False) w W→Calls Tryz.prog 110 #[.pointer (some ⟨P,0,none⟩),.int .i64 a] W fun e w'=>e = .returned (.tuple #[])∧Pas w' P t n y∧Keep (fun b=>b = P) W w') :
  Calls Tryz.prog 79 #[.pointer (some ⟨P,0,none⟩),.agg #[.int .i64 d,.int .i64 4,.int .i64 s,.int .i64 a]] w fun e w'=>e = .returned (.tuple #[])∧Pas w' P t n y∧Keep (fun b=>b = P) w w':=by
 have hK:∀ (S:Nat→Prop) (o p:Obj),Keep S w ((w.alloc o).alloc p).drew:=fun S o p=>Keep.below ((((Below.refl _ _).alloc (Nat.le_refl _) o).alloc (by simp) p).drew)
 go_enter Tryz.func79,Tryz.ntmps79
 go_wp2_with fail
 go_region_with ((go_at_call 110; refine (hE _ (hK _ _ _)).mono ?_; rintro e w' ⟨rfl,hg1,hk1⟩))
 all_goals
  go_wp2
  go_end0
  exact ⟨rfl,hg1,(hK _ _ _).trans hk1⟩
set_option maxRecDepth 10000 in
set_option maxHeartbeats 1000000 in
theorem happen_5 (w:World) (P:Nat) (t:Ln.Terms) (n:Int) (y:Ln.Dy) (d s a:Int)
  (hE:∀ W:World,Keep (fun _=>False) w W→Calls Tryz.prog 111 #[.pointer (some ⟨P,0,none⟩),.int .i64 a] W fun e w'=>e = .returned (.tuple #[])∧Pas w' P t n y∧Keep (fun b=>b = P) W w') :
  Calls Tryz.prog 79 #[.pointer (some ⟨P,0,none⟩),.agg #[.int .i64 d,.int .i64 5,.int .i64 s,.int .i64 a]] w fun e w'=>e = .returned (.tuple #[])∧Pas w' P t n y∧Keep (fun b=>b = P) w w':=by
 have hK:∀ (S:Nat→Prop) (o p:Obj),Keep S w ((w.alloc o).alloc p).drew:=fun S o p=>Keep.below ((((Below.refl _ _).alloc (Nat.le_refl _) o).alloc (by simp) p).drew)
 go_enter Tryz.func79,Tryz.ntmps79
 go_wp2_with fail
 go_region_with ((go_at_call 111; refine (hE _ (hK _ _ _)).mono ?_; rintro e w' ⟨rfl,hg1,hk1⟩))
 all_goals
  go_wp2
  go_end0
  exact ⟨rfl,hg1,(hK _ _ _).trans hk1⟩
theorem Ln.event_eq {n:Int} (y:Ln.Dy) (e:Ln.Ev) (h:e.d = n):Ln.event n y e = if e.k = 1 then Ln.enter y 1 e.a else if e.k = 2 then { y with g:={ y.g with rt:=e.a } } else if e.k = 3 then hol n y e.a else if e.k = 4 then Ln.enter y 4 y.g.it else if e.k = 5 then Ln.pay y e.a else y:=by
 unfold Ln.event hol
 simp only [h,ne_eq,not_true,if_false]
theorem happen_any (w:World) (P:Nat) (t:Ln.Terms) (n:Int) (y:Ln.Dy) (h:Pas w P t n y) (hm:Mv w) (hP:¬ P = 1) (n0:0≤n) (n1:n≤109573) (L:Int) (s:Nat) (e:Ln.Ev) (hI:Ln.Inv t L s y.g) (hs:s≤4320) (hL:L+e.a≤4100000000000) (hfn:y.g.fn / Ln.den t≤8000000000000000000) (hA:Ln.Am y L) (he:Ln.OkE t e) (hen:e.d = n) :
  Calls Tryz.prog 79 #[.pointer (some ⟨P,0,none⟩),.agg #[.int .i64 e.d,.int .i64 e.k,.int .i64 e.s,.int .i64 e.a]] w fun x w'=>x = .returned (.tuple #[])∧Pas w' P t n (Ln.event n y e)∧Keep (fun b=>b = P) w w':=by
 have a0:=he.a0
 have a1:=he.a1
 have k0:=he.k0
 have k1:=he.k1
 have hf:Ln.Fit y:=hI.fit hs (by omega) hfn y.am
 have hb:=hI.bound hs (by omega)
 have g1:=hI.pr
 have g2:=hI.it
 have g3:=hI.du
 have g4:=hI.la
 have hp:∀ W:World,Keep (fun _=>False) w W→Pas W P t n y:=fun W k=>h.keep k (fun x=>x)
 have hq:∀ W:World,Keep (fun _=>False) w W→Mv W:=fun W k=>hm.keep k (fun x=>x)
 rw [Ln.event_eq y e hen]
 rcases (show e.k = 1∨e.k = 2∨e.k = 3∨e.k = 4∨e.k = 5 by omega) with hk | hk | hk | hk | hk
 ·rw [hk]
  have hc:Ln.CanEnter y 1 e.a:=⟨a0,hA.nn 1,by have:=hA.a1; omega,by show y.g.pr+e.a≤_; omega⟩
  exact happen_1 w P t n _ e.d e.s e.a (fun W k=>draw_any W P t n y (hp W k) (hq W k) hP hf e.a hc)
 ·rw [hk]
  exact happen_2 w P t n _ e.d e.s e.a (fun W k=>setRate_any W P t n y (hp W k) e.a)
 ·rw [hk]
  exact happen_3 w P t n _ e.d e.s e.a (fun W k=>beginHoliday_any W P t n y (hp W k) e.a n0 n1 a0 (he.ho hk))
 ·rw [hk]
  have hc:Ln.CanEnter y 4 y.g.it:=⟨g2,hA.nn 4,by have:=hA.a4; omega,by show y.g.pr+y.g.it≤_; omega,Int.le_refl _⟩
  exact happen_4 w P t n _ e.d e.s e.a (fun W k=>capitalise_any W P t n y (hp W k) (hq W k) hP hf e.a hc)
 ·rw [hk]
  exact happen_5 w P t n _ e.d e.s e.a (fun W k=>ppay_any W P t n y (hp W k) (hq W k) hP hf L (by omega) hA (by have:=hI.cr1; omega) e.a a0 a1)
end Go.Proofs.YtanndhoimpnhpaaGreatDoor
namespace Go.Proofs.YtanndhoimpnhpaaGreatDoor
open Go.RowKit Go.Lib
namespace Q64
theorem maskN (a:Nat) (ha:a < 18446744073709551616):bits .and .u64 (a:Int) 4294967295 = ((a % 4294967296:Nat):Int):=by
 have h:=bits_and_u64_nat a 4294967295 ha (by omega)
 have e:a &&& 4294967295 = a % 4294967296:=Nat.and_two_pow_sub_one_eq_mod a 32
 rw [e] at h
 exact h
theorem divN (a:Nat):(a:Int) / 4294967296 = ((a / 4294967296:Nat):Int):=by omega
theorem mulN (a b:Nat):(a:Int)*(b:Int) = ((a*b:Nat):Int):=(Int.natCast_mul a b).symm
theorem addN (a b:Nat):(a:Int)+(b:Int) = ((a+b:Nat):Int):=(Int.natCast_add a b).symm
theorem wrapN (a:Nat) (ha:a < 18446744073709551616):IntKind.u64.wrap (a:Int) = (a:Int):=by rw [IntKind.wrap_u64]; omega
theorem wrapM (a:Nat):IntKind.u64.wrap (a:Int) = ((a % 18446744073709551616:Nat):Int):=by rw [IntKind.wrap_u64]; omega
end Q64
set_option maxHeartbeats 1000000 in
theorem mul64_any (x y:Nat) (hx:x < 18446744073709551616) (hy:y < 18446744073709551616) (w:World) :
  Calls Tryz.prog 133 #[.int .u64 x,.int .u64 y] w fun e w'=>e = .returned (.tuple #[.int .u64 ((x*y / 18446744073709551616:Nat):Int),.int .u64 ((x*y % 18446744073709551616:Nat):Int)])∧w' = w:=by
 obtain ⟨bd,bt,bw,hhi⟩:=Lib.mul64_hi x y hx hy
 have ba:=Lib.half_mul_le (a:=x / 4294967296) (b:=y / 4294967296) (by omega) (by omega)
 have bb:=Lib.half_mul_le (a:=x / 4294967296) (b:=y % 4294967296) (by omega) (by omega)
 have bc:=Lib.half_mul_le (a:=x % 4294967296) (b:=y / 4294967296) (by omega) (by omega)
 have ba':x / 4294967296*(y / 4294967296) < 18446744073709551616:=by omega
 have bb':x / 4294967296*(y % 4294967296) < 18446744073709551616:=by omega
 have bc':x % 4294967296*(y / 4294967296) < 18446744073709551616:=by omega
 have bh1:x / 4294967296*(y / 4294967296)+(x / 4294967296*(y % 4294967296)+x % 4294967296*(y % 4294967296) / 4294967296) / 4294967296 < 18446744073709551616:=by omega
 have bh:x / 4294967296*(y / 4294967296)+(x / 4294967296*(y % 4294967296)+x % 4294967296*(y % 4294967296) / 4294967296) / 4294967296+((x / 4294967296*(y % 4294967296)+x % 4294967296*(y % 4294967296) / 4294967296) % 4294967296+x % 4294967296*(y / 4294967296)) / 4294967296 < 18446744073709551616:=by omega
 go_enter Tryz.func133,Tryz.ntmps133
 go_wp2
 simp only [Q64.maskN x hx,Q64.maskN y hy,Q64.divN,Q64.mulN,Q64.addN,Q64.wrapN _ bd,Q64.wrapN _ bb',Q64.wrapN _ bt,Q64.maskN _ bt,Q64.wrapN _ bc',Q64.wrapN _ bw,Q64.wrapN _ ba',Q64.wrapN _ bh1,Q64.wrapN _ bh,Q64.wrapM (x*y)]
 rw [hhi]
 go_ret2
 exact ⟨rfl,rfl⟩
set_option maxRecDepth 20000 in
theorem len64_365 (w:World):Calls Tryz.prog 166 #[.int .u64 365000000] w fun e w'=>e = .returned (.int .i64 29)∧w' = w:=by
 go_enter Tryz.func166,Tryz.ntmps166
 go_wp2
 go_ret
 exact ⟨by kernel_rfl,rfl⟩
set_option maxRecDepth 20000 in
theorem len64_360 (w:World):Calls Tryz.prog 166 #[.int .u64 360000000] w fun e w'=>e = .returned (.int .i64 29)∧w' = w:=by
 go_enter Tryz.func166,Tryz.ntmps166
 go_wp2
 go_ret
 exact ⟨by kernel_rfl,rfl⟩
theorem lz64_365 (w:World):Calls Tryz.prog 146 #[.int .u64 365000000] w fun e w'=>e = .returned (.int .i64 35)∧w' = w:=by
 go_enter Tryz.func146,Tryz.ntmps146
 go_wp2_with (go_at_call 166; refine (len64_365 _).mono ?_; rintro e w' ⟨rfl,rfl⟩)
 go_ret
 exact ⟨rfl,rfl⟩
theorem lz64_360 (w:World):Calls Tryz.prog 146 #[.int .u64 360000000] w fun e w'=>e = .returned (.int .i64 35)∧w' = w:=by
 go_enter Tryz.func146,Tryz.ntmps146
 go_wp2_with (go_at_call 166; refine (len64_360 _).mono ?_; rintro e w' ⟨rfl,rfl⟩)
 go_ret
 exact ⟨rfl,rfl⟩
theorem or35 (hi lo:Int) (h0:0≤hi) (h1:hi < 536870912) (l0:0≤lo) (l1:lo < 18446744073709551616):bits .or .u64 (hi*34359738368) (lo / 536870912) = hi*34359738368+lo / 536870912:=by
 obtain ⟨a,rfl⟩:=Int.eq_ofNat_of_zero_le h0
 obtain ⟨b,rfl⟩:=Int.eq_ofNat_of_zero_le l0
 have e:=bits_or_u64_nat (a*34359738368) (b / 536870912) (by omega) (by omega)
 have e2:a*34359738368 ||| b / 536870912 = a*34359738368+b / 536870912:=by
  have h35:(2:Nat) ^ 35 = 34359738368:=by decide +kernel
  have:=Nat.two_pow_add_eq_or_of_lt (i:=35) (b:=b / 536870912) (by rw [h35]; omega) a
  rw [h35,Nat.mul_comm] at this
  exact this.symm
 rw [e2] at e
 have c1:((a*34359738368:Nat):Int) = (a:Int)*34359738368:=by omega
 have c2:((b / 536870912:Nat):Int) = (b:Int) / 536870912:=by omega
 rw [Int.natCast_add,c1,c2] at e
 exact e
theorem and35 (L:Int) (h0:0≤L) (h1:L < 536870912):bits .and .u64 (L*34359738368) 4294967295 = 0:=by
 obtain ⟨a,rfl⟩:=Int.eq_ofNat_of_zero_le h0
 have e:=Q64.maskN (a*34359738368) (by omega)
 have c1:((a*34359738368:Nat):Int) = (a:Int)*34359738368:=by omega
 rw [c1] at e
 rw [e]
 omega
theorem div64_365_0 (lo:Int) (l0:0≤lo) (l1:lo < 18446744073709551616) (w:World) :
  Calls Tryz.prog 135 #[.int .u64 0,.int .u64 lo,.int .u64 365000000] w fun e w'=>e = .returned (.tuple #[.int .u64 (lo / 365000000),.int .u64 (lo % 365000000)])∧∃ n,w' = w.drewN n:=by
 go_enter Tryz.func135,Tryz.ntmps135
 go_wp2
 go_region
 go_wp2
 go_ret2
 exact ⟨rfl,1,rfl⟩
theorem wr_365 (U L:Int) (L0:0≤L) (L1:L < 536870912) :
  IntKind.u64.wrap (IntKind.u64.wrap (IntKind.u64.wrap (U*4294967296)+L*8) - IntKind.u64.wrap (U / 2920000000*12541304504320000000)) = U % 2920000000*4294967296+L*8:=by
 simp only [IntKind.wrap_u64]
 omega
theorem wq_365 (V:Int) :
  IntKind.u64.wrap (IntKind.u64.wrap (IntKind.u64.wrap (V*4294967296)) - IntKind.u64.wrap (V / 2920000000*12541304504320000000)) = V % 2920000000*4294967296:=by
 simp only [IntKind.wrap_u64]
 omega
theorem fin_365 (hi lo U L V:Int) (eU:U = hi*34359738368+lo / 536870912) (eL:L = lo % 536870912) (eV:V = U % 2920000000*4294967296+L*8) :
  U / 2920000000*4294967296+V / 2920000000 = (hi*18446744073709551616+lo) / 365000000∧V % 2920000000*4294967296 / 34359738368 = (hi*18446744073709551616+lo) % 365000000:=by
 have e8:U*4294967296+L*8 = 8*(hi*18446744073709551616+lo):=by omega
 generalize hi*18446744073709551616+lo = N at *
 have eV':V = 8*N - U / 2920000000*12541304504320000000:=by omega
 omega
set_option maxRecDepth 4000 in
set_option maxHeartbeats 1000000 in
theorem div64_365 (hi lo:Int) (h0:0 < hi) (h1:hi < 365000000) (l0:0≤lo) (l1:lo < 18446744073709551616) (w:World) :
  Calls Tryz.prog 135 #[.int .u64 hi,.int .u64 lo,.int .u64 365000000] w fun e w'=>e = .returned (.tuple #[.int .u64 ((hi*18446744073709551616+lo) / 365000000),.int .u64 ((hi*18446744073709551616+lo) % 365000000)])∧w' = w:=by
 have hA:bits .and .u64 12541304504320000000 4294967295 = 0:=by decide +kernel
 have hO:=or35 hi lo (by omega) (by omega) l0 l1
 have hW:IntKind.u64.wrap (lo*34359738368) = lo % 536870912*34359738368:=by rw [IntKind.wrap_u64]; omega
 have hL:=and35 (lo % 536870912) (by omega) (by omega)
 have hL8:lo % 536870912*34359738368 / 4294967296 = lo % 536870912*8:=by omega
 have HU:Hid (∃ U,U = hi*34359738368+lo / 536870912∧0≤U∧U < 12541304504320000000):=⟨_,rfl,by omega,by omega⟩
 have HL:Hid (∃ L,L = lo % 536870912∧0≤L∧L < 536870912):=⟨_,rfl,by omega,by omega⟩
 obtain ⟨U,eU,U0,U1⟩:=HU.out
 obtain ⟨L,eL,L0,L1⟩:=HL.out
 rw [← eU] at hO
 rw [← eL] at hW hL hL8
 have HV:Hid (∃ V,V = U % 2920000000*4294967296+L*8∧0≤V∧V < 12541304504320000000):=⟨_,rfl,by omega,by omega⟩
 obtain ⟨V,eV,V0,V1⟩:=HV.out
 have hV:=wr_365 U L L0 L1
 rw [← eV] at hV
 have hR:=wq_365 V
 have HF:Hid (U / 2920000000*4294967296+V / 2920000000 = (hi*18446744073709551616+lo) / 365000000∧V % 2920000000*4294967296 / 34359738368 = (hi*18446744073709551616+lo) % 365000000):=fin_365 hi lo U L V eU eL eV
 clear eU eL eV HU HL HV
 have bq:U / 2920000000*4294967296+V / 2920000000 < 18446744073709551616:=by have:=HF.out.1; omega
 go_enter Tryz.func135,Tryz.ntmps135
 go_wp2_with (go_at_call 146; refine (lz64_365 _).mono ?_; rintro e w' ⟨rfl,rfl⟩)
 go_loop [15,16] (fun q r=>q = .int .u64 (U / 2920000000)∧r = .int .u64 (U - U / 2920000000*2920000000)) (fun _ _=>0)
 case atStart=>exact ⟨rfl,rfl⟩
 case round =>
  obtain ⟨rfl,rfl⟩:=hrel
  go_wp2
  go_loop [18,16] (fun q r=>q = .int .u64 (V / 2920000000)∧r = .int .u64 (V - V / 2920000000*2920000000)) (fun _ _=>0)
  case atStart=>exact ⟨rfl,rfl⟩
  case round =>
   obtain ⟨rfl,rfl⟩:=hrel
   go_wp2
   go_ret2
   rw [← HF.out.1,← HF.out.2]
   exact ⟨rfl,rfl⟩
theorem div64_360_0 (lo:Int) (l0:0≤lo) (l1:lo < 18446744073709551616) (w:World) :
  Calls Tryz.prog 135 #[.int .u64 0,.int .u64 lo,.int .u64 360000000] w fun e w'=>e = .returned (.tuple #[.int .u64 (lo / 360000000),.int .u64 (lo % 360000000)])∧∃ n,w' = w.drewN n:=by
 go_enter Tryz.func135,Tryz.ntmps135
 go_wp2
 go_region
 go_wp2
 go_ret2
 exact ⟨rfl,1,rfl⟩
theorem wr_360 (U L:Int) (L0:0≤L) (L1:L < 536870912) :
  IntKind.u64.wrap (IntKind.u64.wrap (IntKind.u64.wrap (U*4294967296)+L*8) - IntKind.u64.wrap (U / 2880000000*12369505812480000000)) = U % 2880000000*4294967296+L*8:=by
 simp only [IntKind.wrap_u64]
 omega
theorem wq_360 (V:Int) :
  IntKind.u64.wrap (IntKind.u64.wrap (IntKind.u64.wrap (V*4294967296)) - IntKind.u64.wrap (V / 2880000000*12369505812480000000)) = V % 2880000000*4294967296:=by
 simp only [IntKind.wrap_u64]
 omega
theorem fin_360 (hi lo U L V:Int) (eU:U = hi*34359738368+lo / 536870912) (eL:L = lo % 536870912) (eV:V = U % 2880000000*4294967296+L*8) :
  U / 2880000000*4294967296+V / 2880000000 = (hi*18446744073709551616+lo) / 360000000∧V % 2880000000*4294967296 / 34359738368 = (hi*18446744073709551616+lo) % 360000000:=by
 have e8:U*4294967296+L*8 = 8*(hi*18446744073709551616+lo):=by omega
 generalize hi*18446744073709551616+lo = N at *
 have eV':V = 8*N - U / 2880000000*12369505812480000000:=by omega
 omega
set_option maxRecDepth 4000 in
set_option maxHeartbeats 1000000 in
theorem div64_360 (hi lo:Int) (h0:0 < hi) (h1:hi < 360000000) (l0:0≤lo) (l1:lo < 18446744073709551616) (w:World) :
  Calls Tryz.prog 135 #[.int .u64 hi,.int .u64 lo,.int .u64 360000000] w fun e w'=>e = .returned (.tuple #[.int .u64 ((hi*18446744073709551616+lo) / 360000000),.int .u64 ((hi*18446744073709551616+lo) % 360000000)])∧w' = w:=by
 have hA:bits .and .u64 12369505812480000000 4294967295 = 0:=by decide +kernel
 have hO:=or35 hi lo (by omega) (by omega) l0 l1
 have hW:IntKind.u64.wrap (lo*34359738368) = lo % 536870912*34359738368:=by rw [IntKind.wrap_u64]; omega
 have hL:=and35 (lo % 536870912) (by omega) (by omega)
 have hL8:lo % 536870912*34359738368 / 4294967296 = lo % 536870912*8:=by omega
 have HU:Hid (∃ U,U = hi*34359738368+lo / 536870912∧0≤U∧U < 12369505812480000000):=⟨_,rfl,by omega,by omega⟩
 have HL:Hid (∃ L,L = lo % 536870912∧0≤L∧L < 536870912):=⟨_,rfl,by omega,by omega⟩
 obtain ⟨U,eU,U0,U1⟩:=HU.out
 obtain ⟨L,eL,L0,L1⟩:=HL.out
 rw [← eU] at hO
 rw [← eL] at hW hL hL8
 have HV:Hid (∃ V,V = U % 2880000000*4294967296+L*8∧0≤V∧V < 12369505812480000000):=⟨_,rfl,by omega,by omega⟩
 obtain ⟨V,eV,V0,V1⟩:=HV.out
 have hV:=wr_360 U L L0 L1
 rw [← eV] at hV
 have hR:=wq_360 V
 have HF:Hid (U / 2880000000*4294967296+V / 2880000000 = (hi*18446744073709551616+lo) / 360000000∧V % 2880000000*4294967296 / 34359738368 = (hi*18446744073709551616+lo) % 360000000):=fin_360 hi lo U L V eU eL eV
 clear eU eL eV HU HL HV
 have bq:U / 2880000000*4294967296+V / 2880000000 < 18446744073709551616:=by have:=HF.out.1; omega
 go_enter Tryz.func135,Tryz.ntmps135
 go_wp2_with (go_at_call 146; refine (lz64_360 _).mono ?_; rintro e w' ⟨rfl,rfl⟩)
 go_loop [15,16] (fun q r=>q = .int .u64 (U / 2880000000)∧r = .int .u64 (U - U / 2880000000*2880000000)) (fun _ _=>0)
 case atStart=>exact ⟨rfl,rfl⟩
 case round =>
  obtain ⟨rfl,rfl⟩:=hrel
  go_wp2
  go_loop [18,16] (fun q r=>q = .int .u64 (V / 2880000000)∧r = .int .u64 (V - V / 2880000000*2880000000)) (fun _ _=>0)
  case atStart=>exact ⟨rfl,rfl⟩
  case round =>
   obtain ⟨rfl,rfl⟩:=hrel
   go_wp2
   go_ret2
   rw [← HF.out.1,← HF.out.2]
   exact ⟨rfl,rfl⟩
end Go.Proofs.YtanndhoimpnhpaaGreatDoor
namespace Go.Proofs.YtanndhoimpnhpaaGreatDoor
open Go.RowKit Go.Lib
theorem add64_0 (x y:Int) (hx:0≤x) (hy:0≤y) (w:World):(callFunc 134 #[.int .u64 x,.int .u64 y,.int .u64 0]).run Tryz.prog w =
  .ok (.value (.tuple #[.int .u64 ((x+y) % 18446744073709551616),.int .u64 ((x+y) / 18446744073709551616)])) w:=by
 rw [run_callFunc_extern Tryz.func134 (by kernel_rfl) (by kernel_rfl) (by kernel_rfl) (e:=add64Entry) (by kernel_rfl),run_add64 x y 0 hx hy (by decide) (by decide)]
 simp only [Result.andThen,Int.add_zero]
theorem mul64_int (x y p:Int) (hx:0≤x) (hx1:x < 18446744073709551616) (hy:0≤y) (hy1:y < 18446744073709551616) (hp:x*y = p) (w:World) :
  Calls Tryz.prog 133 #[.int .u64 x,.int .u64 y] w fun e w'=>e = .returned (.tuple #[.int .u64 (p / 18446744073709551616),.int .u64 (p % 18446744073709551616)])∧w' = w:=by
 obtain ⟨a,rfl⟩:=Int.eq_ofNat_of_zero_le hx
 obtain ⟨b,rfl⟩:=Int.eq_ofNat_of_zero_le hy
 subst hp
 refine (mul64_any a b (by omega) (by omega) w).mono ?_
 rintro e w' ⟨rfl,rfl⟩
 refine ⟨?_,rfl⟩
 rw [← Int.natCast_mul]
 generalize a*b = n
 have e1:((n / 18446744073709551616:Nat):Int) = (n:Int) / 18446744073709551616:=by omega
 have e2:((n % 18446744073709551616:Nat):Int) = (n:Int) % 18446744073709551616:=by omega
 rw [e1,e2]
theorem div64_any (d hi lo N:Int) (hd:d = 365000000∨d = 360000000) (h0:0≤hi) (h1:hi < 360000000) (l0:0≤lo) (l1:lo < 18446744073709551616) (hN:hi*18446744073709551616+lo = N) (w:World) :
  Calls Tryz.prog 135 #[.int .u64 hi,.int .u64 lo,.int .u64 d] w fun e w'=>e = .returned (.tuple #[.int .u64 (N / d),.int .u64 (N % d)])∧∃ n,w' = w.drewN n:=by
 subst hN
 rcases hd with rfl | rfl
 ·by_cases hz:hi = 0
  ·subst hz
   have:=div64_365_0 lo l0 l1 w
   simpa using this
  ·refine (div64_365 hi lo (by omega) (by omega) l0 l1 w).mono ?_
   rintro e w' ⟨rfl,rfl⟩
   exact ⟨rfl,0,rfl⟩
 ·by_cases hz:hi = 0
  ·subst hz
   have:=div64_360_0 lo l0 l1 w
   simpa using this
  ·refine (div64_360 hi lo (by omega) (by omega) l0 l1 w).mono ?_
   rintro e w' ⟨rfl,rfl⟩
   exact ⟨rfl,0,rfl⟩
theorem prod_bd (a r:Int) (a0:0≤a) (a1:a≤4000000000000000000) (r0:0≤r) (r1:r≤3000000):0≤a*r∧a*r≤12000000000000000000000000 :=
 ⟨Int.mul_nonneg a0 r0,Int.le_trans (Int.mul_le_mul a1 r1 r0 (by decide)) (by decide)⟩
set_option maxHeartbeats 1000000 in
theorem perYear_any (a r yr q:Int) (hy:yr = 365∨yr = 360) (a0:0≤a) (a1:a≤4000000000000000000) (r0:0≤r) (r1:r≤3000000) (q0:0≤q) (q1:q < 1000000*yr) (w:World) :
  Calls Tryz.prog 114 #[.int .i64 a,.int .i64 r,.int .i64 yr,.int .u64 q] w fun e w'=>e = .returned (.tuple #[.int .i64 ((q+a*r) / (1000000*yr)),.int .u64 ((q+a*r) % (1000000*yr))])∧∃ n,w' = w.drewN n:=by
 obtain ⟨p0,p1⟩:=prod_bd a r a0 a1 r0 r1
 have hM:=fun w=>mul64_int a r (a*r) a0 (by omega) r0 (by omega) rfl w
 generalize a*r = p at *
 have _hp:=add64_0 (p % 18446744073709551616) q (by omega) q0
 have hd:1000000*yr = 365000000∨1000000*yr = 360000000:=by omega
 have hD:=fun w=>div64_any (1000000*yr) (p / 18446744073709551616+(p % 18446744073709551616+q) / 18446744073709551616) ((p+q) % 18446744073709551616) (q+p) hd (by omega) (by omega) (by omega) (by omega) (by omega) w
 have hq:Hid (0≤(q+p) / (1000000*yr)∧(q+p) / (1000000*yr)≤9000000000000000000):=by
  rcases hy with rfl | rfl <;> exact ⟨by omega,by omega⟩
 obtain ⟨z0,z1⟩:=hq.out
 generalize (q+p) / (1000000*yr) = Z at *
 generalize (q+p) % (1000000*yr) = R at *
 go_enter Tryz.func114,Tryz.ntmps114
 go_wp2_with fail
 refine (hM _).mono ?_
 rintro e w' ⟨rfl,rfl⟩
 go_wp2_with fail
 refine (hD _).mono ?_
 rintro e w1 ⟨rfl,n,rfl⟩
 clear hM hD
 go_wp2
 go_ret2
 exact ⟨rfl,n,rfl⟩
end Go.Proofs.YtanndhoimpnhpaaGreatDoor
namespace Go.Proofs.YtanndhoimpnhpaaGreatDoor
open Go.ChangeShapes Go.WideShapes Go.ChangeAt Go.RowKit Cal
set_option maxHeartbeats 400000 in
theorem thirty_any (n:Int) (w:World) (h0:0≤n) (h1:n≤109573) :
  Calls Tryz.prog 132 #[.int .i64 n] w fun e w'=>∃ t:Int,e = .returned (.int .i64 t)∧IsT n t∧Below w.heap.size w w':=by
 go_enter Tryz.func132,Tryz.ntmps132
 go_wp2_with (go_at_call 145; refine (civilOf_any _ _ h0 h1).mono ?_; rintro e w1 ⟨y,m,d,rfl,hok,hn,hb⟩; obtain ⟨a1,a2,a3,a4,a5,a6⟩:=hok; have db:=dim_bd y m)
 all_goals
  go_ret
  exact ⟨_,rfl,⟨y,m,d,ok_mk a1 a2 a3 a4 a5 a6,hn,by unfold t3 cap; split <;> omega⟩,hb.alloc hb.size _⟩
theorem weight_any (b f t:Int) (w:World) (f0:0≤f) (f1:f≤109573) (t0:0≤t) (t1:t≤109573) :
  Calls Tryz.prog 112 #[.int .i64 b,.int .i64 f,.int .i64 t] w fun e w'=>∃ v:Int,e = .returned (.int .i64 v)∧(b = 3→∃ p q,IsT t p∧IsT f q∧v = p - q)∧(¬ b = 3→v = t - f)∧Below w.heap.size w w':=by
 by_cases hb:b = 3
 ·subst hb
  go_enter Tryz.func112,Tryz.ntmps112
  go_wp2_with (go_at_call 132; refine (thirty_any _ _ (by omega) (by omega)).mono ?_; rintro e w1 ⟨p,rfl,hp,hb⟩; have bp:=hp.bd)
  go_ret
  rename_i w0 p0 hp0 hb0 bp0
  exact ⟨_,rfl,fun _=>⟨p0,p,hp0,hp,rfl⟩,fun h=>by simp at h,hb0.trans (hb.mono hb0.size)⟩
 ·go_enter Tryz.func112,Tryz.ntmps112
  go_wp2
  go_ret
  exact ⟨_,rfl,fun h=>absurd h hb,fun _=>rfl,Below.refl _ _⟩
end Go.Proofs.YtanndhoimpnhpaaGreatDoor
namespace Go.Proofs.YtanndhoimpnhpaaGreatDoor
open Go.RowKit Cal
theorem year_any (t:Ln.Terms) (w:World) :
  Calls Tryz.prog 113 #[.int .i64 t.ba] w fun e w'=>e = .returned (.int .i64 (Ln.year t))∧w' = w:=by
 unfold Ln.year
 by_cases hb:t.ba = 1
 ·rw [if_pos hb]
  go_enter Tryz.func113,Tryz.ntmps113
  go_wp2
  go_ret
  exact ⟨rfl,rfl⟩
 ·rw [if_neg hb]
  go_enter Tryz.func113,Tryz.ntmps113
  go_wp2
  go_ret
  exact ⟨rfl,rfl⟩
theorem weight_day (b n:Int) (w:World) (n0:0≤n) (n1:n≤109572) :
  Calls Tryz.prog 112 #[.int .i64 b,.int .i64 n,.int .i64 (n+1)] w fun e w'=>e = .returned (.int .i64 (wtOf b n))∧Below w.heap.size w w':=by
 refine (weight_any b n (n+1) w n0 (by omega) (by omega) (by omega)).mono ?_
 rintro e w' ⟨v,rfl,h3,h1,hb⟩
 refine ⟨?_,hb⟩
 by_cases e3:b = 3
 ·obtain ⟨p,q,hp,hq,rfl⟩:=h3 e3
  rw [e3,wtOf_three n0 n1 hp hq]
 ·rw [h1 e3,wtOf_one n e3,show n+1 - n = 1 by omega]
theorem keep1 {w W W':World} {P:Nat} {a b:Value} (hb:Below W.heap.size W W')
  (h:W.cell? ⟨P,4,none⟩ = some a∧W.cell? ⟨P,6,none⟩ = some b∧Below w.heap.size w W) :
  W'.cell? ⟨P,4,none⟩ = some a∧W'.cell? ⟨P,6,none⟩ = some b∧Below w.heap.size w W':=by
 obtain ⟨h1,h2,h4⟩:=h
 have hl:=World.block_lt_of_cell? _ _ h1
 exact ⟨(hb.cell (p:=⟨P,4,none⟩) hl).trans h1,(hb.cell (p:=⟨P,6,none⟩) hl).trans h2,h4.trans (hb.mono h4.size)⟩
set_option maxRecDepth 10000 in
set_option maxHeartbeats 2000000 in
theorem pend_core (w:World) (P:Nat) (ba n wt yr pr rt q1 la fi q2 e1 r1 e2 r2:Int) (n0:0≤n) (n1:n≤109572)
  (c3:w.cell? ⟨P,3,none⟩ = some (.int .i64 fi)) (c4:w.cell? ⟨P,4,none⟩ = some (.int .i64 ba)) (c6:w.cell? ⟨P,6,none⟩ = some (.int .i64 n)) (c8:w.cell? ⟨P,8,none⟩ = some (.int .i64 pr)) (c11:w.cell? ⟨P,11,none⟩ = some (.int .i64 la)) (c16:w.cell? ⟨P,16,none⟩ = some (.int .i64 rt))
  (c18:w.cell? ⟨P,18,none⟩ = some (.int .u64 q1)) (z18:w.frozen? ⟨P,18,none⟩ = false) (c19:w.cell? ⟨P,19,none⟩ = some (.int .u64 q2)) (z19:w.frozen? ⟨P,19,none⟩ = false)
  (rw0:0≤rt*wt) (rw1:rt*wt≤3000000) (fw0:0≤fi*wt) (fw1:fi*wt≤3000000)
  (hW:∀ W:World,Calls Tryz.prog 112 #[.int .i64 ba,.int .i64 n,.int .i64 (n+1)] W fun e w'=>e = .returned (.int .i64 wt)∧Below W.heap.size W w')
  (hY:∀ W:World,Calls Tryz.prog 113 #[.int .i64 ba] W fun e w'=>e = .returned (.int .i64 yr)∧w' = W)
  (hP1:∀ W:World,Calls Tryz.prog 114 #[.int .i64 pr,.int .i64 (rt*wt),.int .i64 yr,.int .u64 q1] W fun e w'=>e = .returned (.tuple #[.int .i64 e1,.int .u64 r1])∧∃ n,w' = W.drewN n)
  (hP2:∀ W:World,Calls Tryz.prog 114 #[.int .i64 la,.int .i64 (fi*wt),.int .i64 yr,.int .u64 q2] W fun e w'=>e = .returned (.tuple #[.int .i64 e2,.int .u64 r2])∧∃ n,w' = W.drewN n)
  (Fin:World→Prop) (hF:∀ (W:World) (k1:Nat) (V:World) (k2:Nat),Below w.heap.size w W→V = (W.drewN k1).setCell ⟨P,18,none⟩ (.int .u64 r1)→Calls Tryz.prog 105 #[.pointer (some ⟨P,0,none⟩),.int .i64 11,.int .i64 e1] ((V.drewN k2).setCell ⟨P,19,none⟩ (.int .u64 r2)) fun e w1=>e = .returned (.tuple #[])∧Calls Tryz.prog 105 #[.pointer (some ⟨P,0,none⟩),.int .i64 12,.int .i64 e2] w1 fun e w2=>e = .returned (.tuple #[])∧Fin w2) :
  Calls Tryz.prog 80 #[.pointer (some ⟨P,0,none⟩)] w fun e w'=>e = .returned (.tuple #[])∧Fin w':=by
 have hB0:Below w.heap.size w w.drew:=(Below.refl _ _).drew
 have hwn:IntKind.i64.wrap (n+1) = n+1:=by rw [IntKind.wrap_i64]; omega
 have hwr:IntKind.i64.wrap (rt*wt) = rt*wt:=by rw [IntKind.wrap_i64]; omega
 have hwf:IntKind.i64.wrap (fi*wt) = fi*wt:=by rw [IntKind.wrap_i64]; omega
 go_enter Tryz.func80,Tryz.ntmps80
 go_wp2_with fail
 refine wp_region_held_drew (S:=fun w'=>w'.cell? ⟨P,4,none⟩ = some (.int .i64 ba)∧w'.cell? ⟨P,6,none⟩ = some (.int .i64 n)∧Below w.heap.size w w') (by kernel_rfl) ⟨c4,c6,hB0⟩ (fun hHeld=>?_)
 refine tka 0 (.pointer (some ⟨P,0,none⟩)) rfl ?_
 simp only [uP]
 refine tka 1 (.pointer (some ⟨P,0,none⟩)) rfl ?_
 simp only [uP]
 refine tka 2 (.pointer (some ⟨P,0,none⟩)) rfl ?_
 simp only [uP]
 refine tka 3 (.pointer (some ⟨P,4,none⟩)) rfl ?_
 simp only [uP]
 refine tka 4 (.int .i64 ba) rfl ?_
 simp only [uP]
 refine tka 5 (.pointer (some ⟨P,0,none⟩)) rfl ?_
 simp only [uP]
 refine tka 6 (.pointer (some ⟨P,0,none⟩)) rfl ?_
 simp only [uP]
 refine tka 7 (.pointer (some ⟨P,6,none⟩)) rfl ?_
 simp only [uP]
 refine tka 8 (.int .i64 n) rfl ?_
 simp only [uP]
 refine tka 9 (.pointer (some ⟨P,0,none⟩)) rfl ?_
 simp only [uP]
 refine tka 10 (.pointer (some ⟨P,0,none⟩)) rfl ?_
 simp only [uP]
 refine tka 11 (.pointer (some ⟨P,6,none⟩)) rfl ?_
 simp only [uP]
 refine tka 12 (.int .i64 n) rfl ?_
 simp only [uP]
 refine tka 13 (.int .i64 (n+1)) rfl ?_
 simp only [uP]
 refine rdy 14 rfl (fun K hK=>?_)
 go_simp
 refine (hW _).mono ?_
 rintro e w' ⟨rfl,hb'⟩
 go_wp2_with fail
 refine hK.out _ _ (keep1 hb' hHeld) (fun hHeld2=>?_)
 clear hK K hHeld hb'
 refine tka 15 (.int .i64 wt) rfl ?_
 simp only [uP]
 refine wpAnyH_done (by kernel_rfl) ?_ _
 have hbw:=hHeld2.2.2
 have hl:=World.block_lt_of_cell? _ _ c4
 have d3:=(hbw.cell (p:=⟨P,3,none⟩) hl).trans c3
 have d4:=(hbw.cell (p:=⟨P,4,none⟩) hl).trans c4
 have d8:=(hbw.cell (p:=⟨P,8,none⟩) hl).trans c8
 have d11:=(hbw.cell (p:=⟨P,11,none⟩) hl).trans c11
 have d16:=(hbw.cell (p:=⟨P,16,none⟩) hl).trans c16
 have d18:=(hbw.cell (p:=⟨P,18,none⟩) hl).trans c18
 have d19:=(hbw.cell (p:=⟨P,19,none⟩) hl).trans c19
 have y18:=(hbw.frozen (p:=⟨P,18,none⟩) hl).trans z18
 have y19:=(hbw.frozen (p:=⟨P,19,none⟩) hl).trans z19
 have hF2:=fun k1 V k2 h=>hF w' k1 V k2 hbw h
 clear hF hHeld2 c3 c4 c6 c8 c11 c16 c18 c19 z18 z19 hB0 hW
 go_wp2_with fail
 refine (hY _).mono ?_
 rintro e w2 ⟨rfl,rfl⟩
 clear hY
 go_wp2_with fail
 refine wp_region_held_drew (S:=fun wx=>wx.cell? ⟨P,8,none⟩ = some (.int .i64 pr)∧wx.cell? ⟨P,16,none⟩ = some (.int .i64 rt)∧wx.cell? ⟨P,18,none⟩ = some (.int .u64 q1)∧∃ k,wx = w2.drewN k) (by kernel_rfl) ⟨d8,d16,d18,1,rfl⟩ (fun hHeld=>?_)
 refine tka 0 (.pointer (some ⟨P,7,none⟩)) rfl ?_
 simp only [uP]
 refine tka 1 (.pointer (some ⟨P,7,none⟩)) rfl ?_
 simp only [uP]
 refine tka 2 (.pointer (some ⟨P,7,none⟩)) rfl ?_
 simp only [uP]
 refine tka 3 (.pointer (some ⟨P,8,none⟩)) rfl ?_
 simp only [uP]
 refine tka 4 (.int .i64 pr) rfl ?_
 simp only [uP]
 refine tka 5 (.pointer (some ⟨P,7,none⟩)) rfl ?_
 simp only [uP]
 refine tka 6 (.pointer (some ⟨P,7,none⟩)) rfl ?_
 simp only [uP]
 refine tka 7 (.pointer (some ⟨P,16,none⟩)) rfl ?_
 simp only [uP]
 refine tka 8 (.int .i64 rt) rfl ?_
 simp only [uP]
 refine tka 9 (.int .i64 wt) rfl ?_
 simp only [uP]
 refine tka 10 (.int .i64 (rt*wt)) rfl ?_
 simp only [uP]
 refine tka 11 (.int .i64 yr) rfl ?_
 simp only [uP]
 refine tka 12 (.pointer (some ⟨P,7,none⟩)) rfl ?_
 simp only [uP]
 refine tka 13 (.pointer (some ⟨P,7,none⟩)) rfl ?_
 simp only [uP]
 refine tka 14 (.pointer (some ⟨P,18,none⟩)) rfl ?_
 simp only [uP]
 refine tka 15 (.int .u64 q1) rfl ?_
 simp only [uP]
 refine rdy 16 rfl (fun K hK=>?_)
 go_simp
 refine (hP1 _).mono ?_
 rintro e w3 ⟨rfl,k1,rfl⟩
 go_wp2_with fail
 refine hK.out _ _ ⟨d8,d16,d18,1+k1,rfl⟩ (fun hHeld2=>?_)
 clear hK K hHeld
 refine tka 17 (.tuple #[.int .i64 e1,.int .u64 r1]) rfl ?_
 simp only [uP]
 refine tka 18 (.int .i64 e1) rfl ?_
 simp only [uP]
 refine tka 19 (.int .u64 r1) rfl ?_
 simp only [uP]
 refine tka 20 (.int .i64 e1) rfl ?_
 simp only [uP]
 refine tka 21 (.int .u64 r1) rfl ?_
 simp only [uP]
 refine wpAnyH_done (by kernel_rfl) ?_ _
 clear hHeld2 hP1
 go_wp2_with fail
 have v3:((w2.drewN (1+k1)).setCell ⟨P,18,none⟩ (.int .u64 r1)).cell? ⟨P,3,none⟩ = some (.int .i64 fi):=by rw [World.cell?_setCell_other _ _ _ _ (by simp)]; exact d3
 have v11:((w2.drewN (1+k1)).setCell ⟨P,18,none⟩ (.int .u64 r1)).cell? ⟨P,11,none⟩ = some (.int .i64 la):=by rw [World.cell?_setCell_other _ _ _ _ (by simp)]; exact d11
 have v19:((w2.drewN (1+k1)).setCell ⟨P,18,none⟩ (.int .u64 r1)).cell? ⟨P,19,none⟩ = some (.int .u64 q2):=by rw [World.cell?_setCell_other _ _ _ _ (by simp)]; exact d19
 have u19:((w2.drewN (1+k1)).setCell ⟨P,18,none⟩ (.int .u64 r1)).frozen? ⟨P,19,none⟩ = false:=by rw [World.frozen?_setCell]; exact y19
 have hF3:=fun k2=>hF2 (1+k1) _ k2 rfl
 clear hF2 d3 d4 d8 d11 d16 d18 d19 y18 y19 hbw
 generalize (w2.drewN (1+k1)).setCell ⟨P,18,none⟩ (.int .u64 r1) = V at *
 refine wp_region_held_drew (S:=fun wx=>wx.cell? ⟨P,11,none⟩ = some (.int .i64 la)∧wx.cell? ⟨P,3,none⟩ = some (.int .i64 fi)∧wx.cell? ⟨P,19,none⟩ = some (.int .u64 q2)∧∃ k,wx = V.drewN k) (by kernel_rfl) ⟨v11,v3,v19,1,rfl⟩ (fun hHeld=>?_)
 refine tka 0 (.pointer (some ⟨P,7,none⟩)) rfl ?_
 simp only [uP]
 refine tka 1 (.pointer (some ⟨P,7,none⟩)) rfl ?_
 simp only [uP]
 refine tka 2 (.pointer (some ⟨P,7,none⟩)) rfl ?_
 simp only [uP]
 refine tka 3 (.pointer (some ⟨P,11,none⟩)) rfl ?_
 simp only [uP]
 refine tka 4 (.int .i64 la) rfl ?_
 simp only [uP]
 refine tka 5 (.pointer (some ⟨P,0,none⟩)) rfl ?_
 simp only [uP]
 refine tka 6 (.pointer (some ⟨P,0,none⟩)) rfl ?_
 simp only [uP]
 refine tka 7 (.pointer (some ⟨P,0,none⟩)) rfl ?_
 simp only [uP]
 refine tka 8 (.pointer (some ⟨P,3,none⟩)) rfl ?_
 simp only [uP]
 refine tka 9 (.int .i64 fi) rfl ?_
 simp only [uP]
 refine tka 10 (.int .i64 wt) rfl ?_
 simp only [uP]
 refine tka 11 (.int .i64 (fi*wt)) rfl ?_
 simp only [uP]
 refine tka 12 (.int .i64 yr) rfl ?_
 simp only [uP]
 refine tka 13 (.pointer (some ⟨P,7,none⟩)) rfl ?_
 simp only [uP]
 refine tka 14 (.pointer (some ⟨P,7,none⟩)) rfl ?_
 simp only [uP]
 refine tka 15 (.pointer (some ⟨P,19,none⟩)) rfl ?_
 simp only [uP]
 refine tka 16 (.int .u64 q2) rfl ?_
 simp only [uP]
 refine rdy 17 rfl (fun K hK=>?_)
 go_simp
 refine (hP2 _).mono ?_
 rintro e w3 ⟨rfl,k2,rfl⟩
 go_wp2_with fail
 refine hK.out _ _ ⟨v11,v3,v19,1+k2,rfl⟩ (fun hHeld2=>?_)
 clear hK K hHeld
 refine tka 18 (.tuple #[.int .i64 e2,.int .u64 r2]) rfl ?_
 simp only [uP]
 refine tka 19 (.int .i64 e2) rfl ?_
 simp only [uP]
 refine tka 20 (.int .u64 r2) rfl ?_
 simp only [uP]
 refine tka 21 (.int .i64 e2) rfl ?_
 simp only [uP]
 refine tka 22 (.int .u64 r2) rfl ?_
 simp only [uP]
 refine wpAnyH_done (by kernel_rfl) ?_ _
 clear hHeld2 hP2
 go_wp2_with fail
 refine (hF3 _).mono ?_
 rintro e w4 ⟨rfl,h4⟩
 clear hF3
 go_wp2_with fail
 refine h4.mono ?_
 rintro e w5 ⟨rfl,h5⟩
 clear h4
 go_wp2
 go_end0
 exact ⟨rfl,h5⟩
namespace Ln
theorem quo_more (d x y:Int) (hd:0 < d):(x % d+y) / d = (x+y) / d - x / d:=by
 have h:=Int.mul_ediv_add_emod x d
 have e:x+y = (x % d+y)+x / d*d:=by rw [Int.mul_comm (x / d) d]; omega
 rw [e,Int.add_mul_ediv_right _ _ (by omega)]
 omega
theorem rem_more (d x y:Int):(x % d+y) % d = (x+y) % d:=by
 rw [Int.add_emod,Int.emod_emod_of_dvd x (Int.dvd_refl d),← Int.add_emod]
def sums (t:Terms) (w:Int) (y:Dy):Dy:=⟨{ y.g with ea:=y.g.ea+y.g.pr*(y.g.rt*w),fn:=y.g.fn+y.g.la*(t.fi*w) },y.am⟩
theorem late_eq (t:Terms) (w:Int) (y:Dy):late t w y = enter (enter (sums t w y) 11 ((y.g.ea % den t+y.g.pr*(y.g.rt*w)) / den t)) 12 ((y.g.fn % den t+y.g.la*(t.fi*w)) / den t):=by
 have hd:=den_bd t
 rw [quo_more _ _ _ (by omega),quo_more _ _ _ (by omega)]
 unfold late sums
 simp only [part_den]
theorem Fit.of_g {y z:Dy} (h:Fit y) (a:z.g.pr = y.g.pr) (b:z.g.it = y.g.it) (c:z.g.du = y.g.du) (d:z.g.la = y.g.la) (e:z.g.fi = y.g.fi) (f:z.g.cr = y.g.cr):Fit z:=by
 obtain ⟨h1,h2,h3,h4,h5,h6,h7,h8,h9,h10,h11,h12⟩:=h
 exact ⟨by omega,by omega,by omega,by omega,by omega,by omega,by omega,by omega,by omega,by omega,by omega,by omega⟩
theorem Inv.late_can {t:Terms} {L:Int} {s:Nat} {y:Dy} (h:Inv t L s y.g) (ht:OkT t) (w:Nat) (hw:w≤3) (hs:s+w≤4320) (hL:L≤4100000000000) (hfn:(y.g.fn+y.g.la*(t.fi*w)) / den t≤8000000000000000000) (hA:Am y L) :
  CanEnter (sums t w y) 11 ((y.g.ea % den t+y.g.pr*(y.g.rt*w)) / den t)∧Fit (sums t w y) ∧
  CanEnter (enter (sums t w y) 11 ((y.g.ea % den t+y.g.pr*(y.g.rt*w)) / den t)) 12 ((y.g.fn % den t+y.g.la*(t.fi*w)) / den t)∧Fit (enter (sums t w y) 11 ((y.g.ea % den t+y.g.pr*(y.g.rt*w)) / den t)):=by
 have hd:=den_bd t
 have hI:=h.late ht w hw
 have hb:=hI.bound hs hL
 have hw0:(0:Int)≤w:=by omega
 have m2:0≤y.g.la*(t.fi*w):=Int.mul_nonneg h.la (Int.mul_nonneg ht.fi0 hw0)
 have q2:y.g.fn / den t≤(y.g.fn+y.g.la*(t.fi*w)) / den t:=Int.ediv_le_ediv (by omega) (by omega)
 have hf:=h.fit (by omega) hL (by omega) y.am
 have m1:0≤y.g.pr*(y.g.rt*w):=Int.mul_nonneg h.pr (Int.mul_nonneg h.rt0 hw0)
 have e1:0≤(y.g.ea % den t+y.g.pr*(y.g.rt*w)) / den t:=Int.ediv_nonneg (by have:=Int.emod_nonneg y.g.ea (show den t ≠ 0 by omega); omega) (by omega)
 have e2:0≤(y.g.fn % den t+y.g.la*(t.fi*w)) / den t:=Int.ediv_nonneg (by have:=Int.emod_nonneg y.g.fn (show den t ≠ 0 by omega); omega) (by omega)
 have e2':y.g.fi+(y.g.fn % den t+y.g.la*(t.fi*w)) / den t≤8000000000000000000:=by
  rw [quo_more _ _ _ (by omega)]
  have:=h.fi1
  omega
 rw [late_eq] at hI hb
 have i1:=hI.pr
 have i2:=hI.du
 have i3:=hI.la
 generalize (y.g.ea % den t+y.g.pr*(y.g.rt*w)) / den t = a at *
 generalize (y.g.fn % den t+y.g.la*(t.fi*w)) / den t = b at *
 have hb':y.g.pr+(y.g.it+a)+y.g.du+y.g.la≤656820000000000000:=hb
 have g1:=h.pr
 have g2:=h.it
 have g3:=h.du
 have g4:=h.la
 have f1:Fit (sums t w y):=hf.of_g rfl rfl rfl rfl rfl rfl
 refine ⟨⟨e1,hA.nn 11,?_,?_⟩,f1,⟨e2,?_,?_,?_⟩,?_⟩
 ·show y.am 11+a≤_
  have:=hA.a11
  omega
 ·show y.g.it+a≤_
  omega
 ·show 0≤upd y.am 11 a 12
  rw [upd_ne _ _ _ _ (by decide)]
  exact hA.nn 12
 ·show upd y.am 11 a 12+b≤_
  rw [upd_ne _ _ _ _ (by decide),hA.a12]
  have:=h.fi
  omega
 ·show y.g.fi+b≤_
  omega
 ·exact ⟨f1.pr0,f1.pr1,by show 0≤y.g.it+a; omega,by show y.g.it+a≤_; omega,f1.du0,f1.du1,f1.la0,f1.la1,f1.fi0,f1.fi1,f1.cr0,f1.cr1⟩
end Ln
theorem At.drewN {w:World} {b:Nat} {l:List Value} (h:At w b l) (n:Nat):At (w.drewN n) b l:=h.block rfl
theorem Keep.drewN {S:Nat→Prop} {a w:World} (h:Keep S a w) (n:Nat):Keep S a (w.drewN n):=⟨h.os,h.tape,h.output,h.size,h.block⟩
set_option maxRecDepth 10000 in
theorem pend_any (w:World) (P:Nat) (t:Ln.Terms) (n:Int) (y:Ln.Dy) (h:Pas w P t n y) (hm:Mv w) (hP:¬ P = 1) (n0:0≤n) (n1:n≤109572) (L:Int) (s:Nat) (hI:Ln.Inv t L s y.g) (wt:Nat) (hwt:wtOf t.ba n = wt) (hw3:wt≤3) (hs:s+wt≤4320) (hL:L≤4100000000000)
  (hfn:(y.g.fn+y.g.la*(t.fi*wt)) / Ln.den t≤8000000000000000000) (ht:Ln.OkT t) (hA:Ln.Am y L) :
  Calls Tryz.prog 80 #[.pointer (some ⟨P,0,none⟩)] w fun e w'=>e = .returned (.tuple #[])∧Pas w' P t n (Ln.late t wt y)∧Keep (fun b=>b = P) w w':=by
 obtain ⟨k11,f1,k12,f2⟩:=hI.late_can ht wt hw3 hs hL hfn hA
 have hd:=Ln.den_bd t
 have hY:Ln.year t = 365∨Ln.year t = 360:=by unfold Ln.year; split <;> simp
 have hb:=hI.bound (by omega) hL
 have g1:=hI.pr
 have g2:=hI.it
 have g3:=hI.du
 have g4:=hI.la
 have hw0:(0:Int)≤wt:=by omega
 have hw3':(wt:Int)≤3:=by omega
 have rw0:0≤y.g.rt*wt:=Int.mul_nonneg hI.rt0 hw0
 have rw1:y.g.rt*wt≤1000000*3:=Int.mul_le_mul hI.rt1 hw3' hw0 (by decide)
 have fw0:0≤t.fi*wt:=Int.mul_nonneg ht.fi0 hw0
 have fw1:t.fi*wt≤1000000*3:=Int.mul_le_mul ht.fi1 hw3' hw0 (by decide)
 have qa:0≤y.g.ea % Ln.den t∧y.g.ea % Ln.den t < 1000000*Ln.year t:=⟨Int.emod_nonneg _ (by omega),Int.emod_lt_of_pos _ (by omega)⟩
 have qb:0≤y.g.fn % Ln.den t∧y.g.fn % Ln.den t < 1000000*Ln.year t:=⟨Int.emod_nonneg _ (by omega),Int.emod_lt_of_pos _ (by omega)⟩
 obtain ⟨c,i,f,hA0⟩:=id h
 have hlt:=h.lt
 rw [Ln.late_eq]
 refine pend_core w P t.ba n wt (Ln.year t) y.g.pr y.g.rt (y.g.ea % Ln.den t) y.g.la t.fi (y.g.fn % Ln.den t)
  ((y.g.ea % Ln.den t+y.g.pr*(y.g.rt*wt)) / Ln.den t) ((y.g.ea % Ln.den t+y.g.pr*(y.g.rt*wt)) % Ln.den t)
  ((y.g.fn % Ln.den t+y.g.la*(t.fi*wt)) / Ln.den t) ((y.g.fn % Ln.den t+y.g.la*(t.fi*wt)) % Ln.den t) n0 n1
  (hA0.cell 3 rfl) (hA0.cell 4 rfl) (hA0.cell 6 rfl) (hA0.cell 8 rfl) (hA0.cell 11 rfl) (hA0.cell 16 rfl) (hA0.cell 18 rfl) (hA0.free 18 rfl) (hA0.cell 19 rfl) (hA0.free 19 rfl)
  rw0 rw1 fw0 fw1 (fun W=>by rw [← hwt]; exact weight_day t.ba n W n0 n1) (fun W=>year_any t W)
  (fun W=>perYear_any _ _ _ _ hY g1 (by omega) rw0 rw1 qa.1 qa.2 W) (fun W=>perYear_any _ _ _ _ hY g4 (by omega) fw0 fw1 qb.1 qb.2 W) _ ?_
 intro W k1 V k2 hbW hV
 have hkW:Keep (fun b=>b = P) w W:=Keep.below hbW
 have hAW:At W P (pl t n y c i f):=At.keep (S:=fun _=>False) (v:=.int .i64 t.st) hA0 (Keep.below hbW) (fun x=>x)
 rw [Ln.rem_more]
 rw [Ln.rem_more] at hV
 subst hV
 have hR:=((((hAW.drewN k1).set 18 (show 18 < 33 by decide) (.int .u64 ((y.g.ea+y.g.pr*(y.g.rt*wt)) % Ln.den t))).drewN k2).set 19 (show 19 < 33 by decide) (.int .u64 ((y.g.fn+y.g.la*(t.fi*wt)) % Ln.den t)))
 have kR:Keep (fun b=>b = P) w ((((W.drewN k1).setCell ⟨P,18,none⟩ (.int .u64 ((y.g.ea+y.g.pr*(y.g.rt*wt)) % Ln.den t))).drewN k2).setCell ⟨P,19,none⟩ (.int .u64 ((y.g.fn+y.g.la*(t.fi*wt)) % Ln.den t))) :=
  ((((hkW.drewN k1).set (S:=fun b=>b = P) rfl 18 _).drewN k2).set rfl 19 _)
 refine (penter_any _ P t n (Ln.sums t wt y) ⟨c,i,f,hR⟩ (hm.keep kR (fun e=>hP e.symm)) hP f1 11 _ k11).mono ?_
 rintro e w1 ⟨rfl,p1,kk1⟩
 refine ⟨rfl,?_⟩
 have k1':=kR.trans kk1
 refine (penter_any w1 P t n _ p1 (hm.keep k1' (fun e=>hP e.symm)) hP f2 12 _ k12).mono ?_
 rintro e w2 ⟨rfl,p2,kk2⟩
 exact ⟨rfl,p2,k1'.trans kk2⟩
end Go.Proofs.YtanndhoimpnhpaaGreatDoor
namespace Go.Proofs.YtanndhoimpnhpaaGreatDoor
open Go.RowKit Cal
def stV (t:Ln.Terms) (g:Ln.St) (c i f:Int):Value :=
 .agg #[.int .i64 c,.int .i64 g.pr,.int .i64 g.it,.int .i64 g.du,.int .i64 g.la,.int .i64 g.fi,.int .i64 (-g.cr),.int .i64 i,.int .i64 f,.int .i64 g.rt,.int .i64 g.fr,.int .u64 (g.ea % Ln.den t),.int .u64 (g.fn % Ln.den t)]
def tmV (t:Ln.Terms):Value:=.agg #[.int .i64 t.st,.int .i64 t.pr,.int .i64 t.rt,.int .i64 t.fi,.int .i64 t.ba,.int .i64 t.du]
def amV (am:Nat→Int):Value:=.agg #[.int .i64 (am 0),.int .i64 (am 1),.int .i64 (am 2),.int .i64 (am 3),.int .i64 (am 4),.int .i64 (am 5),.int .i64 (am 6),.int .i64 (am 7),.int .i64 (am 8),.int .i64 (am 9),.int .i64 (am 10),.int .i64 (am 11),.int .i64 (am 12)]
end Go.Proofs.YtanndhoimpnhpaaGreatDoor
namespace Go.Proofs.YtanndhoimpnhpaaGreatDoor.Ln
theorem event_fn (n:Int) (y:Dy) (e:Ev):(event n y e).g.fn = y.g.fn:=by
 unfold event
 (repeat' split) <;> rfl
theorem events_fn (n:Int):∀ (l:List Ev) (y:Dy),(l.foldl (event n) y).g.fn = y.g.fn
 | [],_=>rfl
 | e :: r,y=>(events_fn n r (event n y e)).trans (event_fn n y e)
theorem early_fn (t:Terms) (n cd:Int) (g:St):(early t n cd g).g.fn = g.fn:=by
 unfold early
 by_cases h:n = t.st
 ·simp only [h,ne_eq,not_true,false_and,if_false,if_true]
  rfl
 ·simp only [h,ne_eq,not_false_eq_true,true_and,if_false]
  split <;> rfl
theorem lent_nn {t:Terms} (n:Int) (e:Ev) (he:OkE t e):0≤lent n e:=by
 unfold lent
 have:=he.a0
 split <;> omega
theorem lents_nn {t:Terms} (n:Int):∀ l:List Ev,(∀ e∈l,OkE t e)→0≤lents n l
 | [],_=>Int.le_refl _
 | e :: r,h=>by
  have h1:=lent_nn n e (h e (by simp))
  have h2:=lents_nn n r (fun x hx=>h x (by simp [hx]))
  show 0≤lent n e+lents n r
  omega
theorem lents_append (n:Int):∀ l m:List Ev,lents n (l ++ m) = lents n l+lents n m
 | [],m=>by simp [lents]
 | e :: r,m=>by
  have:=lents_append n r m
  show lent n e+lents n (r ++ m) = lent n e+lents n r+lents n m
  omega
theorem Am.events {t:Terms} (n:Int):∀ (l:List Ev) {y:Dy} {L:Int} {s:Nat},Am y L→Inv t L s y.g→s≤4320→y.g.fn / den t≤8000000000000000000→L+lents n l≤4100000000000→(∀ e∈l,OkE t e)→Am (l.foldl (Ln.event n) y) (L+lents n l)
 | [],y,L,s,h,_,_,_,_,_=>by
  show Am y (L+0)
  rw [Int.add_zero]
  exact h
 | e :: r,y,L,s,h,hI,hs,hf,hL,hl=>by
  have he:=hl e (by simp)
  have h1:=lent_nn n e he
  have h2:=lents_nn n r (fun x hx=>hl x (by simp [hx]))
  have hL':L+(lent n e+lents n r)≤4100000000000:=hL
  have hfit:=hI.fit hs (by omega) hf y.am
  have a1:=h.event hfit n e he
  have a2:=Am.events n r a1 (Inv.event hI n e he) hs (by rw [event_fn]; exact hf) (by omega) (fun x hx=>hl x (by simp [hx]))
  have e3:L+lent n e+lents n r = L+lents n (e :: r):=by show _ = L+(lent n e+lents n r); omega
  rw [e3] at a2
  exact a2
theorem Am.early {t:Terms} {n L:Int} {s:Nat} {g:St} (hI:Inv t L s g) (hs:s≤4320) (hL:L+(if n = t.st then t.pr else 0)≤4100000000000) (ht:OkT t) (cd:Int):Am (Ln.early t n cd g) (L+(if n = t.st then t.pr else 0)):=by
 have hp:=ht.pr0
 have hL0:=hI.L0
 have hb:=hI.bound hs (by split at hL <;> omega)
 have g1:=hI.pr
 have g2:=hI.it
 have g3:=hI.du
 have g4:=hI.la
 have z:Am ⟨g,fun _=>0⟩ L:=Am.zero g L hL0 (by omega)
 unfold Ln.early
 by_cases h:n = t.st
 ·simp only [h,ne_eq,not_true,false_and,if_false,if_true]
  exact z.lend t.pr hp
 ·simp only [h,ne_eq,not_false_eq_true,true_and,if_false,Int.add_zero]
  split
  ·refine ⟨fun j=>?_,?_,?_,?_,?_,fun j j5 j10=>?_,?_,?_⟩
   ·show 0≤upd (upd (fun _=>0) 2 g.du) 3 g.it j
    unfold upd
    dsimp only
    (repeat' split) <;> omega
   ·show (0:Int)≤L
    exact hL0
   ·show 0+g.du≤_
    omega
   ·show 0+g.it≤_
    omega
   ·show 0+(g.it - g.it)≤_
    omega
   ·show upd (upd (fun _=>0) 2 g.du) 3 g.it j≤L
    rw [upd_ne _ _ _ _ (by omega),upd_ne _ _ _ _ (by omega)]
    exact hL0
   ·rfl
   ·rfl
  ·exact z
end Go.Proofs.YtanndhoimpnhpaaGreatDoor.Ln
