/- Joined by program: PrJ, PrL, PrM, LnG, LnO, TxJ, TxN, TxT, Ow, Isv, TxC. -/
import Derived.Test.YtanndhoimpnhpaaGreatDoorM4
import Derived.Lib.Split
import Derived.Lib.AtoiAllCases
import Derived.Deep.AppendLies
namespace Go.Proofs.YtanndhoimpnhpaaGreatDoor
open Go.RowKit Cal
def tml (t:Ln.Terms):List Value:=[.int .i64 t.st,.int .i64 t.pr,.int .i64 t.rt,.int .i64 t.fi,.int .i64 t.ba,.int .i64 t.du]
def stl (t:Ln.Terms) (g:Ln.St) (c i f:Int):List Value :=
 [.int .i64 c,.int .i64 g.pr,.int .i64 g.it,.int .i64 g.du,.int .i64 g.la,.int .i64 g.fi,.int .i64 (-g.cr),.int .i64 i,.int .i64 f,.int .i64 g.rt,.int .i64 g.fr,.int .u64 (g.ea % Ln.den t),.int .u64 (g.fn % Ln.den t)]
def aml (am:Nat→Int):List Value:=[.int .i64 (am 0),.int .i64 (am 1),.int .i64 (am 2),.int .i64 (am 3),.int .i64 (am 4),.int .i64 (am 5),.int .i64 (am 6),.int .i64 (am 7),.int .i64 (am 8),.int .i64 (am 9),.int .i64 (am 10),.int .i64 (am 11),.int .i64 (am 12)]
def zst:List Value:=[.int .i64 0,.int .i64 0,.int .i64 0,.int .i64 0,.int .i64 0,.int .i64 0,.int .i64 0,.int .i64 0,.int .i64 0,.int .i64 0,.int .i64 0,.int .u64 0,.int .u64 0]
def zam:List Value:=[.int .i64 0,.int .i64 0,.int .i64 0,.int .i64 0,.int .i64 0,.int .i64 0,.int .i64 0,.int .i64 0,.int .i64 0,.int .i64 0,.int .i64 0,.int .i64 0,.int .i64 0]
structure PassAt (w W:World) (t:Ln.Terms) (g:Ln.St) (c i f:Int):Prop where
 size:W.heap.size = w.heap.size+1+1+1+1
 st:At W w.heap.size (stl t g c i f)
 tm:At W (w.heap.size+1) (tml t)
 rs:At W (w.heap.size+1+1) zst
 ra:At W (w.heap.size+1+1+1) zam
 below:Below w.heap.size w W
theorem passAt (w:World) (t:Ln.Terms) (g:Ln.St) (c i f:Int) (T1 T2 T3 T4:TypeId) :
  PassAt w ((((w.alloc (.cells (stl t g c i f).toArray T1)).alloc (.cells (tml t).toArray T2)).alloc (.cells zst.toArray T3)).alloc (.cells zam.toArray T4)) t g c i f:=by
 refine ⟨by simp,?_,?_,?_,?_,?_⟩
 ·exact At.over (At.over (At.over (At.allocs w _ _ rfl) _) _) _
 ·exact At.over (At.over (At.allocs _ _ _ (by simp)) _) _
 ·exact At.over (At.allocs _ _ _ (by simp)) _
 ·exact At.allocs _ _ _ (by simp)
 ·exact ((((Below.refl _ _).alloc (Nat.le_refl _) _).alloc (by simp) _).alloc (by simp; omega) _).alloc (by simp; omega) _
theorem foldl_take (n:Int) (y:Ln.Dy) (l:List Ln.Ev) (k:Nat) (hk:k < l.length):(l.take (k+1)).foldl (Ln.event n) y = Ln.event n ((l.take k).foldl (Ln.event n) y) l[k]:=by
 rw [List.take_succ_eq_append_getElem hk,List.foldl_append]
 rfl
theorem stl_mid (t:Ln.Terms) (n:Int) (y:Ln.Dy) (c i f:Int):∀ j v,(stl t y.g c i f)[j]? = some v→(pl t n y c i f)[7+j]? = some v:=by
 intro j v h
 match j,h with
 | 0,h=>exact h
 | 1,h=>exact h
 | 2,h=>exact h
 | 3,h=>exact h
 | 4,h=>exact h
 | 5,h=>exact h
 | 6,h=>exact h
 | 7,h=>exact h
 | 8,h=>exact h
 | 9,h=>exact h
 | 10,h=>exact h
 | 11,h=>exact h
 | 12,h=>exact h
 | j+13,h=>exact absurd h (by simp [stl])
theorem aml_mid (t:Ln.Terms) (n:Int) (y:Ln.Dy) (c i f:Int):∀ j v,(aml y.am)[j]? = some v→(pl t n y c i f)[20+j]? = some v:=by
 intro j v h
 match j,h with
 | 0,h=>exact h
 | 1,h=>exact h
 | 2,h=>exact h
 | 3,h=>exact h
 | 4,h=>exact h
 | 5,h=>exact h
 | 6,h=>exact h
 | 7,h=>exact h
 | 8,h=>exact h
 | 9,h=>exact h
 | 10,h=>exact h
 | 11,h=>exact h
 | 12,h=>exact h
 | j+13,h=>exact absurd h (by simp [aml])
set_option maxRecDepth 10000 in
set_option maxHeartbeats 600000 in
theorem pass_core (w:World) (t:Ln.Terms) (n:Int) (g:Ln.St) (c i f:Int) (l:List Ln.Ev) (p:Option Addr) (cap:Nat) (y0 yf:Ln.Dy)
  (hev:∀ k (hk:k < l.length),∃ E o,p = some ⟨E,o,none⟩∧E < w.heap.size∧w.cell? ⟨E,o+k*4,none⟩ = some (.int .i64 l[k].d)∧w.cell? ⟨E,o+k*4+1,none⟩ = some (.int .i64 l[k].k)∧w.cell? ⟨E,o+k*4+2,none⟩ = some (.int .i64 l[k].s)∧w.cell? ⟨E,o+k*4+3,none⟩ = some (.int .i64 l[k].a))
  (hll:l.length≤1000000)
  (hB:∀ (W:World) (P:Nat),Keep (fun _=>False) w W→w.heap.size≤P→Pas W P t n ⟨g,fun _=>0⟩→Calls Tryz.prog 78 #[.pointer (some ⟨P,0,none⟩)] W fun e w'=>e = .returned (.tuple #[])∧Pas w' P t n y0∧Keep (fun b=>b = P) W w')
  (hH:∀ (W:World) (P:Nat) (k:Nat) (hk:k < l.length),Keep (fun b=>w.heap.size≤b) w W→w.heap.size≤P→Pas W P t n ((l.take k).foldl (Ln.event n) y0)→Calls Tryz.prog 79 #[.pointer (some ⟨P,0,none⟩),.agg #[.int .i64 l[k].d,.int .i64 l[k].k,.int .i64 l[k].s,.int .i64 l[k].a]] W fun e w'=>e = .returned (.tuple #[])∧Pas w' P t n ((l.take (k+1)).foldl (Ln.event n) y0)∧Keep (fun b=>b = P) W w')
  (hE:∀ (W:World) (P:Nat),Keep (fun b=>w.heap.size≤b) w W→w.heap.size≤P→Pas W P t n (l.foldl (Ln.event n) y0)→Calls Tryz.prog 80 #[.pointer (some ⟨P,0,none⟩)] W fun e w'=>e = .returned (.tuple #[])∧Pas w' P t n yf∧Keep (fun b=>b = P) W w') :
  Calls Tryz.prog 39 #[stV t g c i f,tmV t,.int .i64 n,.slice p l.length cap] w fun e w'=>(∃ c' i' f',e = .returned (.tuple #[stV t yf.g c' i' f',amV yf.am]))∧Below w.heap.size w w':=by
 unfold stV tmV
 go_enter Tryz.func39,Tryz.ntmps39
 go_upto_region 1 with fail
 refine (fun (key:∀ W:World,PassAt w W t g c i f→Code.wp Tryz.prog _ _ _ W)=>key _ (passAt w t g c i f _ _ _ _)) ?_
 intro W hW
 have hrt:W.rangeAt (w.heap.size+1) 0 (tml t):=hW.tm.range
 have hrs:W.rangeAt w.heap.size 0 (stl t g c i f):=hW.st.range
 refine wp_region_lit ?_
 refine wpList_load_mid rfl 23 (.tmp 5) rfl _ 0 rfl (tml t) _ hrt Tryz.underlying23 rfl (by kernel_rfl) ?_
 simp only [uP]
 refine wpList_val (.int .i64 n) W rfl rfl ?_
 simp only [uP]
 refine wpList_load_mid rfl 92 (.tmp 4) rfl _ 0 rfl (stl t g c i f) _ hrs Tryz.underlying92 rfl (by kernel_rfl) ?_
 simp only [uP]
 refine wpList_val (.agg (pl t n ⟨g,fun _=>0⟩ c i f).toArray) W rfl (by kernel_rfl) ?_
 simp only [uP]
 refine wpList_val (.pointer (some ⟨W.heap.size,0,none⟩)) (W.alloc (.cells (pl ⟨0,0,0,0,0,0⟩ 0 ⟨⟨0,0,0,0,0,0,0,0,0,0⟩,fun _=>0⟩ 0 0 0).toArray 144)) rfl (by kernel_rfl) ?_
 simp only [uP]
 refine wpList_store_new rfl 144 (.tmp 10) (.tmp 16) rfl _ _ rfl rfl (by kernel_rfl) rfl (by kernel_rfl) ?_
 simp only [uP]
 refine wpList_nil ?_
 have hp0:Pas (W.alloc (.cells (pl t n ⟨g,fun _=>0⟩ c i f).toArray 144)) W.heap.size t n ⟨g,fun _=>0⟩:=⟨c,i,f,At.alloc W _ _⟩
 have hPsz:w.heap.size+4 = W.heap.size:=by have:=hW.size; omega
 have kW:∀ S:Nat→Prop,Keep S w (W.alloc (.cells (pl t n ⟨g,fun _=>0⟩ c i f).toArray 144)):=fun S=>Keep.below (hW.below.alloc (by omega) _)
 have r0:At (W.alloc (.cells (pl t n ⟨g,fun _=>0⟩ c i f).toArray 144)) (w.heap.size+1+1) zst:=At.over hW.rs _
 have r1:At (W.alloc (.cells (pl t n ⟨g,fun _=>0⟩ c i f).toArray 144)) (w.heap.size+1+1+1) zam:=At.over hW.ra _
 generalize hV:W.alloc (.cells (pl t n ⟨g,fun _=>0⟩ c i f).toArray 144) = V at *
 generalize hPd:W.heap.size = P at *
 clear hV hW hrt hrs
 have hPw:w.heap.size≤P:=by omega
 go_wp2_with fail
 refine (hB V P (kW _) hPw hp0).mono ?_
 rintro e w1 ⟨rfl,hp1,k1⟩
 clear hB hp0
 have kk1:Keep (fun b=>w.heap.size≤b) w w1:=(kW _).trans (k1.mono (fun b _ h=>by rw [h]; exact hPw))
 have s0:At w1 (w.heap.size+1+1) zst:=r0.keep k1 (by omega)
 have s1:At w1 (w.heap.size+1+1+1) zam:=r1.keep k1 (by omega)
 clear r0 r1 k1 kW
 go_wp2
 go_loopw [20] (fun i wr=>∃ k:Nat,k≤l.length∧i = .int .i64 k∧Pas wr P t n ((l.take k).foldl (Ln.event n) y0)∧Keep (fun b=>w.heap.size≤b) w wr∧At wr (w.heap.size+1+1) zst∧At wr (w.heap.size+1+1+1) zam) (fun i _=>l.length - (intOf i).toNat)
 case atStart=>exact ⟨0,Nat.zero_le _,rfl,hp1,kk1,s0,s1⟩
 case round =>
  obtain ⟨k,hk,rfl,hpk,hkk,t0,t1⟩:=hrel
  clear hp1 kk1 s0 s1
  have kA:∀ (S:Nat→Prop) (ob:Obj),Keep S wr (wr.alloc ob):=fun S ob=>Keep.below ((Below.refl _ _).alloc (Nat.le_refl _) ob)
  by_cases hlt:k < l.length
  ·obtain ⟨E,o,rfl,hEw,e0,e1,e2,e3⟩:=hev k hlt
   have hbl:=hkk.block E hEw (by omega)
   have d0:wr.cell? ⟨E,o+k*4,none⟩ = some (.int .i64 l[k].d):=(World.cell?_of_block (w:=w) (a:=⟨E,_,none⟩) hbl).trans e0
   have d1:wr.cell? ⟨E,o+k*4+1,none⟩ = some (.int .i64 l[k].k):=(World.cell?_of_block (w:=w) (a:=⟨E,_,none⟩) hbl).trans e1
   have d2:wr.cell? ⟨E,o+k*4+2,none⟩ = some (.int .i64 l[k].s):=(World.cell?_of_block (w:=w) (a:=⟨E,_,none⟩) hbl).trans e2
   have d3:wr.cell? ⟨E,o+k*4+3,none⟩ = some (.int .i64 l[k].a):=(World.cell?_of_block (w:=w) (a:=⟨E,_,none⟩) hbl).trans e3
   have hC:=fun ob=>hH (wr.alloc ob) P k hlt (hkk.trans (kA _ ob)) hPw (hpk.keep (kA (fun _=>False) ob) (fun x=>x))
   clear hH hE hev e0 e1 e2 e3 hbl hpk
   go_wp2_with fail
   refine (hC _).mono ?_
   rintro e w2 ⟨rfl,hp2,k2⟩
   clear hC
   have k2':=(kA (fun b=>b = P) _).trans k2
   have kk2:=hkk.trans (k2'.mono (T:=fun b=>w.heap.size≤b) (fun b _ h=>by rw [h]; exact hPw))
   have t0':=t0.keep k2' (by omega)
   have t1':=t1.keep k2' (by omega)
   go_wp2
   go_roundw
   case rel=>exact ⟨k+1,by omega,by go_num,hp2,kk2,t0',t1'⟩
   case measure=>simp [intOf]; omega
  ·have hkl:k = l.length:=by omega
   subst hkl
   rw [List.take_length] at hpk
   have hC:=hE wr P hkk hPw hpk
   clear hH hE hev hpk
   go_wp2_with fail
   refine hC.mono ?_
   rintro e w2 ⟨rfl,hp2,k2⟩
   clear hC kA
   have kk2:=hkk.trans (k2.mono (T:=fun b=>w.heap.size≤b) (fun b _ h=>by rw [h]; exact hPw))
   have t0':=t0.keep k2 (by omega)
   have t1':=t1.keep k2 (by omega)
   clear t0 t1 hkk k2
   go_wp2_with fail
   obtain ⟨c',i',f',hA⟩:=hp2
   have m1:w2.rangeAt P 7 (stl t yf.g c' i' f'):=hA.mid 7 _ (stl_mid t n yf c' i' f')
   have m2:w2.rangeAt P 20 (aml yf.am):=hA.mid 20 _ (aml_mid t n yf c' i' f')
   have T0:w2.drew.there (w.heap.size+1+1) 0 13:=t0'.drew.there 13 rfl
   refine wp_region_held_drew (S:=fun wx=>wx.rangeAt P 7 (stl t yf.g c' i' f')∧wx.rangeAt P 20 (aml yf.am)) (by kernel_rfl) ⟨m1,m2⟩ (fun hHeld=>?_)
   refine tka 0 (.pointer (some ⟨P,7,none⟩)) rfl ?_
   simp only [uP]
   refine wpAnyH_take (i:=1) (v:=.agg (stl t yf.g c' i' f').toArray) rfl (by kernel_rfl) (by kernel_rfl) (by kernel_rfl) (fun _ _ _ h=>h) (yieldsIf_load_mid (by rfl) 92 (.tmp 28) rfl _ _ rfl _ _ (fun _ h=>h.1) Tryz.underlying92 rfl (by kernel_rfl)) (by assumption) ?_
   simp only [uP]
   refine tka 2 (.pointer (some ⟨P,20,none⟩)) rfl ?_
   simp only [uP]
   refine wpAnyH_take (i:=3) (v:=.agg (aml yf.am).toArray) rfl (by kernel_rfl) (by kernel_rfl) (by kernel_rfl) (fun _ _ _ h=>h) (yieldsIf_load_mid (by rfl) 96 (.tmp 30) rfl _ _ rfl _ _ (fun _ h=>h.2) Tryz.underlying96 rfl (by kernel_rfl)) (by assumption) ?_
   simp only [uP]
   refine rdy 4 rfl (fun K hK=>?_)
   rw [if_pos (by rfl)]
   refine wp_store_mid 92 (.tmp 8) (.tmp 29) rfl _ 0 _ rfl rfl T0 (by kernel_rfl) (by kernel_rfl) ?_
   rw [List.toList_toArray]
   refine hK.out _ _ ⟨World.rangeAt_setCells_apart hHeld.1 _ _ _ (by omega),World.rangeAt_setCells_apart hHeld.2 _ _ _ (by omega)⟩ (fun hHeld2=>?_)
   clear hK K
   have a0:At (w2.drew.setCells (w.heap.size+1+1) 0 (stl t yf.g c' i' f')) (w.heap.size+1+1) (stl t yf.g c' i' f'):=t0'.drew.setCells_same rfl
   have a1:At (w2.drew.setCells (w.heap.size+1+1) 0 (stl t yf.g c' i' f')) (w.heap.size+1+1+1) zam:=t1'.drew.apart (by omega) _ _
   have a2:Keep (fun b=>w.heap.size≤b) w (w2.drew.setCells (w.heap.size+1+1) 0 (stl t yf.g c' i' f')):=Keep.setCells (S:=fun b=>w.heap.size≤b) (show w.heap.size≤w.heap.size+1+1 by omega) _ _ _ kk2.drew
   generalize w2.drew.setCells (w.heap.size+1+1) 0 (stl t yf.g c' i' f') = V2 at *
   simp only [uP]
   refine rdy 5 rfl (fun K hK=>?_)
   rw [if_pos (by rfl)]
   refine wp_store_mid 96 (.tmp 9) (.tmp 31) rfl _ 0 _ rfl rfl (a1.there 13 rfl) (by kernel_rfl) (by kernel_rfl) ?_
   rw [List.toList_toArray]
   refine hK.out _ _ ⟨World.rangeAt_setCells_apart hHeld2.1 _ _ _ (by omega),World.rangeAt_setCells_apart hHeld2.2 _ _ _ (by omega)⟩ (fun hHeld3=>?_)
   clear hK K
   have b0:At (V2.setCells (w.heap.size+1+1+1) 0 (aml yf.am)) (w.heap.size+1+1) (stl t yf.g c' i' f'):=a0.apart (by omega) _ _
   have b1:At (V2.setCells (w.heap.size+1+1+1) 0 (aml yf.am)) (w.heap.size+1+1+1) (aml yf.am):=a1.setCells_same rfl
   have b2:Keep (fun b=>w.heap.size≤b) w (V2.setCells (w.heap.size+1+1+1) 0 (aml yf.am)):=Keep.setCells (S:=fun b=>w.heap.size≤b) (show w.heap.size≤w.heap.size+1+1+1 by omega) _ _ _ a2
   generalize V2.setCells (w.heap.size+1+1+1) 0 (aml yf.am) = V3 at *
   simp only [uP]
   refine wpAnyH_done (by kernel_rfl) ?_ _
   go_wp2
   exact bodyPost_ret (v:=.tuple #[stV t yf.g c' i' f',amV yf.am]) (results_two Tryz.results39 _ _ _ _ _ _ _ _ rfl rfl b0.range b1.range Tryz.underlying92 Tryz.underlying96 rfl rfl (by kernel_rfl) (by kernel_rfl)) rfl ⟨⟨c',i',f',rfl⟩,b2.os,b2.tape,b2.output,b2.size,fun k hk=>b2.block k hk (by omega)⟩
def blV (g:Ln.St) (day:Int):Value:=.agg #[.int .i64 g.pr,.int .i64 g.it,.int .i64 g.du,.int .i64 g.la,.int .i64 g.fi,.int .i64 g.cr,.int .i64 g.rt,.int .i64 day]
def bll (g:Ln.St) (day:Int):List Value:=[.int .i64 g.pr,.int .i64 g.it,.int .i64 g.du,.int .i64 g.la,.int .i64 g.fi,.int .i64 g.cr,.int .i64 g.rt,.int .i64 day]
theorem stV_start (t:Ln.Terms):stV t (Ln.start t) 0 0 0 = .agg #[.int .i64 0,.int .i64 0,.int .i64 0,.int .i64 0,.int .i64 0,.int .i64 0,.int .i64 0,.int .i64 0,.int .i64 0,.int .i64 t.rt,.int .i64 0,.int .u64 0,.int .u64 0]:=by
 simp [stV,Ln.start]
set_option maxRecDepth 10000 in
set_option maxHeartbeats 1000000 in
theorem first_any (t:Ln.Terms) (w:World) :
  Calls Tryz.prog 37 #[tmV t] w fun e w'=>e = .returned (stV t (Ln.start t) 0 0 0)∧Below w.heap.size w w':=by
 rw [stV_start]
 unfold tmV
 go_enter Tryz.func37,Tryz.ntmps37
 go_wp2
 exact bodyPost_ret (v:=.agg #[.int .i64 0,.int .i64 0,.int .i64 0,.int .i64 0,.int .i64 0,.int .i64 0,.int .i64 0,.int .i64 0,.int .i64 0,.int .i64 t.rt,.int .i64 0,.int .u64 0,.int .u64 0]) (by simp [results,Tryz.results37,go_sem]) rfl ⟨rfl,((Below.refl _ _).alloc (Nat.le_refl _) _).alloc (by simp) _⟩
set_option maxRecDepth 10000 in
set_option maxHeartbeats 1000000 in
theorem balance_any (t:Ln.Terms) (g:Ln.St) (c i f day:Int) (w:World) (c0:0≤g.cr) (c1:g.cr≤9000000000000000000) :
  Calls Tryz.prog 41 #[stV t g c i f,.int .i64 day] w fun e w'=>e = .returned (blV g day)∧Below w.heap.size w w':=by
 unfold stV blV
 go_enter Tryz.func41,Tryz.ntmps41
 go_wp2
 exact bodyPost_ret (v:=.agg #[.int .i64 g.pr,.int .i64 g.it,.int .i64 g.du,.int .i64 g.la,.int .i64 g.fi,.int .i64 g.cr,.int .i64 g.rt,.int .i64 day]) (by simp [results,Tryz.results41,go_sem]) rfl ⟨rfl,((Below.refl _ _).alloc (Nat.le_refl _) _).alloc (by simp) _⟩
theorem allow_yes (lo hi x:Int) (w:World) (h0:lo≤x) (h1:x≤hi) :
  Calls Tryz.prog 36 #[.agg #[.int .i64 lo,.int .i64 hi],.int .i64 x] w fun e w'=>e = .returned (.bool true)∧Below w.heap.size w w':=by
 go_enter Tryz.func36,Tryz.ntmps36
 go_wp2
 go_ret
 exact ⟨rfl,(Below.refl _ _).alloc (Nat.le_refl _) _⟩
theorem allow_no (lo hi x:Int) (w:World) (h:x < lo∨hi < x) :
  Calls Tryz.prog 36 #[.agg #[.int .i64 lo,.int .i64 hi],.int .i64 x] w fun e w'=>e = .returned (.bool false)∧Below w.heap.size w w':=by
 by_cases h0:x < lo
 ·have h0':¬ lo≤x:=by omega
  go_enter Tryz.func36,Tryz.ntmps36
  go_wp2
  go_ret
  exact ⟨rfl,(Below.refl _ _).alloc (Nat.le_refl _) _⟩
 ·have h0':lo≤x:=by omega
  have h1':¬ x≤hi:=by omega
  go_enter Tryz.func36,Tryz.ntmps36
  go_wp2
  go_ret
  exact ⟨rfl,(Below.refl _ _).alloc (Nat.le_refl _) _⟩
theorem isBasis_all (b:Int) (w:World) (x:Bool) (hx:Hid (x = decide (1≤b∧b≤3))) :
  Calls Tryz.prog 89 #[.int .i64 b] w fun e w'=>e = .returned (.bool x)∧w' = w:=by
 by_cases h:1≤b∧b≤3
 ·obtain rfl:x = true:=by rw [hx.out]; simp [h]
  clear hx
  rcases (show b = 1∨b = 2∨b = 3 by omega) with h3 | h3 | h3
  all_goals
   subst h3
   go_enter Tryz.func89,Tryz.ntmps89
   go_wp2
   go_ret
   exact ⟨rfl,rfl⟩
 ·obtain rfl:x = false:=by rw [hx.out]; simp; omega
  clear hx
  have e1:(b == 1) = false:=by simp; omega
  have e2:(b == 2) = false:=by simp; omega
  have e3:(b == 3) = false:=by simp; omega
  go_enter Tryz.func89,Tryz.ntmps89
  go_wp2
  go_ret
  exact ⟨rfl,rfl⟩
set_option maxRecDepth 10000 in
set_option maxHeartbeats 1000000 in
theorem right_core (t:Ln.Terms) (w:World) (x1 x2 x3 x4 x5 x6:Bool)
  (h1:∀ W:World,Calls Tryz.prog 36 #[.agg #[.int .i64 0,.int .i64 105872],.int .i64 t.st] W fun e w'=>e = .returned (.bool x1)∧Below W.heap.size W w')
  (h2:∀ W:World,Calls Tryz.prog 36 #[.agg #[.int .i64 0,.int .i64 100000000000],.int .i64 t.pr] W fun e w'=>e = .returned (.bool x2)∧Below W.heap.size W w')
  (h3:∀ W:World,Calls Tryz.prog 36 #[.agg #[.int .i64 0,.int .i64 1000000],.int .i64 t.rt] W fun e w'=>e = .returned (.bool x3)∧Below W.heap.size W w')
  (h4:∀ W:World,Calls Tryz.prog 36 #[.agg #[.int .i64 0,.int .i64 1000000],.int .i64 t.fi] W fun e w'=>e = .returned (.bool x4)∧Below W.heap.size W w')
  (h5:∀ W:World,Calls Tryz.prog 89 #[.int .i64 t.ba] W fun e w'=>e = .returned (.bool x5)∧w' = W)
  (h6:∀ W:World,Calls Tryz.prog 36 #[.agg #[.int .i64 1,.int .i64 28],.int .i64 t.du] W fun e w'=>e = .returned (.bool x6)∧Below W.heap.size W w') :
  Calls Tryz.prog 54 #[tmV t] w fun e w'=>e = .returned (.bool (x1 && x2 && x3 && x4 && x5 && x6))∧Below w.heap.size w w':=by
 unfold tmV
 have a0:At (w.alloc (.cells (tml t).toArray 23)) w.heap.size (tml t):=At.alloc w (tml t) _
 have b0:Below w.heap.size w (w.alloc (.cells (tml t).toArray 23)):=(Below.refl _ _).alloc (Nat.le_refl _) _
 go_enter Tryz.func54,Tryz.ntmps54
 go_wp2_with fail
 refine (h1 _).mono ?_
 rintro e w1 ⟨rfl,hb1⟩
 clear h1
 have a1:At w1 w.heap.size (tml t):=At.keep (S:=fun _=>False) (v:=.int .i64 t.st) a0 (Keep.below hb1) (fun x=>x)
 have b1:Below w.heap.size w w1:=b0.trans (hb1.mono b0.size)
 clear hb1 a0 b0
 have c1:w1.cell? ⟨w.heap.size,1,none⟩ = some (.int .i64 t.pr):=a1.cell 1 rfl
 cases x1
 ·go_wp2
  go_ret
  exact ⟨rfl,b1⟩
 ·go_wp2_with fail
  refine (h2 _).mono ?_
  rintro e w2 ⟨rfl,hb2⟩
  clear h2
  have a2:At w2 w.heap.size (tml t):=At.keep (S:=fun _=>False) (v:=.int .i64 t.st) a1 (Keep.below hb2) (fun x=>x)
  have b2:Below w.heap.size w w2:=b1.trans (hb2.mono b1.size)
  clear hb2 a1 b1
  have c2:w2.cell? ⟨w.heap.size,2,none⟩ = some (.int .i64 t.rt):=a2.cell 2 rfl
  cases x2
  ·go_wp2
   go_ret
   exact ⟨rfl,b2⟩
  ·go_wp2_with fail
   refine (h3 _).mono ?_
   rintro e w3 ⟨rfl,hb3⟩
   clear h3
   have a3:At w3 w.heap.size (tml t):=At.keep (S:=fun _=>False) (v:=.int .i64 t.st) a2 (Keep.below hb3) (fun x=>x)
   have b3:Below w.heap.size w w3:=b2.trans (hb3.mono b2.size)
   clear hb3 a2 b2
   have c3:w3.cell? ⟨w.heap.size,3,none⟩ = some (.int .i64 t.fi):=a3.cell 3 rfl
   cases x3
   ·go_wp2
    go_ret
    exact ⟨rfl,b3⟩
   ·go_wp2_with fail
    refine (h4 _).mono ?_
    rintro e w4 ⟨rfl,hb4⟩
    clear h4
    have a4:At w4 w.heap.size (tml t):=At.keep (S:=fun _=>False) (v:=.int .i64 t.st) a3 (Keep.below hb4) (fun x=>x)
    have b4:Below w.heap.size w w4:=b3.trans (hb4.mono b3.size)
    clear hb4 a3 b3
    have c4:w4.cell? ⟨w.heap.size,4,none⟩ = some (.int .i64 t.ba):=a4.cell 4 rfl
    cases x4
    ·go_wp2
     go_ret
     exact ⟨rfl,b4⟩
    ·go_wp2_with fail
     refine (h5 _).mono ?_
     rintro e w5 ⟨rfl,rfl⟩
     clear h5
     have a5:=a4
     have b5:=b4
     have c5:w5.cell? ⟨w.heap.size,5,none⟩ = some (.int .i64 t.du):=a5.cell 5 rfl
     cases x5
     ·go_wp2
      go_ret
      exact ⟨rfl,b5⟩
     ·go_wp2_with fail
      refine (h6 _).mono ?_
      rintro e w6 ⟨rfl,hb6⟩
      clear h6
      have a6:At w6 w.heap.size (tml t):=At.keep (S:=fun _=>False) (v:=.int .i64 t.st) a5 (Keep.below hb6) (fun x=>x)
      have b6:Below w.heap.size w w6:=b5.trans (hb6.mono b5.size)
      clear hb6 a5 b5
      go_wp2
      go_ret
      exact ⟨rfl,b6⟩
def rtB (t:Ln.Terms):Bool:=decide (0≤t.st∧t.st≤105872) && decide (0≤t.pr∧t.pr≤100000000000) && decide (0≤t.rt∧t.rt≤1000000) && decide (0≤t.fi∧t.fi≤1000000) && decide (1≤t.ba∧t.ba≤3) && decide (1≤t.du∧t.du≤28)
theorem allow_any (lo hi x:Int) (w:World) :
  Calls Tryz.prog 36 #[.agg #[.int .i64 lo,.int .i64 hi],.int .i64 x] w fun e w'=>e = .returned (.bool (decide (lo≤x∧x≤hi)))∧Below w.heap.size w w':=by
 by_cases h:lo≤x∧x≤hi
 ·rw [decide_eq_true h]
  exact allow_yes lo hi x w h.1 h.2
 ·rw [decide_eq_false h]
  exact allow_no lo hi x w (by omega)
theorem right_any (t:Ln.Terms) (w:World) :
  Calls Tryz.prog 54 #[tmV t] w fun e w'=>e = .returned (.bool (rtB t))∧Below w.heap.size w w' :=
 right_core t w _ _ _ _ _ _ (fun W=>allow_any _ _ _ W) (fun W=>allow_any _ _ _ W) (fun W=>allow_any _ _ _ W) (fun W=>allow_any _ _ _ W) (fun W=>isBasis_all _ W _ rfl) (fun W=>allow_any _ _ _ W)
end Go.Proofs.YtanndhoimpnhpaaGreatDoor
namespace Go.Proofs.YtanndhoimpnhpaaGreatDoor
open Go.ChangeShapes Go.WideShapes Go.ChangeAt Go.RowKit
theorem ret_bool {a b:Bool} (h:a = b):Ending.returned (.bool a) = .returned (.bool b):=by rw [h]
set_option maxHeartbeats 1000000 in
theorem fits_any (k a:Int) (w:World) :
  Calls Tryz.prog 91 #[.int .i64 k,.int .i64 a] w fun e w'=>e = .returned (.bool (fitsB k a))∧w' = w:=by
 by_cases h15:k = 1∨k = 5
 ·have E:Hid (fitsB k a = (decide (1≤a) && decide (a≤100000000000))):=by simp [fitsB,h15,Hid]
  by_cases h:1≤a
  ·have hd:decide (1≤a) = true:=by simp [h]
   rcases h15 with h1 | h1
   all_goals
    subst h1
    go_enter Tryz.func91,Tryz.ntmps91
    go_wp2
    go_ret
    exact ⟨ret_bool (by rw [E.out,hd]; rfl),rfl⟩
  ·have hd:decide (1≤a) = false:=by simp [h]
   rcases h15 with h1 | h1
   all_goals
    subst h1
    go_enter Tryz.func91,Tryz.ntmps91
    go_wp2
    go_ret
    exact ⟨ret_bool (by rw [E.out,hd]; rfl),rfl⟩
 ·obtain ⟨n1,n5⟩:¬ k = 1∧¬ k = 5:=by omega
  by_cases h2:k = 2
  ·have E:Hid (fitsB k a = (decide (0≤a) && decide (a≤1000000))):=by simp [fitsB,h2,Hid]
   subst h2
   clear h15
   by_cases h:0≤a
   ·have hd:decide (0≤a) = true:=by simp [h]
    go_enter Tryz.func91,Tryz.ntmps91
    go_wp2
    go_ret
    exact ⟨ret_bool (by rw [E.out,hd]; rfl),rfl⟩
   ·have hd:decide (0≤a) = false:=by simp [h]
    go_enter Tryz.func91,Tryz.ntmps91
    go_wp2
    go_ret
    exact ⟨ret_bool (by rw [E.out,hd]; rfl),rfl⟩
  ·by_cases h3:k = 3
   ·have E:Hid (fitsB k a = (decide (1≤a) && decide (a≤400))):=by simp [fitsB,h3,Hid]
    subst h3
    clear h15
    by_cases h:1≤a
    ·have hd:decide (1≤a) = true:=by simp [h]
     go_enter Tryz.func91,Tryz.ntmps91
     go_wp2
     go_ret
     exact ⟨ret_bool (by rw [E.out,hd]; rfl),rfl⟩
    ·have hd:decide (1≤a) = false:=by simp [h]
     go_enter Tryz.func91,Tryz.ntmps91
     go_wp2
     go_ret
     exact ⟨ret_bool (by rw [E.out,hd]; rfl),rfl⟩
   ·have E:Hid (fitsB k a = (a == 0)):=by simp [fitsB,h15,h2,h3,Hid]; rfl
    clear h15
    go_enter Tryz.func91,Tryz.ntmps91
    go_wp2
    go_ret
    exact ⟨ret_bool (by rw [E.out]),rfl⟩
def evc (e:Ln.Ev):Value:=.agg #[.int .i64 e.d,.int .i64 e.k,.int .i64 e.s,.int .i64 e.a]
set_option maxHeartbeats 1000000 in
theorem ahead_any (a b:Ln.Ev) (w:World) :
  Calls Tryz.prog 100 #[evc a,evc b] w fun e w'=>e = .returned (.bool (aheadB a b))∧Below w.heap.size w w':=by
 obtain ⟨d,k,s,x⟩:=a
 obtain ⟨d',k',s',x'⟩:=b
 unfold evc
 by_cases h1:d = d'
 ·by_cases h2:k = k'
  ·have E:Hid (aheadB ⟨d,k,s,x⟩ ⟨d',k',s',x'⟩ = decide (s < s')):=by simp [aheadB,h1,h2,Hid]
   have e1:(d != d') = false:=by simp [h1]
   have e2:(k != k') = false:=by simp [h2]
   clear h1 h2
   go_enter Tryz.func100,Tryz.ntmps100
   go_wp2
   go_ret
   exact ⟨ret_bool (by rw [E.out]),((Below.refl _ _).alloc (Nat.le_refl _) _).alloc (by simp) _⟩
  ·have E:Hid (aheadB ⟨d,k,s,x⟩ ⟨d',k',s',x'⟩ = decide (k < k')):=by simp [aheadB,h1,h2,Hid]
   have e1:(d != d') = false:=by simp [h1]
   have e2:(k != k') = true:=by simp [h2]
   clear h1 h2
   go_enter Tryz.func100,Tryz.ntmps100
   go_wp2
   go_ret
   exact ⟨ret_bool (by rw [E.out]),((Below.refl _ _).alloc (Nat.le_refl _) _).alloc (by simp) _⟩
 ·have E:Hid (aheadB ⟨d,k,s,x⟩ ⟨d',k',s',x'⟩ = decide (d < d')):=by simp [aheadB,h1,Hid]
  have e1:(d != d') = true:=by simp [h1]
  clear h1
  go_enter Tryz.func100,Tryz.ntmps100
  go_wp2
  go_ret
  exact ⟨ret_bool (by rw [E.out]),((Below.refl _ _).alloc (Nat.le_refl _) _).alloc (by simp) _⟩
set_option maxRecDepth 10000 in
set_option maxHeartbeats 2000000 in
theorem refright_any (t:Ln.Terms) (w:World) :
  Calls Tryz.prog 90 #[tmV t] w fun e w'=>e = .returned (.bool (rtB t))∧Below w.heap.size w w':=by
 have hA:∀ o,Below w.heap.size w (w.alloc o):=fun o=>(Below.refl _ _).alloc (Nat.le_refl _) o
 unfold tmV
 by_cases b0:t.st < 0
 ·have n0:¬ 0≤t.st:=by omega
  have hR:Hid (rtB t = false):=by show rtB t = false; unfold rtB; simp; omega
  go_enter Tryz.func90,Tryz.ntmps90
  go_wp2
  go_ret
  exact ⟨ret_bool hR.out.symm,hA _⟩
 have g0:0≤t.st:=by omega
 by_cases b1:105872 < t.st
 ·have n1:¬ t.st≤105872:=by omega
  have hR:Hid (rtB t = false):=by show rtB t = false; unfold rtB; simp; omega
  go_enter Tryz.func90,Tryz.ntmps90
  go_wp2
  go_ret
  exact ⟨ret_bool hR.out.symm,hA _⟩
 have g1:t.st≤105872:=by omega
 by_cases b2:t.pr < 0
 ·have n2:¬ 0≤t.pr:=by omega
  have hR:Hid (rtB t = false):=by show rtB t = false; unfold rtB; simp; omega
  go_enter Tryz.func90,Tryz.ntmps90
  go_wp2
  go_ret
  exact ⟨ret_bool hR.out.symm,hA _⟩
 have g2:0≤t.pr:=by omega
 by_cases b3:100000000000 < t.pr
 ·have n3:¬ t.pr≤100000000000:=by omega
  have hR:Hid (rtB t = false):=by show rtB t = false; unfold rtB; simp; omega
  go_enter Tryz.func90,Tryz.ntmps90
  go_wp2
  go_ret
  exact ⟨ret_bool hR.out.symm,hA _⟩
 have g3:t.pr≤100000000000:=by omega
 by_cases b4:t.rt < 0
 ·have n4:¬ 0≤t.rt:=by omega
  have hR:Hid (rtB t = false):=by show rtB t = false; unfold rtB; simp; omega
  go_enter Tryz.func90,Tryz.ntmps90
  go_wp2
  go_ret
  exact ⟨ret_bool hR.out.symm,hA _⟩
 have g4:0≤t.rt:=by omega
 by_cases b5:1000000 < t.rt
 ·have n5:¬ t.rt≤1000000:=by omega
  have hR:Hid (rtB t = false):=by show rtB t = false; unfold rtB; simp; omega
  go_enter Tryz.func90,Tryz.ntmps90
  go_wp2
  go_ret
  exact ⟨ret_bool hR.out.symm,hA _⟩
 have g5:t.rt≤1000000:=by omega
 by_cases b6:t.fi < 0
 ·have n6:¬ 0≤t.fi:=by omega
  have hR:Hid (rtB t = false):=by show rtB t = false; unfold rtB; simp; omega
  go_enter Tryz.func90,Tryz.ntmps90
  go_wp2
  go_ret
  exact ⟨ret_bool hR.out.symm,hA _⟩
 have g6:0≤t.fi:=by omega
 by_cases b7:1000000 < t.fi
 ·have n7:¬ t.fi≤1000000:=by omega
  have hR:Hid (rtB t = false):=by show rtB t = false; unfold rtB; simp; omega
  go_enter Tryz.func90,Tryz.ntmps90
  go_wp2
  go_ret
  exact ⟨ret_bool hR.out.symm,hA _⟩
 have g7:t.fi≤1000000:=by omega
 by_cases b8:t.ba < 1
 ·have n8:¬ 1≤t.ba:=by omega
  have hR:Hid (rtB t = false):=by show rtB t = false; unfold rtB; simp; omega
  go_enter Tryz.func90,Tryz.ntmps90
  go_wp2
  go_ret
  exact ⟨ret_bool hR.out.symm,hA _⟩
 have g8:1≤t.ba:=by omega
 by_cases b9:3 < t.ba
 ·have n9:¬ t.ba≤3:=by omega
  have hR:Hid (rtB t = false):=by show rtB t = false; unfold rtB; simp; omega
  go_enter Tryz.func90,Tryz.ntmps90
  go_wp2
  go_ret
  exact ⟨ret_bool hR.out.symm,hA _⟩
 have g9:t.ba≤3:=by omega
 by_cases b10:t.du < 1
 ·have n10:¬ 1≤t.du:=by omega
  have hR:Hid (rtB t = false):=by show rtB t = false; unfold rtB; simp; omega
  go_enter Tryz.func90,Tryz.ntmps90
  go_wp2
  go_ret
  exact ⟨ret_bool hR.out.symm,hA _⟩
 have g10:1≤t.du:=by omega
 by_cases b11:28 < t.du
 ·have n11:¬ t.du≤28:=by omega
  have hR:Hid (rtB t = false):=by show rtB t = false; unfold rtB; simp; omega
  go_enter Tryz.func90,Tryz.ntmps90
  go_wp2
  go_ret
  exact ⟨ret_bool hR.out.symm,hA _⟩
 have g11:t.du≤28:=by omega
 have hR:Hid (rtB t = true):=by show rtB t = true; unfold rtB; simp; omega
 go_enter Tryz.func90,Tryz.ntmps90
 go_wp2
 go_ret
 exact ⟨ret_bool hR.out.symm,hA _⟩
def dl (t:Ln.Terms) (ev:Value) (g:Ln.St) (day:Int) (bk:Value):List Value :=
 [.int .i64 t.st,.int .i64 t.pr,.int .i64 t.rt,.int .i64 t.fi,.int .i64 t.ba,.int .i64 t.du,ev,.int .i64 g.pr,.int .i64 g.it,.int .i64 g.du,.int .i64 g.la,.int .i64 g.fi,.int .i64 g.cr,.int .i64 g.rt,.int .i64 day,bk]
theorem refopen_bad (t:Ln.Terms) (w:World) (h:rtB t = false) :
  Calls Tryz.prog 56 #[tmV t] w fun e w'=>e = .returned (.tuple #[.pointer none,.int .i64 3])∧Below w.heap.size w w':=by
 have hR:=fun W=>refright_any t W
 rw [h] at hR
 unfold tmV at *
 have b0:Below w.heap.size w (w.alloc (.cells #[.int .i64 t.st,.int .i64 t.pr,.int .i64 t.rt,.int .i64 t.fi,.int .i64 t.ba,.int .i64 t.du] 23)):=(Below.refl _ _).alloc (Nat.le_refl _) _
 go_enter Tryz.func56,Tryz.ntmps56
 go_wp2_with fail
 refine (hR _).mono ?_
 rintro e w1 ⟨rfl,hb1⟩
 have b1:=b0.trans (hb1.mono b0.size)
 clear hR hb1 b0
 go_wp2
 go_ret2
 exact ⟨rfl,b1⟩
set_option maxRecDepth 10000 in
set_option maxHeartbeats 2000000 in
theorem refopen_good (t:Ln.Terms) (w:World) (h:rtB t = true) :
  Calls Tryz.prog 56 #[tmV t] w fun e w'=>(∃ B,e = .returned (.tuple #[.pointer (some ⟨B,0,none⟩),.int .i64 0])∧w.heap.size≤B∧At w' B (dl t (.slice none 0 0) (Ln.start t) t.st (.slice none 0 0)))∧Below w.heap.size w w':=by
 have hR:=fun W=>refright_any t W
 rw [h] at hR
 unfold tmV at *
 have b0:Below w.heap.size w (w.alloc (.cells #[.int .i64 t.st,.int .i64 t.pr,.int .i64 t.rt,.int .i64 t.fi,.int .i64 t.ba,.int .i64 t.du] 23)):=(Below.refl _ _).alloc (Nat.le_refl _) _
 have a0:At (w.alloc (.cells #[.int .i64 t.st,.int .i64 t.pr,.int .i64 t.rt,.int .i64 t.fi,.int .i64 t.ba,.int .i64 t.du] 23)) w.heap.size [.int .i64 t.st,.int .i64 t.pr,.int .i64 t.rt,.int .i64 t.fi,.int .i64 t.ba,.int .i64 t.du]:=At.alloc w _ _
 go_enter Tryz.func56,Tryz.ntmps56
 go_wp2_with fail
 refine (hR _).mono ?_
 rintro e w1 ⟨rfl,hb1⟩
 have b1:=b0.trans (hb1.mono b0.size)
 have a1:At w1 w.heap.size [.int .i64 t.st,.int .i64 t.pr,.int .i64 t.rt,.int .i64 t.fi,.int .i64 t.ba,.int .i64 t.du]:=At.keep (S:=fun _=>False) a0 (Keep.below hb1) (fun x=>x)
 have c0:=a1.cell 0 (v:=.int .i64 t.st) rfl
 have c1:=a1.cell 1 (v:=.int .i64 t.pr) rfl
 have c2:=a1.cell 2 (v:=.int .i64 t.rt) rfl
 have c3:=a1.cell 3 (v:=.int .i64 t.fi) rfl
 have c4:=a1.cell 4 (v:=.int .i64 t.ba) rfl
 have c5:=a1.cell 5 (v:=.int .i64 t.du) rfl
 have a2:At (w1.alloc (.cells (dl t (.slice none 0 0) (Ln.start t) t.st (.slice none 0 0)).toArray 133)) w1.heap.size (dl t (.slice none 0 0) (Ln.start t) t.st (.slice none 0 0)):=At.alloc w1 _ _
 have b2:Below w.heap.size w (w1.alloc (.cells (dl t (.slice none 0 0) (Ln.start t) t.st (.slice none 0 0)).toArray 133)):=b1.alloc b1.size _
 have HA:=(show Hid _ from a2)
 have HB:=(show Hid _ from b2)
 have hsz:=b1.size
 clear hR hb1 b0 a0 a1 a2 b2 b1
 go_wp2
 go_ret2
 exact ⟨⟨w1.heap.size,rfl,hsz,HA.out⟩,HB.out⟩
end Go.Proofs.YtanndhoimpnhpaaGreatDoor
namespace Go.Proofs.YtanndhoimpnhpaaGreatDoor
structure Sv where
 t:Ln.Terms
 l:List Ln.Ev
 g:Ln.St
 day:Int
 L:List En
def wds:List (List UInt8):=[wLoan,wEvent,wAt,wNow,wEntry,wEnd]
def wcnt:List Nat:=[6,4,1,7,3,0]
def Sv.read (s:Sv):Nat→List Int→Option Sv
 | 1,[d,k,q,a]=>if (∀ x,s.l.getLast? = some x→aheadB x ⟨d,k,q,a⟩ = true)∧addC s.t s.l ⟨d,k,q,a⟩ = 0 then some { s with l:=s.l ++ [⟨d,k,q,a⟩] } else none
 | 2,[n]=>if s.t.st≤n∧n≤s.t.st+3700 then some { s with day:=n } else none
 | 3,[a,b,c,d,e,f,r]=>some { s with g:=⟨a,b,c,d,e,f,r,0,0,0⟩ }
 | 4,[d,k,a]=>if s.t.st≤d∧d < s.day∧1≤k∧k≤12∧¬ a = 0 then some { s with L:=s.L ++ [⟨d,k,a⟩] } else none
 | 5,[]=>some s
 | _,_=>none
def Sv.first:List Int→Option Sv
 | [a,b,c,d,e,f]=>if rtB ⟨a,b,c,d,e,f⟩ = true then some ⟨⟨a,b,c,d,e,f⟩,[],Ln.start ⟨a,b,c,d,e,f⟩,a,[]⟩ else none
 | _=>none
def Lnk (k:Nat) (ns:List Int) (line:List UInt8):Prop :=
 (∀ n∈ns,InR n)∧∃ word,wds[k]? = some word∧wcnt[k]? = some ns.length∧line = word ++ lnum ns
def nextOk (j:Int) (k:Nat):Bool :=
 ((k = 1∨k = 4)∧(k:Int) = j)∨(k:Int) = j+1∨((k:Int) = j+2∧(k = 2∨k = 5))
theorem noB_wds:∀ (k:Nat) (word:List UInt8),wds[k]? = some word→NoB word
 | 0,_,h | 1,_,h | 2,_,h | 3,_,h | 4,_,h | 5,_,h=>by injection h with h; subst h; exact by unfold NoB; decide
 | (_+6),_,h=>by simp [wds] at h
theorem wds_inj:∀ (j k:Nat) (word:List UInt8),wds[j]? = some word→wds[k]? = some word→j = k:=by
 intro j k word hj hk
 have h1:j < 6:=by
  have:=(List.getElem?_eq_some_iff.1 hj).1
  exact this
 have h2:k < 6:=by
  have:=(List.getElem?_eq_some_iff.1 hk).1
  exact this
 have:wds[j]? = wds[k]?:=hj.trans hk.symm
 clear hj hk
 have H:∀ j,j < 6→∀ k,k < 6→wds[j]? = wds[k]?→j = k:=by decide
 exact H j h1 k h2 this
theorem Lnk.one {j k:Nat} {a b:List Int} {line:List UInt8} (h:Lnk j a line) (h':Lnk k b line):j = k∧a = b:=by
 obtain ⟨h1,wa,h2,_,h4⟩:=h
 obtain ⟨k1,wb,k2,_,k4⟩:=h'
 rw [h4,lnum_bj,lnum_bj] at k4
 obtain ⟨e1,e2⟩:=cut_one wa wb _ _ (noB_wds _ _ h2) (noB_wds _ _ k2) (fun p hp=>by obtain ⟨n,_,rfl⟩:=List.mem_map.1 hp; exact noB_itoa n) (fun p hp=>by obtain ⟨n,_,rfl⟩:=List.mem_map.1 hp; exact noB_itoa n) k4
 subst e1
 exact ⟨wds_inj _ _ _ h2 k2,Says.one ⟨rfl,h1⟩ ⟨e2,k1⟩⟩
noncomputable def cls (line:List UInt8):Option (Nat × List Int) :=
 open Classical in if h:∃ p:Nat × List Int,Lnk p.1 p.2 line then some h.choose else none
theorem cls_eq {k:Nat} {ns:List Int} {line:List UInt8} (h:Lnk k ns line):cls line = some (k,ns):=by
 have hx:∃ p:Nat × List Int,Lnk p.1 p.2 line:=⟨(k,ns),h⟩
 unfold cls
 rw [dif_pos hx]
 obtain ⟨e1,e2⟩:=hx.choose_spec.one h
 exact congrArg some (Prod.ext e1 e2)
theorem cls_none {line:List UInt8} (h:∀ k ns,¬ Lnk k ns line):cls line = none:=by
 unfold cls
 rw [dif_neg (fun ⟨p,hp⟩=>h p.1 p.2 hp)]
theorem cls_some {line:List UInt8} {k:Nat} {ns:List Int} (h:cls line = some (k,ns)):Lnk k ns line:=by
 unfold cls at h
 split at h
 ·rename_i hx
  have:=hx.choose_spec
  injection h with h
  rw [h] at this
  exact this
 ·cases h
def stepK (s:Option Sv) (k:Nat) (ns:List Int):Option Sv :=
 if k = 0 then Sv.first ns else s.bind (fun s=>s.read k ns)
noncomputable def fin:Int→Option Sv→List (List UInt8)→Option Sv
 | j,s,[]=>if j = 5 then s else none
 | j,s,line :: r=>match cls line with
  | none=>none
  | some (k,ns)=>if nextOk j k = true then (match stepK s k ns with | none=>none | some s'=>fin k (some s') r) else none
theorem fin_bad {j:Int} {s:Option Sv} {line:List UInt8} {r:List (List UInt8)} (h:∀ k ns,¬ Lnk k ns line):fin j s (line :: r) = none:=by
 rw [fin,cls_none h]
theorem fin_not {j:Int} {s:Option Sv} {line:List UInt8} {r:List (List UInt8)} {k:Nat} {ns:List Int} (h:Lnk k ns line) (hn:nextOk j k = false):fin j s (line :: r) = none:=by
 rw [fin,cls_eq h]
 simp [hn]
theorem fin_fail {j:Int} {s:Option Sv} {line:List UInt8} {r:List (List UInt8)} {k:Nat} {ns:List Int} (h:Lnk k ns line) (hn:stepK s k ns = none):fin j s (line :: r) = none:=by
 rw [fin,cls_eq h]
 simp [hn]
theorem fin_step {j:Int} {s:Option Sv} {line:List UInt8} {r:List (List UInt8)} {k:Nat} {ns:List Int} {s':Sv} (h:Lnk k ns line) (hn:nextOk j k = true) (hs:stepK s k ns = some s'):fin j s (line :: r) = fin k (some s') r:=by
 rw [fin,cls_eq h]
 simp [hn,hs]
def cutL:List UInt8→List (List UInt8) × List UInt8
 | []=>([],[])
 | c :: r=>if c = 10 then ([] :: (cutL r).1,(cutL r).2) else match (cutL r).1 with
  | []=>([],c :: (cutL r).2)
  | x :: y=>((c :: x) :: y,(cutL r).2)
noncomputable def told (s:List UInt8):Option Sv:=if (cutL s).2 = [] then fin (-1) none (cutL s).1 else none
def NoL (l:List UInt8):Prop:=∀ c∈l,¬ c = 10
theorem cutL_line:∀ (line r:List UInt8),NoL line→cutL (line ++ 10 :: r) = (line :: (cutL r).1,(cutL r).2)
 | [],r,_=>by simp [cutL]
 | c :: l,r,h=>by
  have ih:=cutL_line l r (fun x hx=>h x (by simp [hx]))
  rw [List.cons_append,cutL,if_neg (h c (by simp)),ih]
theorem cutL_tail:∀ (line:List UInt8),NoL line→cutL line = ([],line)
 | [],_=>rfl
 | c :: l,h=>by
  have ih:=cutL_tail l (fun x hx=>h x (by simp [hx]))
  rw [cutL,if_neg (h c (by simp)),ih]
def wdk (k:Nat):List UInt8:=wds.getD k []
def cnk (k:Nat):Nat:=wcnt.getD k 0
theorem wds_wdk {k:Nat} {word:List UInt8} (h:wds[k]? = some word):k < 6∧wdk k = word :=
 ⟨(List.getElem?_eq_some_iff.1 h).1,by unfold wdk; rw [List.getD_eq_getElem?_getD,h]; rfl⟩
theorem wdk_wds {k:Nat} (h:k < 6):wds[k]? = some (wdk k):=by
 unfold wdk
 rw [List.getD_eq_getElem?_getD,List.getElem?_eq_getElem (show k < wds.length from h)]
 rfl
theorem cnk_cnt {k:Nat} (h:k < 6):wcnt[k]? = some (cnk k):=by
 unfold cnk
 rw [List.getD_eq_getElem?_getD,List.getElem?_eq_getElem (show k < wcnt.length from h)]
 rfl
theorem Lnk.cut {word:List UInt8} {P:List (List UInt8)} (hw:NoB word) (hP:∀ p∈P,NoB p) {k:Nat} {ns:List Int} (h:Lnk k ns (word ++ bj P)):k < 6∧wdk k = word∧Says P ns∧cnk k = ns.length:=by
 obtain ⟨h1,wa,h2,h3,h4⟩:=h
 rw [lnum_bj] at h4
 obtain ⟨e1,e2⟩:=cut_one word wa P _ hw (noB_wds _ _ h2) hP (fun p hp=>by obtain ⟨n,_,rfl⟩:=List.mem_map.1 hp; exact noB_itoa n) h4
 obtain ⟨g1,g2⟩:=wds_wdk h2
 rw [cnk_cnt g1] at h3
 exact ⟨g1,g2.trans e1.symm,⟨e2,h1⟩,Option.some.inj h3⟩
theorem no_says {word:List UInt8} {P:List (List UInt8)} (hw:NoB word) (hP:∀ p∈P,NoB p) (h:¬ ∃ ns,Says P ns):∀ k ns,¬ Lnk k ns (word ++ bj P):=fun _ ns hk=>h ⟨ns,(hk.cut hw hP).2.2.1⟩
theorem no_word {word:List UInt8} {P:List (List UInt8)} (hw:NoB word) (hP:∀ p∈P,NoB p) (h:∀ x,x < 6→¬ wdk x = word):∀ k ns,¬ Lnk k ns (word ++ bj P):=fun k _ hk=>h k (hk.cut hw hP).1 (hk.cut hw hP).2.1
theorem no_count {word:List UInt8} {P:List (List UInt8)} (hw:NoB word) (hP:∀ p∈P,NoB p) {j:Nat} {ms:List Int} (hs:Says P ms) (hj:j < 6) (hjw:wdk j = word) (hc:¬ ms.length = cnk j):∀ k ns,¬ Lnk k ns (word ++ bj P):=fun k ns hk=>by
 obtain ⟨h1,h2,h3,h4⟩:=hk.cut hw hP
 have e1:ns = ms:=h3.one hs
 have e2:k = j:=wds_inj k j word (by rw [wdk_wds h1,h2]) (by rw [wdk_wds hj,hjw])
 subst e1 e2
 exact hc h4.symm
theorem lnk_of {word:List UInt8} {P:List (List UInt8)} {j:Nat} {ms:List Int} (hs:Says P ms) (hj:j < 6) (hjw:wdk j = word) (hc:ms.length = cnk j):Lnk j ms (word ++ bj P) :=
 ⟨hs.2,word,by rw [wdk_wds hj,hjw],by rw [cnk_cnt hj,hc],by rw [lnum_bj,hs.1]⟩
def LdT (s:List UInt8) (f:Nat) (j:Int) (σ:Option Sv):Prop:=told s = (if (cutL (s.drop f)).2 = [] then fin j σ (cutL (s.drop f)).1 else none)
theorem LdT.start (s:List UInt8):LdT s 0 (-1) none:=by
 unfold LdT told
 rw [List.drop_zero]
theorem drop_line {s:List UInt8} {f i:Nat} (hf:f≤i) (hi:i < s.length) (hc:s[i] = 10):s.drop f = (s.drop f).take (i - f) ++ 10 :: s.drop (i+1):=by
 have h1:(s.drop f).drop (i - f) = 10 :: s.drop (i+1):=by
  rw [List.drop_drop,show f+(i - f) = i by omega,List.drop_eq_getElem_cons hi,hc]
 rw [← h1,List.take_append_drop]
theorem LdT.none {s:List UInt8} {f i:Nat} {j:Int} {σ:Option Sv} (h:LdT s f j σ) (hf:f≤i) (hi:i < s.length) (hc:s[i] = 10) (hn:NoL ((s.drop f).take (i - f))) (hb:∀ r,fin j σ ((s.drop f).take (i - f) :: r) = none):told s = none:=by
 unfold LdT at h
 rw [drop_line hf hi hc,cutL_line _ _ hn] at h
 rw [h]
 simp [hb]
theorem LdT.next {s:List UInt8} {f i:Nat} {j k:Int} {σ σ':Option Sv} (h:LdT s f j σ) (hf:f≤i) (hi:i < s.length) (hc:s[i] = 10) (hn:NoL ((s.drop f).take (i - f))) (hb:∀ r,fin j σ ((s.drop f).take (i - f) :: r) = fin k σ' r):LdT s (i+1) k σ':=by
 unfold LdT at h ⊢
 rw [drop_line hf hi hc,cutL_line _ _ hn] at h
 rw [h]
 simp only [hb]
theorem LdT.stop {s:List UInt8} {f:Nat} {j:Int} {σ:Option Sv} (h:LdT s f j σ) (hf:f≤s.length) (hn:NoL ((s.drop f).take (s.length - f))):told s = if f = s.length∧j = 5 then σ else Option.none:=by
 have e:(s.drop f).take (s.length - f) = s.drop f:=List.take_of_length_le (by rw [List.length_drop]; omega)
 rw [e] at hn
 unfold LdT at h
 rw [cutL_tail _ hn] at h
 rw [h]
 have e2:s.drop f = [] ↔ f = s.length:=by rw [List.drop_eq_nil_iff]; omega
 by_cases h1:f = s.length
 ·rw [if_pos (e2.2 h1)]
  by_cases h2:j = 5 <;> simp [fin,h1,h2]
 ·rw [if_neg (fun x=>h1 (e2.1 x)),if_neg (fun x=>h1 x.1)]
theorem NoL.more {s:List UInt8} {f i:Nat} (h:NoL ((s.drop f).take (i - f))) (hf:f≤i) (hi:i < s.length) (hc:¬ s[i] = 10):NoL ((s.drop f).take (i+1 - f)):=by
 rw [show i+1 - f = i - f+1 by omega,List.take_succ_eq_append_getElem (by rw [List.length_drop]; omega)]
 intro c hcm
 rcases List.mem_append.1 hcm with h1 | h1
 ·exact h c h1
 ·rw [List.mem_singleton,List.getElem_drop] at h1
  subst h1
  simpa [show f+(i - f) = i by omega] using hc
theorem NoL.zero (s:List UInt8) (i:Nat):NoL ((s.drop i).take (i - i)):=by
 rw [Nat.sub_self,List.take_zero]
 intro c hc
 simp at hc
end Go.Proofs.YtanndhoimpnhpaaGreatDoor
namespace Go.Proofs.YtanndhoimpnhpaaGreatDoor
open Txt
theorem idx_hit (c:UInt8):∀ (a r:List UInt8),(∀ x∈a,¬ x = c)→Lib.index (a ++ c :: r) [c] = a.length
 | [],r,_=>by simp [Lib.index]
 | b :: a,r,h=>by
  have ih:=idx_hit c a r (fun x hx=>h x (by simp [hx]))
  have hb:¬ c = b:=fun e=>h b (by simp) e.symm
  have hm:¬ ((a.length:Int) = -1):=by omega
  simp [Lib.index,ih,hb,hm]
theorem idx_none (c:UInt8):∀ (a:List UInt8),(∀ x∈a,¬ x = c)→Lib.index a [c] = -1
 | [],_=>by simp [Lib.index]
 | b :: a,h=>by
  have ih:=idx_none c a (fun x hx=>h x (by simp [hx]))
  have hb:¬ c = b:=fun e=>h b (by simp) e.symm
  simp [Lib.index,ih,hb]
theorem cut_line {line r:List UInt8} (h:NoL line):Lib.cut (line ++ 10 :: r) [10] = (line,r,true):=by
 have e:=idx_hit 10 line r h
 unfold Lib.cut
 rw [e,if_pos (by omega)]
 simp
theorem cut_tail {s:List UInt8} (h:NoL s):Lib.cut s [10] = (s,[],false):=by
 unfold Lib.cut
 rw [idx_none 10 s h,if_neg (by omega)]
theorem split_few:∀ (P:List (List UInt8)) (word:List UInt8) (m:Nat),NoB word→(∀ p∈P,NoB p)→P.length≤m→Lib.splitK [32] 0 m (word ++ bj P) = word :: P
 | [],word,0,_,_,_=>by simp [Lib.splitK,bj]
 | [],word,m+1,hw,_,_=>by
  have e:Lib.index (word ++ bj []) [32] = -1:=by simpa [bj] using idx_none 32 word hw
  rw [Lib.splitK,e,if_pos (by rfl)]
  simp [bj]
 | p :: P,word,0,_,_,h=>by simp at h
 | p :: P,word,m+1,hw,hP,h=>by
  have e:Lib.index (word ++ bj (p :: P)) [32] = word.length:=idx_hit 32 word (p ++ bj P) hw
  have ih:=split_few P p m (hP p (by simp)) (fun x hx=>hP x (by simp [hx])) (by simp at h; omega)
  rw [Lib.splitK,e,if_neg (by simp)]
  have e2:(word ++ bj (p :: P)).drop ((word.length:Int).toNat+[(32:UInt8)].length) = p ++ bj P:=by
   rw [Int.toNat_natCast]
   show (word ++ 32 :: (p ++ bj P)).drop (word.length+1) = _
   rw [← List.drop_drop,List.drop_left]
   rfl
  rw [e2,ih]
  simp [bj]
theorem split_many:∀ (P:List (List UInt8)) (word:List UInt8) (m:Nat),NoB word→(∀ p∈P,NoB p)→m < P.length→(Lib.splitK [32] 0 m (word ++ bj P)).length = m+1
 | _,_,0,_,_,_=>by simp [Lib.splitK]
 | [],_,_+1,_,_,h=>by simp at h
 | p :: P,word,m+1,hw,hP,h=>by
  have e:Lib.index (word ++ bj (p :: P)) [32] = word.length:=idx_hit 32 word (p ++ bj P) hw
  have ih:=split_many P p m (hP p (by simp)) (fun x hx=>hP x (by simp [hx])) (by simp at h; omega)
  rw [Lib.splitK,e,if_neg (by simp)]
  have e2:(word ++ bj (p :: P)).drop ((word.length:Int).toNat+[(32:UInt8)].length) = p ++ bj P:=by
   rw [Int.toNat_natCast]
   show (word ++ 32 :: (p ++ bj P)).drop (word.length+1) = _
   rw [← List.drop_drop,List.drop_left]
   rfl
  rw [e2,List.length_cons,ih]
theorem split_line (word:List UInt8) (P:List (List UInt8)) (n:Nat) (hw:NoB word) (hP:∀ p∈P,NoB p) :
  (P.length = n∧Lib.splitB (bs [32]) 0 (min (n+2) ((bs (word ++ bj P)).size+1) - 1) (bs (word ++ bj P)) = (word :: P).map bs) ∨
  (¬ P.length = n∧¬ (Lib.splitB (bs [32]) 0 (min (n+2) ((bs (word ++ bj P)).size+1) - 1) (bs (word ++ bj P))).length = n+1):=by
 have hd:=Lib.splitB_data (bs [32]) 0 (min (n+2) ((bs (word ++ bj P)).size+1) - 1) (bs (word ++ bj P))
 rw [bs_list,bs_list] at hd
 have hl:=congrArg List.length hd
 rw [List.length_map] at hl
 have hPl:P.length≤(bs (word ++ bj P)).size:=by
  rw [bs_size,List.length_append]
  have:P.length≤(bj P).length:=by
   clear hd hl hP
   induction P with
   | nil=>simp
   | cons p r ih=>simp only [bj,List.length_cons,List.length_append]; omega
  omega
 by_cases hc:P.length≤min (n+2) ((bs (word ++ bj P)).size+1) - 1
 ·have e:=split_few P word _ hw hP hc
  rw [e] at hd hl
  by_cases hn:P.length = n
  ·refine .inl ⟨hn,?_⟩
   generalize Lib.splitB (bs [32]) 0 (min (n+2) ((bs (word ++ bj P)).size+1) - 1) (bs (word ++ bj P)) = X at *
   have:(X.map (·.data.toList)).map bs = (word :: P).map bs:=by rw [hd]
   rw [List.map_map] at this
   rw [← this]
   conv=>lhs; rw [← List.map_id X]
   apply List.map_congr_left
   intro x _
   exact (bs_of x).symm
  ·exact .inr ⟨hn,by rw [hl,List.length_cons]; omega⟩
 ·have e:=split_many P word _ hw hP (Nat.lt_of_not_le hc)
  rw [e] at hl
  exact .inr ⟨by omega,by rw [hl]; omega⟩
theorem parse_snoc:∀ (l:List UInt8) (a u:Nat) (c:UInt8),Lib.parseUint10 a l = .ok u→48≤c.toNat→c.toNat≤57→u*10+(c.toNat - 48) < 18446744073709551616→Lib.parseUint10 a (l ++ [c]) = .ok (u*10+(c.toNat - 48))
 | [],a,u,c,h,h1,h2,h3=>by
  simp only [Lib.parseUint10] at h
  injection h with h
  subst h
  simp only [List.nil_append,Lib.parseUint10]
  rw [if_pos ⟨h1,h2⟩,if_neg (by omega),if_neg (by omega)]
 | b :: l,a,u,c,h,h1,h2,h3=>by
  simp only [List.cons_append,Lib.parseUint10] at h ⊢
  split at h
  ·rename_i hb
   rw [if_pos hb]
   split at h
   ·cases h
   ·rename_i hq
    rw [if_neg hq]
    split at h
    ·cases h
    ·rename_i hq2
     rw [if_neg hq2]
     exact parse_snoc l _ u c h h1 h2 h3
  ·cases h
theorem parse_dec:∀ (k u:Nat),u < k→u < 18446744073709551616→Lib.parseUint10 0 (Lib.decDigits u) = .ok u
 | 0,u,h,_=>absurd h (Nat.not_lt_zero u)
 | k+1,u,h,hu=>by
  by_cases h1:u < 10
  ·have e:(UInt8.ofNat (48+u)).toNat = 48+u:=UInt8.toNat_ofNat_of_lt' (show 48+u < 256 by omega)
   have:=parse_snoc [] 0 0 (UInt8.ofNat (48+u)) rfl (by omega) (by omega) (by omega)
   rw [Lib.decDigits_one h1]
   rw [e] at this
   simpa using this
  ·have e:(UInt8.ofNat (48+u % 10)).toNat = 48+u % 10:=UInt8.toNat_ofNat_of_lt' (show 48+u % 10 < 256 by omega)
   have:=parse_snoc (Lib.decDigits (u / 10)) 0 (u / 10) (UInt8.ofNat (48+u % 10)) (parse_dec k (u / 10) (by omega) (by omega)) (by omega) (by omega) (by omega)
   rw [dec_more u (by omega),this,e]
   congr 1
   omega
theorem dec_nn (u:Nat):¬ Lib.decDigits u = []:=fun e=>by
 have:=dec_ne u
 rw [e] at this
 simp at this
theorem atoi_itoa (n:Int) (h:InR n):Lib.atoiAll (Lib.itoa n) = .ok n:=by
 obtain ⟨h1,h2⟩:=h
 by_cases h0:n < 0
 ·obtain ⟨u,hu⟩:∃ u:Nat,n = -(u:Int):=⟨n.natAbs,by omega⟩
  subst hu
  rw [Lib.itoa_neg u (by omega),Lib.atoiAll_minus]
  unfold Lib.parseMag
  rw [if_neg (dec_nn u),parse_dec (u+1) u (by omega) (by omega)]
  simp only [Lib.signed]
  rw [if_neg (by omega)]
 ·obtain ⟨u,rfl⟩:=Int.eq_ofNat_of_zero_le (show 0≤n by omega)
  rw [Lib.itoa_nonneg]
  have hd:=allD_dec u
  have hne:=dec_nn u
  have hp:Lib.signless (Lib.parseMag (Lib.decDigits u)) = .ok (u:Int):=by
   unfold Lib.parseMag
   rw [if_neg hne,parse_dec (u+1) u (by omega) (by omega)]
   simp only [Lib.signless]
   rw [if_neg (by omega)]
  cases hc:Lib.decDigits u with
  | nil=>exact absurd hc hne
  | cons c r =>
   rw [hc] at hp hd
   unfold allD at hd
   rw [List.all_cons,Bool.and_eq_true] at hd
   have hb:=dg_bd hd.1
   rw [Lib.atoiAll_plain c r (by omega) (by omega),hp]
end Go.Proofs.YtanndhoimpnhpaaGreatDoor
namespace Go.Proofs.YtanndhoimpnhpaaGreatDoor
open Go.RowKit
theorem wp_valD {Pr:Program} {o:Oper} {a:Act} {w:World} {K:Act→World→Prop} {Q:Exit→Act→World→Prop} (v:Value) (w':World) (hrun:(execOp a.eval o).run Pr w = .ok (.value v) w') (h:K (a.put o.dst v) w'):Oper.wp Pr o a w K Q:=by
 unfold Oper.wp
 rw [hrun]
 exact h
theorem wp_append_at {Pr:Program} {o:Oper} {a:Act} (w:World) {K:Act→World→Prop} {Q:Exit→Act→World→Prop} (s x:Operand) (t:TypeId)
  (ho:o.op = .call { callee:=.builtin .append,args:=#[s,x],argTypes:=#[t,t] })
  (base:Nat) (e:TypeId) (i:TypeInfo) (z:Value) (size bytes:Nat) (ht:Pr.underlying t = some (.slice e)) (hi:Pr.info? e = some i) (hz:i.zero = some z)
  (hsize:i.size = size) (hby:i.bytes = bytes) (hzs:z.cells.size = size) (hsz:0 < size)
  (v:Value) (n:Nat) (xs:List Value) (hs:a.eval s = v) (hown:w.ownsRow base e size v n xs)
  (ad:Addr) (m c:Nat) (news:List Value) (hx:a.eval x = .slice (some ad) m c) (hl:news.length = m*size) (hnews:∀ j u,news[j]? = some u→w.cell? (ad.add j) = some u) (h1:∀ u∈news,u.oneCell' = true)
  (h63:n+m≤maxLen) (hbytes:(n+m)*bytes≤140737488355328) (hbase:base≤w.heap.size)
  (h:∀ v' w',w'.ownsRow base e size v' (n+m) (xs ++ news)→w.grownBy w' v.ownBlock→(v'.ownBlock = v.ownBlock∨v'.ownBlock = some w.heap.size)→K (a.put o.dst v') w'):o.wp Pr a w K Q:=by
 obtain ⟨v',w',hr,h2,h3,_,h5⟩:=run_append_own_at (P:=Pr) w base t o.type e i z size bytes ht hi hz hsize hby hzs hsz v n xs hown ad m c news hl hnews h1 h63 hbytes hbase
 unfold Oper.wp execOp
 simp only [ho,resolve,invoke,builtin,Sem.run_bind,Sem.run_pure,Result.andThen_ok,List.map_toArray,List.map_cons,List.map_nil,hs,hx,hr]
 exact h v' w' h2 h3 h5
def OwnNew (w:World) (v0 v:Value):Prop:=v.ownBlock = v0.ownBlock∨∃ b,v.ownBlock = some b∧w.heap.size≤b
theorem own_slice {w:World} {base:Nat} {e:TypeId} {size:Nat} {v:Value} {n:Nat} {xs:List Value} (h:w.ownsRow base e size v n xs):∃ p cap,v = .slice p n cap:=by
 obtain ⟨_,⟨rfl,rfl⟩ | ⟨g,cap,cur,rfl,_⟩⟩:=h
 ·exact ⟨_,_,rfl⟩
 ·exact ⟨_,_,rfl⟩
theorem own_base {w:World} {base:Nat} {T:TypeId} {size:Nat} {v:Value} {n:Nat} {xs:List Value} (h:w.ownsRow base T size v n xs) {b:Nat} (hb:v.ownBlock = some b):base≤b∧b < w.heap.size:=by
 obtain ⟨_,⟨rfl,rfl⟩ | ⟨g,cap,cur,rfl,h4,h5,_⟩⟩:=h
 ·cases hb
 ·simp only [Value.ownBlock,Option.some.injEq] at hb
  subst hb
  refine ⟨h4,?_⟩
  rcases Nat.lt_or_ge g w.heap.size with h | h
  ·exact h
  ·rw [Array.getElem?_eq_none h] at h5
   cases h5
theorem own_keep {S:Nat→Prop} {w w':World} {base:Nat} {T:TypeId} {size:Nat} {v:Value} {n:Nat} {xs:List Value} (h:w.ownsRow base T size v n xs) (hk:Keep S w w') (hs:∀ b,v.ownBlock = some b→¬ S b):w'.ownsRow base T size v n xs:=by
 have hl:=fun b hb=>(own_base h (b:=b) hb).2
 obtain ⟨h1,⟨h2,h3⟩ | ⟨g,cap,cur,rfl,h4,h5,h6⟩⟩:=h
 ·exact ⟨h1,.inl ⟨h2,h3⟩⟩
 ·exact ⟨h1,.inr ⟨g,cap,cur,rfl,h4,(hk.block g (hl g rfl) (hs g rfl)).trans h5,h6⟩⟩
theorem OwnNew.apart {W0:World} {bk0 bkv:Value} (h:OwnNew W0 bk0 bkv) {X:Nat} (hX:X < W0.heap.size) (h0:∀ b,bk0.ownBlock = some b→¬ b = X):∀ b,bkv.ownBlock = some b→¬ b = X:=by
 intro b hb hbx
 rcases h with h | ⟨c,h1,h2⟩
 ·exact h0 b (h.symm.trans hb) hbx
 ·rw [h1] at hb
  cases hb
  omega
def IsV (w:World) (v:Value) (zs:List Int):Prop :=
 ∃ p cap,v = .slice p zs.length cap∧zs.length≤cap∧∀ k (hk:k < zs.length),∃ b o,p = some ⟨b,o,none⟩∧b < w.heap.size∧w.cell? ⟨b,o+k,none⟩ = some (.int .i64 zs[k])
theorem IsV.below {w w':World} {v:Value} {zs:List Int} (h:IsV w v zs) (hb:Below w.heap.size w w'):IsV w' v zs:=by
 obtain ⟨p,cap,h1,h2,h3⟩:=h
 refine ⟨p,cap,h1,h2,fun k hk=>?_⟩
 obtain ⟨b,o,h4,h5,h6⟩:=h3 k hk
 exact ⟨b,o,h4,Nat.lt_of_lt_of_le h5 hb.size,(World.cell?_of_block (w:=w) (a:=⟨b,o+k,none⟩) (hb.block b h5)).trans h6⟩
theorem IsV.made (w:World) (zs:List Int) (T:TypeId):IsV (w.alloc (.cells (zs.map (Value.int .i64)).toArray T)) (.slice (some ⟨w.heap.size,0,none⟩) zs.length zs.length) zs:=by
 refine ⟨_,_,rfl,Nat.le_refl _,fun k hk=>⟨w.heap.size,0,rfl,by simp,?_⟩⟩
 have:=(At.alloc w (zs.map (Value.int .i64)) T k (.int .i64 zs[k]) (by rw [List.getElem?_map,List.getElem?_eq_getElem hk]; rfl)).1
 rw [Nat.zero_add]
 exact this
end Go.Proofs.YtanndhoimpnhpaaGreatDoor
namespace Go.Proofs.YtanndhoimpnhpaaGreatDoor
open Go.ChangeShapes Go.WideShapes Go.ChangeAt Go.RowKit Lg Cal
set_option maxRecDepth 10000 in
theorem line_any (w:World) (W:List UInt8) (v:Value) (ns:List Int) (hv:IsV w v ns) (hn:∀ n∈ns,InR n) (hs:W.length+22*ns.length≤4611686018427387904) :
  Calls Tryz.prog 124 #[.string (bs W),v] w fun e w'=>e = .returned (.string (bs (lineB W ns)))∧Below w.heap.size w w':=by
 obtain ⟨p,cap,rfl,hcap,hr⟩:=hv
 have HR:=hid hr
 have HN:=hid hn
 clear hr hn
 go_enter Tryz.func124,Tryz.ntmps124
 go_wp2
 go_loopw [0,5,6] (fun s0 s5 _ wr=>∃ k:Nat,k≤ns.length∧s0 = .string (bs (W ++ lnum (ns.take k)))∧s5 = .int .i64 k∧Below w.heap.size w wr) (fun _ s5 _ _=>(ns.length - intOf s5).toNat)
 case atStart=>exact ⟨0,Nat.zero_le _,by simp [lnum],rfl,Below.refl _ _⟩
 case round =>
  obtain ⟨k,hk,rfl,rfl,hb⟩:=hrel
  have HB:=hid hb
  clear hb
  have hL:(W ++ lnum (ns.take k)).length≤W.length+22*k:=by
   have:=lnum_len (ns.take k) (fun n hn=>HN.out n (List.mem_of_mem_take hn))
   rw [List.length_take] at this
   rw [List.length_append]
   omega
  by_cases hlt:k < ns.length
  ·obtain ⟨b,o,rfl,hbl,hc⟩:=HR.out k hlt
   have hcw:wr.cell? ⟨b,o+k,none⟩ = some (.int .i64 ns[k]):=(World.cell?_of_block (w:=w) (a:=⟨b,o+k,none⟩) (HB.out.block b hbl)).trans hc
   obtain ⟨r0,r1⟩:=HN.out ns[k] (List.getElem_mem hlt)
   have hD:=dec_any ns[k] r0 r1 wr
   have hT:=Lib.itoa_length_le ns[k] r0 r1
   have HE:Hid (bs (W ++ lnum (ns.take (k+1))) = bs (W ++ lnum (ns.take k)) ++ bs [32] ++ bs (Lib.itoa ns[k])):=by
    show _ = _
    rw [bs_app,bs_app,lnum_take ns k hlt]
    simp
   have z1:¬ 9223372036854775807 < (bs (W ++ lnum (ns.take k))).size+1:=by rw [bs_size]; omega
   have z2:¬ 9223372036854775807 < (bs (W ++ lnum (ns.take k))).size+1+(bs (Lib.itoa ns[k])).size:=by rw [bs_size,bs_size]; omega
   have zk:(k:Int) < (ns.length:Int):=by omega
   clear hc hL hT r0 r1
   generalize ns[k] = z at *
   generalize bs (W ++ lnum (ns.take k)) = S at *
   generalize bs (Lib.itoa z) = T at *
   go_wp2_with fail
   refine hD.mono ?_
   rintro e w1 ⟨rfl,hb1⟩
   have HB1:Hid (Below w.heap.size w w1):=HB.out.trans (hb1.mono HB.out.size)
   clear hD hb1 HB
   go_wp2
   exact ⟨⟨k+1,hlt,by rw [HE.out]; rfl,rfl,HB1.out⟩,by simp [intOf]; omega⟩
  ·obtain rfl:k = ns.length:=by omega
   have zk:¬ (ns.length:Int) < (ns.length:Int):=by omega
   have HE:Hid (bs (lineB W ns) = bs (W ++ lnum (ns.take ns.length)) ++ bs [10]):=by
    show _ = _
    rw [bs_app,List.take_length]
    rfl
   have z1:¬ 9223372036854775807 < (bs (W ++ lnum (ns.take ns.length))).size+1:=by rw [bs_size]; omega
   clear hL
   generalize bs (W ++ lnum (ns.take ns.length)) = S at *
   go_wp2
   go_ret
   exact ⟨by rw [HE.out]; rfl,HB.out⟩
end Go.Proofs.YtanndhoimpnhpaaGreatDoor
