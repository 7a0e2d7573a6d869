/- Joined by program: BsC, BsG, BsK, BsE, BsF. -/
import Derived.Test.YtanndhoimpnhpaaGreatDoorM16
namespace Go.Proofs.YtanndhoimpnhpaaGreatDoor
open Go.RowKit
def tauM (τ:Nat→Nat) (s:Nat) (lv' l:Value) (n0 n1:Nat):Nat→Nat:=fun b=>if lv'.ownBlock = some b then 10+s else if l.ownBlock = some b∨(n0≤b∧b < n1) then 16+s else τ b
structure MarkTo (w:World) (TS:TypeId) (sz W:Nat) (c:List Value) (lv:Value) (Ls:List Value) (l lv' x y z:Value) (w':World):Prop where
 ol:w'.ownsRow 0 TS 1 lv' (Ls.length+4) (Ls ++ [l,x,y,z])
 us:∀ u∈[l,x,y,z],RdV w' sz u c∧∀ b,u.ownBlock = some b→(l.ownBlock = some b∨w.heap.size≤b)∧b < w'.heap.size∧¬ lv'.ownBlock = some b
 kp:Keep (fun b=>b = W∨lv.ownBlock = some b∨l.ownBlock = some b) w w'
 nl:OwnNew w lv lv'
section
variable {w w':World} {TS:TypeId} {sz W:Nat} {ok:Nat→List Value→Prop} {mk:Nat→List Value} {lv wv rv lv' l x y z:Value} {Ls Ws Rs c:List Value} {i:Nat} {τ:Nat→Nat} {s:Nat}
theorem MarkTo.tag (h:MarkTo w TS sz W c lv Ls l lv' x y z w') (tl:∀ b,lv.ownBlock = some b→τ b = 10+s) (h0:∀ b,τ b ≠ 0→b < w.heap.size) (hl:∀ b,l.ownBlock = some b→τ b = 100+2*i+s) (b:Nat) (hb:τ b ≠ 0) (h2:τ b ≠ 10+s) (h3:τ b ≠ 100+2*i+s):tauM τ s lv' l w.heap.size w'.heap.size b = τ b:=by
 have hlt:=h0 b hb
 unfold tauM
 rw [if_neg,if_neg]
 ·rintro (e | e)
  ·exact h3 (hl b e)
  ·omega
 ·intro e
  rcases h.nl with h1 | ⟨d,h1,h4⟩
  ·exact h2 (tl b (h1.symm.trans e))
  ·rw [h1] at e
   cases e
   omega
theorem Side.mark (hS:Side w TS sz ok mk lv wv rv Ls Ws Rs i τ s) (hs:s < 2) (h:MarkTo w TS sz W c lv Ls l lv' x y z w') (hi:Ws[i]? = some l) (hc:c = mk (Ls.length / 4)) (h0:∀ b,τ b ≠ 0→b < w.heap.size) (hW:τ W = 0) :
  Side w' TS sz ok mk lv' wv rv (Ls ++ [l,x,y,z]) Ws Rs (i+1) (tauM τ s lv' l w.heap.size w'.heap.size) s:=by
 subst hc
 have hil:=(List.getElem?_eq_some_iff.1 hi).1
 obtain ⟨r,hr⟩:∃ r,Rs[i]? = some r:=⟨_,List.getElem?_eq_getElem (by rw [hS.rl]; exact hil)⟩
 obtain ⟨_,_,_,_,_,hl,_⟩:=hS.ws i l r (Nat.le_refl _) hi hr
 have tg:=h.tag (i:=i) hS.tl h0 hl
 have kk:∀ b,τ b ≠ 0→τ b ≠ 10+s→τ b ≠ 100+2*i+s→¬ (b = W∨lv.ownBlock = some b∨l.ownBlock = some b):=fun b h1 h2 h3 hx=>by
  rcases hx with hx | hx | hx
  ·subst hx; exact h1 hW
  ·exact h2 (hS.tl b hx)
  ·exact h3 (hl b hx)
 have t4:∀ u∈[l,x,y,z],∀ b,u.ownBlock = some b→tauM τ s lv' l w.heap.size w'.heap.size b = 16+s:=fun u hu b hb=>by
  obtain ⟨h1,h2,h3⟩:=(h.us u hu).2 b hb
  unfold tauM
  rw [if_neg h3,if_pos]
  rcases h1 with h1 | h1
  ·exact .inl h1
  ·exact .inr ⟨h1,h2⟩
 refine ⟨?_,own_keep hS.ow h.kp (fun b hb=>kk b (by rw [hS.tw b hb]; omega) (by rw [hS.tw b hb]; omega) (by rw [hS.tw b hb]; omega)),own_keep hS.or h.kp (fun b hb=>kk b (by rw [hS.tr b hb]; omega) (by rw [hS.tr b hb]; omega) (by rw [hS.tr b hb]; omega)),fun b hb=>?_,fun b hb=>?_,fun b hb=>?_,fun j u hj=>?_,?_,fun k u q hik hu hq=>?_⟩
 ·rw [List.length_append]; exact h.ol
 ·unfold tauM
  rw [if_pos hb]
 ·exact (tg b (by rw [hS.tw b hb]; omega) (by rw [hS.tw b hb]; omega) (by rw [hS.tw b hb]; omega)).trans (hS.tw b hb)
 ·exact (tg b (by rw [hS.tr b hb]; omega) (by rw [hS.tr b hb]; omega) (by rw [hS.tr b hb]; omega)).trans (hS.tr b hb)
 ·by_cases hj2:j < Ls.length
  ·rw [List.getElem?_append_left hj2] at hj
   obtain ⟨h1,h2⟩:=hS.ls j u hj
   exact ⟨h1.keep h.kp (fun b hb=>kk b (by rw [h2 b hb]; omega) (by rw [h2 b hb]; omega) (by rw [h2 b hb]; omega)),fun b hb=>(tg b (by rw [h2 b hb]; omega) (by rw [h2 b hb]; omega) (by rw [h2 b hb]; omega)).trans (h2 b hb)⟩
  ·rw [List.getElem?_append_right (by omega)] at hj
   have hm:=List.mem_of_getElem? hj
   have hj4:j - Ls.length < 4:=by have:=(List.getElem?_eq_some_iff.1 hj).1; simpa using this
   have hd:j / 4 = Ls.length / 4:=by have:=hS.lm; omega
   rw [hd]
   exact ⟨(h.us u hm).1,t4 u hm⟩
 ·rw [List.length_append]
  have:=hS.lm
  simp only [List.length_cons,List.length_nil]
  omega
 ·obtain ⟨n,xs,h1,h2,h3,h4,h5⟩:=hS.ws k u q (by omega) hu hq
  exact ⟨n,xs,h1,h2.keep h.kp (fun b hb=>kk b (by rw [h4 b hb]; omega) (by rw [h4 b hb]; omega) (by rw [h4 b hb]; omega)),h3.keep h.kp (fun b hb=>kk b (by rw [h5 b hb]; omega) (by rw [h5 b hb]; omega) (by rw [h5 b hb]; omega)),fun b hb=>(tg b (by rw [h4 b hb]; omega) (by rw [h4 b hb]; omega) (by rw [h4 b hb]; omega)).trans (h4 b hb),fun b hb=>(tg b (by rw [h5 b hb]; omega) (by rw [h5 b hb]; omega) (by rw [h5 b hb]; omega)).trans (h5 b hb)⟩
theorem Side.mark_other {TS2:TypeId} {sz2:Nat} {ok2:Nat→List Value→Prop} {mk2:Nat→List Value} {lv2 wv2 rv2:Value} {Ls2 Ws2 Rs2:List Value} {s2 i2:Nat} (h2:Side w TS2 sz2 ok2 mk2 lv2 wv2 rv2 Ls2 Ws2 Rs2 i2 τ s2) (hs:s < 2) (hs2:s2 < 2) (hne:¬ s = s2) (tl:∀ b,lv.ownBlock = some b→τ b = 10+s) (hl:∀ b,l.ownBlock = some b→τ b = 100+2*i+s) (h:MarkTo w TS sz W c lv Ls l lv' x y z w') (h0:∀ b,τ b ≠ 0→b < w.heap.size) (hW:τ W = 0) :
  Side w' TS2 sz2 ok2 mk2 lv2 wv2 rv2 Ls2 Ws2 Rs2 i2 (tauM τ s lv' l w.heap.size w'.heap.size) s2:=by
 have sd:∀ q,Sd s2 i2 q→q ≠ 0∧q ≠ 10+s∧q ≠ 100+2*i+s:=by
  rintro q (rfl | rfl | rfl | rfl | rfl | ⟨k,_,rfl⟩) <;> omega
 refine (h2.keep h.kp (fun b hb hx=>?_)).tau (fun b hb=>h.tag tl h0 hl b (sd _ hb).1 (sd _ hb).2.1 (sd _ hb).2.2)
 obtain ⟨e1,e2,e3⟩:=sd _ hb
 rcases hx with hx | hx | hx
 ·subst hx; exact e1 hW
 ·exact e2 (tl b hx)
 ·exact e3 (hl b hx)
theorem MarkTo.tags (h:MarkTo w TS sz W c lv Ls l lv' x y z w') (tl:∀ b,lv.ownBlock = some b→τ b = 10+s) (h0:∀ b,τ b ≠ 0→b < w.heap.size) (hl:∀ b,l.ownBlock = some b→τ b = 100+2*i+s) (b:Nat) (hb:tauM τ s lv' l w.heap.size w'.heap.size b ≠ 0):(τ b ≠ 0∨w.heap.size≤b)∧b < w'.heap.size:=by
 have hz:=h.kp.size
 unfold tauM at hb
 by_cases e1:lv'.ownBlock = some b
 ·refine ⟨?_,(own_base h.ol e1).2⟩
  rcases h.nl with h1 | ⟨d,h1,h4⟩
  ·exact .inl (by rw [tl b (h1.symm.trans e1)]; omega)
  ·rw [h1] at e1; cases e1; exact .inr h4
 ·rw [if_neg e1] at hb
  by_cases e2:l.ownBlock = some b∨(w.heap.size≤b∧b < w'.heap.size)
  ·rcases e2 with e2 | e2
   ·have h1:τ b ≠ 0:=by rw [hl b e2]; omega
    have:=h0 b h1
    exact ⟨.inl h1,by omega⟩
   ·exact ⟨.inr e2.1,e2.2⟩
  ·rw [if_neg e2] at hb
   have:=h0 b hb
   exact ⟨.inl hb,by omega⟩
theorem MarkTo.not (h:MarkTo w TS sz W c lv Ls l lv' x y z w') (tl:∀ b,lv.ownBlock = some b→τ b = 10+s) (h0:∀ b,τ b ≠ 0→b < w.heap.size) (hl:∀ b,l.ownBlock = some b→τ b = 100+2*i+s) (b:Nat) (hb:b < w.heap.size) (hz:τ b = 0):tauM τ s lv' l w.heap.size w'.heap.size b = 0:=by
 rcases Nat.eq_zero_or_pos (tauM τ s lv' l w.heap.size w'.heap.size b) with h1 | h1
 ·exact h1
 ·rcases (h.tags tl h0 hl b (by omega)).1 with h2 | h2
  ·exact absurd hz h2
  ·omega
theorem Side.done (hS:Side w TS sz ok mk lv wv rv Ls Ws Rs Ws.length τ s):Side w TS sz ok mk lv (.slice none 0 0) (.slice none 0 0) Ls [] [] 0 τ s :=
 ⟨hS.ol,World.ownsRow_nil _ _ _ _,World.ownsRow_nil _ _ _ _,hS.tl,fun b hb=>(by cases hb),fun b hb=>(by cases hb),hS.ls,hS.lm,fun k v r _ hk=>(by simp at hk)⟩
end
theorem run_append_copy {P:Program} (w:World) (t ty e:TypeId) (i:TypeInfo) (z:Value) (size bytes:Nat) (ht:P.underlying t = some (.slice e)) (hi:P.info? e = some i) (hz:i.zero = some z)
  (hsize:i.size = size) (hby:i.bytes = bytes) (hzs:z.cells.size = size) (hsz:0 < size)
  (v:Value) (n:Nat) (xs:List Value) (hown:OwT w size v n xs) (h1:∀ u∈xs,u.oneCell' = true) (h63:n≤maxLen) (hbytes:n*bytes≤140737488355328) :
  ∃ v' w',(Builtin.append_ #[t,t] ty #[.slice none 0 0,v]).run P w = .ok v' w'∧OwT w' size v' n xs∧Below w.heap.size w w'∧∀ b,v'.ownBlock = some b→b = w.heap.size:=by
 obtain ⟨T,hown⟩:=hown
 rcases hown.2 with ⟨rfl,rfl⟩ | ⟨g,cap,cur,rfl,hbg,hg,hnc,hcm,hcs,htake⟩
 ·have hx:xs = []:=List.eq_nil_of_length_eq_zero (by simpa using hown.1)
  subst hx
  refine ⟨.slice none 0 0,w,?_,⟨e,World.ownsRow_nil w 0 e size⟩,Below.refl _ _,fun b hb=>(by cases hb)⟩
  simp [Builtin.append_,run_underlying ht,sizeOf,typeInfo,hi,Builtin.lenOf,Builtin.firstCells]
 ·have holds:∀ j u,xs[j]? = some u→w.cell? ((⟨g,0,none⟩:Addr).add j) = some u:=hown.cells (g:=g) rfl
  obtain ⟨v',w',hr,h2,h3,_,h5⟩:=run_append_own_at (P:=P) w 0 t ty e i z size bytes ht hi hz hsize hby hzs hsz (.slice none 0 0) 0 [] (World.ownsRow_nil w 0 e size) ⟨g,0,none⟩ n cap xs hown.1 holds h1 (by omega) (by rw [Nat.zero_add]; exact hbytes) (Nat.zero_le _)
  rw [Nat.zero_add,List.nil_append] at h2
  refine ⟨v',w',hr,⟨e,h2⟩,⟨h3.os,h3.tape,h3.output,h3.size,fun k hk=>h3.block k hk (fun x=>by cases x)⟩,fun b hb=>?_⟩
  rcases h5 with h5 | h5
  ·rw [h5] at hb; cases hb
  ·rw [h5] at hb; cases hb; rfl
theorem wp_append_copy {Pr:Program} {o:Oper} {a:Act} (w:World) {K:Act→World→Prop} {Q:Exit→Act→World→Prop} (s x:Operand) (t:TypeId)
  (ho:o.op = .call { callee:=.builtin .append,args:=#[s,x],argTypes:=#[t,t] })
  (e:TypeId) (i:TypeInfo) (z:Value) (size bytes:Nat) (ht:Pr.underlying t = some (.slice e)) (hi:Pr.info? e = some i) (hz:i.zero = some z)
  (hsize:i.size = size) (hby:i.bytes = bytes) (hzs:z.cells.size = size) (hsz:0 < size)
  (v:Value) (n:Nat) (xs:List Value) (hs:a.eval s = .slice none 0 0) (hx:a.eval x = v) (hown:OwT w size v n xs) (h1:∀ u∈xs,u.oneCell' = true)
  (h63:n≤maxLen) (hbytes:n*bytes≤140737488355328)
  (h:∀ v' w',OwT w' size v' n xs→Below w.heap.size w w'→(∀ b,v'.ownBlock = some b→b = w.heap.size)→K (a.put o.dst v') w'):o.wp Pr a w K Q:=by
 obtain ⟨v',w',hr,h2,h3,h4⟩:=run_append_copy (P:=Pr) w t o.type e i z size bytes ht hi hz hsize hby hzs hsz v n xs hown h1 h63 hbytes
 unfold Oper.wp execOp
 simp only [ho,resolve,invoke,builtin,Sem.run_bind,Sem.run_pure,Result.andThen_ok,List.map_toArray,List.map_cons,List.map_nil,hs,hx,hr]
 exact h v' w' h2 h3 h4
structure RowTo (w:World) (TS:TypeId) (W:Nat) (lv:Value) (Ls:List Value) (v lv':Value) (w':World):Prop where
 ol:w'.ownsRow 0 TS 1 lv' (Ls.length+1) (Ls ++ [v])
 kp:Keep (fun b=>b = W∨lv.ownBlock = some b) w w'
 nl:OwnNew w lv lv'
theorem row_to {w V w1:World} {TS:TypeId} {W:Nat} {lv:Value} {Ls:List Value} {v lv':Value} (hV:Below w.heap.size w V) (ha:∀ b,lv.ownBlock = some b→¬ b = W) (hW:W < w.heap.size) (ho:w1.ownsRow 0 TS 1 lv' (Ls.length+1) (Ls ++ [v])) (hg:V.grownBy w1 lv.ownBlock) (hat:lv'.ownBlock = lv.ownBlock∨lv'.ownBlock = some V.heap.size) (j:Nat) (q:Value):RowTo w TS W lv Ls v lv' (w1.setCell ⟨W,j,none⟩ q):=by
 have kg:Keep (fun b=>lv.ownBlock = some b) V w1:=⟨hg.os,hg.tape,hg.output,hg.size,fun b hb hs=>hg.block b hb (fun e=>hs e.symm)⟩
 have kq:Keep (fun b=>b = W) w1 (w1.setCell ⟨W,j,none⟩ q):=(Keep.refl _ _).set (S:=fun b=>b = W) rfl j q
 have hz:=hV.size
 refine ⟨own_keep ho kq (fun b hb=>?_),?_,?_⟩
 ·rcases hat with e | e
  ·exact ha b (e.symm.trans hb)
  ·rw [e] at hb; cases hb; omega
 ·exact ((Keep.below hV).trans (kg.mono (fun b _ hb=>.inr hb))).trans (kq.mono (fun b _ hb=>.inl hb))
 ·rcases hat with e | e
  ·exact .inl e
  ·exact .inr ⟨_,e,hz⟩
theorem came_make {w w2 w3 w5:World} {TS:TypeId} {sz W:Nat} {wv rv:Value} {Ws Rs:List Value} {v:Value} {n:Nat} {xs:List Value} {wv' rv' r:Value} (hl:Rs.length = Ws.length) (hW:W < w.heap.size) (how:w.ownsRow 0 TS 1 wv Ws.length Ws) (hor:w.ownsRow 0 TS 1 rv Ws.length Rs) (a1:∀ b,wv.ownBlock = some b→¬ b = W∧¬ rv.ownBlock = some b)
  (h1:RowTo w TS W wv Ws v wv' w2) (h2:Below w2.heap.size w2 w3) (hr:OwT w3 sz r n xs) (hrb:∀ b,r.ownBlock = some b→w2.heap.size≤b) (h3:RowTo w3 TS W rv Rs r rv' w5):CameTo w TS sz W wv rv Ws Rs v n xs wv' rv' r w5:=by
 have z1:=h1.kp.size
 have z2:=h2.size
 have z3:=h3.kp.size
 have lw:∀ b,wv.ownBlock = some b→b < w.heap.size:=fun b hb=>(own_base how hb).2
 have lr:∀ b,rv.ownBlock = some b→b < w.heap.size:=fun b hb=>(own_base hor hb).2
 have lw':∀ b,wv'.ownBlock = some b→b < w2.heap.size:=fun b hb=>(own_base h1.ol hb).2
 have e1:∀ b,wv'.ownBlock = some b→¬ b = W∧¬ rv.ownBlock = some b:=fun b hb=>by
  rcases h1.nl with e | ⟨c,e,hc⟩
  ·exact a1 b (e.symm.trans hb)
  ·rw [e] at hb
   cases hb
   exact ⟨by omega,fun x=>by have:=lr _ x; omega⟩
 have lr':∀ b,rv'.ownBlock = some b→rv.ownBlock = some b∨w3.heap.size≤b:=fun b hb=>by
  rcases h3.nl with e | ⟨c,e,hc⟩
  ·exact .inl (e.symm.trans hb)
  ·rw [e] at hb; cases hb; exact .inr hc
 refine ⟨own_keep (own_keep (S:=fun _=>False) h1.ol (Keep.below h2) (fun _ _ x=>x)) h3.kp (fun b hb hx=>?_),by rw [← hl]; exact h3.ol,hr.keep h3.kp (fun b hb hx=>?_),?_,h1.nl,?_,fun b hb=>by have:=hrb b hb; omega,fun b hb hx=>?_,fun b hb hx=>?_,fun b hb hx=>?_⟩
 ·rcases hx with hx | hx
  ·exact (e1 b hb).1 hx
  ·exact (e1 b hb).2 hx
 ·have:=hrb b hb
  rcases hx with hx | hx
  ·omega
  ·have:=lr b hx; omega
 ·refine ((h1.kp.mono (fun b _ hb=>?_)).trans (Keep.below h2)).trans (h3.kp.mono (fun b _ hb=>?_))
  ·rcases hb with hb | hb
   ·exact .inl hb
   ·exact .inr (.inl hb)
  ·rcases hb with hb | hb
   ·exact .inl hb
   ·exact .inr (.inr hb)
 ·rcases h3.nl with e | ⟨c,e,hc⟩
  ·exact .inl e
  ·exact .inr ⟨c,e,by omega⟩
 ·rcases lr' b hx with h | h
  ·exact (e1 b hb).2 h
  ·have:=lw' b hb; omega
 ·have:=hrb b hx
  have:=lw' b hb
  omega
 ·have h5:=hr.lt hx
  rcases lr' b hb with h | h
  ·have:=lr b h
   have:=hrb b hx
   omega
  ·omega
def isl (zs:List Int):List Value:=zs.map (Value.int .i64)
def okI (n:Nat) (xs:List Value):Prop:=n≤4000000000000∧∃ zs:List Int,zs.length = n∧xs = isl zs
def okE (n:Nat) (xs:List Value):Prop:=n≤4000000000000∧∃ L:List En,L.length = n∧xs = ens L
def mkI (j:Nat):List Value:=[.int .i64 (-7 - j)]
def mkE (j:Nat):List Value:=[.int .i64 0,.int .i64 (-7 - j),.int .i64 0]
end Go.Proofs.YtanndhoimpnhpaaGreatDoor
namespace Go.Proofs.YtanndhoimpnhpaaGreatDoor
open Go.ChangeShapes Go.WideShapes Go.ChangeAt Go.RowKit Cal
theorem bsI:(Tryz.prog.info? 3).map (fun i=>(i.zero,i.size,i.bytes)) = some (some (.int .i64 0),1,8):=by kernel_rfl
theorem bsIs:(Tryz.prog.info? 38).map (fun i=>(i.zero,i.size,i.bytes)) = some (some (.slice none 0 0),1,24):=by kernel_rfl
theorem Chain.start {w wr:World} {sz:Nat} {l:Value} {c:List Value} {n:Nat} (hc:c.length = sz) (hn:n≤4611686018427387904) (ho:OwT wr sz l n (reps n c)) (hk:Keep (fun b=>l.ownBlock = some b) w wr):Chain w wr sz l c l n [l]:=by
 refine ⟨ho,fun u hu=>?_,hk,fun b hb=>.inl hb⟩
 obtain rfl:u = l:=by simpa using hu
 refine ⟨ho.rd hc hn,fun b hb=>⟨.inl hb,ho.lt hb⟩,fun p k cap b e1 e2 e3=>?_⟩
 obtain ⟨p2,cap2,e4⟩:=ho.slice
 rw [e1] at e4
 injection e4 with _ e5 _
 omega
theorem Chain.book {w wr V w':World} {TS:TypeId} {sz W:Nat} {l:Value} {c:List Value} {lv lv' x y z:Value} {Ls:List Value} {n:Nat} {us:List Value} (h:Chain w wr sz l c z n us) (hus:us = [l,x,y,z]) (hV:Below wr.heap.size wr V) (hlv:w.ownsRow 0 TS 1 lv Ls.length Ls) (ha:∀ b,lv.ownBlock = some b→¬ b = W) (hal:∀ b,l.ownBlock = some b→¬ b = W∧¬ lv.ownBlock = some b) (hW:W < w.heap.size)
  (ho:w'.ownsRow 0 TS 1 lv' (Ls.length+4) (Ls ++ [l,x,y,z])) (hg:V.grownBy w' lv.ownBlock) (hat:lv'.ownBlock = lv.ownBlock∨lv'.ownBlock = some V.heap.size) (q:Value):MarkTo w TS sz W c lv Ls l lv' x y z (w'.setCell ⟨W,0,none⟩ q):=by
 subst hus
 have kg:Keep (fun b=>lv.ownBlock = some b) V w':=⟨hg.os,hg.tape,hg.output,hg.size,fun b hb hs=>hg.block b hb (fun e=>hs e.symm)⟩
 have kq:Keep (fun b=>b = W) w' (w'.setCell ⟨W,0,none⟩ q):=(Keep.refl _ _).set (S:=fun b=>b = W) rfl 0 q
 have hsz:=h.kp.size
 have hV2:=hV.size
 have hlw:∀ b,lv'.ownBlock = some b→¬ b = W:=fun b hb=>by
  rcases hat with e | e
  ·exact ha b (e.symm.trans hb)
  ·rw [e] at hb; cases hb; omega
 have hnu:∀ u∈[l,x,y,z],∀ b,u.ownBlock = some b→¬ b = W∧¬ lv.ownBlock = some b∧¬ lv'.ownBlock = some b∧b < V.heap.size:=fun u hu b hb=>by
  obtain ⟨h1,h2⟩:=(h.us u hu).2.1 b hb
  have h3:¬ b = W∧¬ lv.ownBlock = some b:=by
   rcases h1 with h1 | h1
   ·exact hal b h1
   ·exact ⟨by omega,fun e=>by have:=(own_base hlv e).2; omega⟩
  refine ⟨h3.1,h3.2,fun e=>?_,Nat.lt_of_lt_of_le h2 hV2⟩
  rcases hat with e2 | e2
  ·exact h3.2 (e2.symm.trans e)
  ·rw [e2] at e; cases e; omega
 refine ⟨own_keep ho kq (fun b hb=>hlw b hb),fun u hu=>?_,?_,?_⟩
 ·refine ⟨(((h.us u hu).1.keep (S:=fun _=>False) (Keep.below hV) (fun _ _ x=>x)).keep kg (fun b hb=>(hnu u hu b hb).2.1)).keep kq (fun b hb=>(hnu u hu b hb).1),fun b hb=>⟨((h.us u hu).2.1 b hb).1,?_,(hnu u hu b hb).2.2.1⟩⟩
  have:=(hnu u hu b hb).2.2.2
  have:=kg.size
  have:=kq.size
  omega
 ·refine ⟨kq.os.trans (kg.os.trans (hV.os.trans h.kp.os)),kq.tape.trans (kg.tape.trans (hV.tape.trans h.kp.tape)),kq.output.trans (kg.output.trans (hV.output.trans h.kp.output)),by have:=kq.size; have:=kg.size; omega,fun b hb hs=>?_⟩
  have e1:=kq.block b (by have:=kg.size; omega) (fun e=>hs (.inl e))
  have e2:=kg.block b (by omega) (fun e=>hs (.inr (.inl e)))
  have e3:=hV.block b (by omega)
  have e4:=h.kp.block b hb (fun e=>hs (.inr (.inr e)))
  exact e1.trans (e2.trans (e3.trans e4))
 ·rcases hat with e | e
  ·exact .inl e
  ·exact .inr ⟨_,e,by omega⟩
set_option maxRecDepth 10000 in
set_option maxHeartbeats 4000000 in
theorem ints_core (w:World) (W:Nat) (X:List Value) (lv l:Value) (Ls:List Value) (n:Nat) (xs:List Value) (hX:At w W (lv :: X)) (ho:w.ownsRow 0 38 1 lv Ls.length Ls) (hl:OwT w 1 l n xs) (hLs:Ls.length≤1000000000) (hn:n≤4000000000000) (a1:∀ b,lv.ownBlock = some b→¬ b = W) (a2:∀ b,l.ownBlock = some b→¬ b = W∧¬ lv.ownBlock = some b) :
  Calls Tryz.prog 64 #[.pointer (some ⟨W,0,none⟩),l] w fun e w'=>e = .returned (.tuple #[])∧∃ lv' x y z,At w' W (lv' :: X)∧MarkTo w 38 1 W (mkI (Ls.length / 4)) lv Ls l lv' x y z w':=by
 obtain ⟨i0,hi0,hz0,hz1,hz2⟩:=info_parts bsI
 obtain ⟨i1,hi1,hy0,hy1,hy2⟩:=info_parts bsIs
 obtain ⟨lp,lcap,rfl⟩:=own_slice ho
 obtain ⟨m,hm⟩:∃ m:Int,m = -7 - ((Ls.length / 4:Nat):Int):=⟨_,rfl⟩
 have hmk:mkI (Ls.length / 4) = [.int .i64 m]:=by unfold mkI; rw [hm]
 rw [hmk]
 have HX:=hid hX
 have hWl:W < w.heap.size:=At.lt hX
 have HO:=hid ho
 have HL:=hid hl
 have HA1:=hid a1
 have HA2:=hid a2
 obtain ⟨p,cap,rfl⟩:=hl.slice
 have c0:w.cell? ⟨W,0,none⟩ = some (.slice lp Ls.length lcap):=hX.cell 0 rfl
 have z1:(Ls.length:Int).tdiv 4 = ((Ls.length / 4:Nat):Int):=by
  rw [Int.tdiv_eq_ediv_of_nonneg (by omega)]
  omega
 have hxl:=hl.len
 clear hX ho hl a1 a2
 go_enter Tryz.func64,Tryz.ntmps64
 go_wp2
 rw [show (-7 - (Ls.length:Int) / 4) = m by rw [hm]; omega]
 clear hm hmk
 go_loopw [5] (fun s5 wr=>∃ k:Nat,k≤n∧s5 = .int .i64 k∧OwT wr 1 (.slice p n cap) n (fil k [.int .i64 m] xs)∧Keep (fun b=>(Value.slice p n cap).ownBlock = some b) w wr) (fun s5 _=>(n - intOf s5).toNat)
 case atStart=>exact ⟨0,Nat.zero_le _,rfl,by rw [fil_zero]; exact HL.out,Keep.refl _ _⟩
 case round =>
  obtain ⟨k,hk,rfl,hOw,hKp⟩:=hrel
  by_cases hlt:k < n
  ·obtain ⟨T,g,cap',e0,hcap,hoR⟩:=hOw.form (by omega)
   injection e0 with e1 _ e2
   subst e1 e2
   have zk:(k:Int) < (n:Int):=by omega
   have hlen:(fil k [Value.int .i64 m] xs).length = n*1:=hOw.len
   have hcl:∃ u,wr.cell? ⟨g,k,none⟩ = some u:=⟨_,(hoR.cellAt k (by omega)).trans (List.getElem?_eq_getElem (by omega))⟩
   obtain ⟨u,hcu⟩:=hcl
   have hfz:wr.frozen? ⟨g,k,none⟩ = false:=hoR.frozenAt k
   have HN:Hid (OwT (wr.setCell ⟨g,k,none⟩ (.int .i64 m)) 1 (.slice (some ⟨g,0,none⟩) n cap) n (fil (k+1) [.int .i64 m] xs)∧Keep (fun b=>(Value.slice (some ⟨g,0,none⟩) n cap).ownBlock = some b) w (wr.setCell ⟨g,k,none⟩ (.int .i64 m))):=by
    refine ⟨⟨T,?_⟩,hKp.set (S:=fun b=>(Value.slice (some ⟨g,0,none⟩) n cap).ownBlock = some b) rfl k _⟩
    have h1:=own_setl [Value.int .i64 m] k _ wr hoR
    have h2:=fil_succ k [Value.int .i64 m] xs (by simp; omega)
    rw [show k*[Value.int .i64 m].length = k by simp] at h2
    rw [h2] at h1
    exact h1
   clear hOw hKp hoR c0
   go_wp2
   exact ⟨⟨k+1,hlt,rfl,HN.out.1,HN.out.2⟩,by simp [intOf]; omega⟩
  ·obtain rfl:n = k:=by omega
   have zk:¬ (n:Int) < (n:Int):=by omega
   rw [fil_all n _ xs (by simpa using hxl)] at hOw
   have HC:Hid (Chain w wr 1 (.slice p n cap) [.int .i64 m] (.slice p n cap) n [.slice p n cap]):=Chain.start rfl (by omega) hOw hKp
   clear hOw hKp c0
   go_upto_region 5 with fail
   have hB5:Below wr.heap.size wr (wr.alloc (.cells #[.int .i64 m] 3)):=(Below.refl _ _).alloc (Nat.le_refl _) _
   have HC5:Hid (Chain w (wr.alloc (.cells #[.int .i64 m] 3)) 1 (.slice p n cap) [.int .i64 m] (.slice p n cap) (n+0) [.slice p n cap]):=HC.out.below hB5
   have hne5:∀ j u,[Value.int .i64 m][j]? = some u→(wr.alloc (.cells #[.int .i64 m] 3)).cell? ((⟨wr.heap.size,0,none⟩:Addr).add j) = some u:=fun j u hu=>by
    have:=(At.alloc wr [Value.int .i64 m] 3 j u hu).1
    rw [Addr.add_lit,Nat.zero_add]
    exact this
   clear HC hB5
   refine wp_region_lit ?_
   refine wpList_val (.slice p n cap) wr rfl rfl ?_
   simp only [uP]
   refine wpList_val (.int .i64 m) wr rfl rfl ?_
   simp only [uP]
   refine wpList_val (.slice (some ⟨wr.heap.size,0,none⟩) 1 1) (wr.alloc (.cells #[.int .i64 m] 3)) rfl (by kernel_rfl) ?_
   simp only [uP]
   refine wpList_append_T _ rfl (.tmp 26) (.tmp 28) 38 rfl 3 i0 _ 1 8 Tryz.underlying38 hi0 hz0 hz1 hz2 rfl (.slice p n cap) (n+0) _ rfl HC5.out.ow ⟨wr.heap.size,0,none⟩ 1 1 (by omega) [.int .i64 m] rfl rfl hne5 (fun u hu=>by rw [List.mem_singleton] at hu; subst hu; rfl) (by unfold maxLen; omega) (by omega) ?_
   intro x w5 ho5 hli5
   have HCa:Hid (Chain w w5 1 (.slice p n cap) [.int .i64 m] x (n+0+1) ([.slice p n cap] ++ [x])):=HC5.out.app rfl (by omega) ho5 hli5
   clear ho5 hli5 hne5 HC5
   simp only [uP]
   go_upto_region 6 with fail
   have hB6:Below w5.heap.size w5 (w5.alloc (.cells #[.int .i64 m] 3)):=(Below.refl _ _).alloc (Nat.le_refl _) _
   have HC6:Hid (Chain w (w5.alloc (.cells #[.int .i64 m] 3)) 1 (.slice p n cap) [.int .i64 m] x (n+1) ([.slice p n cap] ++ [x])):=HCa.out.below hB6
   have hne6:∀ j u,[Value.int .i64 m][j]? = some u→(w5.alloc (.cells #[.int .i64 m] 3)).cell? ((⟨w5.heap.size,0,none⟩:Addr).add j) = some u:=fun j u hu=>by
    have:=(At.alloc w5 [Value.int .i64 m] 3 j u hu).1
    rw [Addr.add_lit,Nat.zero_add]
    exact this
   clear HCa hB6
   refine wp_region_lit ?_
   refine wpList_val x w5 rfl rfl ?_
   simp only [uP]
   refine wpList_val (.int .i64 m) w5 rfl rfl ?_
   simp only [uP]
   refine wpList_val (.slice (some ⟨w5.heap.size,0,none⟩) 1 1) (w5.alloc (.cells #[.int .i64 m] 3)) rfl (by kernel_rfl) ?_
   simp only [uP]
   refine wpList_append_T _ rfl (.tmp 30) (.tmp 32) 38 rfl 3 i0 _ 1 8 Tryz.underlying38 hi0 hz0 hz1 hz2 rfl x (n+1) _ rfl HC6.out.ow ⟨w5.heap.size,0,none⟩ 1 1 (by omega) [.int .i64 m] rfl rfl hne6 (fun u hu=>by rw [List.mem_singleton] at hu; subst hu; rfl) (by unfold maxLen; omega) (by omega) ?_
   intro y w6 ho6 hli6
   have HCb:Hid (Chain w w6 1 (.slice p n cap) [.int .i64 m] y (n+1+1) (([.slice p n cap] ++ [x]) ++ [y])):=HC6.out.app rfl (by omega) ho6 hli6
   clear ho6 hli6 hne6 HC6
   simp only [uP]
   go_upto_region 7 with fail
   have hB7:Below w6.heap.size w6 (w6.alloc (.cells #[.int .i64 m] 3)):=(Below.refl _ _).alloc (Nat.le_refl _) _
   have HC7:Hid (Chain w (w6.alloc (.cells #[.int .i64 m] 3)) 1 (.slice p n cap) [.int .i64 m] y (n+2) ([.slice p n cap] ++ [x] ++ [y])):=HCb.out.below hB7
   have hne7:∀ j u,[Value.int .i64 m][j]? = some u→(w6.alloc (.cells #[.int .i64 m] 3)).cell? ((⟨w6.heap.size,0,none⟩:Addr).add j) = some u:=fun j u hu=>by
    have:=(At.alloc w6 [Value.int .i64 m] 3 j u hu).1
    rw [Addr.add_lit,Nat.zero_add]
    exact this
   clear HCb hB7
   refine wp_region_lit ?_
   refine wpList_val y w6 rfl rfl ?_
   simp only [uP]
   refine wpList_val (.int .i64 m) w6 rfl rfl ?_
   simp only [uP]
   refine wpList_val (.slice (some ⟨w6.heap.size,0,none⟩) 1 1) (w6.alloc (.cells #[.int .i64 m] 3)) rfl (by kernel_rfl) ?_
   simp only [uP]
   refine wpList_append_T _ rfl (.tmp 34) (.tmp 36) 38 rfl 3 i0 _ 1 8 Tryz.underlying38 hi0 hz0 hz1 hz2 rfl y (n+2) _ rfl HC7.out.ow ⟨w6.heap.size,0,none⟩ 1 1 (by omega) [.int .i64 m] rfl rfl hne7 (fun u hu=>by rw [List.mem_singleton] at hu; subst hu; rfl) (by unfold maxLen; omega) (by omega) ?_
   intro z w7 ho7 hli7
   have HCc:Hid (Chain w w7 1 (.slice p n cap) [.int .i64 m] z (n+2+1) (([.slice p n cap] ++ [x] ++ [y]) ++ [z])):=HC7.out.app rfl (by omega) ho7 hli7
   clear ho7 hli7 hne7 HC7
   simp only [uP]
   go_upto_region 8 with fail
   obtain ⟨_,gz,capz,ez,_,_⟩:=HCc.out.ow.form (by omega)
   have hx8:∃ px kx cx,x = .slice px kx cx:=by
    obtain ⟨px,kx,cx,e,_⟩:=(HCc.out.us x (by simp)).1
    exact ⟨px,kx,cx,e⟩
   have hy8:∃ px kx cx,y = .slice px kx cx:=by
    obtain ⟨px,kx,cx,e,_⟩:=(HCc.out.us y (by simp)).1
    exact ⟨px,kx,cx,e⟩
   obtain ⟨px,kx,cx,rfl⟩:=hx8
   obtain ⟨py,ky,cy,rfl⟩:=hy8
   subst ez
   have hA7:At w7 W (.slice lp Ls.length lcap :: X):=At.keep HX.out HCc.out.kp (fun e=>(HA2.out W e).1 rfl)
   have c0:w7.cell? ⟨W,0,none⟩ = some (.slice lp Ls.length lcap):=hA7.cell 0 rfl
   have hB8:Below w7.heap.size w7 (w7.alloc (.cells #[.slice p n cap,.slice px kx cx,.slice py ky cy,.slice (some ⟨gz,0,none⟩) (n+2+1) capz] 38)):=(Below.refl _ _).alloc (Nat.le_refl _) _
   have hA8:At (w7.alloc (.cells #[.slice p n cap,.slice px kx cx,.slice py ky cy,.slice (some ⟨gz,0,none⟩) (n+2+1) capz] 38)) W (.slice lp Ls.length lcap :: X):=At.keep (S:=fun _=>False) hA7 (Keep.below hB8) (fun x=>x)
   have hO8:(w7.alloc (.cells #[.slice p n cap,.slice px kx cx,.slice py ky cy,.slice (some ⟨gz,0,none⟩) (n+2+1) capz] 38)).ownsRow 0 38 1 (.slice lp Ls.length lcap) Ls.length Ls:=own_keep (S:=fun _=>False) (own_keep HO.out HCc.out.kp (fun b hb e=>(HA2.out b e).2 hb)) (Keep.below hB8) (fun _ _ x=>x)
   have hne8:∀ j u,[Value.slice p n cap,.slice px kx cx,.slice py ky cy,.slice (some ⟨gz,0,none⟩) (n+2+1) capz][j]? = some u→(w7.alloc (.cells #[.slice p n cap,.slice px kx cx,.slice py ky cy,.slice (some ⟨gz,0,none⟩) (n+2+1) capz] 38)).cell? ((⟨w7.heap.size,0,none⟩:Addr).add j) = some u:=fun j u hu=>by
    have:=(At.alloc w7 [.slice p n cap,.slice px kx cx,.slice py ky cy,.slice (some ⟨gz,0,none⟩) (n+2+1) capz] 38 j u hu).1
    rw [Addr.add_lit,Nat.zero_add]
    exact this
   clear hA7
   refine wp_region_lit ?_
   refine wpList_val (.pointer (some ⟨W,0,none⟩)) w7 rfl rfl ?_
   simp only [uP]
   refine wpList_val (.pointer (some ⟨W,0,none⟩)) w7 rfl rfl ?_
   simp only [uP]
   refine wpList_val (.pointer (some ⟨W,0,none⟩)) w7 rfl (by go_simp) ?_
   simp only [uP]
   refine wpList_val (.pointer (some ⟨W,0,none⟩)) w7 rfl (by go_simp) ?_
   simp only [uP]
   refine wpList_val (.slice lp Ls.length lcap) w7 rfl (by go_simp) ?_
   simp only [uP]
   refine wpList_val (.slice p n cap) w7 rfl rfl ?_
   simp only [uP]
   refine wpList_val (.slice px kx cx) w7 rfl rfl ?_
   simp only [uP]
   refine wpList_val (.slice py ky cy) w7 rfl rfl ?_
   simp only [uP]
   refine wpList_val (.slice (some ⟨gz,0,none⟩) (n+2+1) capz) w7 rfl rfl ?_
   simp only [uP]
   refine wpList_val (.slice (some ⟨w7.heap.size,0,none⟩) 4 4) (w7.alloc (.cells #[.slice p n cap,.slice px kx cx,.slice py ky cy,.slice (some ⟨gz,0,none⟩) (n+2+1) capz] 38)) rfl (by kernel_rfl) ?_
   simp only [uP]
   refine wpList_append_own_at _ rfl (.tmp 42) (.tmp 47) 62 rfl 0 38 i1 _ 1 24 Tryz.underlying62 hi1 hy0 hy1 hy2 rfl (by omega) _ Ls.length Ls rfl hO8 ⟨w7.heap.size,0,none⟩ 4 4 _ rfl rfl hne8 (fun u hu=>?_) (by unfold maxLen; omega) (by omega) (Nat.zero_le _) ?_
   ·simp only [List.mem_cons,List.mem_nil_iff,or_false] at hu
    rcases hu with rfl | rfl | rfl | rfl <;> rfl
   intro lv' w8 ho8 hg8 _ hat8
   have hA9:At w8 W (.slice lp Ls.length lcap :: X):=At.keep (S:=fun b=>(Value.slice lp Ls.length lcap).ownBlock = some b) hA8 ⟨hg8.os,hg8.tape,hg8.output,hg8.size,fun b hb hs=>hg8.block b hb (fun e=>hs e.symm)⟩ (fun e=>HA1.out W e rfl)
   obtain ⟨lg,lcap',rfl,_,_⟩:=ho8.form (by omega)
   have c0:w8.cell? ⟨W,0,none⟩ = some (.slice lp Ls.length lcap):=hA9.cell 0 rfl
   have f0:w8.frozen? ⟨W,0,none⟩ = false:=hA9.free 0 rfl
   have HE:Hid (∃ lv' x y z,At (w8.setCell ⟨W,0,none⟩ (.slice (some ⟨lg,0,none⟩) (Ls.length+4) lcap')) W (lv' :: X)∧MarkTo w 38 1 W [.int .i64 m] (.slice lp Ls.length lcap) Ls (.slice p n cap) lv' x y z (w8.setCell ⟨W,0,none⟩ (.slice (some ⟨lg,0,none⟩) (Ls.length+4) lcap'))) :=
    ⟨_,_,_,_,hA9.set 0 (by simp) _,HCc.out.book (by simp) hB8 HO.out HA1.out HA2.out hWl ho8 hg8 hat8 _⟩
   clear hA9 hA8 hO8 hne8 hB8 ho8 hg8 hat8 HCc HO HA1 HA2 HX HL
   simp only [uP]
   go_wp2
   go_end0
   obtain ⟨lv',x,y,z,h1,h2⟩:=HE.out
   exact ⟨rfl,lv',h1,x,y,z,h2⟩
theorem bsE:(Tryz.prog.info? 114).map (fun i=>(i.zero,i.size,i.bytes)) = some (some (.agg #[.int .i64 0,.int .i64 0,.int .i64 0]),3,24):=by kernel_rfl
theorem bsEs:(Tryz.prog.info? 54).map (fun i=>(i.zero,i.size,i.bytes)) = some (some (.slice none 0 0),1,24):=by kernel_rfl
theorem Chain.weak {w w1 wr:World} {sz:Nat} {l:Value} {c:List Value} {v:Value} {n:Nat} {us:List Value} (h:Chain w1 wr sz l c v n us) (hb:Below w.heap.size w w1):Chain w wr sz l c v n us:=by
 have hz:=hb.size
 refine ⟨h.ow,fun u hu=>⟨(h.us u hu).1,fun b hub=>⟨?_,((h.us u hu).2.1 b hub).2⟩,(h.us u hu).2.2⟩,(Keep.below hb).trans h.kp,fun b hvb=>?_⟩
 ·rcases ((h.us u hu).2.1 b hub).1 with h1 | h1
  ·exact .inl h1
  ·exact .inr (by omega)
 ·rcases h.vb b hvb with h1 | h1
  ·exact .inl h1
  ·exact .inr (by omega)
theorem Chain.book1 {w wr V w':World} {TS:TypeId} {sz W:Nat} {l:Value} {c:List Value} {lv lv' x y z:Value} {Ls:List Value} {n:Nat} {us:List Value} (h:Chain w wr sz l c z n us) (hus:us = [l,x,y,z]) (hV:Below wr.heap.size wr V) (hlv:w.ownsRow 0 TS 1 lv Ls.length Ls) (ha:∀ b,lv.ownBlock = some b→¬ b = W) (hal:∀ b,l.ownBlock = some b→¬ b = W∧¬ lv.ownBlock = some b) (hW:W < w.heap.size)
  (ho:w'.ownsRow 0 TS 1 lv' (Ls.length+4) (Ls ++ [l,x,y,z])) (hg:V.grownBy w' lv.ownBlock) (hat:lv'.ownBlock = lv.ownBlock∨lv'.ownBlock = some V.heap.size) (q:Value):MarkTo w TS sz W c lv Ls l lv' x y z (w'.setCell ⟨W,1,none⟩ q):=by
 have h0:=h.book hus hV hlv ha hal hW ho hg hat q
 have e:∀ b,¬ b = W→(w'.setCell ⟨W,1,none⟩ q).heap[b]? = (w'.setCell ⟨W,0,none⟩ q).heap[b]?:=fun b hb=>by
  rw [heap_setCell_other w' ⟨W,1,none⟩ b q (fun x=>hb x),heap_setCell_other w' ⟨W,0,none⟩ b q (fun x=>hb x)]
 have es:(w'.setCell ⟨W,1,none⟩ q).heap.size = (w'.setCell ⟨W,0,none⟩ q).heap.size:=by simp [World.setCell]
 have kk:Keep (fun b=>b = W) (w'.setCell ⟨W,0,none⟩ q) (w'.setCell ⟨W,1,none⟩ q):=⟨rfl,rfl,rfl,Nat.le_of_eq es.symm,fun b _ hb=>e b hb⟩
 have hnu:∀ u∈[l,x,y,z],∀ b,u.ownBlock = some b→¬ b = W:=fun u hu b hb=>by
  rcases ((h0.us u hu).2 b hb).1 with h1 | h1
  ·exact (hal b h1).1
  ·omega
 refine ⟨own_keep h0.ol kk (fun b hb hx=>?_),fun u hu=>⟨(h0.us u hu).1.keep kk (fun b hb=>hnu u hu b hb),fun b hb=>⟨((h0.us u hu).2 b hb).1,by rw [es]; exact ((h0.us u hu).2 b hb).2.1,((h0.us u hu).2 b hb).2.2⟩⟩,?_,h0.nl⟩
 ·rcases h0.nl with h1 | ⟨d,h1,h4⟩
  ·exact ha b (h1.symm.trans hb) hx
  ·rw [h1] at hb; cases hb; omega
 ·exact h0.kp.trans (kk.mono (fun b _ hb=>.inl hb))
set_option maxRecDepth 10000 in
set_option maxHeartbeats 4000000 in
theorem entries_core (w:World) (W:Nat) (X:List Value) (av lv l:Value) (Ls:List Value) (n:Nat) (xs:List Value) (hX:At w W (av :: lv :: X)) (ho:w.ownsRow 0 54 1 lv Ls.length Ls) (hl:OwT w 3 l n xs) (hLs:Ls.length≤1000000000) (hn:n≤4000000000000) (a1:∀ b,lv.ownBlock = some b→¬ b = W) (a2:∀ b,l.ownBlock = some b→¬ b = W∧¬ lv.ownBlock = some b) :
  Calls Tryz.prog 65 #[.pointer (some ⟨W,0,none⟩),l] w fun e w'=>e = .returned (.tuple #[])∧∃ lv' x y z,At w' W (av :: lv' :: X)∧MarkTo w 54 3 W (mkE (Ls.length / 4)) lv Ls l lv' x y z w':=by
 obtain ⟨i0,hi0,hz0,hz1,hz2⟩:=info_parts bsE
 obtain ⟨i1,hi1,hy0,hy1,hy2⟩:=info_parts bsEs
 obtain ⟨lp,lcap,rfl⟩:=own_slice ho
 obtain ⟨m,hm⟩:∃ m:Int,m = -7 - ((Ls.length / 4:Nat):Int):=⟨_,rfl⟩
 have hmk:mkE (Ls.length / 4) = [.int .i64 0,.int .i64 m,.int .i64 0]:=by unfold mkE; rw [hm]
 rw [hmk]
 have HX:=hid hX
 have hWl:W < w.heap.size:=At.lt hX
 have HO:=hid ho
 have HL:=hid hl
 have HA1:=hid a1
 have HA2:=hid a2
 obtain ⟨p,cap,rfl⟩:=hl.slice
 have c0:w.cell? ⟨W,1,none⟩ = some (.slice lp Ls.length lcap):=hX.cell 1 rfl
 have z1:(Ls.length:Int).tdiv 4 = ((Ls.length / 4:Nat):Int):=by
  rw [Int.tdiv_eq_ediv_of_nonneg (by omega)]
  omega
 have hxl:=hl.len
 have hml:m = -7 - (Ls.length:Int) / 4:=by rw [hm]; omega
 have HB1:Hid (Below w.heap.size w (w.alloc (.cells #[.int .i64 0,.int .i64 m,.int .i64 0] 114))∧(w.alloc (.cells #[.int .i64 0,.int .i64 m,.int .i64 0] 114)).heap.size = w.heap.size+1):=⟨(Below.refl _ _).alloc (Nat.le_refl _) _,by simp⟩
 have HM:Hid (At (w.alloc (.cells #[.int .i64 0,.int .i64 m,.int .i64 0] 114)) w.heap.size [.int .i64 0,.int .i64 m,.int .i64 0]):=At.alloc w [.int .i64 0,.int .i64 m,.int .i64 0] _
 have HLN:Hid (∀ b,(Value.slice p n cap).ownBlock = some b→b < w.heap.size):=fun b hb=>hl.lt hb
 clear hX ho hl a1 a2 hm hmk
 go_enter Tryz.func65,Tryz.ntmps65
 go_upto_region 1 with (first | (refine wpList_store_new rfl 114 (.tmp 4) (.tmp 16) rfl #[.int .i64 0,.int .i64 m,.int .i64 0] _ (by rw [hml]; rfl) rfl (by kernel_rfl) rfl (by kernel_rfl) ?_) | fail)
 rw [← hml]
 clear hml
 generalize w.alloc (.cells #[.int .i64 0,.int .i64 m,.int .i64 0] 114) = V1 at *
 clear c0
 go_wp2
 go_loopw [5] (fun s5 wr=>∃ k:Nat,k≤n∧s5 = .int .i64 k∧OwT wr 3 (.slice p n cap) n (fil k [Value.int .i64 0,.int .i64 m,.int .i64 0] xs)∧Keep (fun b=>(Value.slice p n cap).ownBlock = some b) V1 wr) (fun s5 _=>(n - intOf s5).toNat)
 case atStart=>exact ⟨0,Nat.zero_le _,rfl,by rw [fil_zero]; exact HL.out.below HB1.out.1,Keep.refl _ _⟩
 case round =>
  obtain ⟨k,hk,rfl,hOw,hKp⟩:=hrel
  have hM:At wr w.heap.size [Value.int .i64 0,.int .i64 m,.int .i64 0]:=At.keep HM.out hKp (fun e=>by have:=HLN.out _ e; omega)
  by_cases hlt:k < n
  ·obtain ⟨T,g,cap',e0,hcap,hoR⟩:=hOw.form (by omega)
   injection e0 with e1 _ e2
   subst e1 e2
   have zk:(k:Int) < (n:Int):=by omega
   have hlen:(fil k [Value.int .i64 0,.int .i64 m,.int .i64 0] xs).length = n*3:=hOw.len
   have hth:wr.there g (k*3) 3:=fun j hj=>⟨by rw [hoR.cellAt (k*3+j) (by omega),List.getElem?_eq_getElem (by omega)]; rfl,hoR.frozenAt (k*3+j)⟩
   have HN:Hid (OwT (wr.setCells g (k*3) [Value.int .i64 0,.int .i64 m,.int .i64 0]) 3 (.slice (some ⟨g,0,none⟩) n cap) n (fil (k+1) [Value.int .i64 0,.int .i64 m,.int .i64 0] xs)∧Keep (fun b=>(Value.slice (some ⟨g,0,none⟩) n cap).ownBlock = some b) V1 (wr.setCells g (k*3) [Value.int .i64 0,.int .i64 m,.int .i64 0])):=by
    refine ⟨⟨T,?_⟩,Keep.setCells (S:=fun b=>(Value.slice (some ⟨g,0,none⟩) n cap).ownBlock = some b) rfl _ _ _ hKp⟩
    have h1:=own_setl [Value.int .i64 0,.int .i64 m,.int .i64 0] (k*3) _ wr hoR
    have h2:=fil_succ k [Value.int .i64 0,.int .i64 m,.int .i64 0] xs (by simp; omega)
    rw [show k*[Value.int .i64 0,.int .i64 m,.int .i64 0].length = k*3 by simp] at h2
    rw [h2] at h1
    exact h1
   clear hOw hKp hoR
   go_upto_region 4 with fail
   refine wp_region_lit ?_
   refine wpList_val (.slice (some ⟨g,0,none⟩) n cap) wr rfl rfl ?_
   simp only [uP]
   refine wpList_val (.int .i64 k) wr rfl rfl ?_
   simp only [uP]
   refine wpList_load_mid rfl 114 (.tmp 4) rfl _ 0 rfl [Value.int .i64 0,.int .i64 m,.int .i64 0] _ hM.range Tryz.underlying114 rfl (by kernel_rfl) ?_
   simp only [uP]
   refine wpList_val (.pointer (some ⟨g,k*3,none⟩)) wr rfl (by go_simp) ?_
   simp only [uP]
   refine wpList_store_mid rfl 114 (.tmp 26) (.tmp 25) rfl g (k*3) #[.int .i64 0,.int .i64 m,.int .i64 0] rfl rfl hth (by kernel_rfl) (by kernel_rfl) ?_
   simp only [uP]
   clear hM hth
   go_wp2
   exact ⟨⟨k+1,hlt,rfl,HN.out.1,HN.out.2⟩,by simp [intOf]; omega⟩
  ·obtain rfl:n = k:=by omega
   have zk:¬ (n:Int) < (n:Int):=by omega
   rw [fil_all n _ xs (by simpa using hxl)] at hOw
   have HC:Hid (Chain V1 wr 3 (.slice p n cap) [Value.int .i64 0,.int .i64 m,.int .i64 0] (.slice p n cap) n [.slice p n cap]):=Chain.start rfl (by omega) hOw hKp
   clear hOw hKp hM
   go_upto_region 5 with fail
   have hM5:At wr w.heap.size [Value.int .i64 0,.int .i64 m,.int .i64 0]:=At.keep HM.out HC.out.kp (fun e=>by have:=HLN.out _ e; omega)
   have hB5:Below wr.heap.size wr (wr.alloc (.cells #[.int .i64 0,.int .i64 m,.int .i64 0] 114)):=(Below.refl _ _).alloc (Nat.le_refl _) _
   have HC5:Hid (Chain V1 (wr.alloc (.cells #[.int .i64 0,.int .i64 m,.int .i64 0] 114)) 3 (.slice p n cap) [Value.int .i64 0,.int .i64 m,.int .i64 0] (.slice p n cap) (n+0) [.slice p n cap]):=HC.out.below hB5
   have hne5:∀ j u,[Value.int .i64 0,.int .i64 m,.int .i64 0][j]? = some u→(wr.alloc (.cells #[.int .i64 0,.int .i64 m,.int .i64 0] 114)).cell? ((⟨wr.heap.size,0,none⟩:Addr).add j) = some u:=fun j u hu=>by
    have:=(At.alloc wr [Value.int .i64 0,.int .i64 m,.int .i64 0] 114 j u hu).1
    rw [Addr.add_lit,Nat.zero_add]
    exact this
   clear HC hB5
   refine wp_region_lit ?_
   refine wpList_val (.slice p n cap) wr rfl rfl ?_
   simp only [uP]
   refine wpList_load_mid rfl 114 (.tmp 4) rfl _ 0 rfl [Value.int .i64 0,.int .i64 m,.int .i64 0] _ hM5.range Tryz.underlying114 rfl (by kernel_rfl) ?_
   simp only [uP]
   refine wpList_val (.slice (some ⟨wr.heap.size,0,none⟩) 1 1) (wr.alloc (.cells #[.int .i64 0,.int .i64 m,.int .i64 0] 114)) rfl (by kernel_rfl) ?_
   simp only [uP]
   refine wpList_append_T _ rfl (.tmp 27) (.tmp 29) 54 rfl 114 i0 _ 3 24 Tryz.underlying54 hi0 hz0 hz1 hz2 rfl (.slice p n cap) (n+0) _ rfl HC5.out.ow ⟨wr.heap.size,0,none⟩ 1 1 (by omega) [Value.int .i64 0,.int .i64 m,.int .i64 0] rfl rfl hne5 (fun u hu=>by simp only [List.mem_cons,List.mem_nil_iff,or_false] at hu; rcases hu with rfl | rfl | rfl <;> rfl) (by unfold maxLen; omega) (by omega) ?_
   intro x w5 ho5 hli5
   have HCa:Hid (Chain V1 w5 3 (.slice p n cap) [Value.int .i64 0,.int .i64 m,.int .i64 0] x (n+0+1) ([.slice p n cap] ++ [x])):=HC5.out.app rfl (by omega) ho5 hli5
   clear ho5 hli5 hne5 HC5 hM5
   simp only [uP]
   go_upto_region 6 with fail
   have hM6:At w5 w.heap.size [Value.int .i64 0,.int .i64 m,.int .i64 0]:=At.keep HM.out HCa.out.kp (fun e=>by have:=HLN.out _ e; omega)
   have hB6:Below w5.heap.size w5 (w5.alloc (.cells #[.int .i64 0,.int .i64 m,.int .i64 0] 114)):=(Below.refl _ _).alloc (Nat.le_refl _) _
   have HC6:Hid (Chain V1 (w5.alloc (.cells #[.int .i64 0,.int .i64 m,.int .i64 0] 114)) 3 (.slice p n cap) [Value.int .i64 0,.int .i64 m,.int .i64 0] x (n+1) ([.slice p n cap] ++ [x])):=HCa.out.below hB6
   have hne6:∀ j u,[Value.int .i64 0,.int .i64 m,.int .i64 0][j]? = some u→(w5.alloc (.cells #[.int .i64 0,.int .i64 m,.int .i64 0] 114)).cell? ((⟨w5.heap.size,0,none⟩:Addr).add j) = some u:=fun j u hu=>by
    have:=(At.alloc w5 [Value.int .i64 0,.int .i64 m,.int .i64 0] 114 j u hu).1
    rw [Addr.add_lit,Nat.zero_add]
    exact this
   clear HCa hB6
   refine wp_region_lit ?_
   refine wpList_val x w5 rfl rfl ?_
   simp only [uP]
   refine wpList_load_mid rfl 114 (.tmp 4) rfl _ 0 rfl [Value.int .i64 0,.int .i64 m,.int .i64 0] _ hM6.range Tryz.underlying114 rfl (by kernel_rfl) ?_
   simp only [uP]
   refine wpList_val (.slice (some ⟨w5.heap.size,0,none⟩) 1 1) (w5.alloc (.cells #[.int .i64 0,.int .i64 m,.int .i64 0] 114)) rfl (by kernel_rfl) ?_
   simp only [uP]
   refine wpList_append_T _ rfl (.tmp 31) (.tmp 33) 54 rfl 114 i0 _ 3 24 Tryz.underlying54 hi0 hz0 hz1 hz2 rfl x (n+1) _ rfl HC6.out.ow ⟨w5.heap.size,0,none⟩ 1 1 (by omega) [Value.int .i64 0,.int .i64 m,.int .i64 0] rfl rfl hne6 (fun u hu=>by simp only [List.mem_cons,List.mem_nil_iff,or_false] at hu; rcases hu with rfl | rfl | rfl <;> rfl) (by unfold maxLen; omega) (by omega) ?_
   intro y w6 ho6 hli6
   have HCb:Hid (Chain V1 w6 3 (.slice p n cap) [Value.int .i64 0,.int .i64 m,.int .i64 0] y (n+1+1) (([.slice p n cap] ++ [x]) ++ [y])):=HC6.out.app rfl (by omega) ho6 hli6
   clear ho6 hli6 hne6 HC6 hM6
   simp only [uP]
   go_upto_region 7 with fail
   have hM7:At w6 w.heap.size [Value.int .i64 0,.int .i64 m,.int .i64 0]:=At.keep HM.out HCb.out.kp (fun e=>by have:=HLN.out _ e; omega)
   have hB7:Below w6.heap.size w6 (w6.alloc (.cells #[.int .i64 0,.int .i64 m,.int .i64 0] 114)):=(Below.refl _ _).alloc (Nat.le_refl _) _
   have HC7:Hid (Chain V1 (w6.alloc (.cells #[.int .i64 0,.int .i64 m,.int .i64 0] 114)) 3 (.slice p n cap) [Value.int .i64 0,.int .i64 m,.int .i64 0] y (n+2) ([.slice p n cap] ++ [x] ++ [y])):=HCb.out.below hB7
   have hne7:∀ j u,[Value.int .i64 0,.int .i64 m,.int .i64 0][j]? = some u→(w6.alloc (.cells #[.int .i64 0,.int .i64 m,.int .i64 0] 114)).cell? ((⟨w6.heap.size,0,none⟩:Addr).add j) = some u:=fun j u hu=>by
    have:=(At.alloc w6 [Value.int .i64 0,.int .i64 m,.int .i64 0] 114 j u hu).1
    rw [Addr.add_lit,Nat.zero_add]
    exact this
   clear HCb hB7
   refine wp_region_lit ?_
   refine wpList_val y w6 rfl rfl ?_
   simp only [uP]
   refine wpList_load_mid rfl 114 (.tmp 4) rfl _ 0 rfl [Value.int .i64 0,.int .i64 m,.int .i64 0] _ hM7.range Tryz.underlying114 rfl (by kernel_rfl) ?_
   simp only [uP]
   refine wpList_val (.slice (some ⟨w6.heap.size,0,none⟩) 1 1) (w6.alloc (.cells #[.int .i64 0,.int .i64 m,.int .i64 0] 114)) rfl (by kernel_rfl) ?_
   simp only [uP]
   refine wpList_append_T _ rfl (.tmp 35) (.tmp 37) 54 rfl 114 i0 _ 3 24 Tryz.underlying54 hi0 hz0 hz1 hz2 rfl y (n+2) _ rfl HC7.out.ow ⟨w6.heap.size,0,none⟩ 1 1 (by omega) [Value.int .i64 0,.int .i64 m,.int .i64 0] rfl rfl hne7 (fun u hu=>by simp only [List.mem_cons,List.mem_nil_iff,or_false] at hu; rcases hu with rfl | rfl | rfl <;> rfl) (by unfold maxLen; omega) (by omega) ?_
   intro z w7 ho7 hli7
   have HCc:Hid (Chain V1 w7 3 (.slice p n cap) [Value.int .i64 0,.int .i64 m,.int .i64 0] z (n+2+1) (([.slice p n cap] ++ [x] ++ [y]) ++ [z])):=HC7.out.app rfl (by omega) ho7 hli7
   clear ho7 hli7 hne7 HC7 hM7
   simp only [uP]
   go_upto_region 8 with fail
   obtain ⟨_,gz,capz,ez,_,_⟩:=HCc.out.ow.form (by omega)
   have hx8:∃ px kx cx,x = .slice px kx cx:=by
    obtain ⟨px,kx,cx,e,_⟩:=(HCc.out.us x (by simp)).1
    exact ⟨px,kx,cx,e⟩
   have hy8:∃ px kx cx,y = .slice px kx cx:=by
    obtain ⟨px,kx,cx,e,_⟩:=(HCc.out.us y (by simp)).1
    exact ⟨px,kx,cx,e⟩
   obtain ⟨px,kx,cx,rfl⟩:=hx8
   obtain ⟨py,ky,cy,rfl⟩:=hy8
   subst ez
   have hA7:At w7 W (av :: .slice lp Ls.length lcap :: X):=At.keep (At.keep (S:=fun _=>False) HX.out (Keep.below HB1.out.1) (fun x=>x)) HCc.out.kp (fun e=>(HA2.out W e).1 rfl)
   have c0:w7.cell? ⟨W,1,none⟩ = some (.slice lp Ls.length lcap):=hA7.cell 1 rfl
   have hB8:Below w7.heap.size w7 (w7.alloc (.cells #[.slice p n cap,.slice px kx cx,.slice py ky cy,.slice (some ⟨gz,0,none⟩) (n+2+1) capz] 54)):=(Below.refl _ _).alloc (Nat.le_refl _) _
   have hA8:At (w7.alloc (.cells #[.slice p n cap,.slice px kx cx,.slice py ky cy,.slice (some ⟨gz,0,none⟩) (n+2+1) capz] 54)) W (av :: .slice lp Ls.length lcap :: X):=At.keep (S:=fun _=>False) hA7 (Keep.below hB8) (fun x=>x)
   have hO8:(w7.alloc (.cells #[.slice p n cap,.slice px kx cx,.slice py ky cy,.slice (some ⟨gz,0,none⟩) (n+2+1) capz] 54)).ownsRow 0 54 1 (.slice lp Ls.length lcap) Ls.length Ls:=own_keep (S:=fun _=>False) (own_keep (own_keep (S:=fun _=>False) HO.out (Keep.below HB1.out.1) (fun _ _ x=>x)) HCc.out.kp (fun b hb e=>(HA2.out b e).2 hb)) (Keep.below hB8) (fun _ _ x=>x)
   have hne8:∀ j u,[Value.slice p n cap,.slice px kx cx,.slice py ky cy,.slice (some ⟨gz,0,none⟩) (n+2+1) capz][j]? = some u→(w7.alloc (.cells #[.slice p n cap,.slice px kx cx,.slice py ky cy,.slice (some ⟨gz,0,none⟩) (n+2+1) capz] 54)).cell? ((⟨w7.heap.size,0,none⟩:Addr).add j) = some u:=fun j u hu=>by
    have:=(At.alloc w7 [.slice p n cap,.slice px kx cx,.slice py ky cy,.slice (some ⟨gz,0,none⟩) (n+2+1) capz] 54 j u hu).1
    rw [Addr.add_lit,Nat.zero_add]
    exact this
   clear hA7
   refine wp_region_lit ?_
   refine wpList_val (.pointer (some ⟨W,0,none⟩)) w7 rfl rfl ?_
   simp only [uP]
   refine wpList_val (.pointer (some ⟨W,0,none⟩)) w7 rfl rfl ?_
   simp only [uP]
   refine wpList_val (.pointer (some ⟨W,0,none⟩)) w7 rfl (by go_simp) ?_
   simp only [uP]
   refine wpList_val (.pointer (some ⟨W,1,none⟩)) w7 rfl (by go_simp) ?_
   simp only [uP]
   refine wpList_val (.slice lp Ls.length lcap) w7 rfl (by go_simp) ?_
   simp only [uP]
   refine wpList_val (.slice p n cap) w7 rfl rfl ?_
   simp only [uP]
   refine wpList_val (.slice px kx cx) w7 rfl rfl ?_
   simp only [uP]
   refine wpList_val (.slice py ky cy) w7 rfl rfl ?_
   simp only [uP]
   refine wpList_val (.slice (some ⟨gz,0,none⟩) (n+2+1) capz) w7 rfl rfl ?_
   simp only [uP]
   refine wpList_val (.slice (some ⟨w7.heap.size,0,none⟩) 4 4) (w7.alloc (.cells #[.slice p n cap,.slice px kx cx,.slice py ky cy,.slice (some ⟨gz,0,none⟩) (n+2+1) capz] 54)) rfl (by kernel_rfl) ?_
   simp only [uP]
   refine wpList_append_own_at _ rfl (.tmp 43) (.tmp 48) 63 rfl 0 54 i1 _ 1 24 Tryz.underlying63 hi1 hy0 hy1 hy2 rfl (by omega) _ Ls.length Ls rfl hO8 ⟨w7.heap.size,0,none⟩ 4 4 _ rfl rfl hne8 (fun u hu=>?_) (by unfold maxLen; omega) (by omega) (Nat.zero_le _) ?_
   ·simp only [List.mem_cons,List.mem_nil_iff,or_false] at hu
    rcases hu with rfl | rfl | rfl | rfl <;> rfl
   intro lv' w8 ho8 hg8 _ hat8
   have hA9:At w8 W (av :: .slice lp Ls.length lcap :: X):=At.keep (S:=fun b=>(Value.slice lp Ls.length lcap).ownBlock = some b) hA8 ⟨hg8.os,hg8.tape,hg8.output,hg8.size,fun b hb hs=>hg8.block b hb (fun e=>hs e.symm)⟩ (fun e=>HA1.out W e rfl)
   obtain ⟨lg,lcap',rfl,_,_⟩:=ho8.form (by omega)
   have c0:w8.cell? ⟨W,1,none⟩ = some (.slice lp Ls.length lcap):=hA9.cell 1 rfl
   have f0:w8.frozen? ⟨W,1,none⟩ = false:=hA9.free 1 rfl
   have HE:Hid (∃ lv' x y z,At (w8.setCell ⟨W,1,none⟩ (.slice (some ⟨lg,0,none⟩) (Ls.length+4) lcap')) W (av :: lv' :: X)∧MarkTo w 54 3 W [Value.int .i64 0,.int .i64 m,.int .i64 0] (.slice lp Ls.length lcap) Ls (.slice p n cap) lv' x y z (w8.setCell ⟨W,1,none⟩ (.slice (some ⟨lg,0,none⟩) (Ls.length+4) lcap'))) :=
    ⟨_,_,_,_,hA9.set 1 (by simp) _,(HCc.out.weak HB1.out.1).book1 (by simp) hB8 HO.out HA1.out HA2.out hWl ho8 hg8 hat8 _⟩
   clear hA9 hA8 hO8 hne8 hB8 ho8 hg8 hat8 HCc HO HA1 HA2 HX HL
   simp only [uP]
   go_wp2
   go_end0
   obtain ⟨lv',x,y,z,h1,h2⟩:=HE.out
   exact ⟨rfl,lv',h1,x,y,z,h2⟩
end Go.Proofs.YtanndhoimpnhpaaGreatDoor
