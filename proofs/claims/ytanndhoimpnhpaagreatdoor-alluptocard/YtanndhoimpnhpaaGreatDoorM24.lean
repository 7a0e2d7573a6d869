/- Joined by program: TxI, LwC, LwD, LwE, LwF, BsD. -/
import Derived.Test.YtanndhoimpnhpaaGreatDoorM23
namespace Go.Proofs.YtanndhoimpnhpaaGreatDoor
open Go.ChangeShapes Go.WideShapes Go.ChangeAt Go.RowKit Go.WideMaps Go.Maps Lg Cal
def SavePost (w:World) (t:Ln.Terms) (l:List Ln.Ev) (g:Ln.St) (day:Int) (L:List En) (e:Ending) (w':World):Prop :=
 ∃ R,R.Perm l∧R.Pairwise So.Ah∧e = .returned (.string (bs (txtB t R g day L)))∧Below w.heap.size w w'
set_option maxRecDepth 10000 in
set_option maxHeartbeats 4000000 in
theorem refsave_any (w:World) (D:Nat) (t:Ln.Terms) (l:List Ln.Ev) (g:Ln.St) (day:Int) (L:List En) (evv bkv:Value) (h:DcX w D t l g day L evv bkv) (hr:Rg t l g day L) (hL:L.length≤4000000000000) :
  Calls Tryz.prog 97 #[.pointer (some ⟨D,0,none⟩)] w (SavePost w t l g day L):=by
 obtain ⟨pa,ecap,rfl⟩:=own_slice h.ev
 obtain ⟨bp,bcap,rfl⟩:=own_slice h.bk
 have hDl:D < w.heap.size:=At.lt (v:=.int .i64 t.st) h.ln
 have HLn:Hid (∀ wx,Below w.heap.size w wx→At wx D (dl t (.slice pa l.length ecap) g day (.slice bp L.length bcap))):=fun wx hx=>h.ln.block (hx.block D hDl)
 have HCell:Hid (∀ k (hk:k < L.length),∃ b o,bp = some ⟨b,o,none⟩∧b < w.heap.size∧w.rangeAt b (o+k*3) (enl L[k])):=by
  obtain ⟨p2,cap2,e,_,hx⟩:=own_en h.bk
  injection e with e1 _ _
  subst e1
  exact hx
 have HSo:Hid (∀ wx,Below w.heap.size w wx→Calls Tryz.prog 93 #[.slice pa l.length ecap] wx fun e w'=>∃ v R,e = .returned v∧w'.ownsRow wx.heap.size 50 4 v l.length (evs R)∧R.Perm l∧R.Pairwise So.Ah∧Below wx.heap.size wx w'):=fun wx hx=>by
  have ho:wx.ownsRow (D+1) 50 4 (.slice pa l.length ecap) l.length (evs l):=own_keep (S:=fun _=>False) h.ev (Keep.below hx) (fun _ _ x=>x)
  obtain ⟨_,hn | ⟨ge,cape,cur,he,hge⟩⟩:=id ho
  ·obtain ⟨e1,e2⟩:=hn
   have:l = []:=List.length_eq_zero_iff.1 e2
   exact sorted_any wx pa ecap 0 l h.le (fun hne=>absurd this hne) h.ds
  ·injection he with e1 e2 e3
   subst e1 e3
   exact sorted_any wx _ _ ge l h.le (fun _=>⟨rfl,own_at ho⟩) h.ds
 have HRg:=hid hr
 have hl40:=h.le
 clear h hr
 have b1:Below w.heap.size w (w.alloc (.cells (tml t).toArray 23)):=(Below.refl _ _).alloc (Nat.le_refl _) _
 have r0:w.rangeAt D 0 (tml t):=(HLn.out w (Below.refl _ _)).mid 0 _ (fun j v hj=>by
  match j,hj with
  | 0,hj=>exact hj
  | 1,hj=>exact hj
  | 2,hj=>exact hj
  | 3,hj=>exact hj
  | 4,hj=>exact hj
  | 5,hj=>exact hj)
 have HT1:Hid (At (w.alloc (.cells (tml t).toArray 23)) w.heap.size (tml t)):=At.alloc w (tml t) _
 go_enter Tryz.func97,Tryz.ntmps97
 go_upto_region 1 with fail
 refine wp_region_lit ?_
 refine wpList_val (.pointer (some ⟨D,0,none⟩)) w rfl rfl ?_
 simp only [uP]
 refine wpList_val (.pointer (some ⟨D,0,none⟩)) w rfl (by go_simp) ?_
 simp only [uP]
 refine wpList_val (.pointer (some ⟨D,0,none⟩)) w rfl (by go_simp) ?_
 simp only [uP]
 refine wpList_load_mid rfl 23 (.tmp 13) rfl D 0 rfl (tml t) _ r0 Tryz.underlying23 rfl (by kernel_rfl) ?_
 simp only [uP]
 clear r0
 go_upto_region 2 with (first | (refine wpList_store_new rfl 23 (.tmp 3) (.tmp 14) rfl (tml t).toArray _ rfl rfl (by kernel_rfl) rfl (by kernel_rfl) ?_) | fail)
 generalize w.alloc (.cells (tml t).toArray 23) = V1 at *
 have hv:=IsV.made V1 (tmN t) 3
 have b2:Below w.heap.size w (V1.alloc (.cells ((tmN t).map (Value.int .i64)).toArray 3)):=b1.alloc b1.size _
 have hLi:=line_any (V1.alloc (.cells ((tmN t).map (Value.int .i64)).toArray 3)) wLoan _ (tmN t) hv HRg.out.tm (by show 4+22*6≤_; omega)
 have c0:V1.cell? ⟨w.heap.size,0,none⟩ = some (.int .i64 t.st):=HT1.out.cell 0 rfl
 have c1:V1.cell? ⟨w.heap.size,1,none⟩ = some (.int .i64 t.pr):=HT1.out.cell 1 rfl
 have c2:V1.cell? ⟨w.heap.size,2,none⟩ = some (.int .i64 t.rt):=HT1.out.cell 2 rfl
 have c3:V1.cell? ⟨w.heap.size,3,none⟩ = some (.int .i64 t.fi):=HT1.out.cell 3 rfl
 have c4:V1.cell? ⟨w.heap.size,4,none⟩ = some (.int .i64 t.ba):=HT1.out.cell 4 rfl
 have c5:V1.cell? ⟨w.heap.size,5,none⟩ = some (.int .i64 t.du):=HT1.out.cell 5 rfl
 go_wp2_with fail
 refine hLi.mono ?_
 rintro e w2 ⟨rfl,hb2⟩
 have b3:Below w.heap.size w w2:=b2.trans (hb2.mono b2.size)
 clear hLi hv c0 c1 c2 c3 c4 c5 hb2 b2 HT1 b1
 have c6:w2.cell? ⟨D,6,none⟩ = some (.slice pa l.length ecap):=(HLn.out w2 b3).cell 6 rfl
 have hSo:=HSo.out w2 b3
 go_wp2_with fail
 refine hSo.mono ?_
 rintro e w3 ⟨v,R,rfl,ho,hperm,hah,hb3⟩
 have HPm:Hid (R.Perm l∧R.Pairwise So.Ah):=⟨hperm,hah⟩
 have b4:Below w.heap.size w w3:=b3.trans (hb3.mono b3.size)
 have hRl:R.length = l.length:=hperm.length_eq
 have HEr:Hid (∀ e∈R,∀ n∈evN e,InR n):=fun e he=>HRg.out.ev e (hperm.mem_iff.1 he)
 obtain ⟨pr,rcap,rfl⟩:=own_slice ho
 have HEv:Hid (∀ k (hk:k < R.length),∃ b,pr = some ⟨b,0,none⟩∧b < w3.heap.size∧w3.rangeAt b (k*4) (evl R[k])):=fun k hk=>by
  obtain ⟨T,hn | ⟨gr,capr,cur,he,hgr⟩⟩:=id ho
  ·omega
  ·injection he with e1 _ e3
   subst e1 e3
   refine ⟨gr,rfl,(own_base ho (b:=gr) rfl).2,?_⟩
   exact (own_range ho hRl.symm k R[k] (List.getElem?_eq_getElem hk)).1
 clear hSo c6 hperm hah ho hb3 b3
 rw [← hRl]
 rw [← hRl] at hl40
 clear hRl
 go_wp2
 go_loopw [4,6,7] (fun s4 s6 _ wr=>∃ k:Nat,k≤R.length∧s4 = .string (bs (lineB wLoan (tmN t) ++ evT (R.take k)))∧s6 = .int .i64 k∧Below w3.heap.size w3 wr) (fun _ s6 _ _=>(R.length - intOf s6).toNat)
 case atStart=>exact ⟨0,Nat.zero_le _,by simp [evT],rfl,Below.refl _ _⟩
 case round =>
  obtain ⟨k,hk,rfl,rfl,hb⟩:=hrel
  have HB:=hid hb
  have hS1:(lineB wLoan (tmN t)).length≤200:=by have:=lineB_len wLoan (tmN t) HRg.out.tm; have e1:wLoan.length = 4:=rfl; have e2:(tmN t).length = 6:=rfl; omega
  have hS2:(evT (R.take k)).length≤4000:=by
   have:=evT_len (R.take k) (fun e he=>HEr.out e (List.mem_of_mem_take he))
   rw [List.length_take] at this
   omega
  clear hb
  by_cases hlt:k < R.length
  ·have zk:(k:Int) < (R.length:Int):=by omega
   obtain ⟨b,rfl,hbl,hr⟩:=HEv.out k hlt
   have hrw:wr.rangeAt b (k*4) (evl R[k]):=fun j u hu=>(World.cell?_of_block (w:=w3) (a:=⟨b,k*4+j,none⟩) (HB.out.block b hbl)).trans (hr j u hu)
   have hie:∀ n∈evN R[k],InR n:=HEr.out _ (List.getElem_mem hlt)
   have HTk:Hid (bs (lineB wLoan (tmN t) ++ evT (R.take (k+1))) = bs (lineB wLoan (tmN t) ++ evT (R.take k)) ++ bs (lineB wEvent (evN R[k]))):=by
    show _ = _
    rw [bs_app,evT_take R k hlt,List.append_assoc]
   have hS3:(lineB wEvent (evN R[k])).length≤100:=by have:=lineB_len wEvent (evN R[k]) hie; have e1:wEvent.length = 5:=rfl; have e2:(evN R[k]).length = 4:=rfl; omega
   clear hr
   generalize R[k] = ev at *
   have z1:¬ 9223372036854775807 < (bs (lineB wLoan (tmN t) ++ evT (R.take k))).size+(bs (lineB wEvent (evN ev))).size:=by rw [bs_size,bs_size,List.length_append]; omega
   clear hS1 hS2 hS3
   have a1:At (wr.alloc (.cells (evl ev).toArray 50)) wr.heap.size (evl ev):=At.alloc wr (evl ev) _
   have bw1:Below w3.heap.size w3 (wr.alloc (.cells (evl ev).toArray 50)):=HB.out.alloc HB.out.size _
   go_upto_region 7 with fail
   refine wp_region_lit ?_
   refine wpList_val (.slice (some ⟨b,0,none⟩) R.length rcap) wr rfl rfl ?_
   simp only [uP]
   refine wpList_val (.int .i64 k) wr rfl rfl ?_
   simp only [uP]
   refine wpList_val (.pointer (some ⟨b,k*4,none⟩)) wr rfl (by go_simp) ?_
   simp only [uP]
   refine wpList_load_mid rfl 50 (.tmp 42) rfl b (k*4) rfl (evl ev) _ hrw Tryz.underlying50 rfl (by kernel_rfl) ?_
   simp only [uP]
   clear hrw HB
   go_upto_region 8 with (first | (refine wpList_store_new rfl 50 (.tmp 7) (.tmp 43) rfl (evl ev).toArray _ rfl rfl (by kernel_rfl) rfl (by kernel_rfl) ?_) | fail)
   generalize wr.alloc (.cells (evl ev).toArray 50) = V5 at *
   generalize wr.heap.size = N5 at *
   have hv:=IsV.made V5 (evN ev) 3
   have bw2:Below w3.heap.size w3 (V5.alloc (.cells ((evN ev).map (Value.int .i64)).toArray 3)):=bw1.alloc bw1.size _
   have hLi:=line_any (V5.alloc (.cells ((evN ev).map (Value.int .i64)).toArray 3)) wEvent _ (evN ev) hv hie (by show 5+22*4≤_; omega)
   have c0:V5.cell? ⟨N5,0,none⟩ = some (.int .i64 ev.d):=a1.cell 0 rfl
   have c1:V5.cell? ⟨N5,1,none⟩ = some (.int .i64 ev.k):=a1.cell 1 rfl
   have c2:V5.cell? ⟨N5,2,none⟩ = some (.int .i64 ev.s):=a1.cell 2 rfl
   have c3:V5.cell? ⟨N5,3,none⟩ = some (.int .i64 ev.a):=a1.cell 3 rfl
   generalize bs (lineB wLoan (tmN t) ++ evT (R.take k)) = S at *
   generalize bs (lineB wEvent (evN ev)) = T at *
   go_wp2_with fail
   refine hLi.mono ?_
   rintro e w6 ⟨rfl,hb6⟩
   have HB6:Hid (Below w3.heap.size w3 w6):=bw2.trans (hb6.mono bw2.size)
   clear hLi hv c0 c1 c2 c3 hb6 bw2 bw1 a1 hie
   go_wp2
   exact ⟨⟨k+1,hlt,by rw [HTk.out],rfl,HB6.out⟩,by simp [intOf]; omega⟩
  ·obtain rfl:k = R.length:=by omega
   have zk:¬ (R.length:Int) < (R.length:Int):=by omega
   rw [List.take_length]
   rw [List.take_length] at hS2
   have b5:Below w.heap.size w wr:=b4.trans (HB.out.mono b4.size)
   have HSz:Hid ((lineB wLoan (tmN t) ++ evT R).length≤4200):=by show _≤_; rw [List.length_append]; omega
   clear hS1 hS2 HB HEv HSo b4
   obtain ⟨A,hA⟩:∃ A,A = lineB wLoan (tmN t) ++ evT R:=⟨_,rfl⟩
   have HA:=hid hA
   rw [← hA] at HSz ⊢
   clear hA
   have r7:wr.rangeAt D 7 [.int .i64 g.pr,.int .i64 g.it,.int .i64 g.du,.int .i64 g.la,.int .i64 g.fi,.int .i64 g.cr,.int .i64 g.rt,.int .i64 day]:=(HLn.out wr b5).mid 7 _ (fun j v hj=>by
    match j,hj with
    | 0,hj=>exact hj
    | 1,hj=>exact hj
    | 2,hj=>exact hj
    | 3,hj=>exact hj
    | 4,hj=>exact hj
    | 5,hj=>exact hj
    | 6,hj=>exact hj
    | 7,hj=>exact hj)
   have a8:At (wr.alloc (.cells #[.int .i64 g.pr,.int .i64 g.it,.int .i64 g.du,.int .i64 g.la,.int .i64 g.fi,.int .i64 g.cr,.int .i64 g.rt,.int .i64 day] 52)) wr.heap.size [.int .i64 g.pr,.int .i64 g.it,.int .i64 g.du,.int .i64 g.la,.int .i64 g.fi,.int .i64 g.cr,.int .i64 g.rt,.int .i64 day]:=At.alloc wr [.int .i64 g.pr,.int .i64 g.it,.int .i64 g.du,.int .i64 g.la,.int .i64 g.fi,.int .i64 g.cr,.int .i64 g.rt,.int .i64 day] _
   have b8:Below w.heap.size w (wr.alloc (.cells #[.int .i64 g.pr,.int .i64 g.it,.int .i64 g.du,.int .i64 g.la,.int .i64 g.fi,.int .i64 g.cr,.int .i64 g.rt,.int .i64 day] 52)):=b5.alloc b5.size _
   go_upto_region 9 with fail
   refine wp_region_lit ?_
   refine wpList_val (.pointer (some ⟨D,0,none⟩)) wr rfl rfl ?_
   simp only [uP]
   refine wpList_val (.pointer (some ⟨D,0,none⟩)) wr rfl (by go_simp) ?_
   simp only [uP]
   refine wpList_val (.pointer (some ⟨D,7,none⟩)) wr rfl (by go_simp) ?_
   simp only [uP]
   refine wpList_load_mid rfl 52 (.tmp 58) rfl D 7 rfl [.int .i64 g.pr,.int .i64 g.it,.int .i64 g.du,.int .i64 g.la,.int .i64 g.fi,.int .i64 g.cr,.int .i64 g.rt,.int .i64 day] _ r7 Tryz.underlying52 rfl (by kernel_rfl) ?_
   simp only [uP]
   clear r7
   go_upto_region 10 with (first | (refine wpList_store_new rfl 52 (.tmp 8) (.tmp 59) rfl #[.int .i64 g.pr,.int .i64 g.it,.int .i64 g.du,.int .i64 g.la,.int .i64 g.fi,.int .i64 g.cr,.int .i64 g.rt,.int .i64 day] _ rfl rfl (by kernel_rfl) rfl (by kernel_rfl) ?_) | fail)
   generalize wr.alloc (.cells #[.int .i64 g.pr,.int .i64 g.it,.int .i64 g.du,.int .i64 g.la,.int .i64 g.fi,.int .i64 g.cr,.int .i64 g.rt,.int .i64 day] 52) = V8 at *
   generalize wr.heap.size = N8 at *
   have HRn:Hid (∀ n∈nwN g,InR n):=HRg.out.nw
   have HRd:Hid (∀ n∈[day],InR n):=fun n hn=>by rw [List.mem_singleton] at hn; subst hn; exact HRg.out.dy
   have hz4:(lineB wAt [day]).length≤100:=by have:=lineB_len wAt [day] HRd.out; have e1:wAt.length = 2:=rfl; have e2:[day].length = 1:=rfl; omega
   have hz5:(lineB wNow (nwN g)).length≤200:=by have:=lineB_len wNow (nwN g) HRn.out; have e1:wNow.length = 3:=rfl; have e2:(nwN g).length = 7:=rfl; omega
   have z1:¬ 9223372036854775807 < (bs A).size+(bs (lineB wAt [day])).size:=by rw [bs_size,bs_size]; have:=HSz.out; omega
   have z2:¬ 9223372036854775807 < (bs A).size+(bs (lineB wAt [day])).size+(bs (lineB wNow (nwN g))).size:=by rw [bs_size,bs_size,bs_size]; have:=HSz.out; omega
   have HL4:Hid (∀ W v,IsV W v [day]→Calls Tryz.prog 124 #[.string (bs wAt),v] W fun e w'=>e = .returned (.string (bs (lineB wAt [day])))∧Below W.heap.size W w'):=fun W v hv=>line_any W wAt v [day] hv HRd.out (by show 2+22*1≤_; omega)
   have HL5:Hid (∀ W v,IsV W v (nwN g)→Calls Tryz.prog 124 #[.string (bs wNow),v] W fun e w'=>e = .returned (.string (bs (lineB wNow (nwN g))))∧Below W.heap.size W w'):=fun W v hv=>line_any W wNow v (nwN g) hv HRn.out (by show 3+22*7≤_; omega)
   have HJ:Hid (bs A ++ bs (lineB wAt [day]) ++ bs (lineB wNow (nwN g)) = bs (A ++ lineB wAt [day] ++ lineB wNow (nwN g))):=by show _ = _; rw [bs_app,bs_app]
   have HSz2:Hid ((A ++ lineB wAt [day] ++ lineB wNow (nwN g)).length≤4500):=by show _≤_; rw [List.length_append,List.length_append]; have:=HSz.out; omega
   generalize bs (lineB wAt [day]) = T4 at *
   generalize bs (lineB wNow (nwN g)) = T5 at *
   refine wp_region_held_drew (S:=fun wx=>At wx N8 [.int .i64 g.pr,.int .i64 g.it,.int .i64 g.du,.int .i64 g.la,.int .i64 g.fi,.int .i64 g.cr,.int .i64 g.rt,.int .i64 day]) (by kernel_rfl) a8.drew (fun hHeld=>?_)
   have bd:Below w.heap.size w V8.drew:=b8.drew
   generalize V8.drew = U0 at *
   clear a8 b8 hz4 hz5
   refine tkk 0 (.string (bs A)) rfl ?_
   simp only [uP]
   refine tka 1 (.pointer (some ⟨N8,7,none⟩)) rfl ?_
   simp only [uP]
   refine tkh 2 (.int .i64 day) rfl (fun wx hSw=>by (have hc:wx.cell? ⟨N8,7,none⟩ = some (.int .i64 day):=At.cell hSw 7 rfl; go_simp)) ?_
   simp only [uP]
   refine tka 6 (.pointer (some ⟨N8,0,none⟩)) rfl ?_
   simp only [uP]
   refine tkh 7 (.int .i64 g.pr) rfl (fun wx hSw=>by (have hc:wx.cell? ⟨N8,0,none⟩ = some (.int .i64 g.pr):=At.cell hSw 0 rfl; go_simp)) ?_
   simp only [uP]
   refine tka 8 (.pointer (some ⟨N8,1,none⟩)) rfl ?_
   simp only [uP]
   refine tkh 9 (.int .i64 g.it) rfl (fun wx hSw=>by (have hc:wx.cell? ⟨N8,1,none⟩ = some (.int .i64 g.it):=At.cell hSw 1 rfl; go_simp)) ?_
   simp only [uP]
   refine tka 10 (.pointer (some ⟨N8,2,none⟩)) rfl ?_
   simp only [uP]
   refine tkh 11 (.int .i64 g.du) rfl (fun wx hSw=>by (have hc:wx.cell? ⟨N8,2,none⟩ = some (.int .i64 g.du):=At.cell hSw 2 rfl; go_simp)) ?_
   simp only [uP]
   refine tka 12 (.pointer (some ⟨N8,3,none⟩)) rfl ?_
   simp only [uP]
   refine tkh 13 (.int .i64 g.la) rfl (fun wx hSw=>by (have hc:wx.cell? ⟨N8,3,none⟩ = some (.int .i64 g.la):=At.cell hSw 3 rfl; go_simp)) ?_
   simp only [uP]
   refine tka 14 (.pointer (some ⟨N8,4,none⟩)) rfl ?_
   simp only [uP]
   refine tkh 15 (.int .i64 g.fi) rfl (fun wx hSw=>by (have hc:wx.cell? ⟨N8,4,none⟩ = some (.int .i64 g.fi):=At.cell hSw 4 rfl; go_simp)) ?_
   simp only [uP]
   refine tka 16 (.pointer (some ⟨N8,5,none⟩)) rfl ?_
   simp only [uP]
   refine tkh 17 (.int .i64 g.cr) rfl (fun wx hSw=>by (have hc:wx.cell? ⟨N8,5,none⟩ = some (.int .i64 g.cr):=At.cell hSw 5 rfl; go_simp)) ?_
   simp only [uP]
   refine tka 18 (.pointer (some ⟨N8,6,none⟩)) rfl ?_
   simp only [uP]
   refine tkh 19 (.int .i64 g.rt) rfl (fun wx hSw=>by (have hc:wx.cell? ⟨N8,6,none⟩ = some (.int .i64 g.rt):=At.cell hSw 6 rfl; go_simp)) ?_
   simp only [uP]
   refine wpAnyH_ready (rs:=[3,20]) (by kernel_rfl) (by simp) ?_
   refine AllReadyH.cons rfl (fun K hK=>?_) (AllReadyH.cons rfl (fun K hK=>?_) AllReadyH.nil)
   ·rw [if_pos (by rfl)]
    have iv3:IsV (U0.alloc (.cells #[.int .i64 day] 3)) (.slice (some ⟨U0.heap.size,0,none⟩) 1 1) [day]:=IsV.made U0 [day] 3
    have bs1:Below U0.heap.size U0 (U0.alloc (.cells #[.int .i64 day] 3)):=(Below.refl _ _).alloc (Nat.le_refl _) _
    refine wp_valD (.slice (some ⟨U0.heap.size,0,none⟩) 1 1) (U0.alloc (.cells #[.int .i64 day] 3)) (by kernel_rfl) ?_
    have at1:=At.keep (S:=fun _=>False) (v:=.int .i64 g.pr) hHeld (Keep.below bs1) (fun x=>x)
    have bw1:Below w.heap.size w (U0.alloc (.cells #[.int .i64 day] 3)):=bd.trans (bs1.mono bd.size)
    refine hK.out _ _ at1 (fun hH1=>?_)
    clear hK K
    try simp only [uP]
    generalize U0.alloc (.cells #[.int .i64 day] 3) = W1 at *
    refine wpAnyH_ready (rs:=[4,20]) (by kernel_rfl) (by simp) ?_
    refine AllReadyH.cons rfl (fun K hK=>?_) (AllReadyH.cons rfl (fun K hK=>?_) AllReadyH.nil)
    ·have hC4:=HL4.out W1 _ iv3
     go_simp
     refine hC4.mono ?_
     rintro e W2 ⟨rfl,bs2⟩
     go_wp2_with fail
     have at2:=At.keep (S:=fun _=>False) (v:=.int .i64 g.pr) at1 (Keep.below bs2) (fun x=>x)
     have bw2:Below w.heap.size w W2:=bw1.trans (bs2.mono bw1.size)
     refine hK.out _ _ at2 (fun hH2=>?_)
     clear hK K
     try simp only [uP]
     refine tkg 5 (.string (bs A ++ T4)) rfl ?_
     simp only [uP]
     refine rdy 20 rfl (fun K hK=>?_)
     rw [if_pos (by rfl)]
     have iv20:IsV (W2.alloc (.cells #[.int .i64 g.pr,.int .i64 g.it,.int .i64 g.du,.int .i64 g.la,.int .i64 g.fi,.int .i64 g.cr,.int .i64 g.rt] 3)) (.slice (some ⟨W2.heap.size,0,none⟩) 7 7) (nwN g):=IsV.made W2 (nwN g) 3
     have bs3:Below W2.heap.size W2 (W2.alloc (.cells #[.int .i64 g.pr,.int .i64 g.it,.int .i64 g.du,.int .i64 g.la,.int .i64 g.fi,.int .i64 g.cr,.int .i64 g.rt] 3)):=(Below.refl _ _).alloc (Nat.le_refl _) _
     refine wp_valD (.slice (some ⟨W2.heap.size,0,none⟩) 7 7) (W2.alloc (.cells #[.int .i64 g.pr,.int .i64 g.it,.int .i64 g.du,.int .i64 g.la,.int .i64 g.fi,.int .i64 g.cr,.int .i64 g.rt] 3)) (by kernel_rfl) ?_
     have at3:=At.keep (S:=fun _=>False) (v:=.int .i64 g.pr) at2 (Keep.below bs3) (fun x=>x)
     have bw3:Below w.heap.size w (W2.alloc (.cells #[.int .i64 g.pr,.int .i64 g.it,.int .i64 g.du,.int .i64 g.la,.int .i64 g.fi,.int .i64 g.cr,.int .i64 g.rt] 3)):=bw2.trans (bs3.mono bw2.size)
     refine hK.out _ _ at3 (fun hH3=>?_)
     clear hK K
     try simp only [uP]
     generalize W2.alloc (.cells #[.int .i64 g.pr,.int .i64 g.it,.int .i64 g.du,.int .i64 g.la,.int .i64 g.fi,.int .i64 g.cr,.int .i64 g.rt] 3) = W3 at *
     refine rdy 21 rfl (fun K hK=>?_)
     have hC21:=HL5.out W3 _ iv20
     go_simp
     refine hC21.mono ?_
     rintro e W4 ⟨rfl,bs4⟩
     go_wp2_with fail
     have at4:=At.keep (S:=fun _=>False) (v:=.int .i64 g.pr) at3 (Keep.below bs4) (fun x=>x)
     have bw4:Below w.heap.size w W4:=bw3.trans (bs4.mono bw3.size)
     refine hK.out _ _ at4 (fun hH4=>?_)
     clear hK K
     try simp only [uP]
     refine tkg 22 (.string (bs A ++ T4 ++ T5)) rfl ?_
     simp only [uP]
     refine tkk 23 (.string (bs A ++ T4 ++ T5)) rfl ?_
     simp only [uP]
     refine wpAnyH_done (by kernel_rfl) ?_ _
     have bwx:=hid bw4
     rw [HJ.out]
     obtain ⟨A2,hA2⟩:∃ A2,A2 = A ++ lineB wAt [day] ++ lineB wNow (nwN g):=⟨_,rfl⟩
     have HA2:=hid hA2
     rw [← hA2] at HSz2 ⊢
     clear hA2 HL4 HL5 HJ z1 z2 HRn HRd
     try generalize (W4:World) = WW at *
     have c15:WW.cell? ⟨D,15,none⟩ = some (.slice bp L.length bcap):=(HLn.out WW bwx.out).cell 15 rfl
     clear c15
     go_wp2
     go_loopw [4,9,10] (fun s4 s9 _ wr=>∃ k:Nat,k≤L.length∧s4 = .string (bs (A2 ++ enT (L.take k)))∧s9 = .int .i64 k∧Below w.heap.size w wr) (fun _ s9 _ _=>(L.length - intOf s9).toNat)
     case atStart=>exact ⟨0,Nat.zero_le _,by simp [enT],rfl,bwx.out⟩
     case round =>
      obtain ⟨k,hk,rfl,rfl,hb⟩:=hrel
      have HB:=hid hb
      have c15:wr.cell? ⟨D,15,none⟩ = some (.slice bp L.length bcap):=(HLn.out wr hb).cell 15 rfl
      have hS2:(enT (L.take k)).length≤400000000000000:=by
       have:=enT_len (L.take k) (fun e he=>HRg.out.en e (List.mem_of_mem_take he))
       rw [List.length_take] at this
       omega
      clear hb
      by_cases hlt:k < L.length
      ·have zk:(k:Int) < (L.length:Int):=by omega
       obtain ⟨b,o,rfl,hbl,hr⟩:=HCell.out k hlt
       have hrw:wr.rangeAt b (o+k*3) (enl L[k]):=fun j u hu=>(World.cell?_of_block (w:=w) (a:=⟨b,o+k*3+j,none⟩) (HB.out.block b hbl)).trans (hr j u hu)
       have hie:∀ n∈enN L[k],InR n:=HRg.out.en _ (List.getElem_mem hlt)
       have HTk:Hid (bs (A2 ++ enT (L.take (k+1))) = bs (A2 ++ enT (L.take k)) ++ bs (lineB wEntry (enN L[k]))):=by
        show _ = _
        rw [bs_app,enT_take L k hlt,List.append_assoc]
       have hS3:(lineB wEntry (enN L[k])).length≤100:=by have:=lineB_len wEntry (enN L[k]) hie; have e1:wEntry.length = 5:=rfl; have e2:(enN L[k]).length = 3:=rfl; omega
       clear hr
       generalize L[k] = en at *
       have z1:¬ 9223372036854775807 < (bs (A2 ++ enT (L.take k))).size+(bs (lineB wEntry (enN en))).size:=by rw [bs_size,bs_size,List.length_append]; have:=HSz2.out; omega
       clear hS2 hS3
       have a1:At (wr.alloc (.cells (enl en).toArray 114)) wr.heap.size (enl en):=At.alloc wr (enl en) _
       have bw1:Below w.heap.size w (wr.alloc (.cells (enl en).toArray 114)):=HB.out.alloc HB.out.size _
       go_upto_region 14 with fail
       refine wp_region_lit ?_
       refine wpList_val (.pointer (some ⟨D,0,none⟩)) wr rfl rfl ?_
       simp only [uP]
       refine wpList_val (.pointer (some ⟨D,0,none⟩)) wr rfl (by go_simp) ?_
       simp only [uP]
       refine wpList_val (.pointer (some ⟨D,15,none⟩)) wr rfl (by go_simp) ?_
       simp only [uP]
       refine wpList_val (.slice (some ⟨b,o,none⟩) L.length bcap) wr rfl (by go_simp) ?_
       simp only [uP]
       refine wpList_val (.int .i64 k) wr rfl rfl ?_
       simp only [uP]
       refine wpList_val (.pointer (some ⟨b,o+k*3,none⟩)) wr rfl (by go_simp) ?_
       simp only [uP]
       refine wpList_load_mid rfl 114 (.tmp 97) rfl b (o+k*3) rfl (enl en) _ hrw Tryz.underlying114 rfl (by kernel_rfl) ?_
       simp only [uP]
       clear hrw HB c15
       go_upto_region 15 with (first | (refine wpList_store_new rfl 114 (.tmp 10) (.tmp 98) rfl (enl en).toArray _ rfl rfl (by kernel_rfl) rfl (by kernel_rfl) ?_) | fail)
       generalize wr.alloc (.cells (enl en).toArray 114) = V5 at *
       generalize wr.heap.size = N5 at *
       have hv:=IsV.made V5 (enN en) 3
       have bw2:Below w.heap.size w (V5.alloc (.cells ((enN en).map (Value.int .i64)).toArray 3)):=bw1.alloc bw1.size _
       have hLi:=line_any (V5.alloc (.cells ((enN en).map (Value.int .i64)).toArray 3)) wEntry _ (enN en) hv hie (by show 5+22*3≤_; omega)
       have c0:V5.cell? ⟨N5,0,none⟩ = some (.int .i64 en.d):=a1.cell 0 rfl
       have c1:V5.cell? ⟨N5,1,none⟩ = some (.int .i64 en.k):=a1.cell 1 rfl
       have c2:V5.cell? ⟨N5,2,none⟩ = some (.int .i64 en.a):=a1.cell 2 rfl
       generalize bs (A2 ++ enT (L.take k)) = S at *
       generalize bs (lineB wEntry (enN en)) = T at *
       go_wp2_with fail
       refine hLi.mono ?_
       rintro e w6 ⟨rfl,hb6⟩
       have HB6:Hid (Below w.heap.size w w6):=bw2.trans (hb6.mono bw2.size)
       clear hLi hv c0 c1 c2 hb6 bw2 bw1 a1 hie
       go_wp2
       exact ⟨⟨k+1,hlt,by rw [HTk.out],rfl,HB6.out⟩,by simp [intOf]; omega⟩
      ·obtain rfl:k = L.length:=by omega
       have zk:¬ (L.length:Int) < (L.length:Int):=by omega
       have HE:Hid (bs (txtB t R g day L) = bs (A2 ++ enT (L.take L.length)) ++ bs [101,110,100,10]):=by
        show _ = _
        rw [bs_app,List.take_length,HA2.out,HA.out]
        rfl
       have z1:¬ 9223372036854775807 < (bs (A2 ++ enT (L.take L.length))).size+4:=by rw [bs_size,List.length_append]; have:=HSz2.out; omega
       clear hS2
       generalize bs (A2 ++ enT (L.take L.length)) = S at *
       go_wp2
       go_ret
       exact ⟨R,HPm.out.1,HPm.out.2,by rw [HE.out]; rfl,HB.out⟩
    ·rw [if_pos (by rfl)]
     have iv20:IsV (W1.alloc (.cells #[.int .i64 g.pr,.int .i64 g.it,.int .i64 g.du,.int .i64 g.la,.int .i64 g.fi,.int .i64 g.cr,.int .i64 g.rt] 3)) (.slice (some ⟨W1.heap.size,0,none⟩) 7 7) (nwN g):=IsV.made W1 (nwN g) 3
     have bs2:Below W1.heap.size W1 (W1.alloc (.cells #[.int .i64 g.pr,.int .i64 g.it,.int .i64 g.du,.int .i64 g.la,.int .i64 g.fi,.int .i64 g.cr,.int .i64 g.rt] 3)):=(Below.refl _ _).alloc (Nat.le_refl _) _
     refine wp_valD (.slice (some ⟨W1.heap.size,0,none⟩) 7 7) (W1.alloc (.cells #[.int .i64 g.pr,.int .i64 g.it,.int .i64 g.du,.int .i64 g.la,.int .i64 g.fi,.int .i64 g.cr,.int .i64 g.rt] 3)) (by kernel_rfl) ?_
     have at2:=At.keep (S:=fun _=>False) (v:=.int .i64 g.pr) at1 (Keep.below bs2) (fun x=>x)
     have bw2:Below w.heap.size w (W1.alloc (.cells #[.int .i64 g.pr,.int .i64 g.it,.int .i64 g.du,.int .i64 g.la,.int .i64 g.fi,.int .i64 g.cr,.int .i64 g.rt] 3)):=bw1.trans (bs2.mono bw1.size)
     have iv3:=iv3.below bs2
     refine hK.out _ _ at2 (fun hH2=>?_)
     clear hK K
     try simp only [uP]
     generalize W1.alloc (.cells #[.int .i64 g.pr,.int .i64 g.it,.int .i64 g.du,.int .i64 g.la,.int .i64 g.fi,.int .i64 g.cr,.int .i64 g.rt] 3) = W2 at *
     refine rdy 4 rfl (fun K hK=>?_)
     have hC4:=HL4.out W2 _ iv3
     go_simp
     refine hC4.mono ?_
     rintro e W3 ⟨rfl,bs3⟩
     go_wp2_with fail
     have at3:=At.keep (S:=fun _=>False) (v:=.int .i64 g.pr) at2 (Keep.below bs3) (fun x=>x)
     have bw3:Below w.heap.size w W3:=bw2.trans (bs3.mono bw2.size)
     have iv20:=iv20.below bs3
     refine hK.out _ _ at3 (fun hH3=>?_)
     clear hK K
     try simp only [uP]
     refine tkg 5 (.string (bs A ++ T4)) rfl ?_
     simp only [uP]
     refine rdy 21 rfl (fun K hK=>?_)
     have hC21:=HL5.out W3 _ iv20
     go_simp
     refine hC21.mono ?_
     rintro e W4 ⟨rfl,bs4⟩
     go_wp2_with fail
     have at4:=At.keep (S:=fun _=>False) (v:=.int .i64 g.pr) at3 (Keep.below bs4) (fun x=>x)
     have bw4:Below w.heap.size w W4:=bw3.trans (bs4.mono bw3.size)
     refine hK.out _ _ at4 (fun hH4=>?_)
     clear hK K
     try simp only [uP]
     refine tkg 22 (.string (bs A ++ T4 ++ T5)) rfl ?_
     simp only [uP]
     refine tkk 23 (.string (bs A ++ T4 ++ T5)) rfl ?_
     simp only [uP]
     refine wpAnyH_done (by kernel_rfl) ?_ _
     have bwx:=hid bw4
     rw [HJ.out]
     obtain ⟨A2,hA2⟩:∃ A2,A2 = A ++ lineB wAt [day] ++ lineB wNow (nwN g):=⟨_,rfl⟩
     have HA2:=hid hA2
     rw [← hA2] at HSz2 ⊢
     clear hA2 HL4 HL5 HJ z1 z2 HRn HRd
     try generalize (W4:World) = WW at *
     have c15:WW.cell? ⟨D,15,none⟩ = some (.slice bp L.length bcap):=(HLn.out WW bwx.out).cell 15 rfl
     clear c15
     go_wp2
     go_loopw [4,9,10] (fun s4 s9 _ wr=>∃ k:Nat,k≤L.length∧s4 = .string (bs (A2 ++ enT (L.take k)))∧s9 = .int .i64 k∧Below w.heap.size w wr) (fun _ s9 _ _=>(L.length - intOf s9).toNat)
     case atStart=>exact ⟨0,Nat.zero_le _,by simp [enT],rfl,bwx.out⟩
     case round =>
      obtain ⟨k,hk,rfl,rfl,hb⟩:=hrel
      have HB:=hid hb
      have c15:wr.cell? ⟨D,15,none⟩ = some (.slice bp L.length bcap):=(HLn.out wr hb).cell 15 rfl
      have hS2:(enT (L.take k)).length≤400000000000000:=by
       have:=enT_len (L.take k) (fun e he=>HRg.out.en e (List.mem_of_mem_take he))
       rw [List.length_take] at this
       omega
      clear hb
      by_cases hlt:k < L.length
      ·have zk:(k:Int) < (L.length:Int):=by omega
       obtain ⟨b,o,rfl,hbl,hr⟩:=HCell.out k hlt
       have hrw:wr.rangeAt b (o+k*3) (enl L[k]):=fun j u hu=>(World.cell?_of_block (w:=w) (a:=⟨b,o+k*3+j,none⟩) (HB.out.block b hbl)).trans (hr j u hu)
       have hie:∀ n∈enN L[k],InR n:=HRg.out.en _ (List.getElem_mem hlt)
       have HTk:Hid (bs (A2 ++ enT (L.take (k+1))) = bs (A2 ++ enT (L.take k)) ++ bs (lineB wEntry (enN L[k]))):=by
        show _ = _
        rw [bs_app,enT_take L k hlt,List.append_assoc]
       have hS3:(lineB wEntry (enN L[k])).length≤100:=by have:=lineB_len wEntry (enN L[k]) hie; have e1:wEntry.length = 5:=rfl; have e2:(enN L[k]).length = 3:=rfl; omega
       clear hr
       generalize L[k] = en at *
       have z1:¬ 9223372036854775807 < (bs (A2 ++ enT (L.take k))).size+(bs (lineB wEntry (enN en))).size:=by rw [bs_size,bs_size,List.length_append]; have:=HSz2.out; omega
       clear hS2 hS3
       have a1:At (wr.alloc (.cells (enl en).toArray 114)) wr.heap.size (enl en):=At.alloc wr (enl en) _
       have bw1:Below w.heap.size w (wr.alloc (.cells (enl en).toArray 114)):=HB.out.alloc HB.out.size _
       go_upto_region 14 with fail
       refine wp_region_lit ?_
       refine wpList_val (.pointer (some ⟨D,0,none⟩)) wr rfl rfl ?_
       simp only [uP]
       refine wpList_val (.pointer (some ⟨D,0,none⟩)) wr rfl (by go_simp) ?_
       simp only [uP]
       refine wpList_val (.pointer (some ⟨D,15,none⟩)) wr rfl (by go_simp) ?_
       simp only [uP]
       refine wpList_val (.slice (some ⟨b,o,none⟩) L.length bcap) wr rfl (by go_simp) ?_
       simp only [uP]
       refine wpList_val (.int .i64 k) wr rfl rfl ?_
       simp only [uP]
       refine wpList_val (.pointer (some ⟨b,o+k*3,none⟩)) wr rfl (by go_simp) ?_
       simp only [uP]
       refine wpList_load_mid rfl 114 (.tmp 97) rfl b (o+k*3) rfl (enl en) _ hrw Tryz.underlying114 rfl (by kernel_rfl) ?_
       simp only [uP]
       clear hrw HB c15
       go_upto_region 15 with (first | (refine wpList_store_new rfl 114 (.tmp 10) (.tmp 98) rfl (enl en).toArray _ rfl rfl (by kernel_rfl) rfl (by kernel_rfl) ?_) | fail)
       generalize wr.alloc (.cells (enl en).toArray 114) = V5 at *
       generalize wr.heap.size = N5 at *
       have hv:=IsV.made V5 (enN en) 3
       have bw2:Below w.heap.size w (V5.alloc (.cells ((enN en).map (Value.int .i64)).toArray 3)):=bw1.alloc bw1.size _
       have hLi:=line_any (V5.alloc (.cells ((enN en).map (Value.int .i64)).toArray 3)) wEntry _ (enN en) hv hie (by show 5+22*3≤_; omega)
       have c0:V5.cell? ⟨N5,0,none⟩ = some (.int .i64 en.d):=a1.cell 0 rfl
       have c1:V5.cell? ⟨N5,1,none⟩ = some (.int .i64 en.k):=a1.cell 1 rfl
       have c2:V5.cell? ⟨N5,2,none⟩ = some (.int .i64 en.a):=a1.cell 2 rfl
       generalize bs (A2 ++ enT (L.take k)) = S at *
       generalize bs (lineB wEntry (enN en)) = T at *
       go_wp2_with fail
       refine hLi.mono ?_
       rintro e w6 ⟨rfl,hb6⟩
       have HB6:Hid (Below w.heap.size w w6):=bw2.trans (hb6.mono bw2.size)
       clear hLi hv c0 c1 c2 hb6 bw2 bw1 a1 hie
       go_wp2
       exact ⟨⟨k+1,hlt,by rw [HTk.out],rfl,HB6.out⟩,by simp [intOf]; omega⟩
      ·obtain rfl:k = L.length:=by omega
       have zk:¬ (L.length:Int) < (L.length:Int):=by omega
       have HE:Hid (bs (txtB t R g day L) = bs (A2 ++ enT (L.take L.length)) ++ bs [101,110,100,10]):=by
        show _ = _
        rw [bs_app,List.take_length,HA2.out,HA.out]
        rfl
       have z1:¬ 9223372036854775807 < (bs (A2 ++ enT (L.take L.length))).size+4:=by rw [bs_size,List.length_append]; have:=HSz2.out; omega
       clear hS2
       generalize bs (A2 ++ enT (L.take L.length)) = S at *
       go_wp2
       go_ret
       exact ⟨R,HPm.out.1,HPm.out.2,by rw [HE.out]; rfl,HB.out⟩
   ·rw [if_pos (by rfl)]
    have iv20:IsV (U0.alloc (.cells #[.int .i64 g.pr,.int .i64 g.it,.int .i64 g.du,.int .i64 g.la,.int .i64 g.fi,.int .i64 g.cr,.int .i64 g.rt] 3)) (.slice (some ⟨U0.heap.size,0,none⟩) 7 7) (nwN g):=IsV.made U0 (nwN g) 3
    have bs1:Below U0.heap.size U0 (U0.alloc (.cells #[.int .i64 g.pr,.int .i64 g.it,.int .i64 g.du,.int .i64 g.la,.int .i64 g.fi,.int .i64 g.cr,.int .i64 g.rt] 3)):=(Below.refl _ _).alloc (Nat.le_refl _) _
    refine wp_valD (.slice (some ⟨U0.heap.size,0,none⟩) 7 7) (U0.alloc (.cells #[.int .i64 g.pr,.int .i64 g.it,.int .i64 g.du,.int .i64 g.la,.int .i64 g.fi,.int .i64 g.cr,.int .i64 g.rt] 3)) (by kernel_rfl) ?_
    have at1:=At.keep (S:=fun _=>False) (v:=.int .i64 g.pr) hHeld (Keep.below bs1) (fun x=>x)
    have bw1:Below w.heap.size w (U0.alloc (.cells #[.int .i64 g.pr,.int .i64 g.it,.int .i64 g.du,.int .i64 g.la,.int .i64 g.fi,.int .i64 g.cr,.int .i64 g.rt] 3)):=bd.trans (bs1.mono bd.size)
    refine hK.out _ _ at1 (fun hH1=>?_)
    clear hK K
    try simp only [uP]
    generalize U0.alloc (.cells #[.int .i64 g.pr,.int .i64 g.it,.int .i64 g.du,.int .i64 g.la,.int .i64 g.fi,.int .i64 g.cr,.int .i64 g.rt] 3) = W1 at *
    refine rdy 3 rfl (fun K hK=>?_)
    rw [if_pos (by rfl)]
    have iv3:IsV (W1.alloc (.cells #[.int .i64 day] 3)) (.slice (some ⟨W1.heap.size,0,none⟩) 1 1) [day]:=IsV.made W1 [day] 3
    have bs2:Below W1.heap.size W1 (W1.alloc (.cells #[.int .i64 day] 3)):=(Below.refl _ _).alloc (Nat.le_refl _) _
    refine wp_valD (.slice (some ⟨W1.heap.size,0,none⟩) 1 1) (W1.alloc (.cells #[.int .i64 day] 3)) (by kernel_rfl) ?_
    have at2:=At.keep (S:=fun _=>False) (v:=.int .i64 g.pr) at1 (Keep.below bs2) (fun x=>x)
    have bw2:Below w.heap.size w (W1.alloc (.cells #[.int .i64 day] 3)):=bw1.trans (bs2.mono bw1.size)
    have iv20:=iv20.below bs2
    refine hK.out _ _ at2 (fun hH2=>?_)
    clear hK K
    try simp only [uP]
    generalize W1.alloc (.cells #[.int .i64 day] 3) = W2 at *
    refine rdy 4 rfl (fun K hK=>?_)
    have hC4:=HL4.out W2 _ iv3
    go_simp
    refine hC4.mono ?_
    rintro e W3 ⟨rfl,bs3⟩
    go_wp2_with fail
    have at3:=At.keep (S:=fun _=>False) (v:=.int .i64 g.pr) at2 (Keep.below bs3) (fun x=>x)
    have bw3:Below w.heap.size w W3:=bw2.trans (bs3.mono bw2.size)
    have iv20:=iv20.below bs3
    refine hK.out _ _ at3 (fun hH3=>?_)
    clear hK K
    try simp only [uP]
    refine tkg 5 (.string (bs A ++ T4)) rfl ?_
    simp only [uP]
    refine rdy 21 rfl (fun K hK=>?_)
    have hC21:=HL5.out W3 _ iv20
    go_simp
    refine hC21.mono ?_
    rintro e W4 ⟨rfl,bs4⟩
    go_wp2_with fail
    have at4:=At.keep (S:=fun _=>False) (v:=.int .i64 g.pr) at3 (Keep.below bs4) (fun x=>x)
    have bw4:Below w.heap.size w W4:=bw3.trans (bs4.mono bw3.size)
    refine hK.out _ _ at4 (fun hH4=>?_)
    clear hK K
    try simp only [uP]
    refine tkg 22 (.string (bs A ++ T4 ++ T5)) rfl ?_
    simp only [uP]
    refine tkk 23 (.string (bs A ++ T4 ++ T5)) rfl ?_
    simp only [uP]
    refine wpAnyH_done (by kernel_rfl) ?_ _
    have bwx:=hid bw4
    rw [HJ.out]
    obtain ⟨A2,hA2⟩:∃ A2,A2 = A ++ lineB wAt [day] ++ lineB wNow (nwN g):=⟨_,rfl⟩
    have HA2:=hid hA2
    rw [← hA2] at HSz2 ⊢
    clear hA2 HL4 HL5 HJ z1 z2 HRn HRd
    try generalize (W4:World) = WW at *
    have c15:WW.cell? ⟨D,15,none⟩ = some (.slice bp L.length bcap):=(HLn.out WW bwx.out).cell 15 rfl
    clear c15
    go_wp2
    go_loopw [4,9,10] (fun s4 s9 _ wr=>∃ k:Nat,k≤L.length∧s4 = .string (bs (A2 ++ enT (L.take k)))∧s9 = .int .i64 k∧Below w.heap.size w wr) (fun _ s9 _ _=>(L.length - intOf s9).toNat)
    case atStart=>exact ⟨0,Nat.zero_le _,by simp [enT],rfl,bwx.out⟩
    case round =>
     obtain ⟨k,hk,rfl,rfl,hb⟩:=hrel
     have HB:=hid hb
     have c15:wr.cell? ⟨D,15,none⟩ = some (.slice bp L.length bcap):=(HLn.out wr hb).cell 15 rfl
     have hS2:(enT (L.take k)).length≤400000000000000:=by
      have:=enT_len (L.take k) (fun e he=>HRg.out.en e (List.mem_of_mem_take he))
      rw [List.length_take] at this
      omega
     clear hb
     by_cases hlt:k < L.length
     ·have zk:(k:Int) < (L.length:Int):=by omega
      obtain ⟨b,o,rfl,hbl,hr⟩:=HCell.out k hlt
      have hrw:wr.rangeAt b (o+k*3) (enl L[k]):=fun j u hu=>(World.cell?_of_block (w:=w) (a:=⟨b,o+k*3+j,none⟩) (HB.out.block b hbl)).trans (hr j u hu)
      have hie:∀ n∈enN L[k],InR n:=HRg.out.en _ (List.getElem_mem hlt)
      have HTk:Hid (bs (A2 ++ enT (L.take (k+1))) = bs (A2 ++ enT (L.take k)) ++ bs (lineB wEntry (enN L[k]))):=by
       show _ = _
       rw [bs_app,enT_take L k hlt,List.append_assoc]
      have hS3:(lineB wEntry (enN L[k])).length≤100:=by have:=lineB_len wEntry (enN L[k]) hie; have e1:wEntry.length = 5:=rfl; have e2:(enN L[k]).length = 3:=rfl; omega
      clear hr
      generalize L[k] = en at *
      have z1:¬ 9223372036854775807 < (bs (A2 ++ enT (L.take k))).size+(bs (lineB wEntry (enN en))).size:=by rw [bs_size,bs_size,List.length_append]; have:=HSz2.out; omega
      clear hS2 hS3
      have a1:At (wr.alloc (.cells (enl en).toArray 114)) wr.heap.size (enl en):=At.alloc wr (enl en) _
      have bw1:Below w.heap.size w (wr.alloc (.cells (enl en).toArray 114)):=HB.out.alloc HB.out.size _
      go_upto_region 14 with fail
      refine wp_region_lit ?_
      refine wpList_val (.pointer (some ⟨D,0,none⟩)) wr rfl rfl ?_
      simp only [uP]
      refine wpList_val (.pointer (some ⟨D,0,none⟩)) wr rfl (by go_simp) ?_
      simp only [uP]
      refine wpList_val (.pointer (some ⟨D,15,none⟩)) wr rfl (by go_simp) ?_
      simp only [uP]
      refine wpList_val (.slice (some ⟨b,o,none⟩) L.length bcap) wr rfl (by go_simp) ?_
      simp only [uP]
      refine wpList_val (.int .i64 k) wr rfl rfl ?_
      simp only [uP]
      refine wpList_val (.pointer (some ⟨b,o+k*3,none⟩)) wr rfl (by go_simp) ?_
      simp only [uP]
      refine wpList_load_mid rfl 114 (.tmp 97) rfl b (o+k*3) rfl (enl en) _ hrw Tryz.underlying114 rfl (by kernel_rfl) ?_
      simp only [uP]
      clear hrw HB c15
      go_upto_region 15 with (first | (refine wpList_store_new rfl 114 (.tmp 10) (.tmp 98) rfl (enl en).toArray _ rfl rfl (by kernel_rfl) rfl (by kernel_rfl) ?_) | fail)
      generalize wr.alloc (.cells (enl en).toArray 114) = V5 at *
      generalize wr.heap.size = N5 at *
      have hv:=IsV.made V5 (enN en) 3
      have bw2:Below w.heap.size w (V5.alloc (.cells ((enN en).map (Value.int .i64)).toArray 3)):=bw1.alloc bw1.size _
      have hLi:=line_any (V5.alloc (.cells ((enN en).map (Value.int .i64)).toArray 3)) wEntry _ (enN en) hv hie (by show 5+22*3≤_; omega)
      have c0:V5.cell? ⟨N5,0,none⟩ = some (.int .i64 en.d):=a1.cell 0 rfl
      have c1:V5.cell? ⟨N5,1,none⟩ = some (.int .i64 en.k):=a1.cell 1 rfl
      have c2:V5.cell? ⟨N5,2,none⟩ = some (.int .i64 en.a):=a1.cell 2 rfl
      generalize bs (A2 ++ enT (L.take k)) = S at *
      generalize bs (lineB wEntry (enN en)) = T at *
      go_wp2_with fail
      refine hLi.mono ?_
      rintro e w6 ⟨rfl,hb6⟩
      have HB6:Hid (Below w.heap.size w w6):=bw2.trans (hb6.mono bw2.size)
      clear hLi hv c0 c1 c2 hb6 bw2 bw1 a1 hie
      go_wp2
      exact ⟨⟨k+1,hlt,by rw [HTk.out],rfl,HB6.out⟩,by simp [intOf]; omega⟩
     ·obtain rfl:k = L.length:=by omega
      have zk:¬ (L.length:Int) < (L.length:Int):=by omega
      have HE:Hid (bs (txtB t R g day L) = bs (A2 ++ enT (L.take L.length)) ++ bs [101,110,100,10]):=by
       show _ = _
       rw [bs_app,List.take_length,HA2.out,HA.out]
       rfl
      have z1:¬ 9223372036854775807 < (bs (A2 ++ enT (L.take L.length))).size+4:=by rw [bs_size,List.length_append]; have:=HSz2.out; omega
      clear hS2
      generalize bs (A2 ++ enT (L.take L.length)) = S at *
      go_wp2
      go_ret
      exact ⟨R,HPm.out.1,HPm.out.2,by rw [HE.out]; rfl,HB.out⟩
theorem dl_bal (t:Ln.Terms) (ev:Value) (g:Ln.St) (day:Int) (bk:Value):∀ j u,(bll g day)[j]? = some u→(dl t ev g day bk)[7+j]? = some u:=by
 intro j u h
 match j,h with
 | 0,h=>exact h
 | 1,h=>exact h
 | 2,h=>exact h
 | 3,h=>exact h
 | 4,h=>exact h
 | 5,h=>exact h
 | 6,h=>exact h
 | 7,h=>exact h
set_option maxRecDepth 10000 in
set_option maxHeartbeats 2000000 in
theorem lawbal_any (w:World) (B D:Nat) (t:Ln.Terms) (E l:List Ln.Ev) (g:Ln.St) (day:Int) (L:List En) (F1 F2:Nat→Prop) (h:TwX w B D t E l g day L F1 F2) :
  Calls Tryz.prog 28 #[.agg #[.pointer (some ⟨B,0,none⟩),.pointer (some ⟨D,0,none⟩)]] w fun e w'=>e = .returned (.bool true)∧Below w.heap.size w w':=by
 have b0:Below w.heap.size w (w.alloc (.cells #[.pointer (some ⟨B,0,none⟩),.pointer (some ⟨D,0,none⟩)] 31)):=(Below.refl _ _).alloc (Nat.le_refl _) _
 have a0:At (w.alloc (.cells #[.pointer (some ⟨B,0,none⟩),.pointer (some ⟨D,0,none⟩)] 31)) w.heap.size [.pointer (some ⟨B,0,none⟩),.pointer (some ⟨D,0,none⟩)]:=At.alloc w [.pointer (some ⟨B,0,none⟩),.pointer (some ⟨D,0,none⟩)] _
 have hB:=balanceL _ B t E g day L F1 (h.below b0).pr
 obtain ⟨evv,bkv,hD,_⟩:=(h.below b0).dc
 have HD:Hid (At (w.alloc (.cells #[.pointer (some ⟨B,0,none⟩),.pointer (some ⟨D,0,none⟩)] 31)) D (dl t evv g day bkv)):=hD.ln
 have c0:(w.alloc (.cells #[.pointer (some ⟨B,0,none⟩),.pointer (some ⟨D,0,none⟩)] 31)).cell? ⟨w.heap.size,0,none⟩ = some (.pointer (some ⟨B,0,none⟩)):=a0.cell 0 rfl
 have HA0:=hid a0
 have HB0:=hid b0
 clear hD a0 b0 h
 go_enter Tryz.func28,Tryz.ntmps28
 go_wp2_with fail
 generalize w.alloc (.cells #[.pointer (some ⟨B,0,none⟩),.pointer (some ⟨D,0,none⟩)] 31) = V0 at *
 refine hB.mono ?_
 rintro x w1 ⟨rfl,hb1⟩
 clear hB c0
 unfold blV
 have hb2:Below V0.heap.size V0 (w1.alloc (.cells (bll g day).toArray 52)):=hb1.alloc hb1.size _
 have HS:Hid (At (w1.alloc (.cells (bll g day).toArray 52)) w1.heap.size (bll g day)∧At (w1.alloc (.cells (bll g day).toArray 52)) w.heap.size [.pointer (some ⟨B,0,none⟩),.pointer (some ⟨D,0,none⟩)]∧At (w1.alloc (.cells (bll g day).toArray 52)) D (dl t evv g day bkv)∧Below w.heap.size w (w1.alloc (.cells (bll g day).toArray 52))) :=
  ⟨At.alloc w1 _ _,At.keep (S:=fun _=>False) (v:=.pointer (some ⟨B,0,none⟩)) HA0.out (Keep.below hb2) (fun x=>x),At.keep (S:=fun _=>False) (v:=.int .i64 t.st) HD.out (Keep.below hb2) (fun x=>x),HB0.out.trans (hb2.mono HB0.out.size)⟩
 clear HA0 HD HB0 hb1 hb2
 go_wp2_with (first | (refine wpList_store_new rfl 52 (.tmp 3) (.tmp 6) rfl (bll g day).toArray _ rfl rfl (by kernel_rfl) rfl (by kernel_rfl) ?_) | fail)
 generalize w1.alloc (.cells (bll g day).toArray 52) = V1 at *
 generalize w1.heap.size = N3 at *
 go_upto_region 2 with fail
 refine wp_region_held_drew (S:=fun wx=>At wx N3 (bll g day)∧At wx w.heap.size [.pointer (some ⟨B,0,none⟩),.pointer (some ⟨D,0,none⟩)]∧At wx D (dl t evv g day bkv)∧Below w.heap.size w wx) (by kernel_rfl) ⟨HS.out.1.drew,HS.out.2.1.drew,HS.out.2.2.1.drew,HS.out.2.2.2.drew⟩ (fun hHeld=>?_)
 clear HS
 generalize V1.drew = V2 at *
 refine wpAnyH_take (i:=0) (v:=(.agg (bll g day).toArray)) rfl (by kernel_rfl) (by kernel_rfl) (by kernel_rfl) (fun _ _ _ h=>h) (yieldsIf_load_mid (by rfl) 52 (.tmp 3) rfl _ _ rfl _ _ (fun _ h=>h.1.range) Tryz.underlying52 rfl (by kernel_rfl)) (by assumption) ?_
 simp only [uP]
 refine tkk 1 (.pointer (some ⟨w.heap.size,1,none⟩)) rfl ?_
 simp only [uP]
 refine tkh 2 (.pointer (some ⟨D,0,none⟩)) rfl (fun wx hSw=>by (have hc:wx.cell? ⟨w.heap.size,1,none⟩ = some (.pointer (some ⟨D,0,none⟩)):=hSw.2.1.cell 1 rfl; go_simp)) ?_
 simp only [uP]
 refine tkk 3 (.pointer (some ⟨D,0,none⟩)) rfl ?_
 simp only [uP]
 refine tkk 4 (.pointer (some ⟨D,7,none⟩)) rfl ?_
 simp only [uP]
 refine wpAnyH_take (i:=5) (v:=(.agg (bll g day).toArray)) rfl (by kernel_rfl) (by kernel_rfl) (by kernel_rfl) (fun _ _ _ h=>h) (yieldsIf_load_mid (by rfl) 52 (.tmp 11) rfl _ _ rfl _ _ (fun _ h=>h.2.2.1.mid 7 _ (dl_bal t _ g day _)) Tryz.underlying52 rfl (by kernel_rfl)) (by assumption) ?_
 simp only [uP]
 refine tkh 6 (.bool true) rfl (fun wx hSw=>by (unfold bll; go_simp)) ?_
 simp only [uP]
 refine tkk 7 (.bool true) rfl ?_
 simp only [uP]
 refine wpAnyH_done (by kernel_rfl) ?_ _
 have HB:Hid (Below w.heap.size w V2):=hHeld.2.2.2
 clear hHeld
 go_wp2
 go_ret
 exact ⟨rfl,HB.out⟩
def wl (p0 d0 p1 d1:Value):List Value:=[.slice none 0 0,.slice none 0 0,.slice none 0 0,.slice none 0 0,.slice none 0 0,.slice none 0 0,p0,d0,p1,d1]
structure MdX (w:World) (B D:Nat) (t:Ln.Terms) (E l:List Ln.Ev) (g g2:Ln.St) (day day2:Int) (L L2:List En) (F1 F2:Nat→Prop):Prop where
 pr:Lo w B t E g day L F1
 dc:Dc w D t l g2 day2 L2 F2
 ap:∀ b,F1 b→¬ F2 b
 l1:∀ b,F1 b→b < w.heap.size
 l2:∀ b,F2 b→b < w.heap.size
theorem TwX.mid {w w':World} {B D:Nat} {t:Ln.Terms} {E E' l:List Ln.Ev} {g g':Ln.St} {day day':Int} {L L':List En} {F1 F2:Nat→Prop} (h:TwX w B D t E l g day L F1 F2) (hk:Keep F1 w w') (hlo:Lo w' B t E' g' day' L' (Wd F1 w w')):MdX w' B D t E' l g' g day' day L' L (Wd F1 w w') F2:=by
 obtain ⟨h1,h2,h3,h4,h5⟩:=h.pstep hk hlo
 exact ⟨h1,h2,h3,h4,h5⟩
def PAdd (w:World) (B D:Nat) (t:Ln.Terms) (l:List Ln.Ev) (g:Ln.St) (day:Int) (L:List En) (F1 F2:Nat→Prop) (e:Ln.Ev) (x:Ending) (w':World):Prop :=
 x = .returned (.int .i64 (addC t l e))∧Keep F1 w w'∧∃ E',((¬ addC t l e = 0∧E'.Perm l)∨(addC t l e = 0∧E'.Perm (l ++ [e])))∧MdX w' B D t E' l g g day day L L (Wd F1 w w') F2
theorem TwX.padd {w:World} {B D:Nat} {t:Ln.Terms} {E l:List Ln.Ev} {g:Ln.St} {day:Int} {L:List En} {F1 F2:Nat→Prop} (h:TwX w B D t E l g day L F1 F2) (e:Ln.Ev) (hlim:Lim w) :
  Calls Tryz.prog 19 #[.pointer (some ⟨B,0,none⟩),evV e] w (PAdd w B D t l g day L F1 F2 e):=by
 refine (addL w B t E g day L F1 h.pr e hlim).mono ?_
 rw [addC_perm h.pm e]
 rintro x w' ⟨rfl,hk,⟨hn,hlo⟩ | ⟨hz,E',hE',hlo⟩⟩
 ·exact ⟨rfl,hk,E,.inl ⟨hn,h.pm⟩,h.mid hk hlo⟩
 ·exact ⟨rfl,hk,E',.inr ⟨hz,hE'.trans ((List.Perm.cons e h.pm).trans (List.perm_append_singleton e l).symm)⟩,h.mid hk hlo⟩
def Again (w:World) (B D:Nat) (t:Ln.Terms) (L:List En) (F1 F2:Nat→Prop) (w':World):Prop :=
 Keep F2 w w'∧∃ E l g day,TwX w' B D t E l g day L F1 (Wd F2 w w')
theorem MdX.dadd {w:World} {B D:Nat} {t:Ln.Terms} {E E' l:List Ln.Ev} {g:Ln.St} {day:Int} {L:List En} {F1 F2:Nat→Prop} (h:MdX w B D t E' l g g day day L L F1 F2) (e:Ln.Ev) (hp:(¬ addC t l e = 0∧E'.Perm l)∨(addC t l e = 0∧E'.Perm (l ++ [e]))) (hS:Sav t E g day L) (hpm:E.Perm l) (hin:InR e.s) :
  Calls Tryz.prog 57 #[.pointer (some ⟨D,0,none⟩),evc e] w fun x w'=>x = .returned (.int .i64 (addC t l e))∧Again w B D t L F1 F2 w':=by
 have hS2:Sav t E' g day L:=by
  obtain ⟨_,_,_,_,hX,_⟩:=h.pr
  exact hS.told1 hpm hp hX.so hX.le hin
 refine (refaddD w D t l g day L F2 h.dc e).mono ?_
 rintro x w' ⟨rfl,hk,⟨hn,hdc⟩ | ⟨hz,hdc⟩⟩
 ·rcases hp with hp | hp
  ·exact ⟨rfl,hk,E',l,g,day,dstep h.pr h.ap h.l1 h.l2 hk hdc hp.2 hS2⟩
  ·exact absurd hp.1 hn
 ·rcases hp with hp | hp
  ·exact absurd hz hp.1
  ·exact ⟨rfl,hk,E',l ++ [e],g,day,dstep h.pr h.ap h.l1 h.l2 hk hdc hp.2 hS2⟩
def canC (q:Int) (l:List Ln.Ev):Int:=if hasS q l = true then 0 else 9
def PCan (w:World) (B D:Nat) (t:Ln.Terms) (l:List Ln.Ev) (g:Ln.St) (day:Int) (L:List En) (F1 F2:Nat→Prop) (q:Int) (x:Ending) (w':World):Prop :=
 x = .returned (.int .i64 (canC q l))∧Keep F1 w w'∧∃ E',E'.Perm (if hasS q l = true then wo q l else l)∧MdX w' B D t E' l g g day day L L (Wd F1 w w') F2
theorem TwX.pcan {w:World} {B D:Nat} {t:Ln.Terms} {E l:List Ln.Ev} {g:Ln.St} {day:Int} {L:List En} {F1 F2:Nat→Prop} (h:TwX w B D t E l g day L F1 F2) (q:Int) :
  Calls Tryz.prog 58 #[.pointer (some ⟨B,0,none⟩),.int .i64 q] w (PCan w B D t l g day L F1 F2 q):=by
 obtain ⟨_,_,hD,_⟩:=h.dc
 refine (cancelL w B t E g day L F1 h.pr q).mono ?_
 rintro x w' ⟨hk,⟨hn,rfl,hlo⟩ | ⟨rfl,i,hi,_,hs,hlo⟩⟩
 ·rw [hasS_perm h.pm] at hn
  refine ⟨by unfold canC; rw [if_neg (by simp [hn])],hk,E,?_,h.mid hk hlo⟩
  rw [if_neg (by simp [hn])]
  exact h.pm
 ·have hh:hasS q l = true:=by
   rw [← hasS_perm h.pm]
   exact List.any_eq_true.2 ⟨E[i],List.getElem_mem hi,by simp [hs]⟩
  refine ⟨by unfold canC; rw [if_pos hh],hk,_,?_,h.mid hk hlo⟩
  rw [if_pos hh,erase_wo (ah_distinct h.pm hD.ds) i hi hs]
  exact wo_perm h.pm
theorem MdX.dcan {w:World} {B D:Nat} {t:Ln.Terms} {E E' l:List Ln.Ev} {g:Ln.St} {day:Int} {L:List En} {F1 F2:Nat→Prop} (h:MdX w B D t E' l g g day day L L F1 F2) (q:Int) (hp:E'.Perm (if hasS q l = true then wo q l else l)) (hS:Sav t E g day L) (hpm:E.Perm l) :
  Calls Tryz.prog 59 #[.pointer (some ⟨D,0,none⟩),.int .i64 q] w fun x w'=>x = .returned (.int .i64 (canC q l))∧Again w B D t L F1 F2 w':=by
 have hS2:Sav t E' g day L:=by
  obtain ⟨_,_,_,_,hX,_⟩:=h.pr
  refine hS.less hpm ?_ hp hX.so
  split
  ·exact List.filter_sublist
  ·exact List.Sublist.refl _
 refine (refcancelD w D t l g day L F2 h.dc q).mono ?_
 rintro x w' ⟨hk,⟨hn,rfl,hdc⟩ | ⟨hn,rfl,hdc⟩⟩
 ·rw [if_neg (by simp [hn])] at hp
  exact ⟨by unfold canC; rw [if_neg (by simp [hn])],hk,E',l,g,day,dstep h.pr h.ap h.l1 h.l2 hk hdc hp hS2⟩
 ·rw [if_pos hn] at hp
  exact ⟨by unfold canC; rw [if_pos hn],hk,E',wo q l,g,day,dstep h.pr h.ap h.l1 h.l2 hk hdc hp hS2⟩
def PRun (w:World) (B D:Nat) (t:Ln.Terms) (E l:List Ln.Ev) (g:Ln.St) (day:Int) (L:List En) (m:Nat) (F1 F2:Nat→Prop) (x:Ending) (w':World):Prop :=
 x = .returned (.int .i64 0)∧Keep F1 w w'∧MdX w' B D t E l (Ln.run t cdOf (wtOf t.ba) E m) g (t.st+m) day (bkP t.st (fun k=>(yOf t E k).am) L m) L (Wd F1 w w') F2
theorem TwX.prun {w:World} {B D:Nat} {t:Ln.Terms} {E l:List Ln.Ev} {g:Ln.St} {day:Int} {L:List En} {F1 F2:Nat→Prop} (h:TwX w B D t E l g day L F1 F2) (hL:L.length≤4000000000000) (m:Nat) (hd:day≤t.st+m) (hm:m≤3700) (hmv:Mv w) (hF:¬ F1 1) :
  Calls Tryz.prog 17 #[.pointer (some ⟨B,0,none⟩),.int .i64 (t.st+m)] w (PRun w B D t E l g day L m F1 F2):=by
 refine (runL w B t E g day L F1 h.pr hL m hd hm hmv hF).mono ?_
 rintro x w' ⟨rfl,hlo,hk⟩
 exact ⟨rfl,hk,h.mid hk hlo⟩
theorem MdX.drun {w:World} {B D:Nat} {t:Ln.Terms} {E l:List Ln.Ev} {g:Ln.St} {day:Int} {L:List En} {m:Nat} {F1 F2:Nat→Prop} (h:MdX w B D t E l (Ln.run t cdOf (wtOf t.ba) E m) g (t.st+m) day (bkP t.st (fun k=>(yOf t E k).am) L m) L F1 F2) (hpm:E.Perm l) (hL:L.length≤4000000000000) (hd:day≤t.st+m) (hm:m≤3700) (hS:Sav t E g day L) :
  Calls Tryz.prog 60 #[.pointer (some ⟨D,0,none⟩),.int .i64 (t.st+m)] w fun x w'=>x = .returned (.int .i64 0)∧Again w B D t (bkP t.st (fun k=>(yOf t E k).am) L m) F1 F2 w':=by
 refine (refrunD w D t l g day L F2 h.dc hL m hd hm).mono ?_
 rintro x w' ⟨rfl,hk,R,hR,hs,hdc⟩
 obtain ⟨_,_,_,_,hX,_⟩:=h.pr
 obtain rfl:R = E:=So.sorted_one (hR.trans hpm.symm) hs hX.so
 exact ⟨rfl,hk,_,l,_,_,dstep h.pr h.ap h.l1 h.l2 hk hdc hpm (hS.run hX.ok m hd hm)⟩
theorem TwX.prun_bad {w:World} {B D:Nat} {t:Ln.Terms} {E l:List Ln.Ev} {g:Ln.St} {day:Int} {L:List En} {F1 F2:Nat→Prop} (h:TwX w B D t E l g day L F1 F2) (n:Int) (hn:n < day∨t.st+3700 < n) :
  Calls Tryz.prog 17 #[.pointer (some ⟨B,0,none⟩),.int .i64 n] w fun x w'=>x = .returned (.int .i64 5)∧Below w.heap.size w w':=by
 obtain ⟨P,Mb,evv,bkv,h1,_⟩:=h.pr
 exact Go.Proofs.YtanndhoimpnhpaaGreatDoor.prun_bad w B t evv g day _ h1.ln h1.ot n hn
theorem TwX.drun_bad {w:World} {B D:Nat} {t:Ln.Terms} {E l:List Ln.Ev} {g:Ln.St} {day:Int} {L:List En} {F1 F2:Nat→Prop} (h:TwX w B D t E l g day L F1 F2) (n:Int) (hn:n < day∨t.st+3700 < n) :
  Calls Tryz.prog 60 #[.pointer (some ⟨D,0,none⟩),.int .i64 n] w fun x w'=>x = .returned (.int .i64 5)∧Below w.heap.size w w':=by
 obtain ⟨evv,bkv,h1,_⟩:=h.dc
 exact refrun_bad w D t evv g day _ h1.ln h1.ot n hn
def Pair (w:World) (p d:Value) (n:Nat) (G:Nat→Prop):Prop :=
 (p = .pointer none∧d = .pointer none)∨∃ (B D:Nat) (t:Ln.Terms) (E l:List Ln.Ev) (g:Ln.St) (day:Int) (L:List En) (F1 F2:Nat→Prop),p = .pointer (some ⟨B,0,none⟩)∧d = .pointer (some ⟨D,0,none⟩)∧TwX w B D t E l g day L F1 F2∧(∀ b,F1 b→G b)∧(∀ b,F2 b→G b)∧L.length≤88800*n
theorem Pair.more {w:World} {p d:Value} {n:Nat} {G:Nat→Prop} (h:Pair w p d n G):Pair w p d (n+1) G:=by
 rcases h with h | ⟨B,D,t,E,l,g,day,L,F1,F2,h1,h2,h3,h4,h5,h6⟩
 ·exact .inl h
 ·exact .inr ⟨B,D,t,E,l,g,day,L,F1,F2,h1,h2,h3,h4,h5,by omega⟩
theorem Pair.keep {S:Nat→Prop} {w w':World} {p d:Value} {n:Nat} {G:Nat→Prop} (h:Pair w p d n G) (hk:Keep S w w') (hs:∀ b,G b→¬ S b):Pair w' p d n G:=by
 rcases h with h | ⟨B,D,t,E,l,g,day,L,F1,F2,h1,h2,h3,h4,h5,h6⟩
 ·exact .inl h
 ·exact .inr ⟨B,D,t,E,l,g,day,L,F1,F2,h1,h2,h3.keep hk (fun b hb=>hs b (h4 b hb)) (fun b hb=>hs b (h5 b hb)),h4,h5,h6⟩
theorem pair_again {w w1 w2:World} {B D:Nat} {t:Ln.Terms} {L:List En} {F1 F2 G:Nat→Prop} {n:Nat} (h1:Keep F1 w w1) (h2:Again w1 B D t L (Wd F1 w w1) F2 w2) (hG1:∀ b,F1 b→G b) (hG2:∀ b,F2 b→G b) (hL:L.length≤88800*n) :
  Keep G w w2∧Pair w2 (.pointer (some ⟨B,0,none⟩)) (.pointer (some ⟨D,0,none⟩)) n (Wd G w w2):=by
 obtain ⟨hk,E,l,g,day,hT⟩:=h2
 refine ⟨(h1.mono (fun b _ hb=>hG1 b hb)).trans (hk.mono (fun b _ hb=>hG2 b hb)),.inr ⟨B,D,t,E,l,g,day,L,_,_,rfl,rfl,hT,?_,?_,hL⟩⟩
 ·rintro b (x | x)
  ·exact .inl (hG1 b x)
  ·exact .inr ⟨x.1,Nat.lt_of_lt_of_le x.2 hk.size⟩
 ·rintro b (x | x)
  ·exact .inl (hG2 b x)
  ·exact .inr ⟨Nat.le_trans h1.size x.1,x.2⟩
structure Bv where
 l1:Value
 l2:Value
 w1:Value
 r1:Value
 w2:Value
 r2:Value
abbrev SideI (w:World) (lv wv rv:Value) (Ls Ws Rs:List Value) (i:Nat) (τ:Nat→Nat):Prop:=Side w 38 1 okI mkI lv wv rv Ls Ws Rs i τ 0
abbrev SideE (w:World) (lv wv rv:Value) (Ls Ws Rs:List Value) (i:Nat) (τ:Nat→Nat):Prop:=Side w 54 3 okE mkE lv wv rv Ls Ws Rs i τ 1
def Bok (w:World) (B:Bv) (c:Nat) (Q:Nat→Prop):Prop :=
 ∃ (τ:Nat→Nat) (L1 W1 R1 L2 W2 R2:List Value),SideI w B.l1 B.w1 B.r1 L1 W1 R1 0 τ∧SideE w B.l2 B.w2 B.r2 L2 W2 R2 0 τ∧(∀ b,τ b ≠ 0→Q b)∧L1.length+4*W1.length≤4*c∧L2.length+4*W2.length≤4*c
theorem Sd.pos {s i x:Nat} (h:Sd s i x):x ≠ 0:=by
 rcases h with rfl | rfl | rfl | rfl | rfl | ⟨k,_,rfl⟩ <;> omega
theorem Bok.keep {S Q:Nat→Prop} {w w':World} {B:Bv} {c:Nat} (h:Bok w B c Q) (hk:Keep S w w') (hs:∀ b,Q b→¬ S b):Bok w' B c Q:=by
 obtain ⟨τ,L1,W1,R1,L2,W2,R2,h1,h2,h3,h4⟩:=h
 exact ⟨τ,L1,W1,R1,L2,W2,R2,h1.keep hk (fun b hb=>hs b (h3 b hb.pos)),h2.keep hk (fun b hb=>hs b (h3 b hb.pos)),h3,h4⟩
theorem Bok.mono {Q Q':Nat→Prop} {w:World} {B:Bv} {c c':Nat} (h:Bok w B c Q) (hq:∀ b,Q b→Q' b) (hc:c≤c'):Bok w B c' Q':=by
 obtain ⟨τ,L1,W1,R1,L2,W2,R2,h1,h2,h3,h4,h5⟩:=h
 exact ⟨τ,L1,W1,R1,L2,W2,R2,h1,h2,fun b hb=>hq b (h3 b hb),by omega,by omega⟩
def nilB:Bv:=⟨.slice none 0 0,.slice none 0 0,.slice none 0 0,.slice none 0 0,.slice none 0 0,.slice none 0 0⟩
theorem Bok.nil (w:World):Bok w nilB 0 (fun _=>False):=⟨fun _=>0,[],[],[],[],[],[],Side.nil _ _ _ _ _ _ _,Side.nil _ _ _ _ _ _ _,fun b hb=>hb rfl,by simp,by simp⟩
def wlb (B:Bv) (p0 d0 p1 d1:Value):List Value:=[B.l1,B.l2,B.w1,B.r1,B.w2,B.r2,p0,d0,p1,d1]
structure WlG (w0 w:World) (W n:Nat) (pv dv:Nat→Value) (G:Nat→Nat→Prop) (B:Bv) (c:Nat) (Q:Nat→Prop):Prop where
 wa:At w W (wlb B (pv 0) (dv 0) (pv 1) (dv 1))
 bl:Below w0.heap.size w0 w
 pr:∀ k,k < 2→Pair w (pv k) (dv k) n (G k)
 ap:∀ b,G 0 b→¬ G 1 b
 nw:∀ k,k < 2→¬ G k W
 ge:∀ k b,k < 2→G k b→w0.heap.size≤b
 lt:∀ k b,k < 2→G k b→b < w.heap.size
 wg:w0.heap.size≤W
 bk:Bok w B c Q
 qw:¬ Q W
 qg:∀ k b,k < 2→G k b→¬ Q b
 qe:∀ b,Q b→w0.heap.size≤b
 ql:∀ b,Q b→b < w.heap.size
section
variable {w0 w w':World} {W n c:Nat} {pv dv:Nat→Value} {G:Nat→Nat→Prop} {B:Bv} {Q:Nat→Prop}
theorem WlG.below (h:WlG w0 w W n pv dv G B c Q) (hb:Below w.heap.size w w'):WlG w0 w' W n pv dv G B c Q :=
 ⟨At.keep (S:=fun _=>False) (v:=B.l1) h.wa (Keep.below hb) (fun x=>x),h.bl.trans (hb.mono h.bl.size),fun k hk=>(h.pr k hk).keep (S:=fun _=>False) (Keep.below hb) (fun _ _ x=>x),h.ap,h.nw,h.ge,fun k b hk hg=>Nat.lt_of_lt_of_le (h.lt k b hk hg) hb.size,h.wg,h.bk.keep (S:=fun _=>False) (Keep.below hb) (fun _ _ x=>x),h.qw,h.qg,h.qe,fun b hq=>Nat.lt_of_lt_of_le (h.ql b hq) hb.size⟩
theorem WlG.more (h:WlG w0 w W n pv dv G B c Q):WlG w0 w W (n+1) pv dv G B c Q :=
 ⟨h.wa,h.bl,fun k hk=>(h.pr k hk).more,h.ap,h.nw,h.ge,h.lt,h.wg,h.bk,h.qw,h.qg,h.qe,h.ql⟩
theorem WlG.upd (h:WlG w0 w W n pv dv G B c Q) (k:Nat) (hk2:k < 2) (hk:Keep (G k) w w') (hp:Pair w' (pv k) (dv k) (n+1) (Wd (G k) w w')):WlG w0 w' W (n+1) pv dv (fun i=>if i = k then Wd (G k) w w' else G i) B c Q:=by
 have hs:=h.bl.size
 have hW:W < w.heap.size:=At.lt (v:=B.l1) h.wa
 have apk:∀ i,i < 2→¬ i = k→∀ b,G i b→¬ G k b:=fun i hi hik b h1 h2=>by
  rcases (show (i = 0∧k = 1)∨(i = 1∧k = 0) by omega) with ⟨rfl,rfl⟩ | ⟨rfl,rfl⟩
  ·exact h.ap b h1 h2
  ·exact h.ap b h2 h1
 have apw:∀ i,i < 2→¬ i = k→∀ b,G i b→¬ Wd (G k) w w' b:=fun i hi hik b h1 h2=>by
  rcases h2 with h2 | h2
  ·exact apk i hi hik b h1 h2
  ·have:=h.lt i b hi h1; omega
 refine ⟨At.keep (v:=B.l1) h.wa hk (h.nw k hk2),Keep.fresh h.bl hk (fun b hb=>h.ge k b hk2 hb),fun i hi=>?_,?_,fun i hi=>?_,fun i b hi=>?_,fun i b hi=>?_,h.wg,h.bk.keep hk (fun b hb hg=>h.qg k b hk2 hg hb),h.qw,fun i b hi=>?_,h.qe,fun b hq=>Nat.lt_of_lt_of_le (h.ql b hq) hk.size⟩
 ·by_cases hik:i = k
  ·subst hik
   simp only [if_pos]
   exact hp
  ·simp only [if_neg hik]
   exact ((h.pr i hi).keep hk (fun b hb=>apk i hi hik b hb)).more
 ·intro b
  by_cases h0:(0:Nat) = k
  ·have h1:¬ (1:Nat) = k:=by omega
   simp only [if_pos h0,if_neg h1]
   exact fun x y=>apw 1 (by omega) h1 b y x
  ·by_cases h1:(1:Nat) = k
   ·simp only [if_neg h0,if_pos h1]
    exact fun x y=>apw 0 (by omega) h0 b x y
   ·omega
 ·by_cases hik:i = k
  ·simp only [if_pos hik]
   rintro (x | x)
   ·exact h.nw k hk2 x
   ·omega
  ·simp only [if_neg hik]
   exact h.nw i hi
 ·by_cases hik:i = k
  ·simp only [if_pos hik]
   rintro (x | x)
   ·exact h.ge k b hk2 x
   ·omega
  ·simp only [if_neg hik]
   exact h.ge i b hi
 ·by_cases hik:i = k
  ·simp only [if_pos hik]
   rintro (x | x)
   ·exact Nat.lt_of_lt_of_le (h.lt k b hk2 x) hk.size
   ·exact x.2
  ·simp only [if_neg hik]
   exact fun x=>Nat.lt_of_lt_of_le (h.lt i b hi x) hk.size
 ·by_cases hik:i = k
  ·simp only [if_pos hik]
   rintro (x | x) hq
   ·exact h.qg k b hk2 x hq
   ·have:=h.ql b hq; omega
  ·simp only [if_neg hik]
   exact h.qg i b hi
theorem WlG.home {B':Bv} {c':Nat} {Q':Nat→Prop} (h:WlG w0 w W n pv dv G B c Q) (hA:At w' W (wlb B' (pv 0) (dv 0) (pv 1) (dv 1))) (hk:Keep (fun b=>b = W∨Q b) w w') (hb:Bok w' B' c' Q') (hq:∀ b,Q' b→Q b∨(w.heap.size≤b∧b < w'.heap.size)):WlG w0 w' W n pv dv G B' c' Q':=by
 have hs:=h.bl.size
 have hW:W < w.heap.size:=At.lt (v:=B.l1) h.wa
 refine ⟨hA,Keep.fresh h.bl hk (fun b hb=>?_),fun k hk2=>(h.pr k hk2).keep hk (fun b hb x=>?_),h.ap,h.nw,h.ge,fun k b hk2 hg=>Nat.lt_of_lt_of_le (h.lt k b hk2 hg) hk.size,h.wg,hb,fun x=>?_,fun k b hk2 hg x=>?_,fun b x=>?_,fun b x=>?_⟩
 ·rcases hb with rfl | hb
  ·exact h.wg
  ·exact h.qe b hb
 ·rcases x with rfl | x
  ·exact h.nw k hk2 hb
  ·exact h.qg k b hk2 hb x
 ·rcases hq W x with x | x
  ·exact h.qw x
  ·omega
 ·have:=h.lt k b hk2 hg
  rcases hq b x with x | x
  ·exact h.qg k b hk2 hg x
  ·omega
 ·rcases hq b x with x | x
  ·exact h.qe b x
  ·omega
 ·rcases hq b x with x | x
  ·exact Nat.lt_of_lt_of_le (h.ql b x) hk.size
  ·exact x.2
end
end Go.Proofs.YtanndhoimpnhpaaGreatDoor
