/- Joined by program: TyK, TzA, TxW, TxX, TxP, BsA, BsB. -/
import Derived.Test.YtanndhoimpnhpaaGreatDoorM15
import Derived.Lib.CutLaws
import Derived.Lib.OthersKept
import Derived.Lib.AppendStr
namespace Go.Proofs.YtanndhoimpnhpaaGreatDoor
open Go.RowKit Cal
theorem Sav.tel {t:Ln.Terms} {E:List Ln.Ev} {g:Ln.St} {day:Int} {L:List En} (h:Sav t E g day L):Tel t E day L:=by
 refine ⟨h.rt,fun i hi=>⟨fun x hx=>?_,?_⟩,h.d0,h.d1,fun e he=>?_⟩
 ·have hm:x∈E.take i:=List.mem_of_getLast? hx
  have hp:=h.so
  rw [← List.take_append_drop i E,List.drop_eq_getElem_cons hi] at hp
  exact (List.pairwise_append.1 hp).2.2 x hm E[i] List.mem_cons_self
 ·have h1:=h.le
  rw [addC_eq,if_neg (by rw [(h.f0 E[i] (List.getElem_mem hi)).1]; simp),if_neg (by rw [List.length_take]; omega),if_neg]
  intro hx
  unfold hasS at hx
  rw [List.any_eq_true] at hx
  obtain ⟨x,hm,hq⟩:=hx
  have hp:=h.ds
  rw [← List.take_append_drop i E,List.drop_eq_getElem_cons hi] at hp
  exact (List.pairwise_append.1 hp).2.2 x hm E[i] List.mem_cons_self (by simpa using hq)
 ·obtain ⟨h1,h2,h3,h4,h5,_⟩:=h.en e he
  exact ⟨h1,h2,h3,h4,h5⟩
theorem Sav.len {t:Ln.Terms} {E:List Ln.Ev} {g:Ln.St} {day:Int} {L:List En} (h:Sav t E g day L):(txtB t E g day L).length≤5000+100*L.length:=by
 have hr:=h.rg
 have h1:=lineB_len wLoan (tmN t) hr.tm
 have h2:=evT_len E hr.ev
 have h3:=lineB_len wAt [day] (fun n hn=>by rw [List.mem_singleton.1 hn]; exact hr.dy)
 have h4:=lineB_len wNow (nwN g) hr.nw
 have h5:=enT_len L hr.en
 have h6:=lineB_len wEnd [] (fun n hn=>by simp at hn)
 have h7:=h.le
 have e1:wLoan.length = 4:=rfl
 have e2:wAt.length = 2:=rfl
 have e3:wNow.length = 3:=rfl
 have e4:wEnd.length = 3:=rfl
 have e5:(tmN t).length = 6:=rfl
 have e6:(nwN g).length = 7:=rfl
 unfold txtB
 simp only [List.length_append,List.length_cons,List.length_nil] at *
 omega
theorem shl_line {word:List UInt8} {ns:List Int} {r:List UInt8} (hw:NoL word) (hl:word.length≤10) (hn:∀ n∈ns,InR n) (hc:ns.length≤10) (h:Shl r):Shl (lineB word ns ++ r):=by
 have h1:=lnum_len ns hn
 rw [show lineB word ns ++ r = (word ++ lnum ns) ++ 10 :: r by simp [lineB]]
 exact Shl.more (hw.app (lnum_noL ns)) (by rw [List.length_append]; omega) h
theorem shl_ev:∀ (E:List Ln.Ev) {r:List UInt8},(∀ e∈E,∀ n∈evN e,InR n)→Shl r→Shl (evT E ++ r)
 | [],r,_,h=>h
 | e :: E,r,hr,h=>by
  rw [evT,List.append_assoc]
  exact shl_line (noL_wdk 1 (by omega)) (by decide) (hr e (by simp)) (by simp [evN]) (shl_ev E (fun x hx=>hr x (by simp [hx])) h)
theorem shl_en:∀ (L:List En) {r:List UInt8},(∀ e∈L,∀ n∈enN e,InR n)→Shl r→Shl (enT L ++ r)
 | [],r,_,h=>h
 | e :: L,r,hr,h=>by
  rw [enT,List.append_assoc]
  exact shl_line (noL_wdk 4 (by omega)) (by decide) (hr e (by simp)) (by simp [enN]) (shl_en L (fun x hx=>hr x (by simp [hx])) h)
theorem Sav.sh {t:Ln.Terms} {E:List Ln.Ev} {g:Ln.St} {day:Int} {L:List En} (h:Sav t E g day L) (hL:L.length≤9900000000):Sh (txtB t E g day L):=by
 have hr:=h.rg
 refine ⟨?_,by have:=h.len; omega⟩
 have e1:txtB t E g day L = lineB wLoan (tmN t) ++ (evT E ++ (lineB wAt [day] ++ (lineB wNow (nwN g) ++ (enT L ++ (lineB wEnd [] ++ []))))):=by
  unfold txtB
  simp only [List.append_assoc,List.append_nil]
 rw [e1]
 refine shl_line (noL_wdk 0 (by omega)) (by decide) hr.tm (by simp [tmN]) (shl_ev E hr.ev (shl_line (noL_wdk 2 (by omega)) (by decide) (fun n hn=>by rw [List.mem_singleton.1 hn]; exact hr.dy) (by simp) (shl_line (noL_wdk 3 (by omega)) (by decide) hr.nw (by simp [nwN]) (shl_en L hr.en (shl_line (noL_wdk 5 (by omega)) (by decide) (fun n hn=>by simp at hn) (by simp) ?_)))))
 exact (Sh.short (s:=[]) (by decide)).1
theorem Sav.told {t:Ln.Terms} {E:List Ln.Ev} {g:Ln.St} {day:Int} {L:List En} (h:Sav t E g day L):told (txtB t E g day L) = some ⟨t,E,cents g,day,L⟩:=txt_told h.tel h.rg
end Go.Proofs.YtanndhoimpnhpaaGreatDoor
namespace Go.Proofs.YtanndhoimpnhpaaGreatDoor
open Go.ChangeShapes Go.WideShapes Go.ChangeAt Go.RowKit Lg Cal
theorem idxB_index (c:UInt8):∀ l:List UInt8,Lib.indexByte l c = Lib.index l [c]
 | []=>by simp [Lib.indexByte,Lib.index]
 | b :: l=>by
  have ih:=idxB_index c l
  by_cases hb:b = c
  ·simp [Lib.indexByte,Lib.index,hb]
  ·have hb2:¬ c = b:=fun e=>hb e.symm
   simp [Lib.indexByte,Lib.index,hb,hb2,ih]
set_option maxHeartbeats 2000000 in
set_option maxRecDepth 100000 in
theorem lcut_any (s:ByteArray) (c:UInt8) (w:World) (hs:s.size≤1000000000000000) :
  Calls Tryz.prog 127 #[.string s,.string ⟨#[c]⟩] w fun e w'=>e = .returned (.tuple #[.string ⟨(Lib.cut s.data.toList [c]).1.toArray⟩,.string ⟨(Lib.cut s.data.toList [c]).2.1.toArray⟩,.bool (Lib.cut s.data.toList [c]).2.2])∧∃ n,w' = w.drewN n:=by
 have hC:=Tryz.stringslite_Index_one s c w
 rcases Lib.indexB_cases s ⟨#[c]⟩ with hix | ⟨i,hix,hroom⟩
 ·have hB:Lib.indexByte s.data.toList c = -1:=(idxB_index c _).trans hix
  obtain ⟨e1,e2,e3⟩:=Lib.cutB_miss s ⟨#[c]⟩ hix
  rw [show ([c]:List UInt8) = (⟨#[c]⟩:ByteArray).data.toList from rfl,e1,e2,e3]
  rw [hB] at hC
  clear hB e1 e2 e3 hix
  go_enter Tryz.func127,Tryz.ntmps127
  go_wp2_with fail
  refine hC.mono ?_
  rintro e w' ⟨rfl,hw'⟩
  obtain rfl:=hw'.symm
  clear hC hw'
  go_wp2
  go_ret3
  exact ⟨rfl,0,rfl⟩
 ·have hB:Lib.indexByte s.data.toList c = i:=(idxB_index c _).trans hix
  obtain ⟨e1,e2,e3⟩:=Lib.cutB_hit s ⟨#[c]⟩ i hix
  rw [show ([c]:List UInt8) = (⟨#[c]⟩:ByteArray).data.toList from rfl,e1,e2,e3]
  rw [hB] at hC
  have hroom:i+1≤s.size:=hroom
  have c1:(0:Int)≤↑i:=by omega
  have c2:(↑i:Int)≤↑s.size:=by omega
  have c3:(0:Int)≤↑i+1:=by omega
  have c4:(↑i+1:Int)≤↑s.size:=by omega
  have c5:IntKind.i64.wrap ((i:Int)+1) = (i:Int)+1:=by rw [IntKind.wrap_i64]; omega
  clear hB e1 e2 e3 hix
  go_enter Tryz.func127,Tryz.ntmps127
  go_wp2_with fail
  refine hC.mono ?_
  rintro e w' ⟨rfl,hw'⟩
  obtain rfl:=hw'.symm
  clear hC hw'
  go_wp2
  go_region
  go_wp2
  go_ret3
  exact ⟨rfl,1,rfl⟩
set_option maxHeartbeats 1000000 in
theorem cut1_any (s:ByteArray) (c:UInt8) (w:World) (hs:s.size≤1000000000000000) :
  Calls Tryz.prog 101 #[.string s,.string ⟨#[c]⟩] w fun e w'=>e = .returned (.tuple #[.string ⟨(Lib.cut s.data.toList [c]).1.toArray⟩,.string ⟨(Lib.cut s.data.toList [c]).2.1.toArray⟩,.bool (Lib.cut s.data.toList [c]).2.2])∧∃ n,w' = w.drewN n:=by
 have hC:=lcut_any s c w hs
 generalize (Lib.cut s.data.toList [c]) = x at *
 obtain ⟨x1,x2,x3⟩:=x
 dsimp only at *
 go_enter Tryz.func101,Tryz.ntmps101
 go_wp2_with fail
 refine hC.mono ?_
 rintro e w' ⟨rfl,n,rfl⟩
 clear hC
 go_wp2
 go_ret3
 exact ⟨rfl,n,rfl⟩
end Go.Proofs.YtanndhoimpnhpaaGreatDoor
namespace Go.Proofs.YtanndhoimpnhpaaGreatDoor
open Go.ChangeShapes Go.WideShapes Go.ChangeAt Go.RowKit Lg Cal Txt
theorem bj_mem:∀ (P:List (List UInt8)) (p:List UInt8),p∈P→p.length≤(bj P).length
 | [],_,h=>absurd h List.not_mem_nil
 | q :: P,p,h=>by
  rcases List.mem_cons.1 h with rfl | h
  ·simp [bj]; omega
  ·have:=bj_mem P p h
   simp only [bj,List.length_cons,List.length_append]
   omega
set_option maxRecDepth 10000 in
set_option maxHeartbeats 4000000 in
theorem read_any (w:World) (R:Nat) (s word:List UInt8) (c d n:Nat) (X:List Value) (nv:Value) (hA:At w R [.string (bs s)]) (hs:Sh s) (hP:Pt w R nv c d n) (hX:At w c X) (hd:d+n≤X.length) (hcR:¬ c = R) (hw:NoB word) (hwl:NoL word) (hw1:0 < word.length) (hn:n≤100) (hg:Gl w) :
  Calls Tryz.prog 73 #[.pointer (some ⟨R,0,none⟩),.string (bs word),nv] w (RdPost w R s word c d n X):=by
 obtain ⟨m,hm⟩:=hg.mx
 obtain ⟨pn,capn,rfl,hcapn,hpt⟩:=hP
 have c0:w.cell? ⟨R,0,none⟩ = some (.string (bs s)):=hA.cell 0 rfl
 have HM:Hid (∀ wx,Below w.heap.size w wx→wx.cell? ⟨4,0,none⟩ = some (.int .i64 m)):=fun wx hx=>(hx.cell (World.block_lt_of_cell? w _ hm)).trans hm
 have HG:=hid hg
 have HA:=hid hA
 have HX:=hid hX
 have HPt:=hid hpt
 have HW:Hid (NoB word∧NoL word):=⟨hw,hwl⟩
 clear hA hX hpt hw hwl hg
 rcases nl_cases s with hno | ⟨line,r,hsl,hnl⟩
 ·have HE:Hid (∀ wx,Below w.heap.size w wx→RdPost w R s word c d n X (.returned (.bool false)) wx):=fun wx hx=>.inr ⟨fun ⟨ns,r,h⟩=>nx_none hno ⟨n,ns,r,h⟩,rfl,hx⟩
  have hC:=cut1_any (bs s) 10 w (by rw [bs_size]; have:=hs.2; omega)
  rw [bs_list,cut_tail hno] at hC
  dsimp only at hC
  have HSp:Hid (∀ wx,Below w.heap.size w wx→Calls Tryz.prog 102 #[.string ⟨s.toArray⟩,.string ⟨#[32]⟩,.int .i64 ((n:Int)+2)] wx fun e w'=>∃ p q z,e = .returned (.slice p q z)∧Below wx.heap.size wx w'):=fun wx hx=>by
   have h1:=Tryz.strings_SplitN (bs s) (bs [32]) (n+2) m wx (by rw [bs_size]; exact hs.tail hno) (HM.out wx hx) (by decide) (by omega) (by omega)
   rw [show (((n+2:Nat):Int)) = (n:Int)+2 by omega] at h1
   refine h1.mono ?_
   rintro e w' ⟨rfl,rfl⟩
   exact ⟨_,_,_,rfl,(Below.refl _ _).alloc (Nat.le_refl _) _⟩
  generalize bs s = S at *
  go_enter Tryz.func73,Tryz.ntmps73
  go_wp2_with fail
  refine hC.mono ?_
  rintro e w1 ⟨rfl,q,rfl⟩
  have hb1:Below w.heap.size w (w.drewN q):=⟨rfl,rfl,rfl,Nat.le_refl _,fun _ _=>rfl⟩
  have hS:=HSp.out _ hb1
  clear hC
  generalize w.drewN q = w1 at *
  go_wp2_with fail
  refine hS.mono ?_
  rintro e w2 ⟨p,q,z,rfl,hb2⟩
  have HE2:=HE.out w2 (hb1.trans (hb2.mono hb1.size))
  have HE3:=hid HE2
  clear hS hb2 hb1 HE2
  go_wp2
  go_ret
  exact HE3.out
 ·obtain ⟨word0,P,hline,hw0,hPb⟩:=cut_blanks line
  subst hline
  have HNx:Hid (∀ ns q,Nx s word n ns q→word0 = word∧Says P ns∧P.length = n∧r = q):=fun ns q h=>by
   rw [hsl] at h
   exact nx_line HW.out.1 HW.out.2 hw0 hPb hnl h
  have HE:Hid (∀ wx,Below w.heap.size w wx→¬ (word0 = word∧(∃ ns,Says P ns)∧P.length = n)→RdPost w R s word c d n X (.returned (.bool false)) wx):=fun wx hx hn=>.inr ⟨fun ⟨ns,q,h⟩=>hn (by
   obtain ⟨h1,h2,h3,_⟩:=HNx.out ns q h
   exact ⟨h1,⟨ns,h2⟩,h3⟩),rfl,hx⟩
  have hll:(word0 ++ bj P).length < 4294967281:=by rw [hsl] at hs; exact (hs.line hnl).1
  have hC:=cut1_any (bs s) 10 w (by rw [bs_size]; have:=hs.2; omega)
  rw [bs_list,hsl,cut_line hnl] at hC
  rw [← hsl] at hC
  dsimp only at hC
  have HSp:Hid (∀ wx,Below w.heap.size w wx→Calls Tryz.prog 102 #[.string ⟨(word0 ++ bj P).toArray⟩,.string ⟨#[32]⟩,.int .i64 ((n:Int)+2)] wx fun e w'=>∃ Y z,e = .returned (.slice (some ⟨wx.heap.size,0,none⟩) Y.length z)∧Y.length≤z∧(0 < word0.length→1 < z)∧((P.length = n∧Y = (word0 :: P).map bs)∨(¬ P.length = n∧¬ Y.length = n+1))∧Below wx.heap.size wx w'∧∀ j (hj:j < Y.length),w'.cell? ⟨wx.heap.size,j,none⟩ = some (.string Y[j])):=fun wx hx=>by
   have h1:=Tryz.strings_SplitN (bs (word0 ++ bj P)) (bs [32]) (n+2) m wx (by rw [bs_size]; exact hll) (HM.out wx hx) (by decide) (by omega) (by omega)
   rw [show (((n+2:Nat):Int)) = (n:Int)+2 by omega] at h1
   refine h1.mono ?_
   rintro e w' ⟨rfl,rfl⟩
   have hsp:=split_line word0 P n hw0 hPb
   have hle:(Lib.splitB (bs [32]) 0 (min (n+2) ((bs (word0 ++ bj P)).size+1) - 1) (bs (word0 ++ bj P))).length≤min (n+2) ((bs (word0 ++ bj P)).size+1):=by
    have h2:∀ (k:Nat) (x:ByteArray),(Lib.splitB (bs [32]) 0 k x).length≤k+1:=fun k=>by
     induction k with
     | zero=>intro x; simp [Lib.splitB]
     | succ k ih =>
      intro x
      rw [Lib.splitB]
      split
      ·simp
      ·rw [List.length_cons]
       have:=ih (x.extract ((Lib.indexB x (bs [32])).toNat+(bs [32]).size) x.size)
       omega
    have:=h2 (min (n+2) ((bs (word0 ++ bj P)).size+1) - 1) (bs (word0 ++ bj P))
    omega
   refine ⟨_,_,rfl,hle,fun h0=>?_,hsp,(Below.refl _ _).alloc (Nat.le_refl _) _,fun j hj=>?_⟩
   ·rw [bs_size,List.length_append]; omega
   exact (At.alloc wx _ 9 j (.string _) (by rw [List.getElem?_append_left (by rw [List.length_map]; exact hj),List.getElem?_map,List.getElem?_eq_getElem hj]; rfl)).1
  have HL:Hid (NoB word0∧(∀ p∈P,NoB p)∧(word0 ++ bj P).length < 4294967281∧s = word0 ++ bj P ++ 10 :: r):=⟨hw0,hPb,hll,hsl⟩
  clear hw0 hPb hll hsl hnl
  generalize bs s = S at *
  go_enter Tryz.func73,Tryz.ntmps73
  go_wp2_with fail
  refine hC.mono ?_
  rintro e w1 ⟨rfl,q,rfl⟩
  have hb1:Below w.heap.size w (w.drewN q):=⟨rfl,rfl,rfl,Nat.le_refl _,fun _ _=>rfl⟩
  have hS:=HSp.out _ hb1
  clear hC
  generalize w.drewN q = w1 at *
  go_wp2_with fail
  refine hS.mono ?_
  rintro e w2 ⟨Y,z,rfl,hYz,hz1,hor,hb2,hcl⟩
  have HB2:Hid (Below w.heap.size w w2):=hb1.trans (hb2.mono hb1.size)
  have HN:Hid (w.heap.size≤w1.heap.size∧w1.heap.size≤w2.heap.size):=⟨hb1.size,hb2.size⟩
  have HCl:=hid hcl
  clear hS hb2 hb1 hcl
  generalize w1.heap.size = N at *
  rcases hor with ⟨hPn,hY⟩ | ⟨hPn,hY⟩
  ·subst hPn
   subst hY
   have eY:((word0 :: P).map bs).length = P.length+1:=by simp
   have c20:w2.cell? ⟨N,0,none⟩ = some (.string (bs word0)):=HCl.out 0 (by simp)
   have HC2:Hid (∀ j (hj:j < P.length),w2.cell? ⟨N,1+j,none⟩ = some (.string (bs P[j]))):=fun j hj=>by
    have:=HCl.out (1+j) (by simp; omega)
    rw [this]
    simp [Nat.add_comm 1 j]
   rw [eY] at hYz ⊢
   clear eY HCl
   by_cases hww:word0 = word
   ·have hq:((bs word0).toList == (bs word).toList) = true:=by rw [ba_beq,hww]; simp
    have hq2:((bs word0).toList != (bs word).toList) = false:=by rw [bne,hq]; rfl
    have HWw:=hid hww
    have HNl:Hid (N < w2.heap.size):=World.block_lt_of_cell? _ _ c20
    have hRn:=rnums_any w2 (.slice (some ⟨N,1,none⟩) P.length (z - 1)) P ⟨_,_,rfl,by omega,fun k hk=>⟨N,1,rfl,HNl.out,HC2.out k hk⟩⟩ (by omega) (fun p hp=>by
     have h1:=HL.out.2.2.1
     have h2:=bj_mem P p hp
     rw [List.length_append] at h1
     omega) (HG.out.below HB2.out)
    have hz2:1 < z:=hz1 (by rw [hww]; exact hw1)
    clear hww hz1
    generalize bs word0 = S0 at *
    generalize bs word = Sw at *
    go_wp2_with fail
    refine hRn.mono ?_
    rintro e w3 ⟨hb3,hx⟩
    clear hRn
    have HB3:Hid (Below w.heap.size w w3):=HB2.out.trans (hb3.mono HB2.out.size)
    rcases hx with ⟨ns,N2,hsay,rfl,hN2,hA2⟩ | ⟨hno,v,rfl⟩
    ·have enl:ns.length = P.length:=by have:=congrArg List.length hsay.1; rw [List.length_map] at this; omega
     rw [enl] at hA2 ⊢
     have HSay:=hid hsay
     have HNs:=hid enl
     have HRn:=hid hA2
     have HN2:Hid (w.heap.size≤N2):=Nat.le_trans (Nat.le_trans HN.out.1 HN.out.2) hN2
     have HX3:Hid (At w3 c X):=HX.out.lower HB3.out
     have HR3:Hid (At w3 R [.string S]):=HA.out.lower HB3.out
     clear enl hsay hA2 hN2 hb3 HN HE HNx HSp HC2 c20 hYz
     go_wp2
     go_loopw [13,14,56] (fun _ _ s56 wr=>∃ k:Nat,k≤P.length∧s56 = .int .i64 k∧At wr c (setl X d ((ns.take k).map (Value.int .i64)))∧Keep (fun x=>x = c) w3 wr) (fun _ _ s56 _=>P.length - (intOf s56).toNat)
     case atStart=>exact ⟨0,Nat.zero_le _,rfl,HX3.out,Keep.refl _ _⟩
     case round =>
      obtain ⟨k,hk,rfl,hAc,hkp⟩:=hrel
      have HAc:=hid hAc
      have HK:=hid hkp
      clear hAc hkp
      by_cases hlt:k < P.length
      ·have zk:(k:Int) < (P.length:Int):=by omega
       obtain ⟨b,o,rfl,hbl,hbR,hbc,hcell⟩:=HPt.out k hlt
       have hp1:wr.cell? ⟨b,o+k,none⟩ = some (.pointer (some ⟨c,d+k,none⟩)) :=
        ((World.cell?_of_block (w:=w3) (a:=⟨b,o+k,none⟩) (HK.out.block b (Nat.lt_of_lt_of_le hbl HB3.out.size) hbc)).trans (World.cell?_of_block (w:=w) (a:=⟨b,o+k,none⟩) (HB3.out.block b hbl))).trans hcell
       have hln:(ns.take k).length = k:=by rw [List.length_take,HNs.out]; omega
       have hcl:c < w.heap.size:=by
        have h1:=HX.out d X[d] (List.getElem?_eq_getElem (by omega))
        exact World.block_lt_of_cell? _ _ h1.1
       have hNc:¬ N2 = c:=by have:=HN2.out; omega
       have hr1:wr.cell? ⟨N2,k,none⟩ = some (.int .i64 (ns.getD k 0)):=by
        have h1:=HRn.out k _ (hc_at _ _ k hlt)
        exact (World.cell?_of_block (w:=w3) (a:=⟨N2,k,none⟩) (HK.out.block N2 (World.block_lt_of_cell? _ _ h1.1) hNc)).trans h1.1
       have hdk:d+k < (setl X d ((ns.take k).map (Value.int .i64))).length:=by rw [setl_len]; omega
       have h3:=HAc.out (d+k) _ (List.getElem?_eq_getElem hdk)
       have c3:=h3.1
       have f3:=h3.2
       have HTk:Hid (setl X d ((ns.take (k+1)).map (Value.int .i64)) = (setl X d ((ns.take k).map (Value.int .i64))).set (d+k) (.int .i64 (ns.getD k 0))):=by
        have hkn:k < ns.length:=by rw [HNs.out]; exact hlt
        show _ = _
        rw [List.take_succ_eq_append_getElem hkn,List.map_append,List.map_singleton,setl_snoc,List.length_map,hln,List.getD_eq_getElem?_getD,List.getElem?_eq_getElem hkn]
        rfl
       have HA4:Hid (At (wr.setCell ⟨c,d+k,none⟩ (.int .i64 (ns.getD k 0))) c (setl X d ((ns.take (k+1)).map (Value.int .i64)))):=by
        have:=HAc.out.set (d+k) hdk (.int .i64 (ns.getD k 0))
        rw [← HTk.out] at this
        exact this
       have HK4:Hid (Keep (fun x=>x = c) w3 (wr.setCell ⟨c,d+k,none⟩ (.int .i64 (ns.getD k 0)))):=HK.out.set (S:=fun x=>x = c) rfl (d+k) _
       clear h3 hcell hbl hbR hbc hcl hNc hln
       generalize (setl X d ((ns.take k).map (Value.int .i64)))[d+k] = old at *
       clear hdk HTk
       generalize ns.getD k 0 = zz at *
       go_wp2_with fail
       generalize wr.setCell ⟨c,d+k,none⟩ (.int .i64 zz) = w4 at *
       exact ⟨⟨k+1,hlt,rfl,HA4.out,HK4.out⟩,by simp [intOf]; omega⟩
      ·obtain rfl:k = P.length:=by omega
       have zk:¬ (P.length:Int) < (P.length:Int):=by omega
       have hR4:At wr R [.string S]:=HR3.out.block (HK.out.block R (At.lt HR3.out) (fun e=>hcR e.symm))
       have c4:wr.cell? ⟨R,0,none⟩ = some (.string S):=hR4.cell 0 rfl
       have f4:wr.frozen? ⟨R,0,none⟩ = false:=hR4.free 0 rfl
       have HE3:Hid (RdPost w R s word c d P.length X (.returned (.bool true)) (wr.setCell ⟨R,0,none⟩ (.string (bs r)))):=by
        refine .inl ⟨ns,r,⟨?_,HNs.out,HSay.out.2⟩,rfl,hR4.set 0 (by simp) _,?_,?_⟩
        ·rw [HL.out.2.2.2,HWw.out,lnum_bj,← HSay.out.1]
        ·have:=HAc.out
         rw [← HNs.out,List.take_length] at this
         exact this.other (fun e=>hcR e.symm) 0 _
        ·exact ((Keep.below HB3.out).trans (HK.out.mono (fun k _ h=>.inr h))).set (S:=fun x=>x = R∨x = c) (.inl rfl) 0 _
       clear hR4
       go_wp2_with fail
       go_ret
       exact HE3.out
    ·have HE3:Hid (RdPost w R s word c d P.length X (.returned (.bool false)) w3):=HE.out _ HB3.out (fun h=>hno h.2.1)
     clear hno hb3
     go_wp2
     go_ret
     exact HE3.out
   ·have hq:((bs word0).toList == (bs word).toList) = false:=by rw [ba_beq]; exact decide_eq_false (fun h=>hww (by have:=bs_eq h; rwa [bs_list] at this))
    have hq2:((bs word0).toList != (bs word).toList) = true:=by rw [bne,hq]; rfl
    have HE3:Hid (RdPost w R s word c d P.length X (.returned (.bool false)) w2):=HE.out _ HB2.out (fun h=>hww h.1)
    clear hww
    generalize bs word0 = S0 at *
    generalize bs word = Sw at *
    go_wp2
    go_ret
    exact HE3.out
  ·have HE3:Hid (RdPost w R s word c d n X (.returned (.bool false)) w2):=HE.out _ HB2.out (fun h=>hPn h.2.2)
   have zy:((Y.length:Int) != (n:Int)+1) = true:=by rw [bne_iff_ne]; omega
   clear hPn hY
   go_wp2
   go_ret
   exact HE3.out
end Go.Proofs.YtanndhoimpnhpaaGreatDoor
namespace Go.Proofs.YtanndhoimpnhpaaGreatDoor
open Go.ChangeShapes Go.WideShapes Go.ChangeAt Go.RowKit Lg Cal
theorem newreader_any (w:World) (s:List UInt8):Calls Tryz.prog 34 #[.string (bs s)] w fun e w'=>e = .returned (.pointer (some ⟨w.heap.size,0,none⟩))∧At w' w.heap.size [.string (bs s)]∧Below w.heap.size w w':=by
 have HA:Hid (At (w.alloc (.cells #[.string (bs s)] 142)) w.heap.size [.string (bs s)]):=At.alloc w [.string (bs s)] _
 have HB:Hid (Below w.heap.size w (w.alloc (.cells #[.string (bs s)] 142))):=(Below.refl _ _).alloc (Nat.le_refl _) _
 generalize bs s = S at *
 go_enter Tryz.func34,Tryz.ntmps34
 go_wp2
 go_ret
 exact ⟨rfl,HA.out,HB.out⟩
theorem atend_any (w:World) (R:Nat) (s:List UInt8) (hA:At w R [.string (bs s)]):Calls Tryz.prog 77 #[.pointer (some ⟨R,0,none⟩)] w fun e w'=>e = .returned (.bool (decide (s = [])))∧w' = w:=by
 have c0:w.cell? ⟨R,0,none⟩ = some (.string (bs s)):=hA.cell 0 rfl
 have HX2:Hid ((bs s).toList.isEmpty = decide (s = [])):=by
  show _ = _
  rw [ByteArray.toList_eq,bs_list]
  cases s <;> rfl
 obtain ⟨x,hx⟩:∃ b,(bs s).toList.isEmpty = b:=⟨_,rfl⟩
 rw [hx] at HX2
 clear hA
 generalize bs s = S at *
 go_enter Tryz.func77,Tryz.ntmps77
 go_wp2
 go_ret
 exact ⟨by rw [← HX2.out]; rfl,rfl⟩
def reB (t:Ln.Terms) (day d k a:Int):Bool:=decide (t.st≤d∧d≤day - 1) && (decide (1≤k∧k≤12) && decide (¬ a = 0))
set_option maxRecDepth 10000 in
set_option maxHeartbeats 2000000 in
theorem rightentry_any (w:World) (B:Nat) (t:Ln.Terms) (evv:Value) (g:Ln.St) (day:Int) (bk:Value) (hA:At w B (ll t evv g day bk)) (h0:-1000000≤day) (h1:day≤1000000) (d k a:Int) :
  Calls Tryz.prog 104 #[.pointer (some ⟨B,0,none⟩),.agg #[.int .i64 d,.int .i64 k,.int .i64 a]] w fun e w'=>e = .returned (.bool (reB t day d k a))∧Below w.heap.size w w':=by
 have hB1:Below w.heap.size w (w.alloc (.cells #[.int .i64 d,.int .i64 k,.int .i64 a] 114)):=(Below.refl _ _).alloc (Nat.le_refl _) _
 have hA1:At (w.alloc (.cells #[.int .i64 d,.int .i64 k,.int .i64 a] 114)) w.heap.size [.int .i64 d,.int .i64 k,.int .i64 a]:=At.alloc w [.int .i64 d,.int .i64 k,.int .i64 a] _
 have hA2:At (w.alloc (.cells #[.int .i64 d,.int .i64 k,.int .i64 a] 114)) B (ll t evv g day bk):=At.keep (S:=fun _=>False) (v:=.int .i64 t.st) hA (Keep.below hB1) (fun x=>x)
 have HB1:=hid hB1
 have HN:Hid (∀ wx,Below (w.alloc (.cells #[.int .i64 d,.int .i64 k,.int .i64 a] 114)).heap.size (w.alloc (.cells #[.int .i64 d,.int .i64 k,.int .i64 a] 114)) wx→At wx w.heap.size [.int .i64 d,.int .i64 k,.int .i64 a]∧At wx B (ll t evv g day bk)):=fun wx hx=>⟨hA1.lower hx,hA2.lower hx⟩
 have z1:IntKind.i64.wrap (day - 1) = day - 1:=by rw [IntKind.wrap_i64]; omega
 have HL1:Hid (∀ W,Calls Tryz.prog 36 #[.agg #[.int .i64 t.st,.int .i64 (day - 1)],.int .i64 d] W fun e w'=>e = .returned (.bool (decide (t.st≤d∧d≤day - 1)))∧Below W.heap.size W w'):=fun W=>by
  by_cases h:t.st≤d∧d≤day - 1
  ·rw [decide_eq_true h]; exact allow_yes _ _ _ W h.1 h.2
  ·rw [decide_eq_false h]; exact allow_no _ _ _ W (by omega)
 have HL2:Hid (∀ W,Calls Tryz.prog 36 #[.agg #[.int .i64 1,.int .i64 12],.int .i64 k] W fun e w'=>e = .returned (.bool (decide (1≤k∧k≤12)))∧Below W.heap.size W w'):=fun W=>by
  by_cases h:1≤k∧k≤12
  ·rw [decide_eq_true h]; exact allow_yes _ _ _ W h.1 h.2
  ·rw [decide_eq_false h]; exact allow_no _ _ _ W (by omega)
 obtain ⟨x1,e1⟩:∃ b,decide (t.st≤d∧d≤day - 1) = b:=⟨_,rfl⟩
 obtain ⟨x2,e2⟩:∃ b,decide (1≤k∧k≤12) = b:=⟨_,rfl⟩
 obtain ⟨x3,e3⟩:∃ b,(a != (0:Int)) = b:=⟨_,rfl⟩
 have HV:Hid (reB t day d k a = (x1 && (x2 && x3))):=by
  show _ = _
  unfold reB
  rw [e1,e2,← e3]
  congr 2
  by_cases ha:a = 0 <;> simp [ha]
 rw [e1] at HL1
 rw [e2] at HL2
 clear e1 e2 hA hA1 hA2 hB1
 go_enter Tryz.func104,Tryz.ntmps104
 go_upto_region 1 with fail
 generalize w.alloc (.cells #[.int .i64 d,.int .i64 k,.int .i64 a] 114) = W1 at *
 have HN9:Hid (∀ wx,Below W1.heap.size W1 wx→At wx w.heap.size [.int .i64 d,.int .i64 k,.int .i64 a]∧At wx B (ll t evv g day bk)):=HN.out
 clear HN
 have HB2:Hid (Below w.heap.size w W1):=HB1.out
 clear HB1
 have HB1:Hid (∀ x,Below W1.heap.size W1 x→Below w.heap.size w x):=fun x hx=>HB2.out.trans (hx.mono HB2.out.size)
 clear HB2
 generalize hNe:w.heap.size = N at *
 have HNe:=hid hNe
 clear hNe
 have HN0:Hid (∀ wx,Below W1.heap.size W1 wx→wx.cell? ⟨N,0,none⟩ = some (.int .i64 d)):=fun wx hx=>(HN9.out wx hx).1.cell 0 rfl
 have HN1:Hid (∀ wx,Below W1.heap.size W1 wx→wx.cell? ⟨N,1,none⟩ = some (.int .i64 k)):=fun wx hx=>(HN9.out wx hx).1.cell 1 rfl
 have HN2:Hid (∀ wx,Below W1.heap.size W1 wx→wx.cell? ⟨N,2,none⟩ = some (.int .i64 a)):=fun wx hx=>(HN9.out wx hx).1.cell 2 rfl
 have HS0:Hid (∀ wx,Below W1.heap.size W1 wx→wx.cell? ⟨B,0,none⟩ = some (.int .i64 t.st)):=fun wx hx=>(HN9.out wx hx).2.cell 0 rfl
 have HDy:Hid (∀ wx,Below W1.heap.size W1 wx→wx.cell? ⟨B,14,none⟩ = some (.int .i64 day)):=fun wx hx=>(HN9.out wx hx).2.cell 14 rfl
 clear HN9
 refine wp_region_held_drew (S:=fun wx=>Below W1.heap.size W1 wx) (by kernel_rfl) (Below.refl _ _).drew (fun hHeld=>?_)
 generalize W1.drew = U0 at *
 refine tkk 0 (.pointer (some ⟨B,0,none⟩)) rfl ?_
 simp only [uP]
 refine tka 1 (.pointer (some ⟨B,0,none⟩)) rfl ?_
 simp only [uP]
 refine tka 2 (.pointer (some ⟨B,0,none⟩)) rfl ?_
 simp only [uP]
 refine tka 3 (.pointer (some ⟨B,0,none⟩)) rfl ?_
 simp only [uP]
 refine tkh 4 (.int .i64 t.st) rfl (fun wx hSw=>by (have hc:=(HS0.out wx hSw); go_simp)) ?_
 simp only [uP]
 refine tkk 5 (.pointer (some ⟨B,0,none⟩)) rfl ?_
 simp only [uP]
 refine tka 6 (.pointer (some ⟨B,0,none⟩)) rfl ?_
 simp only [uP]
 refine tka 7 (.pointer (some ⟨B,7,none⟩)) rfl ?_
 simp only [uP]
 refine tka 8 (.pointer (some ⟨B,14,none⟩)) rfl ?_
 simp only [uP]
 refine tkh 9 (.int .i64 day) rfl (fun wx hSw=>by (have hc:=(HDy.out wx hSw); go_simp)) ?_
 simp only [uP]
 refine tkg 10 (.int .i64 (day - 1)) rfl ?_
 simp only [uP]
 refine tkg 11 (.agg #[.int .i64 t.st,.int .i64 (day - 1)]) rfl ?_
 simp only [uP]
 refine tka 12 (.pointer (some ⟨N,0,none⟩)) rfl ?_
 simp only [uP]
 refine tkh 13 (.int .i64 d) rfl (fun wx hSw=>by (have hc:=(HN0.out wx hSw); go_simp)) ?_
 simp only [uP]
 refine rdy 14 rfl (fun K hK=>?_)
 have hC:=HL1.out U0
 go_simp
 refine hC.mono ?_
 rintro e U14 ⟨rfl,hb3⟩
 go_wp2_with fail
 have hb14:=hHeld.trans (hb3.mono hHeld.size)
 refine hK.out _ _ hb14 (fun hHeld=>?_)
 clear hK K hC hb3
 try simp only [uP]
 refine tkk 15 (.bool x1) rfl ?_
 simp only [uP]
 cases x1
 ·skip
  refine tku 16 rfl ?_
  simp only [uP]
  refine tku 17 rfl ?_
  simp only [uP]
  refine tku 18 rfl ?_
  simp only [uP]
  refine tku 19 rfl ?_
  simp only [uP]
  refine tka 20 (.bool false) rfl ?_
  simp only [uP]
  refine tkk 21 (.bool false) rfl ?_
  simp only [uP]
  refine tku 22 rfl ?_
  simp only [uP]
  refine tku 23 rfl ?_
  simp only [uP]
  refine tku 24 rfl ?_
  simp only [uP]
  refine tka 25 (.bool false) rfl ?_
  simp only [uP]
  refine tkk 26 (.bool false) rfl ?_
  simp only [uP]
  refine wpAnyH_done (by kernel_rfl) ?_ _
  have HE:=hid hHeld
  go_wp2
  go_ret
  exact ⟨by rw [HV.out]; rfl,by rw [HNe.out]; exact HB1.out _ HE.out⟩
 ·skip
  refine tkg 16 (.agg #[.int .i64 1,.int .i64 12]) rfl ?_
  simp only [uP]
  refine tka 17 (.pointer (some ⟨N,1,none⟩)) rfl ?_
  simp only [uP]
  refine tkh 18 (.int .i64 k) rfl (fun wx hSw=>by (have hc:=(HN1.out wx hSw); go_simp)) ?_
  simp only [uP]
  refine rdy 19 rfl (fun K hK=>?_)
  have hC:=HL2.out U14
  go_simp
  refine hC.mono ?_
  rintro e U19 ⟨rfl,hb3⟩
  go_wp2_with fail
  have hb19:=hHeld.trans (hb3.mono hHeld.size)
  refine hK.out _ _ hb19 (fun hHeld=>?_)
  clear hK K hC hb3
  try simp only [uP]
  refine tkg 20 (.bool x2) rfl ?_
  simp only [uP]
  refine tkk 21 (.bool x2) rfl ?_
  simp only [uP]
  cases x2
  ·skip
   refine tku 22 rfl ?_
   simp only [uP]
   refine tku 23 rfl ?_
   simp only [uP]
   refine tku 24 rfl ?_
   simp only [uP]
   refine tka 25 (.bool false) rfl ?_
   simp only [uP]
   refine tkk 26 (.bool false) rfl ?_
   simp only [uP]
   refine wpAnyH_done (by kernel_rfl) ?_ _
   have HE:=hid hHeld
   go_wp2
   go_ret
   exact ⟨by rw [HV.out]; rfl,by rw [HNe.out]; exact HB1.out _ HE.out⟩
  ·skip
   refine tka 22 (.pointer (some ⟨N,2,none⟩)) rfl ?_
   simp only [uP]
   refine tkh 23 (.int .i64 a) rfl (fun wx hSw=>by (have hc:=(HN2.out wx hSw); go_simp)) ?_
   simp only [uP]
   refine tkg 24 (.bool x3) rfl ?_
   simp only [uP]
   refine tka 25 (.bool x3) rfl ?_
   simp only [uP]
   refine tkk 26 (.bool x3) rfl ?_
   simp only [uP]
   refine wpAnyH_done (by kernel_rfl) ?_ _
   have HE:=hid hHeld
   go_wp2
   go_ret
   exact ⟨by rw [HV.out]; rfl,by rw [HNe.out]; exact HB1.out _ HE.out⟩
end Go.Proofs.YtanndhoimpnhpaaGreatDoor
namespace Go.Proofs.YtanndhoimpnhpaaGreatDoor
open Go.RowKit
def Wf (W:Nat) (w w':World):Prop:=Below W w w'∧Lib.OthersKept 5 (some W) w w'
theorem Wf.refl (W:Nat) (w:World):Wf W w w:=⟨Below.refl _ _,Lib.OthersKept.refl _ _ _⟩
theorem Wf.trans {W:Nat} {a b c:World} (h:Wf W a b) (k:Wf W b c):Wf W a c:=⟨h.1.trans k.1,h.2.trans k.2⟩
theorem Wf.drew {W:Nat} {a w:World} (h:Wf W a w):Wf W a w.drew:=⟨h.1.drew,h.2.drew⟩
theorem Wf.below {W:Nat} {w w':World} (h:Below w.heap.size w w') (hW:W≤w.heap.size):Wf W w w' :=
 ⟨h.mono hW,fun k o hk _ _=>by
  have hl:k < w.heap.size:=by
   rcases Nat.lt_or_ge k w.heap.size with h | h
   ·exact h
   ·rw [Array.getElem?_eq_none h] at hk; cases hk
  rw [h.block k hl]; exact hk⟩
def Sf (w:World) (W b:Nat):Prop:=b < W∨(¬ b = W∧∃ o,w.heap[b]? = some o∧∀ c fz,¬ o = .cells c 5 fz)
theorem Sf.same {w w':World} {W b:Nat} (h:Sf w W b) (hf:Wf W w w'):w'.heap[b]? = w.heap[b]?:=by
 rcases h with h | ⟨h1,o,h2,h3⟩
 ·exact hf.1.block b h
 ·rw [h2,hf.2 b o h2 (fun e=>h1 (Option.some.inj e)) h3]
theorem Sf.keep {w w':World} {W b:Nat} (h:Sf w W b) (hf:Wf W w w'):Sf w' W b:=by
 have:=h.same hf
 rcases h with h | ⟨h1,o,h2,h3⟩
 ·exact .inl h
 ·exact .inr ⟨h1,o,this.trans h2,h3⟩
def Wr (w:World) (W:Nat) (txt:List UInt8):Prop:=∃ v,At w W [v]∧w.ownsRow (W+1) 5 1 v txt.length (Lib.byteCells txt)
theorem own_row {w:World} {base:Nat} {e:TypeId} {size:Nat} {v:Value} {n:Nat} {xs:List Value} (h:w.ownsRow base e size v n xs) {k:Nat} (hk:v.ownBlock = some k):∃ cur,w.heap[k]? = some (.cells cur e (0,0)):=by
 obtain ⟨_,⟨rfl,_⟩ | ⟨g,cap,cur,rfl,_,h5,_⟩⟩:=h
 ·cases hk
 ·injection hk with hk
  subst hk
  exact ⟨cur,h5⟩
theorem Wr.set {w w1:World} {W:Nat} {v v1:Value} {n1:Nat} {xs1:List Value} (hA:At w W [v]) (hb:w1.heap[W]? = w.heap[W]?) (hf:Wf W w w1) (ho1:w1.ownsRow (W+1) 5 1 v1 n1 xs1) :
  At w1 W [v]∧Wf W w (w1.setCell ⟨W,0,none⟩ v1)∧At (w1.setCell ⟨W,0,none⟩ v1) W [v1]∧(w1.setCell ⟨W,0,none⟩ v1).ownsRow (W+1) 5 1 v1 n1 xs1:=by
 have a1:At w1 W [v]:=hA.block hb
 refine ⟨a1,hf.trans ⟨(Below.refl W w1).setCell (p:=⟨W,0,none⟩) (Nat.le_refl _) v1,fun k o hk hne _=>?_⟩,a1.set 0 (by simp) v1,ownsRow_setCell_below ho1 (Nat.lt_succ_self W) _⟩
 rw [Below.heap_setCell w1 ⟨W,0,none⟩ v1 k (fun e=>hne (by rw [e]))]
 exact hk
theorem Wr.put {w w1:World} {W:Nat} {v v1:Value} {n n1:Nat} {xs xs1:List Value} (hA:At w W [v]) (ho:w.ownsRow (W+1) 5 1 v n xs) (hg:w.grownBy w1 v.ownBlock) (ho1:w1.ownsRow (W+1) 5 1 v1 n1 xs1) :
  At w1 W [v]∧Wf W w (w1.setCell ⟨W,0,none⟩ v1)∧At (w1.setCell ⟨W,0,none⟩ v1) W [v1]∧(w1.setCell ⟨W,0,none⟩ v1).ownsRow (W+1) 5 1 v1 n1 xs1:=by
 have hl:W < w.heap.size:=At.lt hA
 have hn:∀ k,k≤W→some k ≠ v.ownBlock:=fun k hk e=>by
  have:=(own_base ho e.symm).1
  omega
 refine Wr.set hA (hg.block W hl (hn W (Nat.le_refl _))) ⟨⟨hg.os,hg.tape,hg.output,hg.size,fun k hk=>hg.block k (by omega) (hn k (by omega))⟩,fun k o hk _ hno=>?_⟩ ho1
 have hkl:k < w.heap.size:=by
  rcases Nat.lt_or_ge k w.heap.size with h | h
  ·exact h
  ·rw [Array.getElem?_eq_none h] at hk; cases hk
 rw [hg.block k hkl (fun e=>by
  obtain ⟨cur,hc⟩:=own_row ho e.symm
  rw [hc] at hk
  injection hk with hk
  exact hno _ _ hk.symm)]
 exact hk
theorem Wr.put2 {w w1:World} {W:Nat} {v v1:Value} {n1:Nat} {xs1:List Value} (hA:At w W [v]) (hb:Below (W+1) w w1) (hk:Lib.OthersKept 5 none w w1) (ho1:w1.ownsRow (W+1) 5 1 v1 n1 xs1) :
  At w1 W [v]∧Wf W w (w1.setCell ⟨W,0,none⟩ v1)∧At (w1.setCell ⟨W,0,none⟩ v1) W [v1]∧(w1.setCell ⟨W,0,none⟩ v1).ownsRow (W+1) 5 1 v1 n1 xs1 :=
 Wr.set hA (hb.block W (Nat.lt_succ_self W)) ⟨hb.mono (Nat.le_succ W),fun k o h1 _ h3=>hk k o h1 (fun e=>by cases e) h3⟩ ho1
def Nm (w:World) (W:Nat) (nv:Value) (ns:List Int):Prop :=
 ∃ p cap,nv = .slice p ns.length cap∧ns.length≤cap∧∀ k (hk:k < ns.length),∃ b o c d,p = some ⟨b,o,none⟩∧w.cell? ⟨b,o+k,none⟩ = some (.pointer (some ⟨c,d,none⟩))∧w.cell? ⟨c,d,none⟩ = some (.int .i64 ns[k])∧Sf w W b∧Sf w W c
theorem Nm.keep {w w':World} {W:Nat} {nv:Value} {ns:List Int} (h:Nm w W nv ns) (hf:Wf W w w'):Nm w' W nv ns:=by
 obtain ⟨p,cap,h1,h2,h3⟩:=h
 refine ⟨p,cap,h1,h2,fun k hk=>?_⟩
 obtain ⟨b,o,c,d,e1,e2,e3,e4,e5⟩:=h3 k hk
 exact ⟨b,o,c,d,e1,(World.cell?_of_block (w:=w) (a:=⟨b,o+k,none⟩) (e4.same hf)).trans e2,(World.cell?_of_block (w:=w) (a:=⟨c,d,none⟩) (e5.same hf)).trans e3,e4.keep hf,e5.keep hf⟩
theorem tab_on {W : Nat} {w w1 : World} (h : Lib.TabBelow Tryz.prog W w "internal/strconv.uint64pow10" .u64 Lib.pow10Tab) (hf : Wf W w w1) : Lib.TabBelow Tryz.prog (W + 1) w1 "internal/strconv.uint64pow10" .u64 Lib.pow10Tab := fun w' hb => h w' (hf.1.trans (hb.mono (Nat.le_succ W)))
def OwT (w:World) (sz:Nat) (v:Value) (n:Nat) (xs:List Value):Prop:=∃ T,w.ownsRow 0 T sz v n xs
theorem OwT.slice {w:World} {sz:Nat} {v:Value} {n:Nat} {xs:List Value} (h:OwT w sz v n xs):∃ p cap,v = .slice p n cap:=by
 obtain ⟨T,h⟩:=h
 exact own_slice h
theorem OwT.lt {w:World} {sz:Nat} {v:Value} {n:Nat} {xs:List Value} (h:OwT w sz v n xs) {b:Nat} (hb:v.ownBlock = some b):b < w.heap.size:=by
 obtain ⟨T,h⟩:=h
 exact (own_base h hb).2
theorem OwT.keep {S:Nat→Prop} {w w':World} {sz:Nat} {v:Value} {n:Nat} {xs:List Value} (h:OwT w sz v n xs) (hk:Keep S w w') (hs:∀ b,v.ownBlock = some b→¬ S b):OwT w' sz v n xs:=by
 obtain ⟨T,h⟩:=h
 exact ⟨T,own_keep h hk hs⟩
theorem OwT.below {w w':World} {sz:Nat} {v:Value} {n:Nat} {xs:List Value} (h:OwT w sz v n xs) (hb:Below w.heap.size w w'):OwT w' sz v n xs:=h.keep (S:=fun _=>False) (Keep.below hb) (fun _ _ x=>x)
theorem OwT.len {w:World} {sz:Nat} {v:Value} {n:Nat} {xs:List Value} (h:OwT w sz v n xs):xs.length = n*sz:=by
 obtain ⟨T,h⟩:=h
 exact h.1
theorem OwT.form {w:World} {sz:Nat} {v:Value} {n:Nat} {xs:List Value} (h:OwT w sz v n xs) (hn:0 < n):∃ T g cap,v = .slice (some ⟨g,0,none⟩) n cap∧n≤cap∧w.ownsRow 0 T sz v n xs:=by
 obtain ⟨T,h⟩:=h
 obtain ⟨h1,⟨rfl,rfl⟩ | ⟨g,cap,cur,rfl,h2,h3,h4,h5⟩⟩:=id h
 ·omega
 ·exact ⟨T,g,cap,rfl,h4,h⟩
theorem run_append_roomT {P:Program} (w:World) (t ty e T:TypeId) (i:TypeInfo) (ht:P.underlying t = some (.slice e)) (hi:P.info? e = some i)
  (g sLen sCap:Nat) (cur:Array Value) (hg:w.heap[g]? = some (.cells cur T (0,0)))
  (a:Addr) (m c:Nat) (news:List Value) (hl:news.length = m*i.size) (hnews:∀ j u,news[j]? = some u→w.cell? (a.add j) = some u) (h1:∀ u∈news,u.oneCell' = true)
  (hroom:sLen+m≤sCap) (hfit:sLen*i.size+news.length≤cur.size) :
  (Builtin.append_ #[t,t] ty #[.slice (some ⟨g,0,none⟩) sLen sCap,.slice (some a) m c]).run P w =
   .ok (.slice (some ⟨g,0,none⟩) (sLen+m) sCap) (w.setRow g (cur.toList.take (sLen*i.size) ++ news ++ cur.toList.drop (sLen*i.size+news.length)).toArray):=by
 have hf:=run_firstCells_some (P:=P) w i.size m a m c news hl hnews
 have hst:=run_storeCells_at P g (sLen*i.size) T news 0 cur w hg (by simpa using hfit) h1
 simp only [Nat.add_zero] at hst
 simp [Builtin.append_,run_underlying ht,sizeOf,typeInfo,hi,Builtin.lenOf,hroom,hf,Addr.add_lit,hst]
def Lies (w:World) (v v':Value) (w':World):Prop:=(v'.ownBlock = v.ownBlock∧Keep (fun b=>v.ownBlock = some b) w w')∨(v'.ownBlock = some w.heap.size∧Below w.heap.size w w')
theorem run_append_T {P:Program} (w:World) (t ty e:TypeId) (i:TypeInfo) (z:Value) (size bytes:Nat) (ht:P.underlying t = some (.slice e)) (hi:P.info? e = some i) (hz:i.zero = some z)
  (hsize:i.size = size) (hby:i.bytes = bytes) (hzs:z.cells.size = size)
  (v:Value) (n:Nat) (xs:List Value) (hown:OwT w size v n xs)
  (a:Addr) (m c:Nat) (hm0:0 < m) (news:List Value) (hl:news.length = m*size) (hnews:∀ j u,news[j]? = some u→w.cell? (a.add j) = some u) (h1:∀ u∈news,u.oneCell' = true)
  (h63:n+m≤maxLen) (hbytes:(n+m)*bytes≤140737488355328) :
  ∃ v' w',(Builtin.append_ #[t,t] ty #[v,.slice (some a) m c]).run P w = .ok v' w'∧OwT w' size v' (n+m) (xs ++ news)∧Lies w v v' w':=by
 subst hsize
 subst hby
 obtain ⟨T,hown⟩:=hown
 have hsmall:n+m≤9223372036854775807:=by simp only [maxLen] at h63; omega
 have hlen:(xs ++ news).length = (n+m)*i.size:=by rw [List.length_append,hown.1,hl,Nat.add_mul]
 have grown:∀ (old:Nat),old < n+m →
   (w.drew.alloc (.cells (xs.toArray ++ news.toArray ++ Builtin.zeroCells z.cells (grownCap w (n+m) old e - (n+m))) e)).ownsRow 0 e i.size
    (.slice (some ⟨w.heap.size,0,none⟩) (n+m) (grownCap w (n+m) old e)) (n+m) (xs ++ news) ∧
   Below w.heap.size w (w.drew.alloc (.cells (xs.toArray ++ news.toArray ++ Builtin.zeroCells z.cells (grownCap w (n+m) old e - (n+m))) e)):=by
  intro old ho
  have hge:=grownCap_ge w (n+m) old e
  have hcm:grownCap w (n+m) old e≤maxLen:=grownCap_le_maxLen w (n+m) old e h63
  refine ⟨⟨hlen,.inr ⟨w.heap.size,_,_,rfl,Nat.zero_le _,heap_alloc_new w.drew _,hge,hcm,?_,?_⟩⟩,((Below.refl _ _).drew).alloc (Nat.le_refl _) _⟩
  ·simp only [Array.size_append,List.size_toArray,size_zeroCells,hzs,hown.1,hl,← Nat.add_mul]
   congr 1
   omega
  ·simp only [Array.toList_append,List.append_assoc]
   rw [← List.append_assoc,← hlen]
   exact List.take_left
 rcases hown.2 with ⟨rfl,rfl⟩ | ⟨g,cap,cur,rfl,hbg,hg,hnc,hcm,hcs,htake⟩
 ·have hx:xs = []:=List.eq_nil_of_length_eq_zero (by simpa using hown.1)
  subst hx
  have hr:=run_append_nil (P:=P) w t ty e i z ht hi hz a m c news hl hnews (by omega) (by omega) (by have hb:=hbytes; simp only [Nat.zero_add] at hb; omega)
  have hgr:=grown 0 (by omega)
  simp only [Nat.zero_add,List.nil_append,Array.empty_append] at hgr ⊢
  exact ⟨_,_,hr,⟨e,hgr.1⟩,.inr ⟨rfl,hgr.2⟩⟩
 ·by_cases hroom:n+m≤cap
  ·have hfit:n*i.size+news.length≤cur.size:=by rw [hl,hcs,← Nat.add_mul]; exact Nat.mul_le_mul_right _ hroom
   have hr:=run_append_roomT (P:=P) w t ty e T i ht hi g n cap cur hg a m c news hl hnews h1 hroom hfit
   refine ⟨_,_,hr,⟨T,hlen,.inr ⟨g,cap,_,rfl,hbg,setRow_heap w g cur _ T _ hg,hroom,hcm,?_,?_⟩⟩,.inl ⟨rfl,⟨rfl,rfl,rfl,by simp,fun k _ hk=>setRow_other w g k _ (fun e=>hk (by simp [Value.ownBlock,e]))⟩⟩⟩
   ·simp only [List.size_toArray,List.length_append,List.length_take,List.length_drop,Array.length_toList]
    omega
   ·rw [htake,← hlen]
    exact List.take_left
  ·have holds:∀ j u,xs[j]? = some u→w.cell? ((⟨g,0,none⟩:Addr).add j) = some u:=hown.cells (g:=g) rfl
   have hr:=run_append_grow (P:=P) w t ty e i z ht hi hz ⟨g,0,none⟩ n cap xs hown.1 holds a m c news hl hnews (by omega) (by omega) (growslice_fits (by omega) hbytes)
   have hgr:=grown cap (by omega)
   exact ⟨_,_,hr,⟨e,hgr.1⟩,.inr ⟨rfl,hgr.2⟩⟩
theorem wp_append_T {Pr:Program} {o:Oper} {a:Act} (w:World) {K:Act→World→Prop} {Q:Exit→Act→World→Prop} (s x:Operand) (t:TypeId)
  (ho:o.op = .call { callee:=.builtin .append,args:=#[s,x],argTypes:=#[t,t] })
  (e:TypeId) (i:TypeInfo) (z:Value) (size bytes:Nat) (ht:Pr.underlying t = some (.slice e)) (hi:Pr.info? e = some i) (hz:i.zero = some z)
  (hsize:i.size = size) (hby:i.bytes = bytes) (hzs:z.cells.size = size)
  (v:Value) (n:Nat) (xs:List Value) (hs:a.eval s = v) (hown:OwT w size v n xs)
  (ad:Addr) (m c:Nat) (hm0:0 < m) (news:List Value) (hx:a.eval x = .slice (some ad) m c) (hl:news.length = m*size) (hnews:∀ j u,news[j]? = some u→w.cell? (ad.add j) = some u) (h1:∀ u∈news,u.oneCell' = true)
  (h63:n+m≤maxLen) (hbytes:(n+m)*bytes≤140737488355328)
  (h:∀ v' w',OwT w' size v' (n+m) (xs ++ news)→Lies w v v' w'→K (a.put o.dst v') w'):o.wp Pr a w K Q:=by
 obtain ⟨v',w',hr,h2,h3⟩:=run_append_T (P:=Pr) w t o.type e i z size bytes ht hi hz hsize hby hzs v n xs hown ad m c hm0 news hl hnews h1 h63 hbytes
 unfold Oper.wp execOp
 simp only [ho,resolve,invoke,builtin,Sem.run_bind,Sem.run_pure,Result.andThen_ok,List.map_toArray,List.map_cons,List.map_nil,hs,hx,hr]
 exact h v' w' h2 h3
theorem wpList_append_T {Pr:Program} {ops:Array Oper} {rest:List Oper} {o:Oper} {a:Act} (w:World) {Q:Exit→Act→World→Prop} (hgd:o.guard = none) (s x:Operand) (t:TypeId)
  (ho:o.op = .call { callee:=.builtin .append,args:=#[s,x],argTypes:=#[t,t] })
  (e:TypeId) (i:TypeInfo) (z:Value) (size bytes:Nat) (ht:Pr.underlying t = some (.slice e)) (hi:Pr.info? e = some i) (hz:i.zero = some z)
  (hsize:i.size = size) (hby:i.bytes = bytes) (hzs:z.cells.size = size)
  (v:Value) (n:Nat) (xs:List Value) (hs:a.eval s = v) (hown:OwT w size v n xs)
  (ad:Addr) (m c:Nat) (hm0:0 < m) (news:List Value) (hx:a.eval x = .slice (some ad) m c) (hl:news.length = m*size) (hnews:∀ j u,news[j]? = some u→w.cell? (ad.add j) = some u) (h1:∀ u∈news,u.oneCell' = true)
  (h63:n+m≤maxLen) (hbytes:(n+m)*bytes≤140737488355328)
  (h:∀ v' w',OwT w' size v' (n+m) (xs ++ news)→Lies w v v' w'→wpList Pr ops Q rest (a.put o.dst v') w'):wpList Pr ops Q (o :: rest) a w :=
 wpList_plain hgd fun _ hK=>wp_append_T w s x t ho e i z size bytes ht hi hz hsize hby hzs v n xs hs hown ad m c hm0 news hx hl hnews h1 h63 hbytes (fun v' w' h2 h3=>hK _ _ (h v' w' h2 h3))
def reps (n:Nat) (c:List Value):List Value:=(List.replicate n c).flatten
theorem reps_len (n:Nat) (c:List Value):(reps n c).length = n*c.length:=by simp [reps]
theorem reps_succ (n:Nat) (c:List Value):reps (n+1) c = reps n c ++ c:=by
 unfold reps
 rw [List.replicate_succ',List.flatten_append]
 simp
theorem reps_at (c:List Value):∀ (n i:Nat),i < n→∀ (j:Nat) (u:Value),c[j]? = some u→(reps n c)[i*c.length+j]? = some u
 | 0,i,h,_,_,_=>absurd h (Nat.not_lt_zero i)
 | n+1,i,h,j,u,hu=>by
  have hj:=(List.getElem?_eq_some_iff.1 hu).1
  rw [reps_succ]
  by_cases hi:i < n
  ·have h1:=reps_at c n i hi j u hu
   rw [List.getElem?_append_left (List.getElem?_eq_some_iff.1 h1).1]
   exact h1
  ·obtain rfl:i = n:=by omega
   rw [List.getElem?_append_right (by rw [reps_len]; omega),reps_len,Nat.add_sub_cancel_left]
   exact hu
def fil (k:Nat) (c xs:List Value):List Value:=reps k c ++ xs.drop (k*c.length)
theorem fil_zero (c xs:List Value):fil 0 c xs = xs:=by simp [fil,reps]
theorem fil_all (n:Nat) (c xs:List Value) (h:xs.length = n*c.length):fil n c xs = reps n c:=by
 unfold fil
 rw [List.drop_of_length_le (by omega),List.append_nil]
theorem setl_app (a:List Value):∀ (m b:List Value) (o:Nat),o = a.length→m.length≤b.length→setl (a ++ b) o m = a ++ (m ++ b.drop m.length)
 | [],b,o,_,_=>by simp [setl]
 | x :: m,b,o,ho,hb=>by
  match b,hb with
  | y :: b,hb =>
   have h1:(a ++ y :: b).set o x = (a ++ [x]) ++ b:=by
    subst ho
    simp
   show setl ((a ++ y :: b).set o x) (o+1) m = _
   rw [h1]
   have h2:=setl_app (a ++ [x]) m b (o+1) (by simp [ho]) (by simpa using hb)
   rw [h2]
   simp
theorem fil_succ (k:Nat) (c xs:List Value) (h:(k+1)*c.length≤xs.length):setl (fil k c xs) (k*c.length) c = fil (k+1) c xs:=by
 unfold fil
 have e:(k+1)*c.length = k*c.length+c.length:=by rw [Nat.add_mul,Nat.one_mul]
 rw [setl_app (reps k c) c _ _ (reps_len k c).symm (by rw [List.length_drop]; omega),reps_succ,List.append_assoc,List.drop_drop,e]
theorem own_setl {base:Nat} {T:TypeId} {sz n cap g:Nat}:∀ (m:List Value) (o:Nat) (xs:List Value) (w:World),w.ownsRow base T sz (.slice (some ⟨g,0,none⟩) n cap) n xs→(w.setCells g o m).ownsRow base T sz (.slice (some ⟨g,0,none⟩) n cap) n (setl xs o m)
 | [],_,_,_,h=>h
 | x :: m,o,xs,w,h=>own_setl m (o+1) (xs.set o x) (w.setCell ⟨g,o,none⟩ x) (h.stored o x).1
def RdV (w:World) (sz:Nat) (v:Value) (c:List Value):Prop:=∃ p n cap,v = .slice p n cap∧n≤4611686018427387904∧n≤cap∧∀ i,i < n→∃ b,p = some ⟨b,0,none⟩∧b < w.heap.size∧w.rangeAt b (i*sz) c
theorem RdV.keep {S:Nat→Prop} {w w':World} {sz:Nat} {v:Value} {c:List Value} (h:RdV w sz v c) (hk:Keep S w w') (hs:∀ b,v.ownBlock = some b→¬ S b):RdV w' sz v c:=by
 obtain ⟨p,n,cap,rfl,h1,h2,h3⟩:=h
 refine ⟨p,n,cap,rfl,h1,h2,fun i hi=>?_⟩
 obtain ⟨b,rfl,hb,hr⟩:=h3 i hi
 exact ⟨b,rfl,Nat.lt_of_lt_of_le hb hk.size,fun j u hu=>(World.cell?_of_block (w:=w) (a:=⟨b,i*sz+j,none⟩) (hk.block b hb (hs b rfl))).trans (hr j u hu)⟩
theorem OwT.rd {w:World} {sz:Nat} {v:Value} {n:Nat} {c:List Value} (h:OwT w sz v n (reps n c)) (hc:c.length = sz) (hn:n≤4611686018427387904):RdV w sz v c:=by
 subst hc
 by_cases h0:0 < n
 ·obtain ⟨T,g,cap,rfl,hcap,ho⟩:=h.form h0
  refine ⟨_,n,cap,rfl,hn,hcap,fun i hi=>⟨g,rfl,(own_base ho (b:=g) rfl).2,fun j u hu=>?_⟩⟩
  have h1:=reps_at c n i hi j u hu
  have h2:=ho.cellAt (i*c.length+j) (by have:=(List.getElem?_eq_some_iff.1 h1).1; rw [reps_len] at this; exact this)
  rw [h2]
  exact h1
 ·obtain rfl:n = 0:=by omega
  obtain ⟨T,h1,⟨rfl,_⟩ | ⟨g,cap,cur,rfl,_,_,hcap,_⟩⟩:=h
  ·exact ⟨none,0,0,rfl,hn,Nat.le_refl _,fun i hi=>absurd hi (Nat.not_lt_zero i)⟩
  ·exact ⟨_,0,cap,rfl,hn,hcap,fun i hi=>absurd hi (Nat.not_lt_zero i)⟩
structure Chain (w0 w:World) (sz:Nat) (l:Value) (c:List Value) (v:Value) (n:Nat) (us:List Value):Prop where
 ow:OwT w sz v n (reps n c)
 us:∀ u∈us,RdV w sz u c∧(∀ b,u.ownBlock = some b→(l.ownBlock = some b∨w0.heap.size≤b)∧b < w.heap.size)∧(∀ p k cap b,u = .slice p k cap→p = some ⟨b,0,none⟩→v.ownBlock = some b→k≤n)
 kp:Keep (fun b=>l.ownBlock = some b) w0 w
 vb:∀ b,v.ownBlock = some b→l.ownBlock = some b∨w0.heap.size≤b
theorem Chain.below {w0 w w':World} {sz:Nat} {l:Value} {c:List Value} {v:Value} {n:Nat} {us:List Value} (h:Chain w0 w sz l c v n us) (hb:Below w.heap.size w w'):Chain w0 w' sz l c v n us :=
 ⟨h.ow.below hb,fun u hu=>⟨(h.us u hu).1.keep (S:=fun _=>False) (Keep.below hb) (fun _ _ x=>x),fun b hub=>⟨((h.us u hu).2.1 b hub).1,Nat.lt_of_lt_of_le ((h.us u hu).2.1 b hub).2 hb.size⟩,(h.us u hu).2.2⟩,h.kp.trans (Keep.below hb),h.vb⟩
theorem Chain.app {w0 w w':World} {sz:Nat} {l:Value} {c:List Value} {v v':Value} {n:Nat} {us:List Value} (h:Chain w0 w sz l c v n us) (hc:c.length = sz) (hn:n+1≤4611686018427387904) (ho:OwT w' sz v' (n+1) (reps n c ++ c)) (hl:Lies w v v' w'):Chain w0 w' sz l c v' (n+1) (us ++ [v']):=by
 rw [← reps_succ] at ho
 have hrd:=ho.rd hc hn
 obtain ⟨T,g,cap,rfl,hcap,hoR⟩:=ho.form (by omega)
 have hvl:∀ b,(Value.slice (some ⟨g,0,none⟩) (n+1) cap).ownBlock = some b→(l.ownBlock = some b∨w0.heap.size≤b)∧b < w'.heap.size:=fun b hb=>by
  refine ⟨?_,ho.lt hb⟩
  rcases hl with ⟨h1,_⟩ | ⟨h1,_⟩
  ·exact h.vb b (h1.symm.trans hb)
  ·rw [h1] at hb
   cases hb
   exact .inr h.kp.size
 refine ⟨ho,fun u hu=>?_,?_,fun b hb=>(hvl b hb).1⟩
 ·rcases List.mem_append.1 hu with hu | hu
  ·obtain ⟨h1,h2,h3⟩:=h.us u hu
   rcases hl with ⟨hl1,hk⟩ | ⟨hl1,hb⟩
   ·have e1:v.ownBlock = some g:=hl1.symm
    refine ⟨?_,fun b hb=>⟨(h2 b hb).1,Nat.lt_of_lt_of_le (h2 b hb).2 hk.size⟩,fun p k cp b e2 e3 e4=>?_⟩
    ·by_cases hug:u.ownBlock = some g
     ·obtain ⟨p,k,cp,rfl,hk1,hk2,hk3⟩:=h1
      refine ⟨p,k,cp,rfl,hk1,hk2,fun i hi=>?_⟩
      obtain ⟨b,rfl,hb1,hb2⟩:=hk3 i hi
      have hbg:b = g:=by simpa [Value.ownBlock] using hug
      subst hbg
      have hkn:=h3 _ k cp b rfl rfl e1
      obtain ⟨p',n',cap',e5,_,_,hr⟩:=hrd
      injection e5 with e6 e7 e8
      subst e6 e7 e8
      obtain ⟨b',e9,hb3,hb4⟩:=hr i (by omega)
      cases e9
      exact ⟨b,rfl,hb3,hb4⟩
     ·exact h1.keep hk (fun b hb hx=>hug (hb.trans (hx.symm.trans e1)))
    ·have e5:some g = some b:=e4
     cases e5
     have:=h3 p k cp g e2 e3 e1
     omega
   ·refine ⟨h1.keep (S:=fun _=>False) (Keep.below hb) (fun _ _ x=>x),fun b hub=>⟨(h2 b hub).1,Nat.lt_of_lt_of_le (h2 b hub).2 hb.size⟩,fun p k cp b e2 e3 e4=>?_⟩
    rw [hl1] at e4
    cases e4
    subst e2 e3
    have:=(h2 _ rfl).2
    exact absurd this (Nat.lt_irrefl _)
  ·obtain rfl:u = _:=by simpa using hu
   exact ⟨hrd,hvl,fun p k cp b e2 e3 e4=>by injection e2 with _ e5 _; omega⟩
 ·rcases hl with ⟨_,hk⟩ | ⟨_,hb⟩
  ·refine ⟨hk.os.trans h.kp.os,hk.tape.trans h.kp.tape,hk.output.trans h.kp.output,Nat.le_trans h.kp.size hk.size,fun x hx hn'=>?_⟩
   refine (hk.block x (Nat.lt_of_lt_of_le hx h.kp.size) (fun hv=>?_)).trans (h.kp.block x hx hn')
   rcases h.vb x hv with h1 | h1
   ·exact hn' h1
   ·omega
  ·exact h.kp.trans (Keep.below hb)
def Sd (s i x:Nat):Prop:=x = 10+s∨x = 12+s∨x = 14+s∨x = 16+s∨x = 18+s∨∃ k,i≤k∧x = 100+2*k+s
structure Side (w:World) (TS:TypeId) (sz:Nat) (ok:Nat→List Value→Prop) (mk:Nat→List Value) (lv wv rv:Value) (Ls Ws Rs:List Value) (i:Nat) (τ:Nat→Nat) (s:Nat):Prop where
 ol:w.ownsRow 0 TS 1 lv Ls.length Ls
 ow:w.ownsRow 0 TS 1 wv Ws.length Ws
 or:w.ownsRow 0 TS 1 rv Ws.length Rs
 tl:∀ b,lv.ownBlock = some b→τ b = 10+s
 tw:∀ b,wv.ownBlock = some b→τ b = 12+s
 tr:∀ b,rv.ownBlock = some b→τ b = 14+s
 ls:∀ j v,Ls[j]? = some v→RdV w sz v (mk (j / 4))∧∀ b,v.ownBlock = some b→τ b = 16+s
 lm:Ls.length % 4 = 0
 ws:∀ k v r,i≤k→Ws[k]? = some v→Rs[k]? = some r→∃ n xs,ok n xs∧OwT w sz v n xs∧OwT w sz r n xs∧(∀ b,v.ownBlock = some b→τ b = 100+2*k+s)∧(∀ b,r.ownBlock = some b→τ b = 18+s)
section
variable {w w':World} {TS:TypeId} {sz:Nat} {ok:Nat→List Value→Prop} {mk:Nat→List Value} {lv wv rv:Value} {Ls Ws Rs:List Value} {i:Nat} {τ τ':Nat→Nat} {s:Nat}
theorem Side.rl (h:Side w TS sz ok mk lv wv rv Ls Ws Rs i τ s):Rs.length = Ws.length:=by
 have:=h.or.1
 omega
theorem Side.nil (w:World) (TS:TypeId) (sz:Nat) (ok:Nat→List Value→Prop) (mk:Nat→List Value) (τ:Nat→Nat) (s:Nat):Side w TS sz ok mk (.slice none 0 0) (.slice none 0 0) (.slice none 0 0) [] [] [] 0 τ s :=
 ⟨World.ownsRow_nil _ _ _ _,World.ownsRow_nil _ _ _ _,World.ownsRow_nil _ _ _ _,fun b hb=>(by cases hb),fun b hb=>(by cases hb),fun b hb=>(by cases hb),fun j v hj=>(by simp at hj),rfl,fun k v r _ hk=>(by simp at hk)⟩
theorem Side.keep {S:Nat→Prop} (h:Side w TS sz ok mk lv wv rv Ls Ws Rs i τ s) (hk:Keep S w w') (hs:∀ b,Sd s i (τ b)→¬ S b):Side w' TS sz ok mk lv wv rv Ls Ws Rs i τ s where
 ol:=own_keep h.ol hk (fun b hb=>hs b (.inl (h.tl b hb)))
 ow:=own_keep h.ow hk (fun b hb=>hs b (.inr (.inl (h.tw b hb))))
 or:=own_keep h.or hk (fun b hb=>hs b (.inr (.inr (.inl (h.tr b hb)))))
 tl:=h.tl
 tw:=h.tw
 tr:=h.tr
 ls:=fun j v hj=>⟨(h.ls j v hj).1.keep hk (fun b hb=>hs b (.inr (.inr (.inr (.inl ((h.ls j v hj).2 b hb)))))),(h.ls j v hj).2⟩
 lm:=h.lm
 ws:=fun k v r hik hv hr=>by
  obtain ⟨n,xs,h1,h2,h3,h4,h5⟩:=h.ws k v r hik hv hr
  exact ⟨n,xs,h1,h2.keep hk (fun b hb=>hs b (.inr (.inr (.inr (.inr (.inr ⟨k,hik,h4 b hb⟩)))))),h3.keep hk (fun b hb=>hs b (.inr (.inr (.inr (.inr (.inl (h5 b hb))))))),h4,h5⟩
theorem Side.tau (h:Side w TS sz ok mk lv wv rv Ls Ws Rs i τ s) (ht:∀ b,Sd s i (τ b)→τ' b = τ b):Side w TS sz ok mk lv wv rv Ls Ws Rs i τ' s where
 ol:=h.ol
 ow:=h.ow
 or:=h.or
 tl:=fun b hb=>(ht b (.inl (h.tl b hb))).trans (h.tl b hb)
 tw:=fun b hb=>(ht b (.inr (.inl (h.tw b hb)))).trans (h.tw b hb)
 tr:=fun b hb=>(ht b (.inr (.inr (.inl (h.tr b hb))))).trans (h.tr b hb)
 ls:=fun j v hj=>⟨(h.ls j v hj).1,fun b hb=>(ht b (.inr (.inr (.inr (.inl ((h.ls j v hj).2 b hb)))))).trans ((h.ls j v hj).2 b hb)⟩
 lm:=h.lm
 ws:=fun k v r hik hv hr=>by
  obtain ⟨n,xs,h1,h2,h3,h4,h5⟩:=h.ws k v r hik hv hr
  exact ⟨n,xs,h1,h2,h3,fun b hb=>(ht b (.inr (.inr (.inr (.inr (.inr ⟨k,hik,h4 b hb⟩)))))).trans (h4 b hb),fun b hb=>(ht b (.inr (.inr (.inr (.inr (.inl (h5 b hb))))))).trans (h5 b hb)⟩
end
def tauC (τ:Nat→Nat) (s k:Nat) (wv' rv' v r:Value):Nat→Nat:=fun b=>if v.ownBlock = some b then 100+2*k+s else if wv'.ownBlock = some b then 12+s else if rv'.ownBlock = some b then 14+s else if r.ownBlock = some b then 18+s else τ b
structure CameTo (w:World) (TS:TypeId) (sz W:Nat) (wv rv:Value) (Ws Rs:List Value) (v:Value) (n:Nat) (xs:List Value) (wv' rv' r:Value) (w':World):Prop where
 ow:w'.ownsRow 0 TS 1 wv' (Ws.length+1) (Ws ++ [v])
 or:w'.ownsRow 0 TS 1 rv' (Ws.length+1) (Rs ++ [r])
 cr:OwT w' sz r n xs
 kp:Keep (fun b=>b = W∨wv.ownBlock = some b∨rv.ownBlock = some b) w w'
 nw:OwnNew w wv wv'
 nr:OwnNew w rv rv'
 rn:∀ b,r.ownBlock = some b→w.heap.size≤b
 a1:∀ b,wv'.ownBlock = some b→¬ rv'.ownBlock = some b
 a2:∀ b,wv'.ownBlock = some b→¬ r.ownBlock = some b
 a3:∀ b,rv'.ownBlock = some b→¬ r.ownBlock = some b
section
variable {w w':World} {TS:TypeId} {sz W:Nat} {ok:Nat→List Value→Prop} {mk:Nat→List Value} {lv wv rv wv' rv' v r:Value} {Ls Ws Rs:List Value} {n:Nat} {xs:List Value} {τ:Nat→Nat} {s:Nat}
theorem CameTo.tag (h:CameTo w TS sz W wv rv Ws Rs v n xs wv' rv' r w') (tw:∀ b,wv.ownBlock = some b→τ b = 12+s) (tr:∀ b,rv.ownBlock = some b→τ b = 14+s) (h0:∀ b,τ b ≠ 0→b < w.heap.size) (hv:∀ b,v.ownBlock = some b→τ b = 0) (k:Nat) (b:Nat) (hb:τ b ≠ 0) (h2:τ b ≠ 12+s) (h3:τ b ≠ 14+s):tauC τ s k wv' rv' v r b = τ b:=by
 have hl:=h0 b hb
 unfold tauC
 rw [if_neg (fun e=>hb (hv b e)),if_neg,if_neg,if_neg (fun e=>by have:=h.rn b e; omega)]
 ·intro e
  rcases h.nr with h1 | ⟨c,h1,h4⟩
  ·exact h3 (tr b (h1.symm.trans e))
  ·rw [h1] at e
   cases e
   omega
 ·intro e
  rcases h.nw with h1 | ⟨c,h1,h4⟩
  ·exact h2 (tw b (h1.symm.trans e))
  ·rw [h1] at e
   cases e
   omega
theorem Side.came (hS:Side w TS sz ok mk lv wv rv Ls Ws Rs 0 τ s) (hs:s < 2) (h:CameTo w TS sz W wv rv Ws Rs v n xs wv' rv' r w') (h0:∀ b,τ b ≠ 0→b < w.heap.size) (hv:∀ b,v.ownBlock = some b→τ b = 0) (hvl:∀ b,v.ownBlock = some b→b < w.heap.size∧¬ b = W) (hok:ok n xs) (hvo:OwT w sz v n xs) (hW:τ W = 0) :
  Side w' TS sz ok mk lv wv' rv' Ls (Ws ++ [v]) (Rs ++ [r]) 0 (tauC τ s Ws.length wv' rv' v r) s:=by
 have nz:∀ b x,τ b = x→x ≠ 0→¬ b = W:=fun b x hb hx e=>by subst e; omega
 have tg:=h.tag hS.tw hS.tr h0 hv Ws.length
 have kk:∀ b,τ b ≠ 0→τ b ≠ 12+s→τ b ≠ 14+s→¬ (b = W∨wv.ownBlock = some b∨rv.ownBlock = some b):=fun b h1 h2 h3 hx=>by
  rcases hx with hx | hx | hx
  ·subst hx; exact h1 hW
  ·exact h2 (hS.tw b hx)
  ·exact h3 (hS.tr b hx)
 have hl:=hS.rl
 refine ⟨own_keep hS.ol h.kp (fun b hb=>kk b (by rw [hS.tl b hb]; omega) (by rw [hS.tl b hb]; omega) (by rw [hS.tl b hb]; omega)),?_,?_,fun b hb=>(tg b (by rw [hS.tl b hb]; omega) (by rw [hS.tl b hb]; omega) (by rw [hS.tl b hb]; omega)).trans (hS.tl b hb),fun b hb=>?_,fun b hb=>?_,fun j u hj=>?_,hS.lm,fun k u q hik hu hq=>?_⟩
 ·rw [List.length_append]; exact h.ow
 ·rw [List.length_append]; exact h.or
 ·unfold tauC
  rw [if_neg,if_pos hb]
  intro e
  rcases h.nw with h1 | ⟨c,h1,h4⟩
  ·have:=hv b e
   have:=hS.tw b (h1.symm.trans hb)
   omega
  ·rw [h1] at hb
   cases hb
   have:=(hvl _ e).1
   omega
 ·unfold tauC
  rw [if_neg,if_neg (fun e=>h.a1 b e hb),if_pos hb]
  intro e
  rcases h.nr with h1 | ⟨c,h1,h4⟩
  ·have:=hv b e
   have:=hS.tr b (h1.symm.trans hb)
   omega
  ·rw [h1] at hb
   cases hb
   have:=(hvl _ e).1
   omega
 ·obtain ⟨h1,h2⟩:=hS.ls j u hj
  refine ⟨h1.keep h.kp (fun b hb=>kk b (by rw [h2 b hb]; omega) (by rw [h2 b hb]; omega) (by rw [h2 b hb]; omega)),fun b hb=>?_⟩
  exact (tg b (by rw [h2 b hb]; omega) (by rw [h2 b hb]; omega) (by rw [h2 b hb]; omega)).trans (h2 b hb)
 ·by_cases hk:k < Ws.length
  ·rw [List.getElem?_append_left hk] at hu
   rw [List.getElem?_append_left (by omega)] at hq
   obtain ⟨m,ys,h1,h2,h3,h4,h5⟩:=hS.ws k u q hik hu hq
   refine ⟨m,ys,h1,h2.keep h.kp (fun b hb=>kk b (by rw [h4 b hb]; omega) (by rw [h4 b hb]; omega) (by rw [h4 b hb]; omega)),h3.keep h.kp (fun b hb=>kk b (by rw [h5 b hb]; omega) (by rw [h5 b hb]; omega) (by rw [h5 b hb]; omega)),fun b hb=>?_,fun b hb=>?_⟩
   ·exact (tg b (by rw [h4 b hb]; omega) (by rw [h4 b hb]; omega) (by rw [h4 b hb]; omega)).trans (h4 b hb)
   ·exact (tg b (by rw [h5 b hb]; omega) (by rw [h5 b hb]; omega) (by rw [h5 b hb]; omega)).trans (h5 b hb)
  ·have hk2:k = Ws.length:=by
    have:=(List.getElem?_eq_some_iff.1 hu).1
    rw [List.length_append,List.length_singleton] at this
    omega
   subst hk2
   obtain rfl:v = u:=by simpa using hu
   obtain rfl:r = q:=by rw [← hl] at hq; simpa using hq
   refine ⟨n,xs,hok,hvo.keep h.kp (fun b hb hx=>?_),h.cr,fun b hb=>?_,fun b hb=>?_⟩
   ·have h1:=hv b hb
    rcases hx with hx | hx | hx
    ·exact (hvl b hb).2 hx
    ·have:=hS.tw b hx; omega
    ·have:=hS.tr b hx; omega
   ·unfold tauC
    rw [if_pos hb]
   ·have hbn:=h.rn b hb
    unfold tauC
    rw [if_neg (fun e=>by have:=(hvl b e).1; omega),if_neg (fun e=>h.a2 b e hb),if_neg (fun e=>h.a3 b e hb),if_pos hb]
theorem Side.came_other {TS2:TypeId} {sz2:Nat} {ok2:Nat→List Value→Prop} {mk2:Nat→List Value} {lv2 wv2 rv2:Value} {Ls2 Ws2 Rs2:List Value} {s2:Nat} (h2:Side w TS2 sz2 ok2 mk2 lv2 wv2 rv2 Ls2 Ws2 Rs2 0 τ s2) (hs:s < 2) (hs2:s2 < 2) (hne:¬ s = s2) (tw:∀ b,wv.ownBlock = some b→τ b = 12+s) (tr:∀ b,rv.ownBlock = some b→τ b = 14+s) (h:CameTo w TS sz W wv rv Ws Rs v n xs wv' rv' r w') (h0:∀ b,τ b ≠ 0→b < w.heap.size) (hv:∀ b,v.ownBlock = some b→τ b = 0) (hW:τ W = 0) (k:Nat) :
  Side w' TS2 sz2 ok2 mk2 lv2 wv2 rv2 Ls2 Ws2 Rs2 0 (tauC τ s k wv' rv' v r) s2:=by
 have sd:∀ x,Sd s2 0 x→x ≠ 0∧x ≠ 12+s∧x ≠ 14+s:=by
  rintro x (rfl | rfl | rfl | rfl | rfl | ⟨k,_,rfl⟩) <;> omega
 refine (h2.keep h.kp (fun b hb hx=>?_)).tau (fun b hb=>h.tag tw tr h0 hv k b (sd _ hb).1 (sd _ hb).2.1 (sd _ hb).2.2)
 obtain ⟨e1,e2,e3⟩:=sd _ hb
 rcases hx with hx | hx | hx
 ·subst hx; exact e1 hW
 ·exact e2 (tw b hx)
 ·exact e3 (tr b hx)
theorem CameTo.tags (h:CameTo w TS sz W wv rv Ws Rs v n xs wv' rv' r w') (tw:∀ b,wv.ownBlock = some b→τ b = 12+s) (tr:∀ b,rv.ownBlock = some b→τ b = 14+s) (h0:∀ b,τ b ≠ 0→b < w.heap.size) (hvl:∀ b,v.ownBlock = some b→b < w.heap.size) (k:Nat) (b:Nat) (hb:tauC τ s k wv' rv' v r b ≠ 0):(τ b ≠ 0∨v.ownBlock = some b∨w.heap.size≤b)∧b < w'.heap.size:=by
 have hz:=h.kp.size
 unfold tauC at hb
 by_cases e1:v.ownBlock = some b
 ·have:=hvl b e1
  exact ⟨.inr (.inl e1),by omega⟩
 ·rw [if_neg e1] at hb
  by_cases e2:wv'.ownBlock = some b
  ·refine ⟨?_,(own_base h.ow e2).2⟩
   rcases h.nw with h1 | ⟨c,h1,h4⟩
   ·exact .inl (by rw [tw b (h1.symm.trans e2)]; omega)
   ·rw [h1] at e2; cases e2; exact .inr (.inr h4)
  ·rw [if_neg e2] at hb
   by_cases e3:rv'.ownBlock = some b
   ·refine ⟨?_,(own_base h.or e3).2⟩
    rcases h.nr with h1 | ⟨c,h1,h4⟩
    ·exact .inl (by rw [tr b (h1.symm.trans e3)]; omega)
    ·rw [h1] at e3; cases e3; exact .inr (.inr h4)
   ·rw [if_neg e3] at hb
    by_cases e4:r.ownBlock = some b
    ·exact ⟨.inr (.inr (h.rn b e4)),h.cr.lt e4⟩
    ·rw [if_neg e4] at hb
     have:=h0 b hb
     exact ⟨.inl hb,by omega⟩
end
end Go.Proofs.YtanndhoimpnhpaaGreatDoor
