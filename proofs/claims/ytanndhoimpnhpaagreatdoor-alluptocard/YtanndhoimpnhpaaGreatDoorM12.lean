/- Joined by program: TxU, TxV, TxY, Mp, Bw, Wr, Pt. -/
import Derived.Test.YtanndhoimpnhpaaGreatDoorM11
import Derived.Lib.AppendIntMem
import Derived.Lib.ConvBytes
import Derived.Maps.OwnOps
import Derived.Maps.Views
import Derived.DeepKeys4
import Derived.WideKeyEntry
namespace Go.Proofs.YtanndhoimpnhpaaGreatDoor
open Go.ChangeShapes Go.WideShapes Go.ChangeAt Go.RowKit Lg Cal Txt
structure Gl (w:World):Prop where
 mx:∃ m,w.cell? ⟨4,0,none⟩ = some (.int .i64 m)
 tb : Lib.TabIs Tryz.prog w "internal/strconv.uint64pow10" .u64 Lib.pow10Tab
 es : ∃ tp p, w.var? Tryz.prog "strconv.ErrSyntax" = some #[.iface tp p]
 er : ∃ tp p, w.var? Tryz.prog "strconv.ErrRange" = some #[.iface tp p]
theorem var_below {w w':World} {name:String} {x:Array Value} (h:w.var? Tryz.prog name = some x) (hb:Below w.heap.size w w'):w'.var? Tryz.prog name = some x:=by
 unfold World.var? at *
 cases hg:Tryz.prog.globalNamed name with
 | none=>simp [hg] at h
 | some g =>
  simp only [hg,Option.bind_some] at h ⊢
  have hlt:g < w.heap.size:=by
   rcases Nat.lt_or_ge g w.heap.size with h' | h'
   ·exact h'
   ·rw [Array.getElem?_eq_none h'] at h; simp at h
  rw [hb.block g hlt]
  exact h
theorem Gl.below {w w':World} (h:Gl w) (hb:Below w.heap.size w w'):Gl w':=by
 obtain ⟨m,hm⟩:=h.mx
 obtain ⟨t1,p1,h1⟩:=h.es
 obtain ⟨t2,p2,h2⟩:=h.er
 exact ⟨⟨m,(hb.cell (World.block_lt_of_cell? w _ hm)).trans hm⟩,Lib.tabBelow_of_tabIs h.tb w' hb,⟨t1,p1,var_below h1 hb⟩,⟨t2,p2,var_below h2 hb⟩⟩
def IsS (w:World) (v:Value) (P:List (List UInt8)):Prop :=
 ∃ p cap,v = .slice p P.length cap∧P.length≤cap∧∀ k (hk:k < P.length),∃ b o,p = some ⟨b,o,none⟩∧b < w.heap.size∧w.cell? ⟨b,o+k,none⟩ = some (.string (bs P[k]))
theorem atoi_any (w:World) (p:List UInt8) (hp:p.length≤281474976710656) (hg:Gl w) :
  Calls Tryz.prog 129 #[.string (bs p)] w fun e w'=>Below w.heap.size w w'∧((∃ z,Lib.atoiAll p = .ok z∧e = .returned (.tuple #[.int .i64 z,.nilIface]))∨((∀ n,InR n→¬ p = Lib.itoa n)∧∃ z t q,e = .returned (.tuple #[.int .i64 z,.iface t (.pointer q)]))):=by
 have hno:(∀ z,¬ Lib.atoiAll p = .ok z)→∀ n,InR n→¬ p = Lib.itoa n:=fun h n hn e=>h n (by rw [e]; exact atoi_itoa n hn)
 cases hc:Lib.atoiAll p with
 | ok z =>
  refine (Tryz.strconv_Atoi_ok (bs p) (by rw [bs_size]; omega) z (by rw [bs_list]; exact hc) w).mono ?_
  rintro e w' ⟨rfl,hw⟩
  refine ⟨?_,.inl ⟨z,rfl,rfl⟩⟩
  rcases hw with rfl | ⟨t,rfl⟩
  ·exact Below.refl _ _
  ·exact ⟨rfl,rfl,rfl,by rw [Lib.bytesWorld_size]; omega,fun j hj=>Lib.bytesWorld_at_old w 5 t j hj⟩
 | «syntax» =>
  obtain ⟨t1,p1,h1⟩:=hg.es
  refine (Tryz.strconv_Atoi_syntax_var (bs p) (by rw [bs_size]; omega) (by rw [bs_list]; exact hc) t1 p1 w h1).mono ?_
  rintro e w' ⟨N,rfl,_,_,hb⟩
  exact ⟨hb,.inr ⟨hno (fun z h=>by rw [hc] at h; cases h),_,_,_,rfl⟩⟩
 | range =>
  obtain ⟨t1,p1,h1⟩:=hg.er
  refine (Tryz.strconv_Atoi_range_var (bs p) (by rw [bs_size]; omega) (by rw [bs_list]; exact hc) t1 p1 w h1).mono ?_
  rintro e w' ⟨N,rfl,_,_,hb⟩
  exact ⟨hb,.inr ⟨hno (fun z h=>by rw [hc] at h; cases h),_,_,_,rfl⟩⟩
theorem itoa_any (w:World) (z:Int) (hz:InR z) (hg:Gl w) :
  Calls Tryz.prog 130 #[.int .i64 z] w fun e w'=>e = .returned (.string (bs (Lib.itoa z)))∧Below w.heap.size w w':=by
 refine (Tryz.strconv_Itoa z hz.1 hz.2 w hg.tb).mono ?_
 rintro e w' ⟨rfl,k,os,rfl⟩
 exact ⟨rfl,Lib.below_grow _ w (Nat.le_refl _) k os⟩
def NumsPost (w:World) (P:List (List UInt8)) (e:Ending) (w':World):Prop :=
 Below w.heap.size w w'∧((∃ ns N,Says P ns∧e = .returned (.tuple #[.slice (some ⟨N,0,none⟩) ns.length ns.length,.bool true])∧w.heap.size≤N∧At w' N (hc ns.length (fun j=>ns.getD j 0)))∨((¬ ∃ ns,Says P ns)∧∃ v,e = .returned (.tuple #[v,.bool false])))
set_option maxRecDepth 10000 in
set_option maxHeartbeats 4000000 in
theorem rnums_any (w:World) (v:Value) (P:List (List UInt8)) (hv:IsS w v P) (hn:P.length≤1000) (hp:∀ p∈P,p.length≤281474976710656) (hg:Gl w) :
  Calls Tryz.prog 103 #[v] w (NumsPost w P):=by
 obtain ⟨pv,cap,rfl,hcap,hcell⟩:=hv
 have HCell:Hid (∀ wx,Below w.heap.size w wx→∀ k (hk:k < P.length),∃ b o,pv = some ⟨b,o,none⟩∧wx.cell? ⟨b,o+k,none⟩ = some (.string (bs P[k]))):=fun wx hx k hk=>by
  obtain ⟨b,o,h1,h2,h3⟩:=hcell k hk
  exact ⟨b,o,h1,(World.cell?_of_block (w:=w) (a:=⟨b,o+k,none⟩) (hx.block b h2)).trans h3⟩
 have HPl:=hid hp
 have HG:Hid (∀ wx,Below w.heap.size w wx→Gl wx):=fun wx hx=>hg.below hx
 have hmk:=dmake w P.length (by omega)
 have b1:Below w.heap.size w (w.alloc (.cells (hc P.length (fun _=>0)).toArray 3)):=(Below.refl _ _).alloc (Nat.le_refl _) _
 have a1:At (w.alloc (.cells (hc P.length (fun _=>0)).toArray 3)) w.heap.size (hc P.length (fun _=>0)):=At.alloc w _ _
 have HBad:Hid (∀ k (hk:k < P.length) wx,Below w.heap.size w wx→(∀ n,InR n→¬ P[k] = Lib.itoa n)→NumsPost w P (.returned (.tuple #[.slice none 0 0,.bool false])) wx):=fun k hk wx hx hno=>by
  refine ⟨hx,.inr ⟨fun ⟨ms,hm⟩=>?_,_,rfl⟩⟩
  have e1:k < ms.length:=by have:=congrArg List.length hm.1; rw [List.length_map] at this; omega
  refine hno ms[k] (hm.2 _ (List.getElem_mem e1)) ?_
  have e2:P[k]? = (ms.map Lib.itoa)[k]?:=congrArg (fun l:List (List UInt8)=>l[k]?) hm.1
  rw [List.getElem?_eq_getElem hk,List.getElem?_map,List.getElem?_eq_getElem e1] at e2
  exact Option.some.inj e2
 clear hcell hp hg
 go_enter Tryz.func103,Tryz.ntmps103
 go_wp2
 have HB1:=hid b1
 have HA1:=hid a1
 clear hmk b1 a1
 obtain ⟨N,hN⟩:∃ N,N = w.heap.size:=⟨_,rfl⟩
 have HN:=hid hN
 rw [← hN]
 clear hN
 go_loopw [5,6,7,8,14] (fun _ _ _ _ s14 wr=>∃ (k:Nat) (ns:List Int),k≤P.length∧s14 = .int .i64 k∧Says (P.take k) ns∧ns.length = k∧At wr N (hc P.length (fun j=>ns.getD j 0))∧Below w.heap.size w wr) (fun _ _ _ _ s14 _=>P.length - (intOf s14).toNat)
 case atStart=>exact ⟨0,[],Nat.zero_le _,rfl,⟨rfl,fun n hn=>absurd hn List.not_mem_nil⟩,rfl,by rw [HN.out]; exact HA1.out,HB1.out⟩
 case round =>
  clear HB1 HA1
  obtain ⟨k,ns,hk,rfl,hsay,hnl,hA,hb⟩:=hrel
  have HSay:=hid hsay
  have HNl:=hid hnl
  have HA:=hid hA
  have HB:=hid hb
  clear hsay hnl hA hb
  by_cases hlt:k < P.length
  ·have zk:(k:Int) < (P.length:Int):=by omega
   obtain ⟨b,o,rfl,hcl⟩:=HCell.out wr HB.out k hlt
   have hAt:=atoi_any wr P[k] (HPl.out _ (List.getElem_mem hlt)) (HG.out _ HB.out)
   have HBd:=HBad.out k hlt
   have HBd2:=hid HBd
   have HTk:Hid (P.take (k+1) = P.take k ++ [P[k]]):=List.take_succ_eq_append_getElem hlt
   clear HBd
   generalize P[k] = pc at *
   go_wp2_with fail
   refine hAt.mono ?_
   rintro e w1 ⟨hb1,hx⟩
   clear hAt hcl
   have HB2:Hid (Below w.heap.size w w1):=HB.out.trans (hb1.mono HB.out.size)
   have HA2:Hid (At w1 N (hc P.length (fun j=>ns.getD j 0))):=HA.out.block (hb1.block N (by
    have h1:=HA.out k (.int .i64 (ns.getD k 0)) (hc_at _ _ k hlt)
    exact World.block_lt_of_cell? _ _ h1.1))
   clear hb1
   rcases hx with ⟨z,hz,rfl⟩ | ⟨hno,z,tt,q,rfl⟩
   ·have hIn:InR z:=Lib.atoiAll_bounds hz
    have hIt:=itoa_any w1 z hIn (HG.out _ HB2.out)
    have HZ:=hid hz
    have HIn:=hid hIn
    clear hz hIn
    by_cases heq:Lib.itoa z = pc
    ·have hq:((bs (Lib.itoa z)).toList == (bs pc).toList) = true:=by rw [ba_beq,heq]; simp
     have hq2:((bs (Lib.itoa z)).toList != (bs pc).toList) = false:=by rw [bne,hq]; rfl
     have HEq:=hid heq
     clear heq
     generalize bs (Lib.itoa z) = Sz at *
     generalize bs pc = Sp at *
     go_wp2_with fail
     refine hIt.mono ?_
     rintro e w3 ⟨rfl,hb3⟩
     have hNl3:N < w1.heap.size:=by
      have h1:=HA2.out k (.int .i64 (ns.getD k 0)) (hc_at _ _ k hlt)
      exact World.block_lt_of_cell? _ _ h1.1
     have hA3:At w3 N (hc P.length (fun j=>ns.getD j 0)):=HA2.out.block (hb3.block N hNl3)
     have c3:w3.cell? ⟨N,k,none⟩ = some (.int .i64 (ns.getD k 0)):=(hA3 k _ (hc_at _ _ k hlt)).1
     have f3:w3.frozen? ⟨N,k,none⟩ = false:=(hA3 k _ (hc_at _ _ k hlt)).2
     have HA4:Hid (At (w3.setCell ⟨N,k,none⟩ (.int .i64 z)) N (hc P.length (fun j=>(ns ++ [z]).getD j 0))):=by
      have:=hA3.set k (by rw [hc_len]; exact hlt) (.int .i64 z)
      rw [hc_set P.length _ (fun j=>(ns ++ [z]).getD j 0) k z (fun j hj=>?_)] at this
      ·exact this
      ·simp only [List.getD_eq_getElem?_getD]
       by_cases hjk:j = k
       ·rw [if_pos hjk,hjk,List.getElem?_append_right (by rw [HNl.out]; exact Nat.le_refl _),HNl.out,Nat.sub_self]
        rfl
       ·rw [if_neg hjk]
        rcases Nat.lt_or_ge j k with h | h
        ·rw [List.getElem?_append_left (by rw [HNl.out]; exact h)]
        ·rw [List.getElem?_eq_none (by rw [List.length_append,HNl.out,List.length_singleton]; omega),List.getElem?_eq_none (by rw [HNl.out]; exact h)]
     have HB4:Hid (Below w.heap.size w (w3.setCell ⟨N,k,none⟩ (.int .i64 z))):=(HB2.out.trans (hb3.mono HB2.out.size)).setCell (p:=⟨N,k,none⟩) (by rw [← HN.out]; exact Nat.le_refl N) _
     have HSy:Hid (Says (P.take (k+1)) (ns ++ [z])):=by
      refine ⟨?_,fun n hn=>?_⟩
      ·rw [HTk.out,HSay.out.1,← HEq.out,List.map_append]
       rfl
      ·rcases List.mem_append.1 hn with h | h
       ·exact HSay.out.2 n h
       ·rw [List.mem_singleton] at h; subst h; exact HIn.out
     clear hIt hb3 hA3 hNl3
     go_wp2_with fail
     generalize w3.setCell ⟨N,k,none⟩ (.int .i64 z) = w4 at *
     exact ⟨⟨k+1,ns ++ [z],hlt,rfl,HSy.out,by rw [List.length_append,HNl.out]; rfl,HA4.out,HB4.out⟩,by simp [intOf]; omega⟩
    ·have hq:((bs (Lib.itoa z)).toList == (bs pc).toList) = false:=by rw [ba_beq]; exact decide_eq_false (fun h=>heq (by have:=bs_eq h; rwa [bs_list] at this))
     have hq2:((bs (Lib.itoa z)).toList != (bs pc).toList) = true:=by rw [bne,hq]; rfl
     have HNo:Hid (∀ n,InR n→¬ pc = Lib.itoa n):=fun n hn e=>heq (by
      have h1:=atoi_itoa n hn
      rw [← e,HZ.out] at h1
      injection h1 with h1
      rw [h1,e])
     clear heq
     generalize bs (Lib.itoa z) = Sz at *
     generalize bs pc = Sp at *
     go_wp2_with fail
     refine hIt.mono ?_
     rintro e w3 ⟨rfl,hb3⟩
     have HE:Hid (NumsPost w P (.returned (.tuple #[.slice none 0 0,.bool false])) w3):=HBd2.out _ (HB2.out.trans (hb3.mono HB2.out.size)) HNo.out
     clear hIt hb3
     go_wp2_with fail
     go_ret2
     exact HE.out
   ·have HE:Hid (NumsPost w P (.returned (.tuple #[.slice none 0 0,.bool false])) w1):=HBd2.out _ HB2.out hno
    clear hno
    go_wp2_with fail
    go_ret2
    exact HE.out
  ·obtain rfl:k = P.length:=by omega
   have zk:¬ (P.length:Int) < (P.length:Int):=by omega
   have HE:Hid (NumsPost w P (.returned (.tuple #[.slice (some ⟨N,0,none⟩) P.length P.length,.bool true])) wr):=by
    refine ⟨HB.out,.inl ⟨ns,N,?_,by rw [HNl.out],by rw [HN.out]; exact Nat.le_refl _,by rw [HNl.out]; exact HA.out⟩⟩
    have:=HSay.out
    rwa [List.take_length] at this
   go_wp2
   go_ret2
   exact HE.out
theorem nl_cases:∀ s:List UInt8,NoL s∨∃ line r,s = line ++ 10 :: r∧NoL line
 | []=>.inl (fun c hc=>by simp at hc)
 | c :: s=>by
  by_cases hc:c = 10
  ·exact .inr ⟨[],s,by rw [hc]; rfl,fun c hc=>by simp at hc⟩
  ·rcases nl_cases s with h | ⟨line,r,h1,h2⟩
   ·refine .inl (fun x hx=>?_)
    rcases List.mem_cons.1 hx with e | e
    ·rw [e]; exact hc
    ·exact h x e
   ·refine .inr ⟨c :: line,r,by rw [h1]; rfl,fun x hx=>?_⟩
    rcases List.mem_cons.1 hx with e | e
    ·rw [e]; exact hc
    ·exact h2 x e
theorem setl_snoc:∀ (l X:List Value) (d:Nat) (v:Value),setl X d (l ++ [v]) = (setl X d l).set (d+l.length) v
 | [],X,d,v=>by simp [setl]
 | u :: l,X,d,v=>by
  rw [List.cons_append,setl,setl_snoc l (X.set d u) (d+1) v,setl,List.length_cons]
  congr 1
  omega
theorem setl_len:∀ (l X:List Value) (d:Nat),(setl X d l).length = X.length
 | [],_,_=>rfl
 | u :: l,X,d=>by rw [setl,setl_len l (X.set d u) (d+1),List.length_set]
theorem At.lower {w w':World} {c:Nat} {X:List Value} (h:At w c X) (hb:Below w.heap.size w w'):At w' c X:=fun i v hv =>
 (h.block (hb.block c (World.block_lt_of_cell? _ _ (h i v hv).1))) i v hv
theorem lnum_noL (ns:List Int):NoL (lnum ns):=by
 induction ns with
 | nil=>intro c hc; simp [lnum] at hc
 | cons n r ih =>
  intro c hc
  have hd:∀ u:Nat,∀ c∈Lib.decDigits u,¬ c = 10:=fun u c hc e=>by
   have h1:=allD_dec u
   unfold allD at h1
   rw [List.all_eq_true] at h1
   have h2:=dg_bd (h1 c hc)
   subst e
   have h3:((10:UInt8).toNat:Int) = 10:=rfl
   omega
  simp only [lnum,List.mem_cons,List.mem_append] at hc
  rcases hc with h | h | h
  ·rw [h]; decide
  ·unfold Lib.itoa at h
   split at h
   ·rcases List.mem_cons.1 h with h | h
    ·rw [h]; decide
    ·exact hd _ c h
   ·exact hd _ c h
  ·exact ih c h
def Nx (s word:List UInt8) (n:Nat) (ns:List Int) (r:List UInt8):Prop:=s = word ++ lnum ns ++ 10 :: r∧ns.length = n∧∀ m∈ns,InR m
theorem nl_one:∀ (a b r q:List UInt8),NoL a→NoL b→a ++ 10 :: r = b ++ 10 :: q→a = b∧r = q
 | [],[],r,q,_,_,h=>by simp at h; exact ⟨rfl,h⟩
 | [],c :: b,_,_,_,hb,h=>by
  simp only [List.nil_append,List.cons_append,List.cons.injEq] at h
  exact absurd h.1.symm (hb c (by simp))
 | c :: a,[],_,_,ha,_,h=>by
  simp only [List.nil_append,List.cons_append,List.cons.injEq] at h
  exact absurd h.1 (ha c (by simp))
 | c :: a,d :: b,r,q,ha,hb,h=>by
  simp only [List.cons_append,List.cons.injEq] at h
  obtain ⟨h1,h2⟩:=nl_one a b r q (fun x hx=>ha x (by simp [hx])) (fun x hx=>hb x (by simp [hx])) h.2
  exact ⟨by rw [h.1,h1],h2⟩
theorem NoL.app {a b:List UInt8} (ha:NoL a) (hb:NoL b):NoL (a ++ b):=fun c hc=>by
 rcases List.mem_append.1 hc with h | h
 ·exact ha c h
 ·exact hb c h
theorem nx_line {word word0:List UInt8} {P:List (List UInt8)} {r:List UInt8} (hw:NoB word) (hwl:NoL word) (hw0:NoB word0) (hP:∀ p∈P,NoB p) (hl:NoL (word0 ++ bj P)) {n:Nat} {ns:List Int} {q:List UInt8} (h:Nx (word0 ++ bj P ++ 10 :: r) word n ns q):word0 = word∧Says P ns∧P.length = n∧r = q:=by
 obtain ⟨h1,h2,h3⟩:=h
 obtain ⟨e1,e2⟩:=nl_one _ _ r q hl (hwl.app (lnum_noL ns)) h1
 rw [lnum_bj] at e1
 obtain ⟨e3,e4⟩:=cut_one word0 word P _ hw0 hw hP (fun p hp=>by obtain ⟨n,_,rfl⟩:=List.mem_map.1 hp; exact noB_itoa n) e1
 exact ⟨e3,⟨e4,h3⟩,by rw [e4,List.length_map]; exact h2,e2⟩
theorem nx_none {s word:List UInt8} (h:NoL s):¬ ∃ n ns r,Nx s word n ns r:=fun ⟨_,_,_,h1,_⟩=>h 10 (by rw [h1]; simp) rfl
def Pt (w:World) (R:Nat) (nv:Value) (c d n:Nat):Prop :=
 ∃ p cap,nv = .slice p n cap∧n≤cap∧∀ k,k < n→∃ b o,p = some ⟨b,o,none⟩∧b < w.heap.size∧¬ b = R∧¬ b = c∧w.cell? ⟨b,o+k,none⟩ = some (.pointer (some ⟨c,d+k,none⟩))
def RdPost (w:World) (R:Nat) (s word:List UInt8) (c d n:Nat) (X:List Value) (e:Ending) (w':World):Prop :=
 (∃ ns r,Nx s word n ns r∧e = .returned (.bool true)∧At w' R [.string (bs r)]∧At w' c (setl X d (ns.map (Value.int .i64)))∧Keep (fun x=>x = R∨x = c) w w') ∨
 ((¬ ∃ ns r,Nx s word n ns r)∧e = .returned (.bool false)∧Below w.heap.size w w')
end Go.Proofs.YtanndhoimpnhpaaGreatDoor
namespace Go.Proofs.YtanndhoimpnhpaaGreatDoor
noncomputable def tl (j:Int) (σ:Option Sv) (s:List UInt8):Option Sv:=if (cutL s).2 = [] then fin j σ (cutL s).1 else none
theorem told_tl (s:List UInt8):told s = tl (-1) none s:=rfl
theorem noL_wdk:∀ k,k < 6→NoL (wdk k)
 | 0,_ | 1,_ | 2,_ | 3,_ | 4,_ | 5,_=>by unfold NoL; decide
 | _+6,h=>absurd h (by omega)
theorem noB_wdk (k:Nat) (h:k < 6):NoB (wdk k):=noB_wds k _ (wdk_wds h)
theorem nx_cut {s:List UInt8} {k:Nat} {ns:List Int} {r:List UInt8} (hk:k < 6) (h:Nx s (wdk k) (cnk k) ns r):cutL s = ((wdk k ++ lnum ns) :: (cutL r).1,(cutL r).2)∧Lnk k ns (wdk k ++ lnum ns):=by
 obtain ⟨h1,h2,h3⟩:=h
 refine ⟨?_,h3,wdk k,wdk_wds hk,by rw [cnk_cnt hk,h2],rfl⟩
 rw [h1]
 exact cutL_line _ _ ((noL_wdk k hk).app (lnum_noL ns))
theorem tl_go {j:Int} {σ:Option Sv} {s:List UInt8} {k:Nat} {ns:List Int} {r:List UInt8} {s':Sv} (hk:k < 6) (h:Nx s (wdk k) (cnk k) ns r) (hn:nextOk j k = true) (hs:stepK σ k ns = some s'):tl j σ s = tl k (some s') r:=by
 obtain ⟨h1,h2⟩:=nx_cut hk h
 unfold tl
 rw [h1]
 simp only
 rw [fin_step h2 hn hs]
theorem tl_fail {j:Int} {σ:Option Sv} {s:List UInt8} {k:Nat} {ns:List Int} {r:List UInt8} (hk:k < 6) (h:Nx s (wdk k) (cnk k) ns r) (hs:stepK σ k ns = none):tl j σ s = none:=by
 obtain ⟨h1,h2⟩:=nx_cut hk h
 unfold tl
 rw [h1]
 simp only
 rw [fin_fail h2 hs]
 simp
theorem tl_none {j:Int} {σ:Option Sv} {s:List UInt8} (hj:¬ j = 5) (h:∀ k,k < 6→nextOk j k = true→¬ ∃ ns r,Nx s (wdk k) (cnk k) ns r):tl j σ s = none:=by
 unfold tl
 rcases nl_cases s with hn | ⟨line,r,rfl,hn⟩
 ·rw [cutL_tail s hn]
  split
  ·rw [fin,if_neg hj]
  ·rfl
 ·rw [cutL_line _ _ hn]
  simp only
  split
  ·cases hc:cls line with
   | none=>rw [fin,hc]
   | some p =>
    obtain ⟨k,ns⟩:=p
    have hl:=cls_some hc
    cases hx:nextOk j k with
    | false=>exact fin_not hl hx
    | true =>
     obtain ⟨h1,wa,h2,h3,h4⟩:=hl
     obtain ⟨g1,g2⟩:=wds_wdk h2
     rw [cnk_cnt g1] at h3
     exact absurd ⟨ns,r,by rw [h4,g2],(Option.some.inj h3).symm,h1⟩ (h k g1 hx)
  ·rfl
theorem tl_end (σ:Option Sv) (s:List UInt8):tl 5 σ s = if s = [] then σ else none:=by
 by_cases hs:s = []
 ·subst hs
  simp [tl,cutL,fin]
 ·rw [if_neg hs]
  unfold tl
  rcases nl_cases s with hn | ⟨line,r,rfl,hn⟩
  ·rw [cutL_tail s hn,if_neg hs]
  ·rw [cutL_line _ _ hn]
   simp only
   split
   ·cases hc:cls line with
    | none=>rw [fin,hc]
    | some p =>
     obtain ⟨k,ns⟩:=p
     have hl:=cls_some hc
     obtain ⟨h1,wa,h2,h3,h4⟩:=id hl
     obtain ⟨g1,g2⟩:=wds_wdk h2
     refine fin_not hl ?_
     unfold nextOk
     rw [decide_eq_false_iff_not]
     omega
   ·rfl
theorem fin_same {i j:Int} (hi:¬ i = 5) (hj:¬ j = 5) (h:∀ k,k < 6→nextOk i k = nextOk j k) (σ:Option Sv):∀ ls,fin i σ ls = fin j σ ls
 | []=>by rw [fin,fin,if_neg hi,if_neg hj]
 | line :: r=>by
  rw [fin,fin]
  cases hc:cls line with
  | none=>rfl
  | some p =>
   obtain ⟨k,ns⟩:=p
   obtain ⟨_,_,h2,_⟩:=cls_some hc
   simp only
   rw [h k (wds_wdk h2).1]
theorem tl_01 (σ:Option Sv) (s:List UInt8):tl 0 σ s = tl 1 σ s:=by
 unfold tl
 rw [fin_same (i:=0) (j:=1) (by decide) (by decide) (by decide) σ]
theorem tl_34 (σ:Option Sv) (s:List UInt8):tl 3 σ s = tl 4 σ s:=by
 unfold tl
 rw [fin_same (i:=3) (j:=4) (by decide) (by decide) (by decide) σ]
end Go.Proofs.YtanndhoimpnhpaaGreatDoor
namespace Go.Proofs.YtanndhoimpnhpaaGreatDoor
open Go.ChangeShapes Go.WideShapes Go.RowKit Go.WideMaps Go.Maps
set_option maxRecDepth 100000 in
theorem laidOutP:laidOutB Tryz.prog = true:=by kernel_rfl
theorem rowSlot:(150:TypeId) < Tryz.prog.types.size:=of_decide_eq_true (by kernel_rfl)
theorem wideSlot:(match Tryz.prog.underlying 150 with | some (.array _ _) | some (.struct _)=>true | _=>false) = true:=by kernel_rfl
set_option maxRecDepth 100000 in
theorem lawSlot:KeyLaw Tryz.prog 150:=deep_law_laid laidOutP (m:=2) (by omega) rowSlot (by kernel_rfl) wideSlot
theorem keyedSlot:Keyed Tryz.prog 150:=Keyed.of_law lawSlot
theorem zeroInt (w:World):(zeroValue 3).run Tryz.prog w = .ok (.int .i64 0) w:=by kernel_rfl
set_option maxRecDepth 100000 in
theorem key_ok (d k:Int) (hd:(Lit.int .i64 d).wf = true) (hk:(Lit.int .i64 k).wf = true):keyOf Tryz.prog 150 (.agg #[.int .i64 d,.int .i64 k]) = some (.string (keyBytes [.int .i64 d,.int .i64 k])):=by
 have hkt:Tryz.prog.keyType 150 = true:=by kernel_rfl
 have hsz:∃ m,Tryz.prog.types.size = m+1:=⟨Tryz.prog.types.size - 1,by have h0:0 < Tryz.prog.types.size:=Nat.lt_of_le_of_lt (Nat.zero_le _) rowSlot; omega⟩
 obtain ⟨fs, hu, hfs⟩ : ∃ fs, Tryz.prog.underlying 150 = some (.struct fs) ∧ (fs.all (·.name != "_") = true ∧ fs.toList.map (fun f => (f.type, f.offset)) = [(3, 0), (3, 1)]) := ⟨_, Tryz.underlying150, by kernel_rfl, by kernel_rfl⟩
 have hc:Tryz.prog.cellsOf 150 = 2:=by kernel_rfl
 have hci:Tryz.prog.cellsOf 3 = 1:=by kernel_rfl
 have hui:Tryz.prog.underlying 3 = some (.int .i64):=by kernel_rfl
 obtain ⟨hn,hfs⟩:=hfs
 obtain ⟨m,hm⟩:=hsz
 unfold keyOf
 simp only [hu]
 rw [if_pos (by simp [hkt,Value.formed,hu,hc]),hm]
 unfold Program.keyLits
 simp only [hu,Value.cells]
 rw [if_pos ⟨by rw [hc]; rfl,hn⟩]
 obtain ⟨f1,f2,hl,e1,e2,e3,e4⟩:∃ f1 f2,fs.toList = [f1,f2]∧f1.type = 3∧f1.offset = 0∧f2.type = 3∧f2.offset = 1:=by
  obtain ⟨l⟩:=fs
  match l,hfs with
  | [f1,f2],h1 =>
   simp only [List.map_cons,List.map_nil,List.cons.injEq,Prod.mk.injEq] at h1
   exact ⟨f1,f2,rfl,h1.1.1,h1.1.2,h1.2.1.1,h1.2.1.2⟩
 rw [hl,List.mapM_cons,List.mapM_cons,List.mapM_nil]
 simp [e1,e2,e3,e4,hci,Program.keyLits,hui,hd,hk]
theorem wf64 (n:Int) (h:-9223372036854775808≤n∧n≤9223372036854775807):(Lit.int .i64 n).wf = true:=by
 have:=wrap64_wf n
 rwa [show wrap64 n = n by unfold wrap64; omega] at this
def I64 (n:Int):Prop:=-9223372036854775808≤n∧n≤9223372036854775807
theorem wp_lookup_run {Pr:Program} {o:Oper} {a:Act} {w:World} {K:Act→World→Prop} {Q:Exit→Act→World→Prop} (m x:Operand) (t:TypeId) (ho:o.op = .lookup t m x false) (mv kv:Value) (hm:a.eval m = mv) (hx:a.eval x = kv) {v:Value} {w':World}
  (hr:(Instr.lookup t mv kv false).run Pr w = .ok v w') (h:K (a.put o.dst v) w'):o.wp Pr a w K Q:=by
 unfold Oper.wp
 simp [execOp,ho,hm,hx,hr,Result.andThen]
 exact h
theorem wp_entry_run {Pr:Program} {o:Oper} {a:Act} {w:World} {K:Act→World→Prop} {Q:Exit→Act→World→Prop} (m x:Operand) (t:TypeId) (ho:o.op = .mapEntry t m x) (mv kv:Value) (hm:a.eval m = mv) (hx:a.eval x = kv) {v:Value} {w':World}
  (hr:(Instr.mapEntry t mv kv).run Pr w = .ok v w') (h:K (a.put o.dst v) w'):o.wp Pr a w K Q:=by
 unfold Oper.wp
 simp [execOp,ho,hm,hx,hr,Result.andThen]
 exact h
theorem wp_entryStore_run {Pr:Program} {o:Oper} {a:Act} {w:World} {K:Act→World→Prop} {Q:Exit→Act→World→Prop} (m x y:Operand) (t:TypeId) (ho:o.op = .entryStore t m x y) (mv kv yv:Value) (hm:a.eval m = mv) (hx:a.eval x = kv) (hy:a.eval y = yv) {w':World}
  (hr:(Instr.entryStore t mv kv yv).run Pr w = .ok () w') (h:K (a.put o.dst undef) w'):o.wp Pr a w K Q:=by
 unfold Oper.wp
 simp [execOp,ho,hm,hx,hy,hr,Result.andThen]
 exact h
theorem keep_setBlock {w:World} {b:Nat} {es:Array MapEntry} {clock:Nat} (hb:w.heap[b]? = some (.map es clock)) (o':Obj):Keep (fun x=>x = b) w (ChangeMaps.setBlock w b o') :=
 ⟨rfl,rfl,rfl,by simp [ChangeMaps.setBlock],fun i _ hi=>ChangeMaps.heap_setBlock_other hb _ (fun e=>hi (by rw [e]))⟩
theorem keep_grown {w w':World} {b:Nat} (h:w.grownBy w' (some b)):Keep (fun x=>x = b) w w':=⟨h.os,h.tape,h.output,h.size,fun j hj hs=>h.block j hj (fun e=>hs (by cases e; rfl))⟩
def MapIs (w:World) (b n:Nat) (f:Int→Int→Int):Prop :=
 ∃ D:DataW Unit,w.ownsMap Tryz.prog 150 (plainElem Tryz.prog 3) b n D∧∀ d k l,keyOf Tryz.prog 150 (.agg #[.int .i64 d,.int .i64 k]) = some l→D.atKey l (.lit (.int .i64 0)) = .lit (.int .i64 (f d k))
theorem MapIs.lt {w:World} {b n:Nat} {f:Int→Int→Int} (h:MapIs w b n f):b < w.heap.size:=by
 obtain ⟨D,h,_⟩:=h
 exact h.lt
theorem MapIs.block {w w':World} {b n:Nat} {f:Int→Int→Int} (h:MapIs w b n f) (hb:w'.heap[b]? = w.heap[b]?):MapIs w' b n f:=by
 obtain ⟨D,⟨es,clock,h0,F,hs,hD⟩,h2⟩:=h
 exact ⟨D,⟨es,clock,hb.trans h0,F,hs,hD⟩,h2⟩
theorem MapIs.made (w:World):MapIs (w.alloc (.map #[] 0)) w.heap.size 0 (fun _ _=>0):=⟨.map [],World.ownsMap_made _ _ _ _,fun _ _ _ _=>rfl⟩
set_option maxRecDepth 100000 in
theorem MapIs.look {w:World} {b n:Nat} {f:Int→Int→Int} (h:MapIs w b n f) (d k:Int) (hd:I64 d) (hk:I64 k) :
  (Instr.lookup 146 (.map (some b)) (.agg #[.int .i64 d,.int .i64 k]) false).run Tryz.prog w = .ok (.int .i64 (f d k)) w:=by
 obtain ⟨D,h,h2⟩:=h
 have hkey:=key_ok d k (wf64 d hd) (wf64 k hk)
 obtain ⟨c,hrun,hat,_⟩:=h.lookup_int keyedSlot Tryz.underlying146 Tryz.underlying3 (zeroInt w) hkey
 have:=h2 d k _ hkey
 rw [hat] at this
 injection this with e
 injection e with _ e
 rw [hrun,e]
set_option maxRecDepth 100000 in
theorem MapIs.store {w:World} {b n:Nat} {f:Int→Int→Int} (h:MapIs w b n f) (hn:n < maxLen) (d k:Int) (hd:I64 d) (hk:I64 k) :
  ∃ (v0:Value) (st:Nat) (es1:Array MapEntry) (clock1:Nat),(Instr.mapEntry 146 (.map (some b)) (.agg #[.int .i64 d,.int .i64 k])).run Tryz.prog w = .ok (.tuple #[v0,goInt st]) (ChangeMaps.setBlock w b (.map es1 clock1)) ∧
   Keep (fun x=>x = b) w (ChangeMaps.setBlock w b (.map es1 clock1)) ∧
   (Instr.lookup 146 (.map (some b)) (.agg #[.int .i64 d,.int .i64 k]) false).run Tryz.prog (ChangeMaps.setBlock w b (.map es1 clock1)) = .ok (.int .i64 (f d k)) (ChangeMaps.setBlock w b (.map es1 clock1)) ∧
   ∀ (a:Int),I64 a→∃ w',(Instr.entryStore 146 (.map (some b)) (goInt st) (.int .i64 a)).run Tryz.prog (ChangeMaps.setBlock w b (.map es1 clock1)) = .ok () w' ∧
    MapIs w' b (n+1) (fun x y=>if x = d∧y = k then a else f x y)∧w.grownBy w' (some b):=by
 have hl:=h.look d k hd hk
 obtain ⟨D,hown,h2⟩:=h
 have hkey:=key_ok d k (wf64 d hd) (wf64 k hk)
 have hz:∀ u:World,(zeroValue 3).run Tryz.prog u = .ok (.int .i64 0) u:=zeroInt
 have hown0:=hown
 obtain ⟨es,clock,hb,F,hs,hD⟩:=hown
 obtain ⟨v0,st,es1,clock1,r1,r2,r3⟩:=Go.WideElems.entry_then_store lawSlot Tryz.underlying146 hz hb F hkey
 generalize hkv:Value.agg #[.int .i64 d,.int .i64 k] = key at *
 refine ⟨v0,st,es1,clock1,r1,keep_setBlock hb _,?_,?_⟩
 ·rcases lawSlot.find w hkey es.toList F.keys with ⟨q1,q2⟩ | ⟨j,e0,q1,q2,q3⟩
  ·have hf:f d k = 0:=by
    rcases Maps.fit_look false keyedSlot Tryz.underlying146 (hz w) hb F hkey with ⟨hrun,_,_⟩ | ⟨e0,y,hm,hk0,_⟩
    ·rw [hl] at hrun
     have a:=(Result.ok.inj hrun).1
     exact (Value.int.inj a).2
    ·exact absurd hk0 (q2 e0 hm)
   have hup:(Instr.mapUpdate 146 (.map (some b)) key (.int .i64 0)).run Tryz.prog w = .ok () (ChangeMaps.setBlock w b (.map (es.push ⟨key,.int .i64 0,clock⟩) (clock+1))):=by
    simp [Instr.mapUpdate,run_underlying Tryz.underlying146,MapKept.run_getObj_map hb,lawSlot.check w false hkey,q1,MapKept.run_setObj_map _ hb,Result.andThen,ChangeMaps.setBlock]
   have hen:(Instr.mapEntry 146 (.map (some b)) key).run Tryz.prog w = .ok (.tuple #[.int .i64 0,goInt clock]) (ChangeMaps.setBlock w b (.map (es.push ⟨key,.int .i64 0,clock⟩) (clock+1))):=by
    simp [Instr.mapEntry,run_underlying Tryz.underlying146,MapKept.run_getObj_map hb,lawSlot.check w false hkey,q1,hz,MapKept.run_setObj_map _ hb,Result.andThen,ChangeMaps.setBlock]
   rw [hen] at r1
   have ew:=(Result.ok.inj r1).2
   rw [← ew]
   obtain ⟨w',u1,u2,_⟩:=hown0.update keyedSlot Tryz.underlying146 hn hkey (plainElem_int Tryz.underlying3 (wf64 0 (by decide)))
   rw [hup] at u1
   have ew':=(Result.ok.inj u1).2
   rw [ew']
   obtain ⟨c,hrun,hat,_⟩:=u2.lookup_int keyedSlot Tryz.underlying146 Tryz.underlying3 (zeroInt w') hkey
   rw [hrun,hf]
   have hm:IsMap D:=⟨_,hD⟩
   rw [atKey_put_same hm (keyedSlot.key hkey)] at hat
   injection hat with e
   injection e with _ e
   rw [← e]
  ·have hj:es[j]? = some e0:=by simpa using q2
   have hsame:es.modify j (fun e=>{ e with key:=key }) = es:=by
    apply Array.ext'
    rw [Array.toList_modify,ChangeMaps.modify_eq_set _ _ _ _ q2]
    have:({ e0 with key:=key }:MapEntry) = e0:=by rw [← q3]
    rw [this]
    exact Go.WideElems.set_self _ _ _ q2
   have hen:(Instr.mapEntry 146 (.map (some b)) key).run Tryz.prog w = .ok (.tuple #[e0.val,goInt e0.born]) (ChangeMaps.setBlock w b (.map es clock)):=by
    simp [Instr.mapEntry,run_underlying Tryz.underlying146,MapKept.run_getObj_map hb,lawSlot.check w false hkey,q1,hj,q3,lawSlot.stays w hkey,hsame,MapKept.run_setObj_map _ hb,Result.andThen,ChangeMaps.setBlock]
   rw [hen] at r1
   have ew:=(Result.ok.inj r1).2
   rw [← ew]
   have hM:MapIs (ChangeMaps.setBlock w b (.map es clock)) b n f:=MapIs.block ⟨D,hown0,h2⟩ ((ChangeMaps.heap_setBlock_same hb _).trans hb.symm)
   have:=hM.look d k hd hk
   rw [hkv] at this
   exact this
 ·intro a ha
  obtain ⟨es',clock',e1,e2⟩:=r3 (ChangeMaps.setBlock w b (.map es1 clock1)) (.int .i64 a) (ChangeMaps.heap_setBlock_same hb _)
  refine ⟨_,e1,?_⟩
  have hset:ChangeMaps.setBlock (ChangeMaps.setBlock w b (.map es1 clock1)) b (.map es' clock') = ChangeMaps.setBlock w b (.map es' clock'):=by
   simp [ChangeMaps.setBlock]
  rw [hset]
  obtain ⟨w',u1,u2,u3⟩:=hown0.update keyedSlot Tryz.underlying146 hn hkey (plainElem_int Tryz.underlying3 (wf64 a ha))
  rw [e2] at u1
  have ew':=(Result.ok.inj u1).2
  rw [ew']
  refine ⟨⟨_,u2,fun x y l hxy=>?_⟩,u3⟩
  by_cases hx:x = d∧y = k
  ·obtain ⟨rfl,rfl⟩:=hx
   show _ = DataW.lit (Lit.int .i64 (if x = x∧y = y then a else f x y))
   rw [if_pos ⟨rfl,rfl⟩]
   rw [hkv,hkey] at hxy
   cases hxy
   exact atKey_put_same ⟨_,hD⟩ (keyedSlot.key hkey) _ _
  ·show _ = DataW.lit (Lit.int .i64 (if x = d∧y = k then a else f x y))
   rw [if_neg hx,← h2 x y l hxy]
   refine atKey_put_other ?_ _ _
   intro e
   subst e
   have:=keyedSlot.inj hxy hkey
   rw [← hkv] at this
   injection this with this
   injection this with this
   injection this with t1 t2
   injection t2 with t2
   injection t1 with _ t1
   injection t2 with _ t2
   exact hx ⟨t1,t2⟩
def sumOf (l:List En) (d k:Int):Int:=l.foldl (fun s e=>if d = e.d∧k = e.k then wrap64 (s+e.a) else s) 0
theorem sumOf_snoc (l:List En) (e:En) (d k:Int):sumOf (l ++ [e]) d k = if d = e.d∧k = e.k then wrap64 (sumOf l d k+e.a) else sumOf l d k:=by
 unfold sumOf
 rw [List.foldl_append]
 rfl
theorem wrap64_i64 (n:Int):I64 (wrap64 n):=by
 unfold I64 wrap64
 omega
theorem sumOf_i64 (l:List En) (d k:Int):I64 (sumOf l d k):=by
 suffices h:∀ (l:List En) (s:Int),I64 s→I64 (l.foldl (fun s e=>if d = e.d∧k = e.k then wrap64 (s+e.a) else s) s) from h l 0 (by unfold I64; decide)
 intro l
 induction l with
 | nil=>intro s h; exact h
 | cons e r ih =>
  intro s h
  refine ih _ ?_
  show I64 (if d = e.d∧k = e.k then wrap64 (s+e.a) else s)
  split
  ·exact wrap64_i64 _
  ·exact h
theorem infoEntry:(Tryz.prog.info? 114).map (fun i=>(i.zero,i.size,i.bytes)) = some (some (.agg #[.int .i64 0,.int .i64 0,.int .i64 0]),3,24):=by kernel_rfl
structure BkIs (w:World) (P:Nat) (bkv:Value) (Mb:Nat) (L:List En):Prop where
 pl:At w P [bkv,.map (some Mb)]
 ow:w.ownsRow (P+1) 114 3 bkv L.length (ens L)
 mp:MapIs w Mb L.length (sumOf L)
 lt:Mb < P
def BkS (P Mb:Nat) (bkv:Value) (b:Nat):Prop:=b = P∨b = Mb∨bkv.ownBlock = some b
theorem BkIs.own {w:World} {P:Nat} {bkv:Value} {Mb:Nat} {L:List En} (h:BkIs w P bkv Mb L) {b:Nat} (hb:bkv.ownBlock = some b):P < b∧b < w.heap.size:=own_base h.ow hb
theorem BkIs.keep {S:Nat→Prop} {w w':World} {P:Nat} {bkv:Value} {Mb:Nat} {L:List En} (h:BkIs w P bkv Mb L) (hk:Keep S w w') (hs:∀ b,BkS P Mb bkv b→¬ S b):BkIs w' P bkv Mb L :=
 ⟨At.keep h.pl hk (hs P (.inl rfl)),own_keep h.ow hk (fun b hb=>hs b (.inr (.inr hb))),h.mp.block (hk.block Mb h.mp.lt (hs Mb (.inr (.inl rfl)))),h.lt⟩
theorem BkIs.drew {w:World} {P:Nat} {bkv:Value} {Mb:Nat} {L:List En} (h:BkIs w P bkv Mb L):BkIs w.drew P bkv Mb L:=⟨h.pl.drew,h.ow.drew,h.mp,h.lt⟩
set_option maxRecDepth 100000 in
set_option maxHeartbeats 4000000 in
theorem write_any (w:World) (P:Nat) (bkv:Value) (Mb:Nat) (L:List En) (h:BkIs w P bkv Mb L) (hL:L.length+1≤5000000000000) (d k a:Int) (hd:I64 d) (hk:I64 k) (ha:I64 a) :
  Calls Tryz.prog 81 #[.pointer (some ⟨P,0,none⟩),.agg #[.int .i64 d,.int .i64 k,.int .i64 a]] w fun e w'=>e = .returned (.tuple #[])∧∃ bkv',BkIs w' P bkv' Mb (L ++ if a = 0 then [] else [⟨d,k,a⟩])∧OwnNew w bkv bkv'∧Keep (BkS P Mb bkv) w w':=by
 obtain ⟨i0,hi,hz0,hz1,hz2⟩:=info_parts infoEntry
 have HB:=hid h
 clear h
 by_cases hz:a = 0
 ·subst hz
  go_enter Tryz.func81,Tryz.ntmps81
  go_wp2
  refine bodyPost_ret (results_none rfl _ _ _) rfl ?_
  have kk:Keep (fun _=>False) w (w.alloc (.cells #[.int .i64 d,.int .i64 k,.int .i64 0] 114)):=Keep.below ((Below.refl _ _).alloc (Nat.le_refl _) _)
  refine ⟨rfl,bkv,?_,.inl rfl,kk.mono (fun _ _ h=>h.elim)⟩
  exact HB.out.keep kk (fun _ _ h=>h)
 ·have hzb:(a == 0) = false:=by simp [hz]
  have HI:Hid (I64 d∧I64 k∧I64 a):=⟨hd,hk,ha⟩
  have HZ:=hid hz
  clear hd hk ha hz
  go_enter Tryz.func81,Tryz.ntmps81
  go_upto_region 2 with fail
  have HE:Hid (At (w.alloc (.cells #[.int .i64 d,.int .i64 k,.int .i64 a] 114)) w.heap.size [.int .i64 d,.int .i64 k,.int .i64 a]):=At.alloc w _ _
  have HK0:Hid (Keep (fun _=>False) w (w.alloc (.cells #[.int .i64 d,.int .i64 k,.int .i64 a] 114))):=Keep.below ((Below.refl _ _).alloc (Nat.le_refl _) _)
  have HPE:Hid (∀ b,BkS P Mb bkv b→¬ b = w.heap.size):=fun b hb hE=>by
   have h1:=At.lt HB.out.pl
   have h2:=HB.out.lt
   rcases hb with hb | hb | hb
   ·omega
   ·omega
   ·have:=(HB.out.own hb).2; omega
  generalize w.alloc (.cells #[.int .i64 d,.int .i64 k,.int .i64 a] 114) = V at *
  generalize w.heap.size = E at *
  go_cut [] from 7 to 16 (fun wx=>∃ bkv2,At wx P [bkv2,.map (some Mb)]∧wx.ownsRow (P+1) 114 3 bkv2 (L.length+1) (ens L ++ [.int .i64 d,.int .i64 k,.int .i64 a])∧MapIs wx Mb L.length (sumOf L)∧At wx E [.int .i64 d,.int .i64 k,.int .i64 a]∧Keep (BkS P Mb bkv) V wx∧OwnNew V bkv bkv2)
  case first =>
   have hb:=HB.out.keep HK0.out (fun _ _ h=>h)
   have HSS:Hid (∀ wz,Keep (BkS P Mb bkv) V wz→At wz E [.int .i64 d,.int .i64 k,.int .i64 a]):=fun wz hk=>At.keep HE.out hk (fun h=>HPE.out E h rfl)
   obtain ⟨p0,cap0,rfl⟩:=own_slice hb.ow
   have oU:=hb.ow.drew
   have aU:At V.drew P [.slice p0 L.length cap0,.map (some Mb)]:=hb.pl.drew
   have mU:MapIs V.drew Mb L.length (sumOf L):=hb.mp
   have kU:Keep (BkS P Mb (.slice p0 L.length cap0)) V V.drew:=(Keep.refl _ _).drew
   have hPl:P < V.drew.heap.size:=At.lt aU
   have hMP:=hb.lt
   clear hb
   refine wp_region_held_drew (S:=fun wz=>At wz E [.int .i64 d,.int .i64 k,.int .i64 a]) (by kernel_rfl) (HSS.out _ kU) (fun hHeld=>?_)
   generalize V.drew = U at *
   have u6:U.cell? ⟨P,0,none⟩ = some (.slice p0 L.length cap0):=aU.cell 0 rfl
   have oU1:=oU.alloc (.cells #[.int .i64 d,.int .i64 k,.int .i64 a] 114)
   have aU1:At (U.alloc (.cells #[.int .i64 d,.int .i64 k,.int .i64 a] 114)) P [.slice p0 L.length cap0,.map (some Mb)]:=At.over aU _
   have mU1:MapIs (U.alloc (.cells #[.int .i64 d,.int .i64 k,.int .i64 a] 114)) Mb L.length (sumOf L):=mU.block (Keep.below (S:=fun _=>False) ((Below.refl _ _).alloc (Nat.le_refl _) _) |>.block Mb mU.lt (fun h=>h))
   have nU1:At (U.alloc (.cells #[.int .i64 d,.int .i64 k,.int .i64 a] 114)) U.heap.size [.int .i64 d,.int .i64 k,.int .i64 a]:=At.alloc U _ _
   have kU1:Keep (BkS P Mb (.slice p0 L.length cap0)) V (U.alloc (.cells #[.int .i64 d,.int .i64 k,.int .i64 a] 114)):=kU.trans (Keep.below ((Below.refl _ _).alloc (Nat.le_refl _) _))
   have u7:(U.alloc (.cells #[.int .i64 d,.int .i64 k,.int .i64 a] 114)).cell? ⟨P,0,none⟩ = some (.slice p0 L.length cap0):=aU1.cell 0 rfl
   have gsz:P+1≤(U.alloc (.cells #[.int .i64 d,.int .i64 k,.int .i64 a] 114)).heap.size:=by simp; omega
   refine tkg 0 (.pointer (some ⟨P,0,none⟩)) rfl ?_
   simp only [uP]
   refine tkg 1 (.pointer (some ⟨P,0,none⟩)) rfl ?_
   simp only [uP]
   refine tkg 2 (.pointer (some ⟨P,0,none⟩)) rfl ?_
   simp only [uP]
   refine tkg 3 (.pointer (some ⟨P,0,none⟩)) rfl ?_
   simp only [uP]
   refine wpAnyH_take (i:=5) (v:=(.agg #[.int .i64 d,.int .i64 k,.int .i64 a])) rfl (by kernel_rfl) (by kernel_rfl) (by kernel_rfl) (fun _ _ _ h=>h) (yieldsIf_load_mid (by rfl) 114 (.tmp 3) rfl _ _ rfl _ _ (fun _ h=>At.range h) Tryz.underlying114 rfl (by kernel_rfl)) (by assumption) ?_
   simp only [uP]
   refine wpAnyH_ready (rs:=[4,6]) (by kernel_rfl) (by simp) ?_
   refine AllReadyH.cons rfl (fun K hK=>?_) (AllReadyH.cons rfl (fun K hK=>?_) AllReadyH.nil)
   ·go_simp
    refine hK.out _ _ hHeld (fun _=>?_)
    clear hK K
    refine rdy 6 rfl (fun K hK=>?_)
    rw [if_pos (by rfl)]
    refine wp_valD (.slice (some ⟨U.heap.size,0,none⟩) 1 1) (U.alloc (.cells #[.int .i64 d,.int .i64 k,.int .i64 a] 114)) (by kernel_rfl) ?_
    refine hK.out _ _ (HSS.out _ kU1) (fun _=>?_)
    clear hK K u6 u7 oU aU kU hHeld
    simp only [uP]
    generalize U.alloc (.cells #[.int .i64 d,.int .i64 k,.int .i64 a] 114) = U1 at *
    generalize hNN:U.heap.size = NN at *
    refine rdy 7 rfl (fun K hK=>?_)
    rw [if_pos (by rfl)]
    refine wp_append_at U1 (.tmp 11) (.tmp 13) 54 rfl (P+1) 114 i0 (.agg #[.int .i64 0,.int .i64 0,.int .i64 0]) 3 24 Tryz.underlying54 hi hz0 hz1 hz2 rfl (by decide) _ _ _ rfl oU1 ⟨NN,0,none⟩ 1 1 [.int .i64 d,.int .i64 k,.int .i64 a] rfl rfl ?_ ?_ ?_ ?_ ?_ ?_
    ·intro j u hj
     have:=(nU1 j u hj).1
     by_cases j0:j = 0
     ·subst j0; simpa [Addr.add] using this
     ·simpa [Addr.add,j0] using this
    ·intro u hu
     simp at hu
     rcases hu with rfl | rfl | rfl <;> rfl
    ·unfold maxLen; omega
    ·omega
    ·omega
    intro v' w' h2 h3 hat
    have kp3:Keep (fun b=>some b = (Value.slice p0 L.length cap0).ownBlock) U1 w':=⟨h3.os,h3.tape,h3.output,h3.size,fun j hj hs=>h3.block j hj hs⟩
    have kv:Keep (BkS P Mb (.slice p0 L.length cap0)) V w':=kU1.trans (kp3.mono (fun b _ h=>.inr (.inr h.symm)))
    have aw:At w' P [.slice p0 L.length cap0,.map (some Mb)]:=At.keep aU1 kp3 (fun h=>by have:=(own_base oU1 h.symm).1; omega)
    obtain ⟨g',cap',rfl,_,_⟩:=h2.form (by omega)
    refine hK.out _ _ (HSS.out w' kv) (fun _=>?_)
    clear hK K
    simp only [uP]
    refine tkg 8 (.pointer (some ⟨P,0,none⟩)) rfl ?_
    simp only [uP]
    refine tkg 9 (.pointer (some ⟨P,0,none⟩)) rfl ?_
    simp only [uP]
    refine rdy 10 rfl (fun K hK=>?_)
    have y6:w'.cell? ⟨P,0,none⟩ = some (.slice p0 L.length cap0):=aw.cell 0 rfl
    have y7:w'.frozen? ⟨P,0,none⟩ = false:=aw.free 0 rfl
    go_simp
    have kv2:=kv.set (S:=BkS P Mb (.slice p0 L.length cap0)) (.inl rfl) 0 (.slice (some ⟨g',0,none⟩) (L.length+1) cap')
    have aw2:At (w'.setCell ⟨P,0,none⟩ (.slice (some ⟨g',0,none⟩) (L.length+1) cap')) P [.slice (some ⟨g',0,none⟩) (L.length+1) cap',.map (some Mb)]:=aw.set 0 (show 0 < 2 by decide) _
    have ow2:(w'.setCell ⟨P,0,none⟩ (.slice (some ⟨g',0,none⟩) (L.length+1) cap')).ownsRow (P+1) 114 3 (.slice (some ⟨g',0,none⟩) (L.length+1) cap') (L.length+1) (ens L ++ [.int .i64 d,.int .i64 k,.int .i64 a]):=ownsRow_setCell_below h2 (Nat.lt_succ_self P) _
    have kp4:Keep (fun b=>b = P∨some b = (Value.slice p0 L.length cap0).ownBlock) U1 (w'.setCell ⟨P,0,none⟩ (.slice (some ⟨g',0,none⟩) (L.length+1) cap')):=(kp3.mono (fun b _ h=>.inr h)).set (S:=fun b=>b = P∨some b = (Value.slice p0 L.length cap0).ownBlock) (.inl rfl) 0 _
    refine hK.out _ _ (HSS.out _ kv2) (fun _=>?_)
    have mp2:=mU1.block (kp4.block Mb mU1.lt (fun h=>h.elim (fun h=>by omega) (fun h=>by have:=(own_base oU1 h.symm).1; omega)))
    have hnew:OwnNew V (.slice p0 L.length cap0) (.slice (some ⟨g',0,none⟩) (L.length+1) cap'):=hat.elim .inl (fun h=>.inr ⟨_,h,kU1.size⟩)
    clear hK K h2 h3 y6 y7 aw kv hat oU1 aU1 nU1 kU1 kp3 kp4 mU1
    generalize w'.setCell ⟨P,0,none⟩ (.slice (some ⟨g',0,none⟩) (L.length+1) cap') = w9 at *
    refine wpAnyH_done (by kernel_rfl) ?_ _
    go_wp2_with fail
    go_meet
    case rel=>exact ⟨_,aw2,ow2,mp2,HSS.out _ kv2,kv2,hnew⟩
   ·rw [if_pos (by rfl)]
    refine wp_valD (.slice (some ⟨U.heap.size,0,none⟩) 1 1) (U.alloc (.cells #[.int .i64 d,.int .i64 k,.int .i64 a] 114)) (by kernel_rfl) ?_
    refine hK.out _ _ (HSS.out _ kU1) (fun hHeld2=>?_)
    clear hK K u6
    simp only [uP]
    refine rdy 4 rfl (fun K hK=>?_)
    go_simp
    refine hK.out _ _ hHeld2 (fun _=>?_)
    clear hK K u7 oU aU kU hHeld hHeld2
    generalize U.alloc (.cells #[.int .i64 d,.int .i64 k,.int .i64 a] 114) = U1 at *
    generalize hNN:U.heap.size = NN at *
    refine rdy 7 rfl (fun K hK=>?_)
    rw [if_pos (by rfl)]
    refine wp_append_at U1 (.tmp 11) (.tmp 13) 54 rfl (P+1) 114 i0 (.agg #[.int .i64 0,.int .i64 0,.int .i64 0]) 3 24 Tryz.underlying54 hi hz0 hz1 hz2 rfl (by decide) _ _ _ rfl oU1 ⟨NN,0,none⟩ 1 1 [.int .i64 d,.int .i64 k,.int .i64 a] rfl rfl ?_ ?_ ?_ ?_ ?_ ?_
    ·intro j u hj
     have:=(nU1 j u hj).1
     by_cases j0:j = 0
     ·subst j0; simpa [Addr.add] using this
     ·simpa [Addr.add,j0] using this
    ·intro u hu
     simp at hu
     rcases hu with rfl | rfl | rfl <;> rfl
    ·unfold maxLen; omega
    ·omega
    ·omega
    intro v' w' h2 h3 hat
    have kp3:Keep (fun b=>some b = (Value.slice p0 L.length cap0).ownBlock) U1 w':=⟨h3.os,h3.tape,h3.output,h3.size,fun j hj hs=>h3.block j hj hs⟩
    have kv:Keep (BkS P Mb (.slice p0 L.length cap0)) V w':=kU1.trans (kp3.mono (fun b _ h=>.inr (.inr h.symm)))
    have aw:At w' P [.slice p0 L.length cap0,.map (some Mb)]:=At.keep aU1 kp3 (fun h=>by have:=(own_base oU1 h.symm).1; omega)
    obtain ⟨g',cap',rfl,_,_⟩:=h2.form (by omega)
    refine hK.out _ _ (HSS.out w' kv) (fun _=>?_)
    clear hK K
    simp only [uP]
    refine tkg 8 (.pointer (some ⟨P,0,none⟩)) rfl ?_
    simp only [uP]
    refine tkg 9 (.pointer (some ⟨P,0,none⟩)) rfl ?_
    simp only [uP]
    refine rdy 10 rfl (fun K hK=>?_)
    have y6:w'.cell? ⟨P,0,none⟩ = some (.slice p0 L.length cap0):=aw.cell 0 rfl
    have y7:w'.frozen? ⟨P,0,none⟩ = false:=aw.free 0 rfl
    go_simp
    have kv2:=kv.set (S:=BkS P Mb (.slice p0 L.length cap0)) (.inl rfl) 0 (.slice (some ⟨g',0,none⟩) (L.length+1) cap')
    have aw2:At (w'.setCell ⟨P,0,none⟩ (.slice (some ⟨g',0,none⟩) (L.length+1) cap')) P [.slice (some ⟨g',0,none⟩) (L.length+1) cap',.map (some Mb)]:=aw.set 0 (show 0 < 2 by decide) _
    have ow2:(w'.setCell ⟨P,0,none⟩ (.slice (some ⟨g',0,none⟩) (L.length+1) cap')).ownsRow (P+1) 114 3 (.slice (some ⟨g',0,none⟩) (L.length+1) cap') (L.length+1) (ens L ++ [.int .i64 d,.int .i64 k,.int .i64 a]):=ownsRow_setCell_below h2 (Nat.lt_succ_self P) _
    have kp4:Keep (fun b=>b = P∨some b = (Value.slice p0 L.length cap0).ownBlock) U1 (w'.setCell ⟨P,0,none⟩ (.slice (some ⟨g',0,none⟩) (L.length+1) cap')):=(kp3.mono (fun b _ h=>.inr h)).set (S:=fun b=>b = P∨some b = (Value.slice p0 L.length cap0).ownBlock) (.inl rfl) 0 _
    refine hK.out _ _ (HSS.out _ kv2) (fun _=>?_)
    have mp2:=mU1.block (kp4.block Mb mU1.lt (fun h=>h.elim (fun h=>by omega) (fun h=>by have:=(own_base oU1 h.symm).1; omega)))
    have hnew:OwnNew V (.slice p0 L.length cap0) (.slice (some ⟨g',0,none⟩) (L.length+1) cap'):=hat.elim .inl (fun h=>.inr ⟨_,h,kU1.size⟩)
    clear hK K h2 h3 y6 y7 aw kv hat oU1 aU1 nU1 kU1 kp3 kp4 mU1
    generalize w'.setCell ⟨P,0,none⟩ (.slice (some ⟨g',0,none⟩) (L.length+1) cap') = w9 at *
    refine wpAnyH_done (by kernel_rfl) ?_ _
    go_wp2_with fail
    go_meet
    case rel=>exact ⟨_,aw2,ow2,mp2,HSS.out _ kv2,kv2,hnew⟩
  case rest =>
   obtain ⟨bkv2,a2,o2,m2,e2,k2,n2⟩:=hcut
   obtain ⟨hd,hk,ha⟩:=HI.out
   have hP:=At.lt HB.out.pl
   have hMP:=HB.out.lt
   have hPM:¬ P = Mb:=by omega
   have hEM:¬ E = Mb:=fun e=>HPE.out Mb (.inr (.inl rfl)) e.symm
   have ap:wc.drew.cell? ⟨P,1,none⟩ = some (.map (some Mb)):=a2.cell 1 rfl
   have aE:At wc.drew E [.int .i64 d,.int .i64 k,.int .i64 a]:=e2.drew
   have md:MapIs wc.drew Mb L.length (sumOf L):=m2
   obtain ⟨v0,st,es1,clock1,hen,kd,hlk2,hsto⟩:=md.store (by unfold maxLen; omega) d k hd hk
   have hlk1:=md.look d k hd hk
   obtain ⟨w5,hst,hmp,hgr⟩:=hsto (wrap64 (sumOf L d k+a)) (wrap64_i64 _)
   have k5:Keep (fun b=>b = Mb) wc w5:=(Keep.refl _ _).drew.trans (keep_grown hgr)
   have HT:Hid (∃ bkv',BkIs w5 P bkv' Mb (L ++ [⟨d,k,a⟩])∧OwnNew w bkv bkv'∧Keep (BkS P Mb bkv) w w5):=by
    refine ⟨bkv2,⟨At.keep a2 k5 hPM,?_,?_,hMP⟩,?_,?_⟩
    ·rw [ens_append,List.length_append]
     exact own_keep o2 k5 (fun b hb e=>by have:=(own_base o2 hb).1; omega)
    ·rw [List.length_append]
     have hs:sumOf (L ++ [⟨d,k,a⟩]) = fun x y=>if x = d∧y = k then wrap64 (sumOf L d k+a) else sumOf L x y:=by
      funext x y
      rw [sumOf_snoc]
      by_cases hx:x = d∧y = k
      ·rw [if_pos hx,if_pos hx,hx.1,hx.2]
      ·rw [if_neg hx,if_neg hx]
     rw [hs]
     exact hmp
    ·rcases n2 with h | ⟨b,h1,h2⟩
     ·exact .inl h
     ·exact .inr ⟨b,h1,Nat.le_trans HK0.out.size h2⟩
    ·exact (HK0.out.mono (fun _ _ h=>h.elim)).trans (k2.trans (k5.mono (fun b _ h=>.inr (.inl h))))
   have hs1:wc.drew.cell? ⟨P,1,none⟩ = some (.map (some Mb))∧At wc.drew E [.int .i64 d,.int .i64 k,.int .i64 a]:=⟨ap,aE⟩
   have hs2:(ChangeMaps.setBlock wc.drew Mb (.map es1 clock1)).cell? ⟨P,1,none⟩ = some (.map (some Mb))∧At (ChangeMaps.setBlock wc.drew Mb (.map es1 clock1)) E [.int .i64 d,.int .i64 k,.int .i64 a]:=⟨(At.keep a2.drew kd hPM).cell 1 rfl,At.keep aE kd hEM⟩
   have hs5:w5.cell? ⟨P,1,none⟩ = some (.map (some Mb))∧At w5 E [.int .i64 d,.int .i64 k,.int .i64 a]:=⟨(At.keep a2 k5 hPM).cell 1 rfl,At.keep e2 k5 hEM⟩
   clear a2 o2 m2 e2 k2 n2 ap aE md hmp hgr k5 hsto kd
   go_wp2_with fail
   refine wp_region_held_drew (S:=fun wz=>wz.cell? ⟨P,1,none⟩ = some (.map (some Mb))∧At wz E [.int .i64 d,.int .i64 k,.int .i64 a]) (by kernel_rfl) hs1 (fun hHeld=>?_)
   generalize wc.drew = U at *
   generalize ChangeMaps.setBlock U Mb (.map es1 clock1) = U2 at *
   refine tkg 0 (.pointer (some ⟨P,0,none⟩)) rfl ?_
   simp only [uP]
   refine tkg 1 (.pointer (some ⟨P,0,none⟩)) rfl ?_
   simp only [uP]
   refine tkg 2 (.pointer (some ⟨P,1,none⟩)) rfl ?_
   simp only [uP]
   refine tkh 3 (.map (some Mb)) rfl (fun wx hSw=>by (have h1:=hSw.1; go_simp)) ?_
   simp only [uP]
   refine tkg 4 (.pointer (some ⟨E,0,none⟩)) rfl ?_
   simp only [uP]
   refine tkh 5 (.int .i64 d) rfl (fun wx hSw=>by (have h1:=hSw.2.cell 0 rfl; go_simp)) ?_
   simp only [uP]
   refine tkg 6 (.pointer (some ⟨E,1,none⟩)) rfl ?_
   simp only [uP]
   refine tkh 7 (.int .i64 k) rfl (fun wx hSw=>by (have h1:=hSw.2.cell 1 rfl; go_simp)) ?_
   simp only [uP]
   refine tkg 8 (.agg #[.int .i64 d,.int .i64 k]) rfl ?_
   simp only [uP]
   refine tkg 10 (.pointer (some ⟨E,2,none⟩)) rfl ?_
   simp only [uP]
   refine tkh 11 (.int .i64 a) rfl (fun wx hSw=>by (have h1:=hSw.2.cell 2 rfl; go_simp)) ?_
   simp only [uP]
   refine wpAnyH_ready (rs:=[9,13]) (by kernel_rfl) (by simp) ?_
   refine AllReadyH.cons rfl (fun K hK=>?_) (AllReadyH.cons rfl (fun K hK=>?_) AllReadyH.nil)
   ·rw [if_pos (by rfl)]
    refine wp_lookup_run (.tmp 20) (.tmp 25) 146 rfl _ _ rfl rfl hlk1 ?_
    refine hK.out _ _ hs1 (fun _=>?_)
    clear hK K
    simp only [uP]
    refine tkh 12 (.int .i64 (wrap64 (sumOf L d k+a))) rfl (fun wx hSw=>by (go_simp; simp only [IntKind.wrap_i64,wrap64])) ?_
    simp only [uP]
    refine rdy 13 rfl (fun K hK=>?_)
    rw [if_pos (by rfl)]
    refine wp_entry_run (.tmp 20) (.tmp 25) 146 rfl _ _ rfl rfl hen ?_
    refine hK.out _ _ hs2 (fun _=>?_)
    clear hK K
    simp only [uP]
    refine tkg 14 (.int .i64 st) rfl ?_
    simp only [uP]
    refine rdy 15 rfl (fun K hK=>?_)
    rw [if_pos (by rfl)]
    refine wp_entryStore_run (.tmp 20) (.tmp 31) (.tmp 29) 146 rfl _ _ _ rfl rfl rfl hst ?_
    refine hK.out _ _ hs5 (fun _=>?_)
    clear hK K
    refine wpAnyH_done (by kernel_rfl) ?_ _
    go_wp2
    go_end0
    exact ⟨rfl,HT.out⟩
   ·rw [if_pos (by rfl)]
    refine wp_entry_run (.tmp 20) (.tmp 25) 146 rfl _ _ rfl rfl hen ?_
    refine hK.out _ _ hs2 (fun _=>?_)
    clear hK K
    simp only [uP]
    refine tkg 14 (.int .i64 st) rfl ?_
    simp only [uP]
    refine rdy 9 rfl (fun K hK=>?_)
    rw [if_pos (by rfl)]
    refine wp_lookup_run (.tmp 20) (.tmp 25) 146 rfl _ _ rfl rfl hlk2 ?_
    refine hK.out _ _ hs2 (fun _=>?_)
    clear hK K
    simp only [uP]
    refine tkh 12 (.int .i64 (wrap64 (sumOf L d k+a))) rfl (fun wx hSw=>by (go_simp; simp only [IntKind.wrap_i64,wrap64])) ?_
    simp only [uP]
    refine rdy 15 rfl (fun K hK=>?_)
    rw [if_pos (by rfl)]
    refine wp_entryStore_run (.tmp 20) (.tmp 31) (.tmp 29) 146 rfl _ _ _ rfl rfl rfl hst ?_
    refine hK.out _ _ hs5 (fun _=>?_)
    clear hK K
    refine wpAnyH_done (by kernel_rfl) ?_ _
    go_wp2
    go_end0
    exact ⟨rfl,HT.out⟩
theorem sumOf_append (l m:List En) (d k:Int) (h:∀ e∈m,¬ (d = e.d∧k = e.k)):sumOf (l ++ m) d k = sumOf l d k:=by
 unfold sumOf
 rw [List.foldl_append]
 generalize l.foldl (fun s e=>if d = e.d∧k = e.k then wrap64 (s+e.a) else s) 0 = s
 induction m generalizing s with
 | nil=>rfl
 | cons e r ih =>
  rw [List.foldl_cons,if_neg (h e (by simp))]
  exact ih (fun x hx=>h x (by simp [hx])) s
theorem kindW_mem {n:Int} {k:Nat} {is am:Int} {e:En} (h:e∈kindW n k is am):e.d = n∧e.k = k:=by
 unfold kindW at h
 split at h
 ·simp at h
 ·rcases List.mem_append.1 h with h | h
  ·split at h
   ·simp at h
   ·simp at h; subst h; exact ⟨rfl,rfl⟩
  ·split at h
   ·simp at h
   ·simp at h; subst h; exact ⟨rfl,rfl⟩
theorem kindsW_mem {n:Int} {h am:Nat→Int} {e:En}:∀ {j:Nat},e∈kindsW n h am j→e.d = n∧1≤e.k∧e.k≤j
 | 0,he=>by simp [kindsW] at he
 | j+1,he=>by
  rcases List.mem_append.1 he with he | he
  ·have:=kindsW_mem he
   omega
  ·have:=kindW_mem he
   omega
theorem sumOf_kinds (L:List En) (n:Int) (h am:Nat→Int) (j k:Nat) (hk:j < k):sumOf (L ++ kindsW n h am j) n k = sumOf L n k :=
 sumOf_append _ _ _ _ (fun e he hh=>by have:=kindsW_mem he; omega)
theorem OwnNew.comp {V wr:World} {a b c:Value} (h:OwnNew V a b) (k:OwnNew wr b c) (hs:V.heap.size≤wr.heap.size):OwnNew V a c:=by
 rcases k with k | ⟨x,k1,k2⟩
 ·rcases h with h | ⟨x,h1,h2⟩
  ·exact .inl (k.trans h)
  ·exact .inr ⟨x,k.trans h1,h2⟩
 ·exact .inr ⟨x,k1,Nat.le_trans hs k2⟩
theorem BkS.comp {V wr w':World} {P Mb:Nat} {bkv bkvr:Value} (ho:OwnNew V bkv bkvr) (hk:Keep (BkS P Mb bkv) V wr) (h2:Keep (BkS P Mb bkvr) wr w'):Keep (BkS P Mb bkv) V w':=by
 refine ⟨h2.os.trans hk.os,h2.tape.trans hk.tape,h2.output.trans hk.output,Nat.le_trans hk.size h2.size,fun b hb hs=>?_⟩
 refine (h2.block b (Nat.lt_of_lt_of_le hb hk.size) (fun h=>?_)).trans (hk.block b hb hs)
 rcases h with h | h | h
 ·exact hs (.inl h)
 ·exact hs (.inr (.inl h))
 ·rcases ho with h4 | ⟨c,h5,h6⟩
  ·exact hs (.inr (.inr (h4.symm.trans h)))
  ·rw [h5] at h
   cases h
   omega
def PtW (V:World) (P Mb:Nat) (bkv:Value) (A:Nat) (am:Nat→Int) (M:List En) (wr:World):Prop :=
 ∃ bkvr,BkIs wr P bkvr Mb M∧OwnNew V bkv bkvr∧Keep (BkS P Mb bkv) V wr∧At wr A (hc 13 am)
theorem PtW.write {V:World} {P Mb:Nat} {bkv:Value} {A:Nat} {am:Nat→Int} {M:List En} {wr w':World} {bkvr bkv':Value} {N:List En} (h:PtW V P Mb bkv A am M wr) (hA:¬ BkS P Mb bkv A) (hAl:A < V.heap.size) (ho:OwnNew V bkv bkvr) (h1:BkIs w' P bkv' Mb N) (h2:OwnNew wr bkvr bkv') (h3:Keep (BkS P Mb bkvr) wr w'):PtW V P Mb bkv A am N w':=by
 obtain ⟨_,_,_,hk,ha⟩:=h
 have hk':=BkS.comp ho hk h3
 refine ⟨bkv',h1,ho.comp h2 hk.size,hk',ha.block ((hk'.block A hAl hA).trans (hk.block A hAl hA).symm)⟩
set_option maxRecDepth 100000 in
set_option maxHeartbeats 4000000 in
theorem putright_any (w:World) (P:Nat) (bkv:Value) (Mb:Nat) (L:List En) (h:BkIs w P bkv Mb L) (hL:L.length+24≤5000000000000) (n:Int) (hn:I64 n) (am:Nat→Int) (ha:∀ k,1≤k→k≤12→I64 (am k)) :
  Calls Tryz.prog 40 #[.pointer (some ⟨P,0,none⟩),.int .i64 n,amV am] w fun e w'=>e = .returned (.tuple #[])∧∃ bkv',BkIs w' P bkv' Mb (L ++ kindsW n (fun k=>sumOf L n k) am 12)∧OwnNew w bkv bkv'∧Keep (BkS P Mb bkv) w w':=by
 have HB:=hid h
 have HA:=hid ha
 have HN:=hid hn
 clear h ha hn
 unfold amV
 go_enter Tryz.func40,Tryz.ntmps40
 go_wp2_with fail
 have HE:Hid (PtW (w.alloc (.cells (hc 13 am).toArray 96)) P Mb bkv w.heap.size am L (w.alloc (.cells (hc 13 am).toArray 96))):=⟨bkv,HB.out.keep (Keep.below (S:=fun _=>False) ((Below.refl _ _).alloc (Nat.le_refl _) _)) (fun _ _ h=>h),.inl rfl,Keep.refl _ _,At.alloc w _ _⟩
 have HK0:Hid (Keep (fun _=>False) w (w.alloc (.cells (hc 13 am).toArray 96))):=Keep.below ((Below.refl _ _).alloc (Nat.le_refl _) _)
 have HAl:Hid (w.heap.size < (w.alloc (.cells (hc 13 am).toArray 96)).heap.size):=by show _ < _; simp
 have HPE:Hid (¬ BkS P Mb bkv w.heap.size):=fun hb=>by
  have h1:=At.lt HB.out.pl
  have h2:=HB.out.lt
  rcases hb with hb | hb | hb
  ·omega
  ·omega
  ·have:=(HB.out.own hb).2; omega
 change Code.wp _ _ _ _ (w.alloc (.cells (hc 13 am).toArray 96))
 generalize w.alloc (.cells (hc 13 am).toArray 96) = V at *
 generalize w.heap.size = A at *
 go_loopw [6] (fun i wr=>∃ q:Nat,q≤12∧i = .int .i64 (q+1)∧PtW V P Mb bkv A am (L ++ kindsW n (fun k=>sumOf L n k) am q) wr) (fun i _=>(13 - intOf i).toNat)
 case atStart=>exact ⟨0,by omega,rfl,by rw [kindsW,List.append_nil]; exact HE.out⟩
 case round =>
  obtain ⟨q,hq,rfl,hw⟩:=hrel
  by_cases hlt:q < 12
  ·have HW:=hid hw
   obtain ⟨bkvr,hb,ho,hk,hat⟩:=hw
   have c1:wr.cell? ⟨P,1,none⟩ = some (.map (some Mb)):=hb.pl.cell 1 rfl
   have hlk:=hb.mp.look n (q+1) HN.out (by unfold I64; omega)
   have hsm:sumOf (L ++ kindsW n (fun k=>sumOf L n k) am q) n (q+1) = sumOf L n (q+1):=sumOf_kinds L n _ am q (q+1) (by omega)
   rw [hsm] at hlk
   have ca:wr.cell? ⟨A,q+1,none⟩ = some (.int .i64 (am (q+1))):=hat.cell (q+1) (hc_at 13 am (q+1) (by omega))
   have HKW:Hid (L ++ kindsW n (fun k=>sumOf L n k) am (q+1) = (L ++ kindsW n (fun k=>sumOf L n k) am q) ++ kindW n (q+1) (sumOf L n (q+1)) (am (q+1))):=by
    show _ = _
    rw [kindsW,List.append_assoc]
    rfl
   have hlen:(L ++ kindsW n (fun k=>sumOf L n k) am q).length+2≤5000000000000:=by
    have:=kindsW_len n (fun k=>sumOf L n k) am q
    rw [List.length_append]
    omega
   have hsi:=sumOf_i64 L n (q+1)
   have hai:=HA.out (q+1) (by omega) (by omega)
   have HBr:=hid hb
   have HOr:=hid ho
   clear hb ho hk hat hsm
   generalize L ++ kindsW n (fun k=>sumOf L n k) am q = M at *
   generalize sumOf L n (q+1) = is at *
   generalize hav:am (q+1) = av at *
   have hav:=hid hav
   by_cases heq:is = av
   ·have heb:(is == av) = true:=by simp [heq]
    go_wp2_with fail
    refine ⟨⟨q+1,by omega,by simp,?_⟩,by simp [intOf]; omega⟩
    rw [HKW.out,show kindW n (q+1) is av = [] by unfold kindW; rw [if_pos heq],List.append_nil]
    exact HW.out
   ·have heb:(is == av) = false:=by simp [heq]
    have HEQ:=hid heq
    clear heq
    go_wp2_with fail
    refine (write_any wr P bkvr Mb M HBr.out (by omega) n (q+1) (wrap64 (-is)) HN.out (by unfold I64; omega) (wrap64_i64 _)).mono ?_
    rintro e w1 ⟨rfl,bkv1,hb1,ho1,hk1⟩
    have hw1:=PtW.write HW.out HPE.out HAl.out HOr.out hb1 ho1 hk1
    have HO1:Hid (OwnNew V bkv bkv1):=HOr.out.comp ho1 (by obtain ⟨_,_,_,hk,_⟩:=HW.out; exact hk.size)
    have HW1:=hid hw1
    have hlen1:(M ++ if wrap64 (-is) = 0 then [] else [(⟨n,q+1,wrap64 (-is)⟩:En)]).length+1≤5000000000000:=by
     rw [List.length_append]
     split
     ·simp; omega
     ·simp; omega
    have HB1:=hid hb1
    have ca1:w1.cell? ⟨A,q+1,none⟩ = some (.int .i64 av):=by
     obtain ⟨_,_,_,_,hat⟩:=hw1
     rw [← hav.out]
     exact hat.cell (q+1) (hc_at 13 am (q+1) (by omega))
    clear hw1 hb1 ho1 hk1
    have HKK:Hid (M ++ kindW n (q+1) is av = (M ++ if wrap64 (-is) = 0 then [] else [⟨n,q+1,wrap64 (-is)⟩]) ++ if av = 0 then [] else [⟨n,q+1,av⟩]):=by
     show _ = _
     unfold kindW
     rw [if_neg HEQ.out,List.append_assoc]
     have hz:wrap64 (-is) = 0 ↔ is = 0:=by
      have:=hsi
      unfold I64 at this
      unfold wrap64
      omega
     by_cases h0:is = 0
     ·rw [if_pos h0,if_pos (hz.2 h0)]
      rfl
     ·rw [if_neg h0,if_neg (fun h=>h0 (hz.1 h))]
      rfl
    generalize (M ++ if wrap64 (-is) = 0 then [] else [(⟨n,q+1,wrap64 (-is)⟩:En)]) = M1 at *
    go_wp2_with fail
    refine (write_any w1 P bkv1 Mb M1 HB1.out hlen1 n (q+1) av HN.out (by unfold I64; omega) hai).mono ?_
    rintro e w2 ⟨rfl,bkv2,hb2,ho2,hk2⟩
    have hw2:=PtW.write HW1.out HPE.out HAl.out HO1.out hb2 ho2 hk2
    clear hb2 ho2 hk2
    have HW2:=hid hw2
    clear hw2
    go_wp2_with fail
    refine ⟨⟨q+1,by omega,by simp,?_⟩,by simp [intOf]; omega⟩
    rw [HKW.out,HKK.out]
    exact HW2.out
  ·obtain rfl:q = 12:=by omega
   go_wp2_with fail
   go_end0
   obtain ⟨bkvr,hb,ho,hk,hat⟩:=hw
   refine ⟨rfl,bkvr,hb,?_,?_⟩
   ·rcases ho with h | ⟨b,h1,h2⟩
    ·exact .inl h
    ·exact .inr ⟨b,h1,Nat.le_trans HK0.out.size h2⟩
   ·exact (HK0.out.mono (fun _ _ h=>h.elim)).trans hk
end Go.Proofs.YtanndhoimpnhpaaGreatDoor
