/- Joined by program: TyA, AdH, TyC, TyD, TyE. -/
import Derived.Test.YtanndhoimpnhpaaGreatDoorM18
namespace Go.Proofs.YtanndhoimpnhpaaGreatDoor
open Go.ChangeShapes Go.WideShapes Go.ChangeAt Go.RowKit Lg Cal
def RbPost (w:World) (B R b0:Nat) (s:List UInt8) (sv:Sv) (F:Nat→Prop) (e:Ending) (w':World):Prop :=
 Below b0 w w'∧((∃ s' sv',e = .returned (.bool true)∧tl 4 (some sv) s = tl 4 (some sv') s'∧(¬ ∃ ns r,Nx s' wEntry 3 ns r)∧At w' R [.string (bs s')]∧IsL w' B sv' (Wd F w w')∧Lq s' s∧sv'.L.length+s'.length≤sv.L.length+s.length∧sv'.t = sv.t∧sv'.day = sv.day)∨(e = .returned (.bool false)∧tl 4 (some sv) s = none))
def RbI (w w1:World) (B R N b0:Nat) (s:List UInt8) (sv:Sv) (F:Nat→Prop) (wr:World):Prop :=
 ∃ s1 sv1 x0 x1 x2,tl 4 (some sv) s = tl 4 (some sv1) s1∧At wr R [.string (bs s1)]∧At wr N [.int .i64 x0,.int .i64 x1,.int .i64 x2]∧IsL wr B sv1 (Wd F w1 wr)∧Lq s1 s∧sv1.L.length+s1.length≤sv.L.length+s.length∧sv1.t = sv.t∧sv1.day = sv.day∧Below b0 w wr∧w1.heap.size≤wr.heap.size
def rdLen (R:Nat) (w:World):Nat:=match w.cell? ⟨R,0,none⟩ with
 | some (.string S)=>S.size
 | _=>0
theorem rdLen_at {w:World} {R:Nat} {s:List UInt8} (h:At w R [.string (bs s)]):rdLen R w = s.length:=by
 unfold rdLen
 rw [h.cell 0 rfl]
 exact bs_size s
theorem nx_less {s word:List UInt8} {n:Nat} {ns:List Int} {r:List UInt8} (h:Nx s word n ns r):r.length < s.length:=by
 rw [h.1,List.length_append,List.length_cons]
 omega
theorem reB_iff {t:Ln.Terms} {day d k a:Int}:reB t day d k a = true ↔ (t.st≤d∧d < day∧1≤k∧k≤12∧¬ a = 0):=by
 unfold reB
 rw [Bool.and_eq_true,Bool.and_eq_true,decide_eq_true_eq,decide_eq_true_eq,decide_eq_true_eq]
 omega
theorem three_of {l:List Int} (h:l.length = 3):∃ a0 a1 a2,l = [a0,a1,a2]:=by
 match l,h with
 | [a0,a1,a2],_=>exact ⟨a0,a1,a2,rfl⟩
set_option maxRecDepth 10000 in
set_option maxHeartbeats 4000000 in
theorem readbook_any (w:World) (B R b0:Nat) (s:List UInt8) (sv:Sv) (F:Nat→Prop) (hL:IsL w B sv F) (hR:At w R [.string (bs s)]) (hF:∀ x,F x→b0≤x∧x < w.heap.size∧¬ x = R) (hb0:b0≤R) (hs:Sh s) (hl:sv.L.length+s.length≤4000000000000) (hd0:-1000000≤sv.day) (hd1:sv.day≤1000000) (hg:∀ wx,Below b0 w wx→Gl wx) :
  Calls Tryz.prog 76 #[.pointer (some ⟨B,0,none⟩),.pointer (some ⟨R,0,none⟩)] w (RbPost w B R b0 s sv F):=by
 have hRl:R < w.heap.size:=At.lt hR
 have hB1:Below w.heap.size w (w.alloc (.cells #[.int .i64 0,.int .i64 0,.int .i64 0] 114)):=(Below.refl _ _).alloc (Nat.le_refl _) _
 have hA1:At (w.alloc (.cells #[.int .i64 0,.int .i64 0,.int .i64 0] 114)) w.heap.size [.int .i64 0,.int .i64 0,.int .i64 0]:=At.alloc w [.int .i64 0,.int .i64 0,.int .i64 0] _
 have HI0:Hid (RbI w (w.alloc (.cells #[.int .i64 0,.int .i64 0,.int .i64 0] 114)) B R w.heap.size b0 s sv F (w.alloc (.cells #[.int .i64 0,.int .i64 0,.int .i64 0] 114))) :=
  ⟨s,sv,0,0,0,rfl,hR.lower hB1,hA1,(hL.keep (S:=fun _=>False) (Keep.below hB1) (fun _ _ x=>x)).mono (fun _ _ h=>.inl h),Lq.refl _,Nat.le_refl _,rfl,rfl,hB1.mono (Nat.le_trans hb0 (Nat.le_of_lt hRl)),Nat.le_refl _⟩
 have hsz:(w.alloc (.cells #[.int .i64 0,.int .i64 0,.int .i64 0] 114)).heap.size = w.heap.size+1:=by simp
 obtain ⟨N,hN⟩:∃ N,N = w.heap.size:=⟨_,rfl⟩
 have HN:=hid hN
 have HG:=hid hg
 have HF:=hid hF
 have HW1:=hid hsz
 rw [← hN] at HI0
 clear hL hR hF hg hB1 hA1 hsz
 go_enter Tryz.func76,Tryz.ntmps76
 go_wp2
 rw [← hN]
 clear hN
 generalize w.alloc (.cells #[.int .i64 0,.int .i64 0,.int .i64 0] 114) = w1 at *
 go_loopw [4] (fun _ wr=>RbI w w1 B R N b0 s sv F wr) (fun _ wr=>rdLen R wr)
 case atStart=>exact HI0.out
 case round =>
  clear HI0
  obtain ⟨s1,sv1,x0,x1,x2,htl,hR1,hN1,hL1,hs1,hl1,ht1,hdy1,hb1,hsz1⟩:=hrel
  have hRl1:R < wr.heap.size:=At.lt hR1
  have hNl1:N < wr.heap.size:=At.lt hN1
  have hNR:¬ N = R:=by have:=HN.out; omega
  have hB2:Below wr.heap.size wr (wr.drew.alloc (.cells (ptrs N 0 3).toArray 110)):=(Below.refl _ _).drew.alloc (Nat.le_refl _) _
  have hb2:Below b0 w (wr.drew.alloc (.cells (ptrs N 0 3).toArray 110)):=hb1.trans (hB2.mono (by omega))
  have hCn:=entryNumbers_any wr N 0
  have hRd:=read_any (wr.drew.alloc (.cells (ptrs N 0 3).toArray 110)) R s1 wEntry N 0 3 [.int .i64 x0,.int .i64 x1,.int .i64 x2] _ (hR1.lower hB2) (hs1.2 hs) (Pt.made wr R N 0 3 hRl1 hNl1) (hN1.lower hB2) (show 0+3≤3 by decide) hNR (noB_wdk 4 (by omega)) (noL_wdk 4 (by omega)) (by decide) (by omega) (HG.out _ hb2)
  have HR1:Hid (rdLen R wr = s1.length):=rdLen_at hR1
  have HL2:Hid (IsL (wr.drew.alloc (.cells (ptrs N 0 3).toArray 110)) B sv1 (Wd F w1 wr)):=hL1.keep (S:=fun _=>False) (Keep.below hB2) (fun _ _ x=>x)
  have HB2:Hid (Below b0 w (wr.drew.alloc (.cells (ptrs N 0 3).toArray 110))∧wr.heap.size≤(wr.drew.alloc (.cells (ptrs N 0 3).toArray 110)).heap.size):=⟨hb2,hB2.size⟩
  have HRa:Hid (At (wr.drew.alloc (.cells (ptrs N 0 3).toArray 110)) R [.string (bs s1)]):=hR1.lower hB2
  have HTl:=hid htl
  have HWd:Hid (∀ x,Wd F w1 wr x→b0≤x∧¬ x = R∧¬ x = N∧x < wr.heap.size∧(F x∨w.heap.size≤x)):=fun x hx=>by
   have h1:=HN.out
   have h2:=HW1.out
   rcases hx with h | ⟨h3,h4⟩
   ·have:=HF.out x h
    exact ⟨this.1,this.2.2,by omega,by omega,.inl h⟩
   ·exact ⟨by omega,by omega,by omega,h4,.inr (by omega)⟩
  have HEq:Hid (sv1.t = sv.t∧sv1.day = sv.day∧w1.heap.size≤wr.heap.size):=⟨ht1,hdy1,hsz1⟩
  clear hR1 hN1 hL1 hb1 hB2 hb2 htl ht1 hdy1 hsz1
  go_wp2_with fail
  refine hCn.mono ?_
  rintro e w6 ⟨rfl,rfl⟩
  clear hCn
  generalize wr.drew.alloc (.cells (ptrs N 0 3).toArray 110) = w2 at *
  go_wp2_with fail
  refine hRd.mono ?_
  rintro e w3 hx
  clear hRd
  rcases hx with ⟨ns,r,hnx,rfl,hR3,hN3,hk3⟩ | ⟨hno,rfl,hb3⟩
  ·obtain ⟨d,k,a,rfl⟩:=three_of hnx.2.1
   have HNx:Hid (Nx s1 (wdk 4) (cnk 4) [d,k,a] r):=hnx
   have HR3:=hid hR3
   have HN3:=hid hN3
   have HL3:Hid (IsL w3 B sv1 (Wd F w1 wr)):=HL2.out.keep hk3 (fun b hb h=>by
    have:=HWd.out b hb
    rcases h with h | h
    ·exact this.2.1 h
    ·exact this.2.2.1 h)
   have HB3:Hid (Below b0 w w3∧wr.heap.size≤w3.heap.size):=by
    refine ⟨⟨hk3.os.trans HB2.out.1.os,hk3.tape.trans HB2.out.1.tape,hk3.output.trans HB2.out.1.output,Nat.le_trans HB2.out.1.size hk3.size,fun b hb=>(hk3.block b ?_ ?_).trans (HB2.out.1.block b hb)⟩,Nat.le_trans HB2.out.2 hk3.size⟩
    ·have:=HB2.out.2; omega
    ·intro h
     have:=HN.out
     rcases h with h | h <;> omega
   obtain ⟨evv,bk,hA3,_⟩:=HL3.out.at
   have hRe:=rightentry_any w3 B sv1.t evv sv1.g sv1.day bk hA3 (by rw [HEq.out.2.1]; exact hd0) (by rw [HEq.out.2.1]; exact hd1) d k a
   have hr3:w3.rangeAt N 0 [.int .i64 d,.int .i64 k,.int .i64 a]:=hN3.range
   clear hnx hR3 hN3 hk3 hA3 HL2 HB2
   go_upto_region 3 with fail
   refine wp_region_lit ?_
   refine wpList_val (.pointer (some ⟨B,0,none⟩)) w3 rfl rfl ?_
   simp only [uP]
   refine wpList_load_mid rfl 114 (.tmp 5) rfl N 0 rfl [.int .i64 d,.int .i64 k,.int .i64 a] _ hr3 Tryz.underlying114 rfl (by kernel_rfl) ?_
   simp only [uP]
   clear hr3
   go_wp2_with fail
   refine hRe.mono ?_
   rintro e w4 ⟨rfl,hb4⟩
   clear hRe
   have HB4:=hid hb4
   clear hb4
   cases hre:reB sv1.t sv1.day d k a with
   | false =>
    have HE:Hid (RbPost w B R b0 s sv F (.returned (.bool false)) w4):=by
     refine ⟨HB3.out.1.trans (HB4.out.mono (by have:=HB3.out.2; omega)),.inr ⟨rfl,?_⟩⟩
     rw [HTl.out]
     refine tl_fail (by omega) HNx.out ?_
     show (some sv1).bind (fun s=>s.read 4 [d,k,a]) = none
     show sv1.read 4 [d,k,a] = none
     simp only [Sv.read]
     rw [if_neg (fun h=>by rw [reB_iff.2 h] at hre; cases hre)]
    clear hre
    go_wp2
    go_ret
    exact HE.out
   | true =>
    have hcond:=reB_iff.1 hre
    have HCond:=hid hcond
    have hIn:∀ m∈[d,k,a],InR m:=HNx.out.2.2
    have HU:Hid (Below w3.heap.size w3 w4.drew):=HB4.out.drew
    have hLU:IsL w4.drew B sv1 (Wd F w1 wr):=HL3.out.keep (S:=fun _=>False) (Keep.below HU.out) (fun _ _ x=>x)
    obtain ⟨P,hP,hCw⟩:=hLU.book d k a hcond.2.2.2.2 (hIn d (by simp)) (hIn k (by simp)) (hIn a (by simp)) (by omega)
    have hNU:At w4.drew N [.int .i64 d,.int .i64 k,.int .i64 a]:=HN3.out.lower HU.out
    have HRU:Hid (At w4.drew R [.string (bs r)]):=HR3.out.lower HU.out
    have HNU:=hid hNU
    have HS0:Hid (w4.drew.cell? ⟨B,15,none⟩ = some (.pointer (some ⟨P,0,none⟩))∧w4.drew.rangeAt N 0 [.int .i64 d,.int .i64 k,.int .i64 a]):=⟨hP,hNU.range⟩
    clear hre hcond hIn hLU hP hNU
    go_upto_region 5 with fail
    refine wp_region_held_drew (S:=fun wx=>wx.cell? ⟨B,15,none⟩ = some (.pointer (some ⟨P,0,none⟩))∧wx.rangeAt N 0 [.int .i64 d,.int .i64 k,.int .i64 a]) (by kernel_rfl) HS0.out (fun hHeld=>?_)
    generalize w4.drew = U at *
    refine tkk 0 (.pointer (some ⟨B,0,none⟩)) rfl ?_
    simp only [uP]
    refine tka 1 (.pointer (some ⟨B,0,none⟩)) rfl ?_
    simp only [uP]
    refine tka 2 (.pointer (some ⟨B,15,none⟩)) rfl ?_
    simp only [uP]
    refine tkh 3 (.pointer (some ⟨P,0,none⟩)) rfl (fun wx hSw=>by (have hc:=hSw.1; go_simp)) ?_
    simp only [uP]
    refine wpAnyH_take (i:=4) (v:=(.agg #[.int .i64 d,.int .i64 k,.int .i64 a])) rfl (by kernel_rfl) (by kernel_rfl) (by kernel_rfl) (fun _ _ _ h=>h) (yieldsIf_load_mid (by rfl) 114 (.tmp 5) rfl _ _ rfl _ _ (fun _ h=>h.2) Tryz.underlying114 rfl (by kernel_rfl)) (by assumption) ?_
    simp only [uP]
    refine rdy 5 rfl (fun K hK=>?_)
    go_simp
    refine hCw.mono ?_
    rintro e w5 ⟨rfl,hL5,hk5,hc5⟩
    have hNw:¬ Wd F w1 wr N:=fun h=>(HWd.out N h).2.2.1 rfl
    have hRw:¬ Wd F w1 wr R:=fun h=>(HWd.out R h).2.1 rfl
    have hN5:At w5 N [.int .i64 d,.int .i64 k,.int .i64 a]:=HNU.out.block (hk5.block N (At.lt HNU.out) hNw)
    have hR5:At w5 R [.string (bs r)]:=HRU.out.block (hk5.block R (At.lt HRU.out) hRw)
    have hbU:Below b0 w U:=HB3.out.1.trans (HU.out.mono (by have:=HB3.out.2; omega))
    have HI5:Hid (RbI w w1 B R N b0 s sv F w5):=by
     refine ⟨r,_,d,k,a,?_,hR5,hN5,Lo.mono hL5 (fun x _ hx=>?_),?_,?_,HEq.out.1,HEq.out.2.1,?_,?_⟩
     ·rw [HTl.out]
      refine tl_go (j:=4) (k:=4) (by omega) HNx.out (by decide) ?_
      show sv1.read 4 [d,k,a] = _
      simp only [Sv.read]
      rw [if_pos HCond.out]
     ·rcases hx with (h | ⟨h1,h2⟩) | ⟨h1,h2⟩
      ·exact .inl h
      ·exact .inr ⟨h1,by have:=HB3.out.2; have:=HU.out.size; have:=hk5.size; omega⟩
      ·exact .inr ⟨by have:=HEq.out.2.2; have:=HB3.out.2; have:=HU.out.size; omega,h2⟩
     ·exact (Lq.nx (noL_wdk 4 (by omega)) HNx.out).trans hs1
     ·have:=nx_less HNx.out
      show (sv1.L ++ [_]).length+_≤_
      rw [List.length_append,List.length_singleton]
      omega
     ·refine ⟨hk5.os.trans hbU.os,hk5.tape.trans hbU.tape,hk5.output.trans hbU.output,Nat.le_trans hbU.size hk5.size,fun b hb=>(hk5.block b ?_ ?_).trans (hbU.block b hb)⟩
      ·have:=HB3.out.2; have:=HU.out.size; omega
      ·intro h
       have:=(HWd.out b h).1
       omega
     ·have:=HEq.out.2.2; have:=HB3.out.2; have:=HU.out.size; have:=hk5.size; omega
    have HM5:Hid (rdLen R w5 < rdLen R wr):=by
     show _ < _
     rw [rdLen_at hR5,HR1.out]
     exact nx_less HNx.out
    have hS5:w5.cell? ⟨B,15,none⟩ = some (.pointer (some ⟨P,0,none⟩))∧w5.rangeAt N 0 [.int .i64 d,.int .i64 k,.int .i64 a]:=⟨hc5,hN5.range⟩
    clear hCw hL5 hk5 hc5 hN5 hR5 hbU hNw hRw
    go_wp2_with fail
    refine hK.out _ _ hS5 (fun _=>?_)
    clear hK K hS5 hHeld
    refine wpAnyH_done (by kernel_rfl) ?_ _
    go_wp2
    exact ⟨HI5.out,HM5.out⟩
  ·have HE:Hid (RbPost w B R b0 s sv F (.returned (.bool true)) w3):=by
    refine ⟨HB2.out.1.trans (hb3.mono (by have:=HB2.out.2; omega)),.inl ⟨s1,sv1,rfl,HTl.out,hno,?_,?_,hs1,hl1,HEq.out.1,HEq.out.2.1⟩⟩
    ·exact HRa.out.lower hb3
    ·refine Lo.mono (HL2.out.keep (S:=fun _=>False) (Keep.below hb3) (fun _ _ x=>x)) (fun x _ hx=>?_)
     have h1:=HWd.out x hx
     rcases h1.2.2.2.2 with h | h
     ·exact .inl h
     ·exact .inr ⟨h,by have:=HB2.out.2; have:=hb3.size; omega⟩
   clear hno hb3
   go_wp2
   go_ret
   exact HE.out
end Go.Proofs.YtanndhoimpnhpaaGreatDoor
namespace Go.Proofs.YtanndhoimpnhpaaGreatDoor
open Go.ChangeShapes Go.WideShapes Go.RowKit Go.WideMaps Go.Maps Cal
theorem OwnNew.mine {w w':World} {F:Nat→Prop} {v v':Value} {T:TypeId} {size n:Nat} {xs:List Value} (h:OwnNew w v v') (hF:∀ b,v.ownBlock = some b→F b) (ho:w'.ownsRow 0 T size v' n xs):∀ b,v'.ownBlock = some b→Wd F w w' b:=by
 intro b hb
 rcases h with h | ⟨c,h1,h2⟩
 ·exact .inl (hF b (h.symm.trans hb))
 ·have:c = b:=by rw [h1] at hb; exact Option.some.inj hb
  subst this
  exact .inr ⟨h2,(own_base ho hb).2⟩
theorem addL (w:World) (B:Nat) (t:Ln.Terms) (E:List Ln.Ev) (g:Ln.St) (day:Int) (L:List En) (F:Nat→Prop) (h:Lo w B t E g day L F) (e:Ln.Ev) (hlim:Lim w) :
  Calls Tryz.prog 19 #[.pointer (some ⟨B,0,none⟩),evV e] w fun x w'=>x = .returned (.int .i64 (addC t E e))∧Keep F w w' ∧
   ((¬ addC t E e = 0∧Lo w' B t E g day L (Wd F w w'))∨(addC t E e = 0∧∃ E',E'.Perm (e :: E)∧Lo w' B t E' g day L (Wd F w w'))):=by
 obtain ⟨P,Mb,evv,bkv,h1,h2⟩:=h
 refine (add_core w B P Mb t E g day L evv bkv h1 e hlim).mono ?_
 rintro x w' ⟨rfl,⟨hc,hb⟩ | ⟨hc,i,v',hbel,hA,ho,hon,hk⟩⟩
 ·exact ⟨rfl,Keep.below hb,.inl ⟨hc,P,Mb,evv,bkv,h1.keep (S:=fun _=>False) (Keep.below hb) (fun _ _ x=>x),fun b hb=>.inl (h2 b hb)⟩⟩
 ·have hcc:=hc
  rw [addC_eq] at hcc
  have hf:evF t e = 0:=by
   by_cases hz:evF t e = 0
   ·exact hz
   ·rw [if_pos hz] at hcc; exact absurd hcc hz
  rw [if_neg (by simp [hf])] at hcc
  have h40:¬ 40≤E.length:=fun hz=>by rw [if_pos hz] at hcc; cases hcc
  rw [if_neg h40] at hcc
  have hs:hasS e.s E = false:=by
   cases hz:hasS e.s E with
   | false=>rfl
   | true=>rw [hz] at hcc; cases hcc
  have hle:(So.insAt e E i).length = E.length+1:=So.insAt_len e E i hbel.le
  have hfresh:∀ b,v'.ownBlock = some b→¬ b = B∧¬ BkS P Mb bkv b:=fun b hb=>by
   rcases hon with hx | ⟨c,hx1,hx2⟩
   ·exact h1.ne b (hx.symm.trans hb)
   ·have:c = b:=by rw [hx1] at hb; exact Option.some.inj hb
    subst this
    have l1:=h1.foLt B (.inl rfl)
    exact ⟨by omega,fun hbs=>by have:=h1.foLt c (.inr (.inl hbs)); omega⟩
  have hkF:Keep F w w':=hk.mono (fun b _ hb=>hb.elim (fun e=>h2 b (.inl e)) (fun e=>h2 b (.inr (.inr e))))
  refine ⟨rfl,hkF,.inr ⟨hc,So.insAt e E i,So.insAt_perm e E i,P,Mb,v',bkv,⟨hA,h1.bk.keep hk (fun b hb hx=>?_),?_,h1.nb,hfresh,bel_sorted hbel h1.so hs,?_,by omega,h1.ot⟩,?_⟩⟩
  ·rcases hx with hx | hx
   ·subst hx; exact h1.nb hb
   ·exact (h1.ne b hx).2 hb
  ·rw [hle]; exact ho
  ·intro x hx
   rcases List.mem_cons.1 ((So.insAt_perm e E i).mem_iff.1 hx) with rfl | hx
   ·exact evF_ok hf
   ·exact h1.ok x hx
  ·rintro b (rfl | hb | hb)
   ·exact .inl (h2 _ (.inl rfl))
   ·exact .inl (h2 _ (.inr (.inl hb)))
   ·exact hon.mine (fun b hb=>h2 b (.inr (.inr hb))) ho b hb
end Go.Proofs.YtanndhoimpnhpaaGreatDoor
namespace Go.Proofs.YtanndhoimpnhpaaGreatDoor
open Go.ChangeShapes Go.WideShapes Go.ChangeAt Go.RowKit Lg Cal
def RePost (w:World) (B R b0:Nat) (s:List UInt8) (sv:Sv) (F:Nat→Prop) (e:Ending) (w':World):Prop :=
 Below b0 w w'∧((∃ s' sv',e = .returned (.bool true)∧tl 1 (some sv) s = tl 1 (some sv') s'∧(¬ ∃ ns r,Nx s' wEvent 4 ns r)∧At w' R [.string (bs s')]∧IsL w' B sv' (Wd F w w')∧Lq s' s∧sv'.L.length+s'.length≤sv.L.length+s.length∧sv'.t = sv.t∧sv'.day = sv.day)∨(e = .returned (.bool false)∧tl 1 (some sv) s = none))
def ReI (w w1:World) (B R N b0:Nat) (s:List UInt8) (sv:Sv) (F:Nat→Prop) (wr:World):Prop :=
 ∃ s1 sv1 x0 x1 x2 x3,tl 1 (some sv) s = tl 1 (some sv1) s1∧At wr R [.string (bs s1)]∧At wr N [.int .i64 x0,.int .i64 x1,.int .i64 x2,.int .i64 x3]∧IsL wr B sv1 (Wd F w1 wr)∧Lq s1 s∧sv1.L.length+s1.length≤sv.L.length+s.length∧sv1.t = sv.t∧sv1.day = sv.day∧Below b0 w wr∧w1.heap.size≤wr.heap.size
theorem four_of {l:List Int} (h:l.length = 4):∃ e:Ln.Ev,l = evN e:=by
 match l,h with
 | [a0,a1,a2,a3],_=>exact ⟨⟨a0,a1,a2,a3⟩,rfl⟩
set_option maxRecDepth 10000 in
set_option maxHeartbeats 4000000 in
theorem readevents_any (w:World) (B R b0:Nat) (s:List UInt8) (sv:Sv) (F:Nat→Prop) (hL:IsL w B sv F) (hR:At w R [.string (bs s)]) (hF:∀ x,F x→b0≤x∧x < w.heap.size∧¬ x = R) (hb0:b0≤R) (hs:Sh s) (hg:∀ wx,Below b0 w wx→Gl wx∧Lim wx) :
  Calls Tryz.prog 74 #[.pointer (some ⟨B,0,none⟩),.pointer (some ⟨R,0,none⟩)] w (RePost w B R b0 s sv F):=by
 have hRl:R < w.heap.size:=At.lt hR
 have hB1:Below w.heap.size w (w.alloc (.cells #[.int .i64 0,.int .i64 0,.int .i64 0,.int .i64 0] 50)):=(Below.refl _ _).alloc (Nat.le_refl _) _
 have hA1:At (w.alloc (.cells #[.int .i64 0,.int .i64 0,.int .i64 0,.int .i64 0] 50)) w.heap.size [.int .i64 0,.int .i64 0,.int .i64 0,.int .i64 0]:=At.alloc w [.int .i64 0,.int .i64 0,.int .i64 0,.int .i64 0] _
 have HI0:Hid (ReI w (w.alloc (.cells #[.int .i64 0,.int .i64 0,.int .i64 0,.int .i64 0] 50)) B R w.heap.size b0 s sv F (w.alloc (.cells #[.int .i64 0,.int .i64 0,.int .i64 0,.int .i64 0] 50))) :=
  ⟨s,sv,0,0,0,0,rfl,hR.lower hB1,hA1,(hL.keep (S:=fun _=>False) (Keep.below hB1) (fun _ _ x=>x)).mono (fun _ _ h=>.inl h),Lq.refl _,Nat.le_refl _,rfl,rfl,hB1.mono (Nat.le_trans hb0 (Nat.le_of_lt hRl)),Nat.le_refl _⟩
 have hsz:(w.alloc (.cells #[.int .i64 0,.int .i64 0,.int .i64 0,.int .i64 0] 50)).heap.size = w.heap.size+1:=by simp
 obtain ⟨N,hN⟩:∃ N,N = w.heap.size:=⟨_,rfl⟩
 have HN:=hid hN
 have HG:=hid hg
 have HF:=hid hF
 have HW1:=hid hsz
 rw [← hN] at HI0
 clear hL hR hF hg hB1 hA1 hsz
 go_enter Tryz.func74,Tryz.ntmps74
 go_wp2
 rw [← hN]
 clear hN
 generalize w.alloc (.cells #[.int .i64 0,.int .i64 0,.int .i64 0,.int .i64 0] 50) = w1 at *
 go_loopw [4] (fun _ wr=>ReI w w1 B R N b0 s sv F wr) (fun _ wr=>rdLen R wr)
 case atStart=>exact HI0.out
 case round =>
  clear HI0
  obtain ⟨s1,sv1,x0,x1,x2,x3,htl,hR1,hN1,hL1,hs1,hl1,ht1,hdy1,hb1,hsz1⟩:=hrel
  have hRl1:R < wr.heap.size:=At.lt hR1
  have hNl1:N < wr.heap.size:=At.lt hN1
  have hNR:¬ N = R:=by have:=HN.out; omega
  have hB2:Below wr.heap.size wr (wr.drew.alloc (.cells (ptrs N 0 4).toArray 110)):=(Below.refl _ _).drew.alloc (Nat.le_refl _) _
  have hb2:Below b0 w (wr.drew.alloc (.cells (ptrs N 0 4).toArray 110)):=hb1.trans (hB2.mono (by omega))
  have hCn:=eventNumbers_any wr N 0
  have hRd:=read_any (wr.drew.alloc (.cells (ptrs N 0 4).toArray 110)) R s1 wEvent N 0 4 [.int .i64 x0,.int .i64 x1,.int .i64 x2,.int .i64 x3] _ (hR1.lower hB2) (hs1.2 hs) (Pt.made wr R N 0 4 hRl1 hNl1) (hN1.lower hB2) (show 0+4≤4 by decide) hNR (noB_wdk 1 (by omega)) (noL_wdk 1 (by omega)) (by decide) (by omega) (HG.out _ hb2).1
  have HR1:Hid (rdLen R wr = s1.length):=rdLen_at hR1
  have HL2:Hid (IsL (wr.drew.alloc (.cells (ptrs N 0 4).toArray 110)) B sv1 (Wd F w1 wr)):=hL1.keep (S:=fun _=>False) (Keep.below hB2) (fun _ _ x=>x)
  have HB2:Hid (Below b0 w (wr.drew.alloc (.cells (ptrs N 0 4).toArray 110))∧wr.heap.size≤(wr.drew.alloc (.cells (ptrs N 0 4).toArray 110)).heap.size):=⟨hb2,hB2.size⟩
  have HRa:Hid (At (wr.drew.alloc (.cells (ptrs N 0 4).toArray 110)) R [.string (bs s1)]):=hR1.lower hB2
  have HTl:=hid htl
  have HWd:Hid (∀ x,Wd F w1 wr x→b0≤x∧¬ x = R∧¬ x = N∧x < wr.heap.size∧(F x∨w.heap.size≤x)):=fun x hx=>by
   have h1:=HN.out
   have h2:=HW1.out
   rcases hx with h | ⟨h3,h4⟩
   ·have:=HF.out x h
    exact ⟨this.1,this.2.2,by omega,by omega,.inl h⟩
   ·exact ⟨by omega,by omega,by omega,h4,.inr (by omega)⟩
  have HEq:Hid (sv1.t = sv.t∧sv1.day = sv.day∧w1.heap.size≤wr.heap.size):=⟨ht1,hdy1,hsz1⟩
  clear hR1 hN1 hL1 hb1 hB2 hb2 htl ht1 hdy1 hsz1
  go_wp2_with fail
  refine hCn.mono ?_
  rintro e w6 ⟨rfl,rfl⟩
  clear hCn
  generalize wr.drew.alloc (.cells (ptrs N 0 4).toArray 110) = w2 at *
  go_wp2_with fail
  refine hRd.mono ?_
  rintro e w3 hx
  clear hRd
  rcases hx with ⟨ns,r,hnx,rfl,hR3,hN3,hk3⟩ | ⟨hno,rfl,hb3⟩
  ·obtain ⟨ev,rfl⟩:=four_of hnx.2.1
   have HNx:Hid (Nx s1 (wdk 1) (cnk 1) (evN ev) r):=hnx
   have HR3:=hid hR3
   have HN3:=hid hN3
   have HL3:Hid (IsL w3 B sv1 (Wd F w1 wr)):=HL2.out.keep hk3 (fun b hb h=>by
    have:=HWd.out b hb
    rcases h with h | h
    ·exact this.2.1 h
    ·exact this.2.2.1 h)
   have HB3:Hid (Below b0 w w3∧wr.heap.size≤w3.heap.size):=by
    refine ⟨⟨hk3.os.trans HB2.out.1.os,hk3.tape.trans HB2.out.1.tape,hk3.output.trans HB2.out.1.output,Nat.le_trans HB2.out.1.size hk3.size,fun b hb=>(hk3.block b ?_ ?_).trans (HB2.out.1.block b hb)⟩,Nat.le_trans HB2.out.2 hk3.size⟩
    ·have:=HB2.out.2; omega
    ·intro h
     have:=HN.out
     rcases h with h | h <;> omega
   have hAd:=addL w3 B sv1.t sv1.l sv1.g sv1.day sv1.L (Wd F w1 wr) HL3.out ev (HG.out _ HB3.out.1).2
   have hr3:w3.rangeAt N 0 (evl ev):=HN3.out.range
   clear hnx hR3 hN3 hk3 HL2 HB2
   go_upto_region 3 with fail
   refine wp_region_lit ?_
   refine wpList_val (.pointer (some ⟨B,0,none⟩)) w3 rfl rfl ?_
   simp only [uP]
   refine wpList_load_mid rfl 50 (.tmp 5) rfl N 0 rfl (evl ev) _ hr3 Tryz.underlying50 rfl (by kernel_rfl) ?_
   simp only [uP]
   clear hr3
   go_wp2_with fail
   refine hAd.mono ?_
   rintro e w4 ⟨rfl,hk4,hx⟩
   clear hAd
   have HB4:Hid (Below b0 w w4∧wr.heap.size≤w4.heap.size):=by
    refine ⟨⟨hk4.os.trans HB3.out.1.os,hk4.tape.trans HB3.out.1.tape,hk4.output.trans HB3.out.1.output,Nat.le_trans HB3.out.1.size hk4.size,fun b hb=>(hk4.block b ?_ ?_).trans (HB3.out.1.block b hb)⟩,Nat.le_trans HB3.out.2 hk4.size⟩
    ·have:=HB3.out.2; omega
    ·intro h
     have:=(HWd.out b h).1
     omega
   have hNw:¬ Wd F w1 wr N:=fun h=>(HWd.out N h).2.2.1 rfl
   have hRw:¬ Wd F w1 wr R:=fun h=>(HWd.out R h).2.1 rfl
   have HN4:Hid (At w4 N (evl ev)):=HN3.out.block (hk4.block N (At.lt (v:=.int .i64 ev.d) HN3.out) hNw)
   have HR4:Hid (At w4 R [.string (bs r)]):=HR3.out.block (hk4.block R (At.lt HR3.out) hRw)
   clear hNw hRw hk4
   rcases hx with ⟨h0,_⟩ | ⟨h0,E',hperm,hL4⟩
   ·have HE:Hid (RePost w B R b0 s sv F (.returned (.bool false)) w4):=by
     refine ⟨HB4.out.1,.inr ⟨rfl,?_⟩⟩
     rw [HTl.out]
     refine tl_fail (k:=1) (by omega) HNx.out ?_
     show sv1.read 1 (evN ev) = none
     simp only [Sv.read,evN]
     rw [if_neg (fun h=>h0 h.2)]
    have zc:(addC sv1.t sv1.l ev != (0:Int)) = true:=by rw [bne_iff_ne]; exact h0
    clear h0
    go_wp2
    go_ret
    exact HE.out
   ·rw [h0]
    have hE1:sv1.l.Pairwise So.Ah:=by obtain ⟨_,_,_,_,h1,_⟩:=HL3.out; exact h1.so
    obtain ⟨P,Mb,evv,bkv,hX4,hF4⟩:=id hL4
    have hli:=last_iff hperm hX4.so hE1
    have c6:w4.cell? ⟨B,6,none⟩ = some evv:=hX4.ln.cell 6 rfl
    have hpos:0 < E'.length:=by rw [hperm.length_eq]; simp
    obtain ⟨n1,hn1⟩:∃ n1,E'.length = n1+1:=⟨E'.length - 1,by omega⟩
    obtain ⟨ge,cape,rfl,_,_⟩:=hX4.ev.form hpos
    have hlt1:n1 < E'.length:=by omega
    have hre:w4.rangeAt ge (n1*4) (evl E'[n1]):=(own_range hX4.ev rfl n1 E'[n1] (List.getElem?_eq_getElem hlt1)).1
    have HLast:Hid (E'.getLast? = some E'[n1]):=by
     show _ = _
     rw [List.getLast?_eq_getElem?,show E'.length - 1 = n1 by omega,List.getElem?_eq_getElem hlt1]
    have hle:=hX4.le
    rw [hn1] at c6
    have HL4:=hid hL4
    have HLi:=hid hli
    have H0:=hid h0
    have hn40:n1≤40:=by omega
    have hrN:w4.rangeAt N 0 (evl ev):=HN4.out.range
    clear hE1 hX4 hF4 hli hpos hL4 hperm hle h0 hn1
    generalize E'[n1] = lst at *
    clear hlt1
    go_upto_region 5 with fail
    refine wp_region_held_drew (S:=fun wx=>wx.cell? ⟨B,6,none⟩ = some (.slice (some ⟨ge,0,none⟩) (n1+1) cape)∧wx.rangeAt ge (n1*4) (evl lst)∧wx.rangeAt N 0 (evl ev)) (by kernel_rfl) ⟨c6,hre,hrN⟩ (fun hHeld=>?_)
    have z1:IntKind.i64.wrap (n1:Int) = (n1:Int):=by rw [IntKind.wrap_i64]; omega
    have z2:¬ (n1:Int)+1≤(n1:Int):=by omega
    have z3:(n1:Int) < (n1:Int)+1:=by omega
    refine tkk 0 (.pointer (some ⟨B,0,none⟩)) rfl ?_
    simp only [uP]
    refine tka 1 (.pointer (some ⟨B,0,none⟩)) rfl ?_
    simp only [uP]
    refine tka 2 (.pointer (some ⟨B,6,none⟩)) rfl ?_
    simp only [uP]
    refine tkh 3 (.slice (some ⟨ge,0,none⟩) (n1+1) cape) rfl (fun wx hSw=>by (have hc:=hSw.1; go_simp)) ?_
    simp only [uP]
    refine tkk 4 (.pointer (some ⟨B,0,none⟩)) rfl ?_
    simp only [uP]
    refine tka 5 (.pointer (some ⟨B,0,none⟩)) rfl ?_
    simp only [uP]
    refine tka 6 (.pointer (some ⟨B,6,none⟩)) rfl ?_
    simp only [uP]
    refine tkh 7 (.slice (some ⟨ge,0,none⟩) (n1+1) cape) rfl (fun wx hSw=>by (have hc:=hSw.1; go_simp)) ?_
    simp only [uP]
    refine tkg 8 (.int .i64 ((n1:Int)+1)) rfl ?_
    simp only [uP]
    refine tkg 9 (.int .i64 (n1:Int)) rfl ?_
    simp only [uP]
    refine tkg 10 (.pointer (some ⟨ge,n1*4,none⟩)) rfl ?_
    simp only [uP]
    refine wpAnyH_take (i:=11) (v:=(.agg (evl lst).toArray)) rfl (by kernel_rfl) (by kernel_rfl) (by kernel_rfl) (fun _ _ _ h=>h) (yieldsIf_load_mid (by rfl) 50 (.tmp 23) rfl _ _ rfl _ _ (fun _ h=>h.2.1) Tryz.underlying50 rfl (by kernel_rfl)) (by assumption) ?_
    simp only [uP]
    refine wpAnyH_take (i:=12) (v:=(.agg (evl ev).toArray)) rfl (by kernel_rfl) (by kernel_rfl) (by kernel_rfl) (fun _ _ _ h=>h) (yieldsIf_load_mid (by rfl) 50 (.tmp 5) rfl _ _ rfl _ _ (fun _ h=>h.2.2) Tryz.underlying50 rfl (by kernel_rfl)) (by assumption) ?_
    simp only [uP]
    rcases HLi.out with ⟨hla,hE',hah⟩ | ⟨hla,hah⟩
    ·obtain rfl:lst = ev:=by rw [HLast.out] at hla; exact Option.some.inj hla
     have HI5:Hid (ReI w w1 B R N b0 s sv F w4.drew):=by
      refine ⟨r,{ sv1 with l:=sv1.l ++ [lst] },lst.d,lst.k,lst.s,lst.a,?_,HR4.out.drew,HN4.out.drew,Lo.mono (Lo.drew (by rw [← hE']; exact HL4.out)) (fun x _ hx=>?_),?_,?_,HEq.out.1,HEq.out.2.1,HB4.out.1.drew,?_⟩
      ·rw [HTl.out]
       refine tl_go (j:=1) (k:=1) (by omega) HNx.out (by decide) ?_
       show sv1.read 1 (evN lst) = _
       simp only [Sv.read,evN]
       rw [if_pos ⟨hah,H0.out⟩]
      ·rcases hx with (h | ⟨h1,h2⟩) | ⟨h1,h2⟩
       ·exact .inl h
       ·exact .inr ⟨h1,by show x < w4.heap.size; have:=HB4.out.2; omega⟩
       ·exact .inr ⟨by have:=HEq.out.2.2; have:=HB3.out.2; omega,h2⟩
      ·exact (Lq.nx (noL_wdk 1 (by omega)) HNx.out).trans hs1
      ·have:=nx_less HNx.out
       show sv1.L.length+_≤_
       omega
      ·have:=HEq.out.2.2; have:=HB4.out.2; show _≤w4.heap.size; omega
     have HM5:Hid (rdLen R w4.drew < rdLen R wr):=by
      show _ < _
      rw [rdLen_at HR4.out.drew,HR1.out]
      exact nx_less HNx.out
     clear hla hE' hah
     refine tkh 13 (.bool false) rfl (fun wx hSw=>by (unfold evl; go_simp)) ?_
     simp only [uP]
     clear hHeld c6 hre hrN
     refine wpAnyH_done (by kernel_rfl) ?_ _
     go_wp2
     exact ⟨HI5.out,HM5.out⟩
    ·have hneq:lst.d = ev.d→lst.k = ev.k→lst.s = ev.s→¬ lst.a = ev.a:=fun h1 h2 h3 h4=>hla (by
      rw [HLast.out]
      obtain ⟨a0,a1,a2,a3⟩:=lst
      obtain ⟨c0,c1,c2,c3⟩:=ev
      dsimp only at h1 h2 h3 h4
      rw [h1,h2,h3,h4])
     have HE:Hid (RePost w B R b0 s sv F (.returned (.bool false)) w4.drew):=by
      refine ⟨HB4.out.1.drew,.inr ⟨rfl,?_⟩⟩
      rw [HTl.out]
      refine tl_fail (k:=1) (by omega) HNx.out ?_
      show sv1.read 1 (evN ev) = none
      simp only [Sv.read,evN]
      rw [if_neg (fun h=>hah h.1)]
     have HNq:=hid hneq
     clear hla hah hneq
     refine tkh 13 (.bool true) rfl (fun wx hSw=>by (unfold evl; go_simp; exact HNq.out)) ?_
     simp only [uP]
     clear hHeld c6 hre hrN
     refine wpAnyH_done (by kernel_rfl) ?_ _
     go_wp2
     go_ret
     exact HE.out
  ·have HE:Hid (RePost w B R b0 s sv F (.returned (.bool true)) w3):=by
    refine ⟨HB2.out.1.trans (hb3.mono (by have:=HB2.out.2; omega)),.inl ⟨s1,sv1,rfl,HTl.out,hno,?_,?_,hs1,hl1,HEq.out.1,HEq.out.2.1⟩⟩
    ·exact HRa.out.lower hb3
    ·refine Lo.mono (HL2.out.keep (S:=fun _=>False) (Keep.below hb3) (fun _ _ x=>x)) (fun x _ hx=>?_)
     have h1:=HWd.out x hx
     rcases h1.2.2.2.2 with h | h
     ·exact .inl h
     ·exact .inr ⟨h,by have:=HB2.out.2; have:=hb3.size; omega⟩
   clear hno hb3
   go_wp2
   go_ret
   exact HE.out
end Go.Proofs.YtanndhoimpnhpaaGreatDoor
namespace Go.Proofs.YtanndhoimpnhpaaGreatDoor
open Go.RowKit
theorem IsL.owe {w w':World} {B R:Nat} {sv:Sv} {F:Nat→Prop} (h:IsL w B sv F) (hR:¬ F R) (g:Ln.St) (day:Int) (hA:∀ evv bk,At w B (ll sv.t evv sv.g sv.day bk)→At w' B (ll sv.t evv g day bk)) (hk:Keep (fun x=>x = R∨x = B) w w'):IsL w' B { sv with g:=g,day:=day } F:=by
 obtain ⟨P,Mb,evv,bkv,h1,h2⟩:=h
 have hn:∀ b,Fo B P Mb evv bkv b→¬ b = R:=fun b hb e=>hR (by rw [← e]; exact h2 b hb)
 refine ⟨P,Mb,evv,bkv,⟨hA _ _ h1.ln,h1.bk.keep hk (fun b hb hx=>?_),own_keep h1.ev hk (fun b hb hx=>?_),h1.nb,h1.ne,h1.so,h1.ok,h1.le,h1.ot⟩,h2⟩
 ·rcases hx with hx | hx
  ·exact hn b (.inr (.inl hb)) hx
  ·rw [hx] at hb; exact h1.nb hb
 ·rcases hx with hx | hx
  ·exact hn b (.inr (.inr hb)) hx
  ·exact (h1.ne b hb).1 hx
end Go.Proofs.YtanndhoimpnhpaaGreatDoor
namespace Go.Proofs.YtanndhoimpnhpaaGreatDoor
open Go.ChangeShapes Go.WideShapes Go.ChangeAt Go.RowKit Lg Cal
def RnPost (w:World) (B R b0:Nat) (s:List UInt8) (sv:Sv) (F:Nat→Prop) (e:Ending) (w':World):Prop :=
 Below b0 w w'∧((∃ s' sv',e = .returned (.bool true)∧tl 1 (some sv) s = tl 3 (some sv') s'∧At w' R [.string (bs s')]∧IsL w' B sv' (Wd F w w')∧Lq s' s∧sv'.L = sv.L∧sv'.t = sv.t∧sv.t.st≤sv'.day∧sv'.day≤sv.t.st+3700)∨(e = .returned (.bool false)∧tl 1 (some sv) s = none))
theorem ll_tm (t:Ln.Terms) (evv:Value) (g:Ln.St) (day:Int) (bk:Value):∀ j v,(tml t)[j]? = some v→(ll t evv g day bk)[0+j]? = some v:=fun j v hj=>by
 match j,hj with
 | 0,hj=>exact hj
 | 1,hj=>exact hj
 | 2,hj=>exact hj
 | 3,hj=>exact hj
 | 4,hj=>exact hj
 | 5,hj=>exact hj
theorem at_day {w w':World} {B:Nat} {t:Ln.Terms} {evv evv':Value} {g g':Ln.St} {day day':Int} {bk bk':Value} (h:At w B (ll t evv g day bk)) (h':At w' B (ll t evv g' day' bk)) {g1:Ln.St} {d1:Int} (k:At w B (ll t evv' g1 d1 bk')):At w' B (ll t evv' g' day' bk'):=by
 have e1:evv = evv':=Option.some.inj ((h.cell 6 rfl).symm.trans (k.cell 6 rfl))
 have e2:bk = bk':=Option.some.inj ((h.cell 15 rfl).symm.trans (k.cell 15 rfl))
 subst e1 e2
 exact h'
set_option maxRecDepth 10000 in
set_option maxHeartbeats 4000000 in
theorem readnow_any (w:World) (B R b0:Nat) (s:List UInt8) (sv:Sv) (F:Nat→Prop) (hL:IsL w B sv F) (hR:At w R [.string (bs s)]) (hF:∀ x,F x→b0≤x∧x < w.heap.size∧¬ x = R) (hb0:b0≤R) (hs:Sh s) (hne:¬ ∃ ns r,Nx s wEvent 4 ns r) (hg:∀ wx,Below b0 w wx→Gl wx) :
  Calls Tryz.prog 75 #[.pointer (some ⟨B,0,none⟩),.pointer (some ⟨R,0,none⟩)] w (RnPost w B R b0 s sv F):=by
 obtain ⟨evv,bk,hA,hFB⟩:=hL.at
 obtain ⟨hB0,hBl,hBR⟩:=hF B hFB
 have hRl:R < w.heap.size:=At.lt hR
 obtain ⟨hst0,hst1⟩:0≤sv.t.st∧sv.t.st≤105872:=by obtain ⟨_,_,_,_,h1,_⟩:=id hL; exact ⟨h1.ot.st0,h1.ot.st1⟩
 have hB1:Below w.heap.size w (w.drew.alloc (.cells #[.pointer (some ⟨B,14,none⟩)] 110)):=(Below.refl _ _).drew.alloc (Nat.le_refl _) _
 have hPt:Pt (w.drew.alloc (.cells #[.pointer (some ⟨B,14,none⟩)] 110)) R (.slice (some ⟨w.heap.size,0,none⟩) 1 1) B 14 1:=by
  have:=Pt.made w R B 14 1 hRl hBl
  exact this
 have hRd1:=read_any (w.drew.alloc (.cells #[.pointer (some ⟨B,14,none⟩)] 110)) R s wAt B 14 1 (ll sv.t evv sv.g sv.day bk) _ (hR.lower hB1) hs hPt (hA.lower hB1) (show 14+1≤16 by decide) hBR (noB_wdk 2 (by omega)) (noL_wdk 2 (by omega)) (by decide) (by omega) (hg _ (hB1.mono (by omega)))
 have HT1:Hid ((w.drew.alloc (.cells #[.pointer (some ⟨B,14,none⟩)] 110)).rangeAt B 0 (tml sv.t)):=(hA.lower hB1).mid 0 _ (ll_tm sv.t evv sv.g sv.day bk)
 have HT0:Hid (w.drew.rangeAt B 0 (tml sv.t)):=hA.drew.mid 0 _ (ll_tm sv.t evv sv.g sv.day bk)
 have HRd1:=hid hRd1
 have HB1:=hid hB1
 have HA1:Hid (At (w.drew.alloc (.cells #[.pointer (some ⟨B,14,none⟩)] 110)) B (ll sv.t evv sv.g sv.day bk)):=hA.lower hB1
 have HL1:Hid (IsL (w.drew.alloc (.cells #[.pointer (some ⟨B,14,none⟩)] 110)) B sv F):=hL.keep (S:=fun _=>False) (Keep.below hB1) (fun _ _ x=>x)
 have HF:=hid hF
 have HG:=hid hg
 have HNe:=hid hne
 clear hRd1 hB1 hL hA hR hF hg hne hPt hFB
 go_enter Tryz.func75,Tryz.ntmps75
 go_upto_region 1 with fail
 refine wp_region_held_drew (S:=fun wx=>wx.rangeAt B 0 (tml sv.t)) (by kernel_rfl) HT0.out (fun hHeld=>?_)
 refine tkk 0 (.pointer (some ⟨R,0,none⟩)) rfl ?_
 simp only [uP]
 refine tkk 1 (.pointer (some ⟨B,0,none⟩)) rfl ?_
 simp only [uP]
 refine tka 2 (.pointer (some ⟨B,0,none⟩)) rfl ?_
 simp only [uP]
 refine tka 3 (.pointer (some ⟨B,7,none⟩)) rfl ?_
 simp only [uP]
 refine tka 4 (.pointer (some ⟨B,14,none⟩)) rfl ?_
 simp only [uP]
 refine rdy 5 rfl (fun K hK=>?_)
 rw [if_pos (by rfl)]
 refine wp_valD (.slice (some ⟨w.heap.size,0,none⟩) 1 1) (w.drew.alloc (.cells #[.pointer (some ⟨B,14,none⟩)] 110)) (by kernel_rfl) ?_
 refine hK.out _ _ HT1.out (fun hHeld=>?_)
 clear hK K HT0
 try simp only [uP]
 refine rdy 6 rfl (fun K hK=>?_)
 generalize w.drew.alloc (.cells #[.pointer (some ⟨B,14,none⟩)] 110) = U1 at *
 have hRd1:=HRd1.out
 go_simp
 refine hRd1.mono ?_
 rintro e w3 hx
 clear hRd1 HRd1
 rcases hx with ⟨ns,r,hnx,rfl,hR3,hA3,hk3⟩ | ⟨hno,rfl,hb3⟩
 ·obtain ⟨n,rfl⟩:∃ n,ns = [n]:=by
   match ns,hnx.2.1 with
   | [n],_=>exact ⟨n,rfl⟩
  have hA3:At w3 B (ll sv.t evv sv.g n bk):=hA3
  have hRF:¬ F R:=fun h=>(HF.out R h).2.2 rfl
  have HL3:Hid (IsL w3 B { sv with day:=n } F):=HL1.out.owe hRF sv.g n (fun evv' bk' h=>by
   have:=h
   exact at_day HA1.out hA3 h) hk3
  have HB3:Hid (Below b0 w w3∧w.heap.size≤w3.heap.size):=by
   refine ⟨⟨hk3.os.trans HB1.out.os,hk3.tape.trans HB1.out.tape,hk3.output.trans HB1.out.output,Nat.le_trans HB1.out.size hk3.size,fun b hb=>(hk3.block b ?_ ?_).trans (HB1.out.block b (by omega))⟩,Nat.le_trans HB1.out.size hk3.size⟩
   ·have:=HB1.out.size; omega
   ·intro h
    rcases h with h | h <;> omega
  have HNx:Hid (Nx s (wdk 2) (cnk 2) [n] r):=hnx
  have HR3:=hid hR3
  have HA3:=hid hA3
  have HSS:Hid (∀ wx,Below w3.heap.size w3 wx→wx.rangeAt B 0 (tml sv.t)):=fun wx hx=>(HA3.out.lower hx).mid 0 _ (ll_tm sv.t evv sv.g n bk)
  have HDy:Hid (∀ wx,Below w3.heap.size w3 wx→wx.cell? ⟨B,14,none⟩ = some (.int .i64 n)):=fun wx hx=>(HA3.out.lower hx).cell 14 rfl
  have HNo:Hid (∀ wx,Below w3.heap.size w3 wx→¬ (sv.t.st≤n∧n≤sv.t.st+3700)→RnPost w B R b0 s sv F (.returned (.bool false)) wx):=fun wx hx hr=>by
   refine ⟨HB3.out.1.trans (hx.mono (by have:=HB3.out.2; omega)),.inr ⟨rfl,tl_fail (k:=2) (by omega) HNx.out ?_⟩⟩
   show sv.read 2 [n] = none
   simp only [Sv.read]
   rw [if_neg hr]
  have HRd2:Hid (∀ wx,Below w3.heap.size w3 wx→(sv.t.st≤n∧n≤sv.t.st+3700)→Calls Tryz.prog 73 #[.pointer (some ⟨R,0,none⟩),.string (bs wNow),.slice (some ⟨wx.heap.size,0,none⟩) 7 7] (wx.drew.alloc (.cells (ptrs B 7 7).toArray 110)) fun e w'=>∃ x,e = .returned (.bool x)∧w'.rangeAt B 0 (tml sv.t)∧RnPost w B R b0 s sv F (.returned (.bool x)) w'):=fun wx hx hr=>by
   have hy:Below wx.heap.size wx (wx.drew.alloc (.cells (ptrs B 7 7).toArray 110)):=(Below.refl _ _).drew.alloc (Nat.le_refl _) _
   have hz:=hx.trans (hy.mono hx.size)
   have hw3:=HB3.out.2
   have hzs:=hz.size
   have hbz:Below b0 w (wx.drew.alloc (.cells (ptrs B 7 7).toArray 110)):=HB3.out.1.trans (hz.mono (by omega))
   have hless:=nx_less HNx.out
   have htl:tl 1 (some sv) s = tl 2 (some { sv with day:=n }) r:=tl_go (j:=1) (k:=2) (by omega) HNx.out (by decide) (by
    show sv.read 2 [n] = _
    simp only [Sv.read]
    rw [if_pos hr])
   refine (read_any _ R r wNow B 7 7 (ll sv.t evv sv.g n bk) _ (HR3.out.lower hz) ((Lq.nx (noL_wdk 2 (by omega)) HNx.out).2 hs) (Pt.made wx R B 7 7 (by have:=hx.size; omega) (by have:=hx.size; omega)) (HA3.out.lower hz) (show 7+7≤16 by decide) hBR (noB_wdk 3 (by omega)) (noL_wdk 3 (by omega)) (by decide) (by omega) (HG.out _ hbz)).mono ?_
   rintro e w8 hx8
   rcases hx8 with ⟨ms,q,hn8,rfl,hR8,hA8,hk8⟩ | ⟨hno8,rfl,hb8⟩
   ·obtain ⟨a0,a1,a2,a3,a4,a5,a6,rfl⟩:∃ a0 a1 a2 a3 a4 a5 a6,ms = [a0,a1,a2,a3,a4,a5,a6]:=by
     match ms,hn8.2.1 with
     | [a0,a1,a2,a3,a4,a5,a6],_=>exact ⟨a0,a1,a2,a3,a4,a5,a6,rfl⟩
    have hA8:At w8 B (ll sv.t evv ⟨a0,a1,a2,a3,a4,a5,a6,0,0,0⟩ n bk):=hA8
    refine ⟨true,rfl,hA8.mid 0 _ (ll_tm _ _ _ _ _),?_,.inl ⟨q,{ sv with g:=⟨a0,a1,a2,a3,a4,a5,a6,0,0,0⟩,day:=n },rfl,?_,hR8,?_,?_,rfl,rfl,hr.1,hr.2⟩⟩
    ·refine ⟨hk8.os.trans hbz.os,hk8.tape.trans hbz.tape,hk8.output.trans hbz.output,Nat.le_trans hbz.size hk8.size,fun b hb=>(hk8.block b (by omega) (fun h=>?_)).trans (hbz.block b hb)⟩
     rcases h with h | h <;> omega
    ·rw [htl]
     exact tl_go (j:=2) (k:=3) (by omega) hn8 (by decide) rfl
    ·refine Lo.mono ((HL3.out.keep (S:=fun _=>False) (Keep.below hz) (fun _ _ x=>x)).owe hRF ⟨a0,a1,a2,a3,a4,a5,a6,0,0,0⟩ n (fun evv' bk' h=>at_day (HA3.out.lower hz) hA8 h) hk8) (fun x _ hx=>.inl hx)
    ·exact (Lq.nx (noL_wdk 3 (by omega)) hn8).trans (Lq.nx (noL_wdk 2 (by omega)) HNx.out)
   ·refine ⟨false,rfl,(HA3.out.lower (hz.trans (hb8.mono hzs))).mid 0 _ (ll_tm _ _ _ _ _),hbz.trans (hb8.mono (by omega)),.inr ⟨rfl,?_⟩⟩
    rw [htl]
    refine tl_none (by decide) (fun k hk hn=>?_)
    match k,hk with
    | 0,_=>exact absurd hn (by decide)
    | 1,_=>exact absurd hn (by decide)
    | 2,_=>exact absurd hn (by decide)
    | 3,_=>exact hno8
    | 4,_=>exact absurd hn (by decide)
    | 5,_=>exact absurd hn (by decide)
  have hS3:=HSS.out w3 (Below.refl _ _)
  clear hnx hR3 hA3 hk3 hRF HL1 HA1 HB1 HT1
  go_wp2_with fail
  refine hK.out _ _ hS3 (fun hHeld=>?_)
  clear hK K hS3
  try simp only [uP]
  refine tkk 7 (.bool true) rfl ?_
  simp only [uP]
  refine tkk 8 (.pointer (some ⟨B,0,none⟩)) rfl ?_
  simp only [uP]
  refine tka 9 (.pointer (some ⟨B,0,none⟩)) rfl ?_
  simp only [uP]
  refine tka 10 (.pointer (some ⟨B,0,none⟩)) rfl ?_
  simp only [uP]
  refine wpAnyH_take (i:=11) (v:=(.agg (tml sv.t).toArray)) rfl (by kernel_rfl) (by kernel_rfl) (by kernel_rfl) (fun _ _ _ h=>h) (yieldsIf_load_mid (by rfl) 23 (.tmp 15) rfl _ _ rfl _ _ (fun _ h=>h) Tryz.underlying23 rfl (by kernel_rfl)) (by assumption) ?_
  simp only [uP]
  refine tkk 13 (.pointer (some ⟨B,0,none⟩)) rfl ?_
  simp only [uP]
  refine tka 14 (.pointer (some ⟨B,0,none⟩)) rfl ?_
  simp only [uP]
  refine tka 15 (.pointer (some ⟨B,7,none⟩)) rfl ?_
  simp only [uP]
  refine tka 16 (.pointer (some ⟨B,14,none⟩)) rfl ?_
  simp only [uP]
  refine wpAnyH_ready (rs:=[12,17]) (by kernel_rfl) (by simp) ?_
  refine AllReadyH.cons rfl (fun K hK=>?_) (AllReadyH.cons rfl (fun K hK=>?_) AllReadyH.nil)
  ·have hC:=span_any sv.t w3 hst0 hst1
   unfold tmV at hC
   go_simp
   refine hC.mono ?_
   rintro e w5 ⟨rfl,hb5⟩
   go_wp2_with fail
   have HB5:=hid hb5
   clear hb5 hC
   have hS5:=HSS.out w5 HB5.out
   refine hK.out _ _ hS5 (fun hHeld=>?_)
   clear hK K hS5
   try simp only [uP]
   refine rdy 17 rfl (fun K hK=>?_)
   rw [if_pos (by rfl)]
   refine wp_valD (.int .i64 n) w5 (by (have hc:=HDy.out w5 HB5.out; go_simp)) ?_
   refine hK.out _ _ hHeld (fun hHeld=>?_)
   clear hK K
   try simp only [uP]
   refine rdy 18 rfl (fun K hK=>?_)
   have hC:=allow_any sv.t.st (sv.t.st+3700) n w5
   obtain ⟨x,hx⟩:∃ b,decide (sv.t.st≤n∧n≤sv.t.st+3700) = b:=⟨_,rfl⟩
   rw [hx] at hC
   have HX:=hid hx
   clear hx
   go_simp
   refine hC.mono ?_
   rintro e w6 ⟨rfl,hb6⟩
   go_wp2_with fail
   have HB6:Hid (Below w3.heap.size w3 w6):=HB5.out.trans (hb6.mono HB5.out.size)
   clear hC hb6
   have hS6:=HSS.out w6 HB6.out
   refine hK.out _ _ hS6 (fun hHeld=>?_)
   clear hK K hS6
   try simp only [uP]
   cases x with
   | false =>
    have HE:Hid (RnPost w B R b0 s sv F (.returned (.bool false)) w6):=HNo.out w6 HB6.out (of_decide_eq_false HX.out)
    clear HX
    refine tka 19 (.bool false) rfl ?_
    simp only [uP]
    refine tkk 20 (.bool false) rfl ?_
    simp only [uP]
    refine tku 21 rfl ?_
    simp only [uP]
    refine tku 22 rfl ?_
    simp only [uP]
    refine tku 23 rfl ?_
    simp only [uP]
    refine tku 24 rfl ?_
    simp only [uP]
    refine tku 25 rfl ?_
    simp only [uP]
    refine tku 26 rfl ?_
    simp only [uP]
    refine tka 27 (.bool false) rfl ?_
    simp only [uP]
    refine tkk 28 (.bool false) rfl ?_
    simp only [uP]
    refine wpAnyH_done (by kernel_rfl) ?_ _
    go_wp2
    go_ret
    exact HE.out
   | true =>
    have hIn:sv.t.st≤n∧n≤sv.t.st+3700:=of_decide_eq_true HX.out
    have HIn:=hid hIn
    clear HX hIn
    refine tka 19 (.bool true) rfl ?_
    simp only [uP]
    refine tkk 20 (.bool true) rfl ?_
    simp only [uP]
    refine tkk 21 (.pointer (some ⟨R,0,none⟩)) rfl ?_
    simp only [uP]
    refine tkk 22 (.pointer (some ⟨B,0,none⟩)) rfl ?_
    simp only [uP]
    refine tka 23 (.pointer (some ⟨B,0,none⟩)) rfl ?_
    simp only [uP]
    refine tka 24 (.pointer (some ⟨B,7,none⟩)) rfl ?_
    simp only [uP]
    refine rdy 25 rfl (fun K hK=>?_)
    have hC:=owedNumbers_any w6 B 7
    have hRd:=HRd2.out w6 HB6.out HIn.out
    go_simp
    refine hC.mono ?_
    rintro e w7 ⟨rfl,hw7⟩
    rw [← hw7] at hRd
    have hS7:w7.rangeAt B 0 (tml sv.t):=by rw [hw7]; exact HSS.out (w6.drew.alloc (.cells (ptrs B 7 7).toArray 110)) (HB6.out.trans (((Below.refl _ _).drew.alloc (Nat.le_refl _) _).mono HB6.out.size))
    clear hw7
    go_wp2_with fail
    refine hK.out _ _ hS7 (fun hHeld=>?_)
    clear hK K hS7 hC
    try simp only [uP]
    refine rdy 26 rfl (fun K hK=>?_)
    go_simp
    refine hRd.mono ?_
    rintro e w8 ⟨x,rfl,hS8,hE8⟩
    have HE:=hid hE8
    clear hRd hE8
    go_wp2_with fail
    refine hK.out _ _ hS8 (fun hHeld=>?_)
    clear hK K hS8
    try simp only [uP]
    refine tkg 27 (.bool x) rfl ?_
    simp only [uP]
    refine tkk 28 (.bool x) rfl ?_
    simp only [uP]
    refine wpAnyH_done (by kernel_rfl) ?_ _
    go_wp2
    go_ret
    exact HE.out
  ·rw [if_pos (by rfl)]
   refine wp_valD (.int .i64 n) w3 (by (have hc:=HDy.out w3 (Below.refl _ _); go_simp)) ?_
   refine hK.out _ _ hHeld (fun hHeld=>?_)
   clear hK K
   try simp only [uP]
   refine rdy 12 rfl (fun K hK=>?_)
   have hC:=span_any sv.t w3 hst0 hst1
   unfold tmV at hC
   go_simp
   refine hC.mono ?_
   rintro e w5 ⟨rfl,hb5⟩
   go_wp2_with fail
   have HB5:=hid hb5
   clear hb5 hC
   have hS5:=HSS.out w5 HB5.out
   refine hK.out _ _ hS5 (fun hHeld=>?_)
   clear hK K hS5
   try simp only [uP]
   refine rdy 18 rfl (fun K hK=>?_)
   have hC:=allow_any sv.t.st (sv.t.st+3700) n w5
   obtain ⟨x,hx⟩:∃ b,decide (sv.t.st≤n∧n≤sv.t.st+3700) = b:=⟨_,rfl⟩
   rw [hx] at hC
   have HX:=hid hx
   clear hx
   go_simp
   refine hC.mono ?_
   rintro e w6 ⟨rfl,hb6⟩
   go_wp2_with fail
   have HB6:Hid (Below w3.heap.size w3 w6):=HB5.out.trans (hb6.mono HB5.out.size)
   clear hC hb6
   have hS6:=HSS.out w6 HB6.out
   refine hK.out _ _ hS6 (fun hHeld=>?_)
   clear hK K hS6
   try simp only [uP]
   cases x with
   | false =>
    have HE:Hid (RnPost w B R b0 s sv F (.returned (.bool false)) w6):=HNo.out w6 HB6.out (of_decide_eq_false HX.out)
    clear HX
    refine tka 19 (.bool false) rfl ?_
    simp only [uP]
    refine tkk 20 (.bool false) rfl ?_
    simp only [uP]
    refine tku 21 rfl ?_
    simp only [uP]
    refine tku 22 rfl ?_
    simp only [uP]
    refine tku 23 rfl ?_
    simp only [uP]
    refine tku 24 rfl ?_
    simp only [uP]
    refine tku 25 rfl ?_
    simp only [uP]
    refine tku 26 rfl ?_
    simp only [uP]
    refine tka 27 (.bool false) rfl ?_
    simp only [uP]
    refine tkk 28 (.bool false) rfl ?_
    simp only [uP]
    refine wpAnyH_done (by kernel_rfl) ?_ _
    go_wp2
    go_ret
    exact HE.out
   | true =>
    have hIn:sv.t.st≤n∧n≤sv.t.st+3700:=of_decide_eq_true HX.out
    have HIn:=hid hIn
    clear HX hIn
    refine tka 19 (.bool true) rfl ?_
    simp only [uP]
    refine tkk 20 (.bool true) rfl ?_
    simp only [uP]
    refine tkk 21 (.pointer (some ⟨R,0,none⟩)) rfl ?_
    simp only [uP]
    refine tkk 22 (.pointer (some ⟨B,0,none⟩)) rfl ?_
    simp only [uP]
    refine tka 23 (.pointer (some ⟨B,0,none⟩)) rfl ?_
    simp only [uP]
    refine tka 24 (.pointer (some ⟨B,7,none⟩)) rfl ?_
    simp only [uP]
    refine rdy 25 rfl (fun K hK=>?_)
    have hC:=owedNumbers_any w6 B 7
    have hRd:=HRd2.out w6 HB6.out HIn.out
    go_simp
    refine hC.mono ?_
    rintro e w7 ⟨rfl,hw7⟩
    rw [← hw7] at hRd
    have hS7:w7.rangeAt B 0 (tml sv.t):=by rw [hw7]; exact HSS.out (w6.drew.alloc (.cells (ptrs B 7 7).toArray 110)) (HB6.out.trans (((Below.refl _ _).drew.alloc (Nat.le_refl _) _).mono HB6.out.size))
    clear hw7
    go_wp2_with fail
    refine hK.out _ _ hS7 (fun hHeld=>?_)
    clear hK K hS7 hC
    try simp only [uP]
    refine rdy 26 rfl (fun K hK=>?_)
    go_simp
    refine hRd.mono ?_
    rintro e w8 ⟨x,rfl,hS8,hE8⟩
    have HE:=hid hE8
    clear hRd hE8
    go_wp2_with fail
    refine hK.out _ _ hS8 (fun hHeld=>?_)
    clear hK K hS8
    try simp only [uP]
    refine tkg 27 (.bool x) rfl ?_
    simp only [uP]
    refine tkk 28 (.bool x) rfl ?_
    simp only [uP]
    refine wpAnyH_done (by kernel_rfl) ?_ _
    go_wp2
    go_ret
    exact HE.out
 ·have HE:Hid (RnPost w B R b0 s sv F (.returned (.bool false)) w3):=by
   refine ⟨(HB1.out.mono (by omega)).trans (hb3.mono (by have:=HB1.out.size; omega)),.inr ⟨rfl,tl_none (by decide) (fun k hk hn=>?_)⟩⟩
   match k,hk with
   | 0,_=>exact absurd hn (by decide)
   | 1,_=>exact HNe.out
   | 2,_=>exact hno
   | 3,_=>exact absurd hn (by decide)
   | 4,_=>exact absurd hn (by decide)
   | 5,_=>exact absurd hn (by decide)
  have hS3:w3.rangeAt B 0 (tml sv.t):=(HA1.out.lower hb3).mid 0 _ (ll_tm sv.t evv sv.g sv.day bk)
  clear hno hb3
  go_wp2_with fail
  refine hK.out _ _ hS3 (fun hHeld=>?_)
  clear hK K hS3
  try simp only [uP]
  refine tkk 7 (.bool false) rfl ?_
  simp only [uP]
  refine tku 8 rfl ?_
  simp only [uP]
  refine tku 9 rfl ?_
  simp only [uP]
  refine tku 10 rfl ?_
  simp only [uP]
  refine tku 11 rfl ?_
  simp only [uP]
  refine tku 12 rfl ?_
  simp only [uP]
  refine tku 13 rfl ?_
  simp only [uP]
  refine tku 14 rfl ?_
  simp only [uP]
  refine tku 15 rfl ?_
  simp only [uP]
  refine tku 16 rfl ?_
  simp only [uP]
  refine tku 17 rfl ?_
  simp only [uP]
  refine tku 18 rfl ?_
  simp only [uP]
  refine tka 19 (.bool false) rfl ?_
  simp only [uP]
  refine tkk 20 (.bool false) rfl ?_
  simp only [uP]
  refine tku 21 rfl ?_
  simp only [uP]
  refine tku 22 rfl ?_
  simp only [uP]
  refine tku 23 rfl ?_
  simp only [uP]
  refine tku 24 rfl ?_
  simp only [uP]
  refine tku 25 rfl ?_
  simp only [uP]
  refine tku 26 rfl ?_
  simp only [uP]
  refine tka 27 (.bool false) rfl ?_
  simp only [uP]
  refine tkk 28 (.bool false) rfl ?_
  simp only [uP]
  refine wpAnyH_done (by kernel_rfl) ?_ _
  go_wp2
  go_ret
  exact HE.out
end Go.Proofs.YtanndhoimpnhpaaGreatDoor
