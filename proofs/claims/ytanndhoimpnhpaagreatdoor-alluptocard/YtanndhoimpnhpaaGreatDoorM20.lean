/- Joined by program: TyG, TxG, Bq, Bc, RnF, AdJ. -/
import Derived.Test.YtanndhoimpnhpaaGreatDoorM19
namespace Go.Proofs.YtanndhoimpnhpaaGreatDoor
open Go.ChangeShapes Go.WideShapes Go.ChangeAt Go.RowKit Lg Cal
def RlPost (w:World) (b0:Nat) (s:List UInt8) (e:Ending) (w':World):Prop :=
 Below b0 w w'∧((∃ sv B F,told s = some sv∧e = .returned (.tuple #[.pointer (some ⟨B,0,none⟩),.bool true])∧IsL w' B sv F∧∀ x,F x→w.heap.size≤x∧x < w'.heap.size)∨(told s = none∧∃ q,e = .returned (.tuple #[.pointer q,.bool false])))
theorem wd_in {F:Nat→Prop} {a:Nat} {w w':World} (h:∀ x,F x→a≤x∧x < w.heap.size) (ha:a≤w.heap.size) (hs:w.heap.size≤w'.heap.size):∀ x,Wd F w w' x→a≤x∧x < w'.heap.size:=by
 rintro x (hx | hx)
 ·have:=h x hx; omega
 ·omega
theorem six_is {l:List Int} (h:l.length = 6):∃ a b c d e f,l = [a,b,c,d,e,f]:=by
 match l,h with
 | [a,b,c,d,e,f],_=>exact ⟨a,b,c,d,e,f,rfl⟩
set_option maxRecDepth 10000 in
set_option maxHeartbeats 4000000 in
theorem readloan_any (w:World) (R b0:Nat) (s:List UInt8) (hR:At w R [.string (bs s)]) (hb0:b0≤R) (hs:Sh s) (hg:∀ wx,Below b0 w wx→Gl wx∧Lim wx) :
  Calls Tryz.prog 33 #[.pointer (some ⟨R,0,none⟩)] w (RlPost w b0 s):=by
 have hRl:R < w.heap.size:=At.lt hR
 obtain ⟨N,hN⟩:∃ N,N = w.heap.size:=⟨_,rfl⟩
 have hB1:Below w.heap.size w (w.alloc (.cells #[.int .i64 0,.int .i64 0,.int .i64 0,.int .i64 0,.int .i64 0,.int .i64 0] 23)):=(Below.refl _ _).alloc (Nat.le_refl _) _
 have hA1:At (w.alloc (.cells #[.int .i64 0,.int .i64 0,.int .i64 0,.int .i64 0,.int .i64 0,.int .i64 0] 23)) N [.int .i64 0,.int .i64 0,.int .i64 0,.int .i64 0,.int .i64 0,.int .i64 0]:=by rw [hN]; exact At.alloc w [.int .i64 0,.int .i64 0,.int .i64 0,.int .i64 0,.int .i64 0,.int .i64 0] _
 have hR1:=hR.lower hB1
 have HN:=hid hN
 have HG:=hid hg
 have HB1:=hid hB1
 have HS1:Hid (w.heap.size < (w.alloc (.cells #[.int .i64 0,.int .i64 0,.int .i64 0,.int .i64 0,.int .i64 0,.int .i64 0] 23)).heap.size):=by
  show w.heap.size < _
  have:=At.lt hA1
  rw [hN] at this
  exact this
 have HA1:=hid hA1
 have HR1:=hid hR1
 clear hR hg hB1 hA1 hR1
 go_enter Tryz.func33,Tryz.ntmps33
 go_upto_region 2 with fail
 rw [← hN]
 clear hN
 generalize w.alloc (.cells #[.int .i64 0,.int .i64 0,.int .i64 0,.int .i64 0,.int .i64 0,.int .i64 0] 23) = w1 at *
 have hB2:Below w1.heap.size w1 (w1.drew.alloc (.cells (ptrs N 0 6).toArray 110)):=(Below.refl _ _).drew.alloc (Nat.le_refl _) _
 have hz1:=HB1.out.size
 have hz2:=HS1.out
 have hz3:=HN.out
 have hCn:=termsNumbers_any w1 N 0
 have hb2:Below b0 w (w1.drew.alloc (.cells (ptrs N 0 6).toArray 110)):=(HB1.out.mono (by omega)).trans (hB2.mono (by omega))
 have hRd:=read_any (w1.drew.alloc (.cells (ptrs N 0 6).toArray 110)) R s wLoan N 0 6 [.int .i64 0,.int .i64 0,.int .i64 0,.int .i64 0,.int .i64 0,.int .i64 0] _ (HR1.out.lower hB2) hs (Pt.made w1 R N 0 6 (by omega) (by omega)) (HA1.out.lower hB2) (show 0+6≤6 by decide) (by omega) (noB_wdk 0 (by omega)) (noL_wdk 0 (by omega)) (by decide) (by omega) (HG.out _ hb2).1
 have HB2:Hid (Below b0 w (w1.drew.alloc (.cells (ptrs N 0 6).toArray 110))∧w1.heap.size≤(w1.drew.alloc (.cells (ptrs N 0 6).toArray 110)).heap.size):=⟨hb2,hB2.size⟩
 clear hB2 hz1 hz2 hz3 hb2
 go_wp2_with fail
 refine hCn.mono ?_
 rintro e w6 ⟨rfl,rfl⟩
 clear hCn
 generalize w1.drew.alloc (.cells (ptrs N 0 6).toArray 110) = w2 at *
 go_wp2_with fail
 refine hRd.mono ?_
 rintro e w3 hx
 clear hRd
 rcases hx with ⟨ns,r,hnx,rfl,hR3,hN3,hk3⟩ | ⟨hno,rfl,hb3⟩
 ·obtain ⟨a,b,c,d,e,f,rfl⟩:=six_is hnx.2.1
  obtain ⟨t,ht⟩:∃ t:Ln.Terms,t = ⟨a,b,c,d,e,f⟩:=⟨_,rfl⟩
  have HNx:Hid (Nx s (wdk 0) (cnk 0) [a,b,c,d,e,f] r):=hnx
  have HR3:=hid hR3
  have hN3:At w3 N (tml t):=by rw [ht]; exact hN3
  have HB3:Hid (Below b0 w w3∧w1.heap.size≤w3.heap.size):=by
   refine ⟨⟨hk3.os.trans HB2.out.1.os,hk3.tape.trans HB2.out.1.tape,hk3.output.trans HB2.out.1.output,Nat.le_trans HB2.out.1.size hk3.size,fun b hb=>(hk3.block b ?_ ?_).trans (HB2.out.1.block b hb)⟩,Nat.le_trans HB2.out.2 hk3.size⟩
   ·have:=HB2.out.2; have:=HS1.out; omega
   ·intro h
    have:=HN.out
    rcases h with h | h <;> omega
  have HFst:Hid (Sv.first [a,b,c,d,e,f] = if rtB t = true then some ⟨t,[],Ln.start t,t.st,[]⟩ else none):=by rw [ht]; exact rfl
  have hr3:w3.rangeAt N 0 (tml t):=hN3.range
  clear ht hnx hR3 hN3 hk3 HB2
  go_upto_region 4 with fail
  refine wp_region_lit ?_
  refine wpList_load_mid rfl 23 (.tmp 4) rfl N 0 rfl (tml t) _ hr3 Tryz.underlying23 rfl (by kernel_rfl) ?_
  simp only [uP]
  clear hr3
  cases hrt:rtB t with
  | false =>
   have hO:=open_bad t w3 hrt
   have HTo:Hid (told s = none):=by
    show told s = none
    rw [told_tl]
    refine tl_fail (k:=0) (by omega) HNx.out ?_
    unfold stepK
    rw [if_pos rfl,HFst.out,hrt]
    rfl
   clear hrt HFst
   unfold tmV at hO
   go_wp2_with fail
   refine hO.mono ?_
   rintro x w4 ⟨rfl,hb4⟩
   have HE:Hid (RlPost w b0 s (.returned (.tuple #[.pointer none,.bool false])) w4):=⟨HB3.out.1.trans (hb4.mono (by have:=HB3.out.2; have:=HS1.out; omega)),.inr ⟨HTo.out,none,rfl⟩⟩
   clear hO hb4
   go_wp2
   go_ret2
   exact HE.out
  | true =>
   have hO:=openL t w3 hrt
   have hrt2:=rt_ok hrt
   have HSt:Hid (0≤t.st∧t.st≤105872):=⟨hrt2.st0,hrt2.st1⟩
   have HTo:Hid (told s = tl 1 (some ⟨t,[],Ln.start t,t.st,[]⟩) r):=by
    show told s = _
    rw [told_tl,← tl_01]
    refine tl_go (j:=-1) (k:=0) (by omega) HNx.out (by decide) ?_
    unfold stepK
    rw [if_pos rfl,HFst.out,hrt]
    rfl
   have HLr:Hid (Lq r s):=Lq.nx (noL_wdk 0 (by omega)) HNx.out
   clear hrt HFst hrt2 HNx
   unfold tmV at hO
   go_wp2_with fail
   refine hO.mono ?_
   rintro x w4 ⟨B,rfl,hLo,hb4⟩
   have hq1:=HB3.out.2
   have hq2:=HS1.out
   have hq3:=HN.out
   have hq4:=hb4.size
   have hq5:=HLr.out
   have hF4:∀ x,Wd (fun _=>False) w3 w4 x→w3.heap.size≤x∧x < w4.heap.size:=fun x hx=>hx.elim (fun h=>h.elim) (fun h=>h)
   have hb04:Below b0 w w4:=HB3.out.1.trans (hb4.mono (by omega))
   have hEv:=readevents_any w4 B R b0 r ⟨t,[],Ln.start t,t.st,[]⟩ (Wd (fun _=>False) w3 w4) hLo (HR3.out.lower hb4) (fun x hx=>by have:=hF4 x hx; omega) hb0 (hq5.2 hs) (fun wx hx=>HG.out wx (hb04.trans hx))
   have HF4:=hid hF4
   have HB4:Hid (Below b0 w w4∧w3.heap.size≤w4.heap.size∧R < w3.heap.size∧N < w3.heap.size∧w.heap.size≤w3.heap.size):=⟨hb04,hq4,by omega,by omega,by omega⟩
   generalize hsv0:(⟨t,[],Ln.start t,t.st,[]⟩:Sv) = sv0 at *
   generalize hF0:Wd (fun _=>False) w3 w4 = F0 at *
   have HS0:Hid (sv0.t = t∧sv0.L = []):=by rw [← hsv0]; exact ⟨rfl,rfl⟩
   clear hO hLo hb4 hq1 hq2 hq3 hq4 hq5 hF4 hb04 hsv0 hF0 HB3 HR3
   go_wp2_with fail
   refine hEv.mono ?_
   rintro x w5 ⟨hb5,⟨s1,sv1,rfl,htl1,hne1,hR5,hL5,hl1,hl2,ht1,hd1⟩ | ⟨rfl,htl1⟩⟩
   ·have hq1:=HB4.out
    have hq5:=HLr.out
    have hz5:=hb5.size
    have hF5:=wd_in HF4.out hq1.2.1 hz5
    have hb05:Below b0 w w5:=HB4.out.1.trans hb5
    have hNw:=readnow_any w5 B R b0 s1 sv1 (Wd F0 w4 w5) hL5 hR5 (fun x hx=>by have:=hF5 x hx; omega) hb0 ((hl1.trans hq5).2 hs) hne1 (fun wx hx=>(HG.out wx (hb05.trans hx)).1)
    have HTo1:Hid (told s = tl 1 (some sv1) s1):=HTo.out.trans htl1
    have HF5:=hid hF5
    have HB5:Hid (Below b0 w w5∧w3.heap.size≤w5.heap.size):=⟨hb05,by omega⟩
    have HS1b:Hid (sv1.t = t∧sv1.L.length+s1.length≤r.length∧Lq s1 s):=⟨ht1.trans HS0.out.1,by have:=HS0.out.2; rw [this] at hl2; simpa using hl2,hl1.trans hq5⟩
    generalize hF0:Wd F0 w4 w5 = F1 at *
    clear hEv htl1 hne1 hR5 hL5 hl1 hl2 ht1 hd1 hq1 hq5 hz5 hF5 hb05 hb5 hF0
    go_wp2_with fail
    refine hNw.mono ?_
    rintro x w6 ⟨hb6,⟨s2,sv2,rfl,htl2,hR6,hL6,hl1,hLe,ht2,hd1,hd2⟩ | ⟨rfl,htl2⟩⟩
    ·have hq1:=HB4.out
     have hq2:=HB5.out
     have hq5:=HLr.out
     have hq6:=HS1b.out
     have hz6:=hb6.size
     have hF6:=wd_in HF5.out hq2.2 hz6
     have hb06:Below b0 w w6:=HB5.out.1.trans hb6
     have hst:=HSt.out
     rw [hq6.1] at hd1 hd2
     have hBk:=readbook_any w6 B R b0 s2 sv2 (Wd F1 w5 w6) hL6 hR6 (fun x hx=>by have:=hF6 x hx; omega) hb0 ((hl1.trans hq6.2.2).2 hs) (by rw [hLe]; have:=hs.2; have:=hl1.1; have:=hq5.1; omega) (by omega) (by omega) (fun wx hx=>(HG.out wx (hb06.trans hx)).1)
     have HTo2:Hid (told s = tl 4 (some sv2) s2):=(HTo1.out.trans htl2).trans (tl_34 _ _)
     have HF6:=hid hF6
     have HB6:Hid (Below b0 w w6∧w3.heap.size≤w6.heap.size∧Lq s2 s):=⟨hb06,by omega,hl1.trans hq6.2.2⟩
     generalize hF0:Wd F1 w5 w6 = F2 at *
     clear hNw htl2 hR6 hL6 hl1 hLe ht2 hd1 hd2 hq1 hq2 hq5 hq6 hz6 hF6 hb06 hst hb6 hF0
     go_wp2_with fail
     refine hBk.mono ?_
     rintro x w7 ⟨hb7,⟨s3,sv3,rfl,htl3,hne3,hR7,hL7,hl1,hl2,ht3,hd3⟩ | ⟨rfl,htl3⟩⟩
     ·have hq1:=HB4.out
      have hq2:=HB6.out
      have hz7:=hb7.size
      have hF7:=wd_in HF6.out hq2.2.1 hz7
      have hb07:Below b0 w w7:=HB6.out.1.trans hb7
      have hEd:=read_any w7 R s3 wEnd N 0 0 [] (.slice none 0 0) hR7 ((hl1.trans hq2.2.2).2 hs) ⟨none,0,rfl,Nat.le_refl _,fun k hk=>absurd hk (Nat.not_lt_zero k)⟩ (fun k v hk=>by simp at hk) (Nat.le_refl _) (by have:=HN.out; omega) (noB_wdk 5 (by omega)) (noL_wdk 5 (by omega)) (by decide) (by omega) (HG.out _ hb07).1
      have HTo3:Hid (told s = tl 4 (some sv3) s3):=HTo2.out.trans htl3
      have HF7:=hid hF7
      have HB7:Hid (Below b0 w w7∧w3.heap.size≤w7.heap.size):=⟨hb07,by omega⟩
      have HL7:=hid hL7
      have HNe3:=hid hne3
      generalize hF0:Wd F2 w6 w7 = F3 at *
      clear hBk htl3 hne3 hR7 hL7 hl1 hl2 ht3 hd3 hq1 hq2 hz7 hF7 hb07 hb7 hF0
      go_wp2_with fail
      refine hEd.mono ?_
      rintro x w8 hx
      rcases hx with ⟨ns,s4,hnx,rfl,hR8,_,hk8⟩ | ⟨hno,rfl,hb8⟩
      ·have hns:ns = []:=List.length_eq_zero_iff.1 hnx.2.1
       subst hns
       have hq1:=HB4.out
       have HB8:Hid (Below b0 w w8):=by
        have hq2:=HB7.out
        refine ⟨hk8.os.trans hq2.1.os,hk8.tape.trans hq2.1.tape,hk8.output.trans hq2.1.output,Nat.le_trans hq2.1.size hk8.size,fun b hb=>(hk8.block b ?_ ?_).trans (hq2.1.block b hb)⟩
        ·omega
        ·intro h
         have:=HN.out
         rcases h with h | h <;> omega
       have HL8:Hid (IsL w8 B sv3 F3):=HL7.out.keep hk8 (fun b hb h=>by
        have:=HF7.out b hb
        rcases h with h | h <;> omega)
       have HTo4:Hid (told s = if s4 = [] then some sv3 else none):=by
        refine HTo3.out.trans (Eq.trans ?_ (tl_end _ _))
        exact tl_go (j:=4) (k:=5) (by omega) hnx (by decide) rfl
       have HZ8:Hid (w7.heap.size≤w8.heap.size):=hk8.size
       have hAe:=atend_any w8 R s4 hR8
       obtain ⟨y,hy⟩:∃ y,decide (s4 = []) = y:=⟨_,rfl⟩
       rw [hy] at hAe
       have HE:Hid (RlPost w b0 s (.returned (.tuple #[.pointer (some ⟨B,0,none⟩),.bool y])) w8):=by
        refine ⟨HB8.out,?_⟩
        have h4:=HTo4.out
        cases y with
        | true =>
         rw [if_pos (of_decide_eq_true hy)] at h4
         exact .inl ⟨sv3,B,F3,h4,rfl,HL8.out,fun x hx=>by have:=HF7.out x hx; have:=HZ8.out; omega⟩
        | false =>
         rw [if_neg (of_decide_eq_false hy)] at h4
         exact .inr ⟨h4,_,rfl⟩
       clear hEd hnx hR8 hk8 hq1 hy
       go_wp2_with fail
       refine hAe.mono ?_
       rintro x w9 ⟨rfl,rfl⟩
       clear hAe
       go_wp2
       go_ret2
       exact HE.out
      ·have HE:Hid (RlPost w b0 s (.returned (.tuple #[.pointer (some ⟨B,0,none⟩),.bool false])) w8):=by
        refine ⟨HB7.out.1.trans (hb8.mono (by have:=HB7.out; have:=HB4.out; omega)),.inr ⟨HTo3.out.trans (tl_none (by decide) (fun k hk hn=>?_)),_,rfl⟩⟩
        match k,hk with
        | 0,_=>exact absurd hn (by decide)
        | 1,_=>exact absurd hn (by decide)
        | 2,_=>exact absurd hn (by decide)
        | 3,_=>exact absurd hn (by decide)
        | 4,_=>exact HNe3.out
        | 5,_=>exact hno
       clear hEd hno hb8
       go_wp2
       go_ret2
       exact HE.out
     ·have HE:Hid (RlPost w b0 s (.returned (.tuple #[.pointer (some ⟨B,0,none⟩),.bool false])) w7):=⟨HB6.out.1.trans hb7,.inr ⟨HTo2.out.trans htl3,_,rfl⟩⟩
      clear hBk hb7 htl3
      go_wp2
      go_ret2
      exact HE.out
    ·have HE:Hid (RlPost w b0 s (.returned (.tuple #[.pointer (some ⟨B,0,none⟩),.bool false])) w6):=⟨HB5.out.1.trans hb6,.inr ⟨HTo1.out.trans htl2,_,rfl⟩⟩
     clear hNw hb6 htl2
     go_wp2
     go_ret2
     exact HE.out
   ·have HE:Hid (RlPost w b0 s (.returned (.tuple #[.pointer (some ⟨B,0,none⟩),.bool false])) w5):=⟨HB4.out.1.trans hb5,.inr ⟨HTo.out.trans htl1,_,rfl⟩⟩
    clear hEv hb5 htl1
    go_wp2
    go_ret2
    exact HE.out
 ·have HE:Hid (RlPost w b0 s (.returned (.tuple #[.pointer none,.bool false])) w3):=by
   refine ⟨HB2.out.1.trans (hb3.mono (by have:=HB2.out.2; have:=HS1.out; omega)),.inr ⟨?_,_,rfl⟩⟩
   rw [told_tl]
   refine tl_none (by decide) (fun k hk hn=>?_)
   match k,hk with
   | 0,_=>exact hno
   | 1,_=>exact absurd hn (by decide)
   | 2,_=>exact absurd hn (by decide)
   | 3,_=>exact absurd hn (by decide)
   | 4,_=>exact absurd hn (by decide)
   | 5,_=>exact absurd hn (by decide)
  clear hno hb3
  go_wp2
  go_ret2
  exact HE.out
end Go.Proofs.YtanndhoimpnhpaaGreatDoor
namespace Go.Proofs.YtanndhoimpnhpaaGreatDoor
open Go.ChangeShapes Go.WideShapes Go.ChangeAt Go.RowKit Lg Cal Txt
def PartsPost (w:World) (word:List UInt8) (P:List (List UInt8)) (e:Ending) (w':World):Prop :=
 Below w.heap.size w w'∧((∃ ns v,Says P ns∧e = .returned (.tuple #[.string (bs word),v,.bool true])∧IsV w' v ns∧∀ b,v.ownBlock = some b→w.heap.size≤b)∨((¬ ∃ ns,Says P ns)∧∃ v,e = .returned (.tuple #[.string (bs word),v,.bool false])))
theorem own_isv {w:World} {base:Nat} {T:TypeId} {v:Value} {zs:List Int} (h:w.ownsRow base T 1 v zs.length (zs.map (Value.int .i64))):IsV w v zs:=by
 obtain ⟨hl,hn | ⟨g,cap,cur,rfl,hg⟩⟩:=id h
 ·obtain ⟨rfl,hz⟩:=hn
  obtain rfl:zs = []:=List.length_eq_zero_iff.1 hz
  exact ⟨none,0,rfl,Nat.le_refl _,fun k hk=>absurd hk (Nat.not_lt_zero k)⟩
 ·refine ⟨_,cap,rfl,hg.2.2.1,fun k hk=>⟨g,0,rfl,(own_base h (b:=g) rfl).2,?_⟩⟩
  rw [Nat.zero_add,h.cellAt k (by omega),List.getElem?_map,List.getElem?_eq_getElem hk]
  rfl
theorem byte_ne {c:UInt8} (h:¬ c = 32):((c.toNat:Int) != 32) = true:=by
 rw [bne_iff_ne]
 intro e
 exact h (UInt8.toNat_inj.1 (by show c.toNat = 32; omega))
def PtL (w:World) (word:List UInt8) (P:List (List UInt8)) (s5 s7:Value) (wr:World):Prop:=∃ (j:Nat) (ns:List Int),j≤P.length∧s5 = .int .i64 (bpos word P j)∧Says (P.take j) ns∧ns.length = j∧wr.ownsRow w.heap.size 3 1 s7 ns.length (ns.map (Value.int .i64))∧Below w.heap.size w wr
set_option maxRecDepth 10000 in
set_option maxHeartbeats 2000000 in
theorem parts_any (w:World) (word:List UInt8) (P:List (List UInt8)) (hw:NoB word) (hP:∀ p∈P,NoB p) (hs:(word ++ bj P).length≤1000000000000) :
  Calls Tryz.prog 71 #[.string (bs (word ++ bj P))] w (PartsPost w word P):=by
 obtain ⟨i0,hi,hz0,hz1,hz2⟩:=info_parts infoInt
 obtain ⟨S,hS⟩:∃ S,S = bs (word ++ bj P):=⟨_,rfl⟩
 have hSz:S.size = (word ++ bj P).length:=by rw [hS,bs_size]
 have HAt:Hid (∀ i c,(word ++ bj P)[i]? = some c→∃ h:i < S.size,S[i] = c):=fun i c h=>by
  obtain ⟨h1,h2⟩:=List.getElem?_eq_some_iff.1 h
  refine ⟨by omega,?_⟩
  subst hS
  rw [← h2]
  exact bs_get _ i h1 _
 have HEx:Hid (∀ a b,S.extract a b = bs (((word ++ bj P).drop a).take (b - a))):=fun a b=>by rw [hS,bs_extract]
 have HW:=hid hw
 have HP:=hid hP
 have hPl:P.length≤(bj P).length:=by
  clear HAt HEx HW HP hP hs hSz hS
  induction P with
  | nil=>simp
  | cons p r ih=>simp only [bj,List.length_cons,List.length_append]; omega
 have hll:(word ++ bj P).length = word.length+(bj P).length:=List.length_append
 have HSl:=hid hSz
 rw [← hS]
 clear hS hw hP
 have zS:S.size≤1000000000000:=by omega
 clear hSz
 go_enter Tryz.func71,Tryz.ntmps71
 go_wp2
 go_loop [5] (fun s5=>∃ k:Nat,k≤word.length∧s5 = .int .i64 k) (fun s5=>S.size - (intOf s5).toNat)
 case atStart=>exact ⟨0,Nat.zero_le _,rfl⟩
 case round =>
  obtain ⟨k,hk,rfl⟩:=hrel
  by_cases hlt:k < word.length
  ·obtain ⟨h1,h2⟩:=HAt.out k word[k] (by rw [List.getElem?_append_left hlt,List.getElem?_eq_getElem hlt])
   have zk:(k:Int) < (S.size:Int):=by omega
   have hb:((S[k].toNat:Int) != 32) = true:=by rw [h2]; exact byte_ne (HW.out _ (List.getElem_mem hlt))
   clear h2
   go_wp2
   exact ⟨⟨k+1,hlt,rfl⟩,by simp [intOf]; omega⟩
  ·obtain rfl:k = word.length:=by omega
   have HX:Hid (S.extract 0 word.length = bs word):=by
    show _ = _
    rw [HEx.out]
    congr 1
    simp
   have zw:word.length≤S.size:=by rw [HSl.out]; omega
   have HL0:Hid (PtL w word P (.int .i64 (word.length:Int)) (.slice none 0 0) w):=⟨0,[],Nat.zero_le _,by unfold bpos; simp [bj],⟨rfl,fun n hn=>by simp at hn⟩,rfl,World.ownsRow_nil _ _ _ _,Below.refl _ _⟩
   by_cases h0:word.length < S.size
   ·have h32:((S[word.length].toNat:Int) != 32) = false:=by
     have hPn:0 < P.length:=by
      rcases Nat.eq_zero_or_pos P.length with e | e
      ·have e2:P = []:=List.length_eq_zero_iff.1 e
       have:=HSl.out
       rw [e2] at this
       simp [bj] at this
       omega
      ·exact e
     obtain ⟨h1,h2⟩:=HAt.out word.length 32 (by have:=bpos_blank word P 0 hPn; unfold bpos at this; simpa [bj] using this)
     rw [h2]
     rfl
    have zk:(word.length:Int) < (S.size:Int):=by omega
    go_upto_region 5 with fail
    rw [HX.out]
    clear HX
    go_wp2
    go_loopw [5,7,8,9,10] (fun s5 s7 _ _ _ wr=>PtL w word P s5 s7 wr) (fun s5 _ _ _ _ _=>S.size - (intOf s5).toNat)
    case atStart=>exact HL0.out
    case round =>
     obtain ⟨j,ns,hj,rfl,hsay,hnl,hown,hbel⟩:=hrel
     have HSay:=hid hsay
     obtain ⟨p7,c7,h7⟩:=own_slice hown
     subst h7
     have HOw:=hid hown
     have HBl:=hid hbel
     have HNl:=hid hnl
     have hn4:ns.length≤1000000000000:=by omega
     clear hsay hown hbel HL0 hnl
     by_cases hlt:j < P.length
     ·have hle:=bpos_lt word P j
      have hsu:=bpos_succ word P j hlt
      have z1:(bpos word P j:Int) < (S.size:Int):=by rw [HSl.out]; omega
      have HNo:Hid (NoB P[j]):=HP.out _ (List.getElem_mem hlt)
      obtain ⟨f,hf⟩:∃ f:Nat,f = bpos word P j+1:=⟨_,rfl⟩
      have HBy:Hid (∀ x,f≤x→x < bpos word P (j+1)→∃ h:x < S.size,((S[x].toNat:Int) != 32) = true):=fun x h1 h2=>by
       obtain ⟨h1,h2⟩:=HAt.out _ _ (bpos_at word P j hlt (x - f) (by omega))
       rw [← hf,show f+(x - f) = x by omega] at h1
       refine ⟨h1,?_⟩
       have h3:S[x] = P[j][x - f]'(by omega):=by
        have:=h2
        simp only [← hf,show f+(x - f) = x by omega] at this
        exact this
       rw [h3]
       exact byte_ne (HNo.out _ (List.getElem_mem _))
      have HPc:Hid (S.extract f (bpos word P (j+1)) = bs P[j]):=by
       show _ = _
       rw [HEx.out,hf,hsu,show bpos word P j+1+P[j].length - (bpos word P j+1) = P[j].length by omega,bpos_piece word P j hlt]
      have HEnd:Hid (¬ bpos word P (j+1) < S.size∨∃ h:bpos word P (j+1) < S.size,((S[bpos word P (j+1)].toNat:Int) != 32) = false):=by
       by_cases hlast:j+1 < P.length
       ·obtain ⟨h1,h2⟩:=HAt.out _ _ (bpos_blank word P (j+1) hlast)
        exact .inr ⟨h1,by rw [h2]; rfl⟩
       ·refine .inl ?_
        rw [show j+1 = P.length by omega,bpos_all,← HSl.out]
        omega
      have HTk:Hid (P.take (j+1) = P.take j ++ [P[j]]):=List.take_succ_eq_append_getElem hlt
      have hfq:f≤bpos word P (j+1):=by omega
      have hqS:bpos word P (j+1)≤S.size:=by rw [HSl.out]; exact hle
      have hf1:(bpos word P j:Int)+1 = (f:Int):=by omega
      have HPost:Hid (∀ z,InR z→P[j] = Lib.itoa z→Says (P.take (j+1)) (ns ++ [z])):=fun z hz e=>by
       refine ⟨?_,fun n hn=>?_⟩
       ·rw [HTk.out,HSay.out.1,e,List.map_append]
        rfl
       ·rcases List.mem_append.1 hn with h | h
        ·exact HSay.out.2 n h
        ·rw [List.mem_singleton] at h; subst h; exact hz
      have HBad:Hid ((∀ n,InR n→¬ P[j] = Lib.itoa n)→¬ ∃ ms,Says P ms):=fun h ⟨ms,hm⟩=>by
       have e1:j < ms.length:=by have:=congrArg List.length hm.1; rw [List.length_map] at this; omega
       refine h ms[j] (hm.2 _ (List.getElem_mem e1)) ?_
       have e2:P[j]? = (ms.map Lib.itoa)[j]?:=congrArg (fun l:List (List UInt8)=>l[j]?) hm.1
       rw [List.getElem?_eq_getElem hlt,List.getElem?_map,List.getElem?_eq_getElem e1] at e2
       exact Option.some.inj e2
      clear hsu hf hle
      generalize P[j] = pc at *
      generalize hb1:bpos word P (j+1) = q1 at *
      have HB1:=hid hb1
      generalize bpos word P j = q0 at *
      clear HNo hb1
      go_wp2
      go_loop [5] (fun s5=>∃ x:Nat,f≤x∧x≤q1∧s5 = .int .i64 x) (fun s5=>S.size - (intOf s5).toNat)
      case atStart=>exact ⟨f,Nat.le_refl _,hfq,rfl⟩
      case round =>
       obtain ⟨x,hfx,hxq,rfl⟩:=hrel
       by_cases hil:x < q1
       ·obtain ⟨h1,h2⟩:=HBy.out x hfx hil
        have zi:(x:Int) < (S.size:Int):=by omega
        go_wp2
        exact ⟨⟨x+1,by omega,hil,rfl⟩,by simp [intOf]; omega⟩
       ·obtain rfl:q1 = x:=by omega
        have hN:=refnumber_any (bs pc) wr
        rw [← HPc.out] at hN
        rcases HEnd.out with hno | ⟨h1,h2⟩
        ·have zi:¬ (q1:Int) < (S.size:Int):=by omega
         go_wp2_with fail
         refine hN.mono ?_
         rintro e w1 ⟨z,b,rfl,hb1,hor⟩
         clear hN
         rcases hor with ⟨rfl,hz,he⟩ | ⟨rfl,he⟩
         ·have hpz:pc = Lib.itoa z:=by rw [HPc.out] at he; have:=bs_eq he; rwa [bs_list] at this
          have HSy:Hid (Says (P.take (j+1)) (ns ++ [z])):=HPost.out z hz hpz
          have hbw:Below w.heap.size w w1:=HBl.out.trans (hb1.mono HBl.out.size)
          have hO1:w1.ownsRow w.heap.size 3 1 (.slice p7 ns.length c7) ns.length (ns.map (Value.int .i64)):=own_keep (S:=fun _=>False) HOw.out (Keep.below hb1) (fun _ _ x=>x)
          have hBa:Below w1.heap.size w1 (w1.alloc (.cells #[.int .i64 z] 3)):=(Below.refl _ _).alloc (Nat.le_refl _) _
          have hO2:(w1.alloc (.cells #[.int .i64 z] 3)).ownsRow w.heap.size 3 1 (.slice p7 ns.length c7) ns.length (ns.map (Value.int .i64)):=own_keep (S:=fun _=>False) hO1 (Keep.below hBa) (fun _ _ x=>x)
          have hne:∀ i u,[Value.int .i64 z][i]? = some u→(w1.alloc (.cells #[.int .i64 z] 3)).cell? ((⟨w1.heap.size,0,none⟩:Addr).add i) = some u:=fun i u hu=>by
           have:=(At.alloc w1 [Value.int .i64 z] 3 i u hu).1
           rw [Addr.add_lit,Nat.zero_add]
           exact this
          clear he hpz hb1 hO1 HPost HBad HPc HEnd HBy HTk
          go_upto_region 14 with fail
          refine wp_region_lit ?_
          refine wpList_val (.slice p7 ns.length c7) w1 rfl rfl ?_
          simp only [uP]
          refine wpList_val (.int .i64 z) w1 rfl rfl ?_
          simp only [uP]
          refine wpList_val (.slice (some ⟨w1.heap.size,0,none⟩) 1 1) (w1.alloc (.cells #[.int .i64 z] 3)) rfl (by kernel_rfl) ?_
          simp only [uP]
          refine wpList_append_own _ rfl (.tmp 56) (.tmp 58) 38 rfl w.heap.size 3 i0 (.int .i64 0) 1 8 Tryz.underlying38 hi hz0 hz1 hz2 rfl (by omega) _ ns.length _ rfl hO2 ⟨w1.heap.size,0,none⟩ 1 1 _ rfl rfl hne (fun u hu=>?_) (by unfold maxLen; omega) (by omega) (Nat.le_trans hbw.size hBa.size) ?_
          ·rw [List.mem_singleton] at hu
           subst hu
           rfl
          intro v' w2 ho2 hg2 _
          have HN:Hid (PtL w word P (.int .i64 (q1:Int)) v' w2):=by
           refine ⟨j+1,ns ++ [z],hlt,by rw [HB1.out],HSy.out,by rw [List.length_append,HNl.out]; rfl,?_,?_⟩
           ·rw [List.length_append,List.map_append]; exact ho2
           ·have hw2:=hbw.trans (hBa.mono hbw.size)
            refine ⟨hg2.os.trans hw2.os,hg2.tape.trans hw2.tape,hg2.output.trans hw2.output,Nat.le_trans hw2.size hg2.size,fun b hb=>(hg2.block b (Nat.lt_of_lt_of_le hb hw2.size) (fun e=>?_)).trans (hw2.block b hb)⟩
            have:=(own_base hO2 (b:=b) e.symm).1
            omega
          clear hO2 hne ho2 hg2 hBa hbw HSy
          simp only [uP]
          go_wp2
          exact ⟨HN.out,by simp [intOf]; omega⟩
         ·have HE:Hid (PartsPost w word P (.returned (.tuple #[.string (bs word),.slice none 0 0,.bool false])) w1):=by
           refine ⟨HBl.out.trans (hb1.mono HBl.out.size),.inr ⟨HBad.out (fun n hn e=>he n hn ?_),_,rfl⟩⟩
           rw [HPc.out,e]
          clear he hb1 HPost HBad HPc HEnd HBy HTk
          go_wp2
          go_ret3
          exact HE.out
        ·have zi:(q1:Int) < (S.size:Int):=by omega
         go_wp2_with fail
         refine hN.mono ?_
         rintro e w1 ⟨z,b,rfl,hb1,hor⟩
         clear hN
         rcases hor with ⟨rfl,hz,he⟩ | ⟨rfl,he⟩
         ·have hpz:pc = Lib.itoa z:=by rw [HPc.out] at he; have:=bs_eq he; rwa [bs_list] at this
          have HSy:Hid (Says (P.take (j+1)) (ns ++ [z])):=HPost.out z hz hpz
          have hbw:Below w.heap.size w w1:=HBl.out.trans (hb1.mono HBl.out.size)
          have hO1:w1.ownsRow w.heap.size 3 1 (.slice p7 ns.length c7) ns.length (ns.map (Value.int .i64)):=own_keep (S:=fun _=>False) HOw.out (Keep.below hb1) (fun _ _ x=>x)
          have hBa:Below w1.heap.size w1 (w1.alloc (.cells #[.int .i64 z] 3)):=(Below.refl _ _).alloc (Nat.le_refl _) _
          have hO2:(w1.alloc (.cells #[.int .i64 z] 3)).ownsRow w.heap.size 3 1 (.slice p7 ns.length c7) ns.length (ns.map (Value.int .i64)):=own_keep (S:=fun _=>False) hO1 (Keep.below hBa) (fun _ _ x=>x)
          have hne:∀ i u,[Value.int .i64 z][i]? = some u→(w1.alloc (.cells #[.int .i64 z] 3)).cell? ((⟨w1.heap.size,0,none⟩:Addr).add i) = some u:=fun i u hu=>by
           have:=(At.alloc w1 [Value.int .i64 z] 3 i u hu).1
           rw [Addr.add_lit,Nat.zero_add]
           exact this
          clear he hpz hb1 hO1 HPost HBad HPc HEnd HBy HTk
          go_upto_region 14 with fail
          refine wp_region_lit ?_
          refine wpList_val (.slice p7 ns.length c7) w1 rfl rfl ?_
          simp only [uP]
          refine wpList_val (.int .i64 z) w1 rfl rfl ?_
          simp only [uP]
          refine wpList_val (.slice (some ⟨w1.heap.size,0,none⟩) 1 1) (w1.alloc (.cells #[.int .i64 z] 3)) rfl (by kernel_rfl) ?_
          simp only [uP]
          refine wpList_append_own _ rfl (.tmp 56) (.tmp 58) 38 rfl w.heap.size 3 i0 (.int .i64 0) 1 8 Tryz.underlying38 hi hz0 hz1 hz2 rfl (by omega) _ ns.length _ rfl hO2 ⟨w1.heap.size,0,none⟩ 1 1 _ rfl rfl hne (fun u hu=>?_) (by unfold maxLen; omega) (by omega) (Nat.le_trans hbw.size hBa.size) ?_
          ·rw [List.mem_singleton] at hu
           subst hu
           rfl
          intro v' w2 ho2 hg2 _
          have HN:Hid (PtL w word P (.int .i64 (q1:Int)) v' w2):=by
           refine ⟨j+1,ns ++ [z],hlt,by rw [HB1.out],HSy.out,by rw [List.length_append,HNl.out]; rfl,?_,?_⟩
           ·rw [List.length_append,List.map_append]; exact ho2
           ·have hw2:=hbw.trans (hBa.mono hbw.size)
            refine ⟨hg2.os.trans hw2.os,hg2.tape.trans hw2.tape,hg2.output.trans hw2.output,Nat.le_trans hw2.size hg2.size,fun b hb=>(hg2.block b (Nat.lt_of_lt_of_le hb hw2.size) (fun e=>?_)).trans (hw2.block b hb)⟩
            have:=(own_base hO2 (b:=b) e.symm).1
            omega
          clear hO2 hne ho2 hg2 hBa hbw HSy
          simp only [uP]
          go_wp2
          exact ⟨HN.out,by simp [intOf]; omega⟩
         ·have HE:Hid (PartsPost w word P (.returned (.tuple #[.string (bs word),.slice none 0 0,.bool false])) w1):=by
           refine ⟨HBl.out.trans (hb1.mono HBl.out.size),.inr ⟨HBad.out (fun n hn e=>he n hn ?_),_,rfl⟩⟩
           rw [HPc.out,e]
          clear he hb1 HPost HBad HPc HEnd HBy HTk
          go_wp2
          go_ret3
          exact HE.out
     ·obtain rfl:j = P.length:=by omega
      have z1:¬ (bpos word P P.length:Int) < (S.size:Int):=by rw [bpos_all,HSl.out]; omega
      have HE:Hid (PartsPost w word P (.returned (.tuple #[.string (bs word),.slice p7 ns.length c7,.bool true])) wr):=by
       refine ⟨HBl.out,.inl ⟨ns,_,?_,rfl,own_isv HOw.out,fun b hb=>(own_base HOw.out hb).1⟩⟩
       have:=HSay.out
       rwa [List.take_length] at this
      go_wp2
      go_ret3
      exact HE.out
   ·have zk:¬ (word.length:Int) < (S.size:Int):=by omega
    go_upto_region 5 with fail
    rw [HX.out]
    clear HX
    go_wp2
    go_loopw [5,7,8,9,10] (fun s5 s7 _ _ _ wr=>PtL w word P s5 s7 wr) (fun s5 _ _ _ _ _=>S.size - (intOf s5).toNat)
    case atStart=>exact HL0.out
    case round =>
     obtain ⟨j,ns,hj,rfl,hsay,hnl,hown,hbel⟩:=hrel
     have HSay:=hid hsay
     obtain ⟨p7,c7,h7⟩:=own_slice hown
     subst h7
     have HOw:=hid hown
     have HBl:=hid hbel
     have HNl:=hid hnl
     have hn4:ns.length≤1000000000000:=by omega
     clear hsay hown hbel HL0 hnl
     by_cases hlt:j < P.length
     ·have hle:=bpos_lt word P j
      have hsu:=bpos_succ word P j hlt
      have z1:(bpos word P j:Int) < (S.size:Int):=by rw [HSl.out]; omega
      have HNo:Hid (NoB P[j]):=HP.out _ (List.getElem_mem hlt)
      obtain ⟨f,hf⟩:∃ f:Nat,f = bpos word P j+1:=⟨_,rfl⟩
      have HBy:Hid (∀ x,f≤x→x < bpos word P (j+1)→∃ h:x < S.size,((S[x].toNat:Int) != 32) = true):=fun x h1 h2=>by
       obtain ⟨h1,h2⟩:=HAt.out _ _ (bpos_at word P j hlt (x - f) (by omega))
       rw [← hf,show f+(x - f) = x by omega] at h1
       refine ⟨h1,?_⟩
       have h3:S[x] = P[j][x - f]'(by omega):=by
        have:=h2
        simp only [← hf,show f+(x - f) = x by omega] at this
        exact this
       rw [h3]
       exact byte_ne (HNo.out _ (List.getElem_mem _))
      have HPc:Hid (S.extract f (bpos word P (j+1)) = bs P[j]):=by
       show _ = _
       rw [HEx.out,hf,hsu,show bpos word P j+1+P[j].length - (bpos word P j+1) = P[j].length by omega,bpos_piece word P j hlt]
      have HEnd:Hid (¬ bpos word P (j+1) < S.size∨∃ h:bpos word P (j+1) < S.size,((S[bpos word P (j+1)].toNat:Int) != 32) = false):=by
       by_cases hlast:j+1 < P.length
       ·obtain ⟨h1,h2⟩:=HAt.out _ _ (bpos_blank word P (j+1) hlast)
        exact .inr ⟨h1,by rw [h2]; rfl⟩
       ·refine .inl ?_
        rw [show j+1 = P.length by omega,bpos_all,← HSl.out]
        omega
      have HTk:Hid (P.take (j+1) = P.take j ++ [P[j]]):=List.take_succ_eq_append_getElem hlt
      have hfq:f≤bpos word P (j+1):=by omega
      have hqS:bpos word P (j+1)≤S.size:=by rw [HSl.out]; exact hle
      have hf1:(bpos word P j:Int)+1 = (f:Int):=by omega
      have HPost:Hid (∀ z,InR z→P[j] = Lib.itoa z→Says (P.take (j+1)) (ns ++ [z])):=fun z hz e=>by
       refine ⟨?_,fun n hn=>?_⟩
       ·rw [HTk.out,HSay.out.1,e,List.map_append]
        rfl
       ·rcases List.mem_append.1 hn with h | h
        ·exact HSay.out.2 n h
        ·rw [List.mem_singleton] at h; subst h; exact hz
      have HBad:Hid ((∀ n,InR n→¬ P[j] = Lib.itoa n)→¬ ∃ ms,Says P ms):=fun h ⟨ms,hm⟩=>by
       have e1:j < ms.length:=by have:=congrArg List.length hm.1; rw [List.length_map] at this; omega
       refine h ms[j] (hm.2 _ (List.getElem_mem e1)) ?_
       have e2:P[j]? = (ms.map Lib.itoa)[j]?:=congrArg (fun l:List (List UInt8)=>l[j]?) hm.1
       rw [List.getElem?_eq_getElem hlt,List.getElem?_map,List.getElem?_eq_getElem e1] at e2
       exact Option.some.inj e2
      clear hsu hf hle
      generalize P[j] = pc at *
      generalize hb1:bpos word P (j+1) = q1 at *
      have HB1:=hid hb1
      generalize bpos word P j = q0 at *
      clear HNo hb1
      go_wp2
      go_loop [5] (fun s5=>∃ x:Nat,f≤x∧x≤q1∧s5 = .int .i64 x) (fun s5=>S.size - (intOf s5).toNat)
      case atStart=>exact ⟨f,Nat.le_refl _,hfq,rfl⟩
      case round =>
       obtain ⟨x,hfx,hxq,rfl⟩:=hrel
       by_cases hil:x < q1
       ·obtain ⟨h1,h2⟩:=HBy.out x hfx hil
        have zi:(x:Int) < (S.size:Int):=by omega
        go_wp2
        exact ⟨⟨x+1,by omega,hil,rfl⟩,by simp [intOf]; omega⟩
       ·obtain rfl:q1 = x:=by omega
        have hN:=refnumber_any (bs pc) wr
        rw [← HPc.out] at hN
        rcases HEnd.out with hno | ⟨h1,h2⟩
        ·have zi:¬ (q1:Int) < (S.size:Int):=by omega
         go_wp2_with fail
         refine hN.mono ?_
         rintro e w1 ⟨z,b,rfl,hb1,hor⟩
         clear hN
         rcases hor with ⟨rfl,hz,he⟩ | ⟨rfl,he⟩
         ·have hpz:pc = Lib.itoa z:=by rw [HPc.out] at he; have:=bs_eq he; rwa [bs_list] at this
          have HSy:Hid (Says (P.take (j+1)) (ns ++ [z])):=HPost.out z hz hpz
          have hbw:Below w.heap.size w w1:=HBl.out.trans (hb1.mono HBl.out.size)
          have hO1:w1.ownsRow w.heap.size 3 1 (.slice p7 ns.length c7) ns.length (ns.map (Value.int .i64)):=own_keep (S:=fun _=>False) HOw.out (Keep.below hb1) (fun _ _ x=>x)
          have hBa:Below w1.heap.size w1 (w1.alloc (.cells #[.int .i64 z] 3)):=(Below.refl _ _).alloc (Nat.le_refl _) _
          have hO2:(w1.alloc (.cells #[.int .i64 z] 3)).ownsRow w.heap.size 3 1 (.slice p7 ns.length c7) ns.length (ns.map (Value.int .i64)):=own_keep (S:=fun _=>False) hO1 (Keep.below hBa) (fun _ _ x=>x)
          have hne:∀ i u,[Value.int .i64 z][i]? = some u→(w1.alloc (.cells #[.int .i64 z] 3)).cell? ((⟨w1.heap.size,0,none⟩:Addr).add i) = some u:=fun i u hu=>by
           have:=(At.alloc w1 [Value.int .i64 z] 3 i u hu).1
           rw [Addr.add_lit,Nat.zero_add]
           exact this
          clear he hpz hb1 hO1 HPost HBad HPc HEnd HBy HTk
          go_upto_region 14 with fail
          refine wp_region_lit ?_
          refine wpList_val (.slice p7 ns.length c7) w1 rfl rfl ?_
          simp only [uP]
          refine wpList_val (.int .i64 z) w1 rfl rfl ?_
          simp only [uP]
          refine wpList_val (.slice (some ⟨w1.heap.size,0,none⟩) 1 1) (w1.alloc (.cells #[.int .i64 z] 3)) rfl (by kernel_rfl) ?_
          simp only [uP]
          refine wpList_append_own _ rfl (.tmp 56) (.tmp 58) 38 rfl w.heap.size 3 i0 (.int .i64 0) 1 8 Tryz.underlying38 hi hz0 hz1 hz2 rfl (by omega) _ ns.length _ rfl hO2 ⟨w1.heap.size,0,none⟩ 1 1 _ rfl rfl hne (fun u hu=>?_) (by unfold maxLen; omega) (by omega) (Nat.le_trans hbw.size hBa.size) ?_
          ·rw [List.mem_singleton] at hu
           subst hu
           rfl
          intro v' w2 ho2 hg2 _
          have HN:Hid (PtL w word P (.int .i64 (q1:Int)) v' w2):=by
           refine ⟨j+1,ns ++ [z],hlt,by rw [HB1.out],HSy.out,by rw [List.length_append,HNl.out]; rfl,?_,?_⟩
           ·rw [List.length_append,List.map_append]; exact ho2
           ·have hw2:=hbw.trans (hBa.mono hbw.size)
            refine ⟨hg2.os.trans hw2.os,hg2.tape.trans hw2.tape,hg2.output.trans hw2.output,Nat.le_trans hw2.size hg2.size,fun b hb=>(hg2.block b (Nat.lt_of_lt_of_le hb hw2.size) (fun e=>?_)).trans (hw2.block b hb)⟩
            have:=(own_base hO2 (b:=b) e.symm).1
            omega
          clear hO2 hne ho2 hg2 hBa hbw HSy
          simp only [uP]
          go_wp2
          exact ⟨HN.out,by simp [intOf]; omega⟩
         ·have HE:Hid (PartsPost w word P (.returned (.tuple #[.string (bs word),.slice none 0 0,.bool false])) w1):=by
           refine ⟨HBl.out.trans (hb1.mono HBl.out.size),.inr ⟨HBad.out (fun n hn e=>he n hn ?_),_,rfl⟩⟩
           rw [HPc.out,e]
          clear he hb1 HPost HBad HPc HEnd HBy HTk
          go_wp2
          go_ret3
          exact HE.out
        ·have zi:(q1:Int) < (S.size:Int):=by omega
         go_wp2_with fail
         refine hN.mono ?_
         rintro e w1 ⟨z,b,rfl,hb1,hor⟩
         clear hN
         rcases hor with ⟨rfl,hz,he⟩ | ⟨rfl,he⟩
         ·have hpz:pc = Lib.itoa z:=by rw [HPc.out] at he; have:=bs_eq he; rwa [bs_list] at this
          have HSy:Hid (Says (P.take (j+1)) (ns ++ [z])):=HPost.out z hz hpz
          have hbw:Below w.heap.size w w1:=HBl.out.trans (hb1.mono HBl.out.size)
          have hO1:w1.ownsRow w.heap.size 3 1 (.slice p7 ns.length c7) ns.length (ns.map (Value.int .i64)):=own_keep (S:=fun _=>False) HOw.out (Keep.below hb1) (fun _ _ x=>x)
          have hBa:Below w1.heap.size w1 (w1.alloc (.cells #[.int .i64 z] 3)):=(Below.refl _ _).alloc (Nat.le_refl _) _
          have hO2:(w1.alloc (.cells #[.int .i64 z] 3)).ownsRow w.heap.size 3 1 (.slice p7 ns.length c7) ns.length (ns.map (Value.int .i64)):=own_keep (S:=fun _=>False) hO1 (Keep.below hBa) (fun _ _ x=>x)
          have hne:∀ i u,[Value.int .i64 z][i]? = some u→(w1.alloc (.cells #[.int .i64 z] 3)).cell? ((⟨w1.heap.size,0,none⟩:Addr).add i) = some u:=fun i u hu=>by
           have:=(At.alloc w1 [Value.int .i64 z] 3 i u hu).1
           rw [Addr.add_lit,Nat.zero_add]
           exact this
          clear he hpz hb1 hO1 HPost HBad HPc HEnd HBy HTk
          go_upto_region 14 with fail
          refine wp_region_lit ?_
          refine wpList_val (.slice p7 ns.length c7) w1 rfl rfl ?_
          simp only [uP]
          refine wpList_val (.int .i64 z) w1 rfl rfl ?_
          simp only [uP]
          refine wpList_val (.slice (some ⟨w1.heap.size,0,none⟩) 1 1) (w1.alloc (.cells #[.int .i64 z] 3)) rfl (by kernel_rfl) ?_
          simp only [uP]
          refine wpList_append_own _ rfl (.tmp 56) (.tmp 58) 38 rfl w.heap.size 3 i0 (.int .i64 0) 1 8 Tryz.underlying38 hi hz0 hz1 hz2 rfl (by omega) _ ns.length _ rfl hO2 ⟨w1.heap.size,0,none⟩ 1 1 _ rfl rfl hne (fun u hu=>?_) (by unfold maxLen; omega) (by omega) (Nat.le_trans hbw.size hBa.size) ?_
          ·rw [List.mem_singleton] at hu
           subst hu
           rfl
          intro v' w2 ho2 hg2 _
          have HN:Hid (PtL w word P (.int .i64 (q1:Int)) v' w2):=by
           refine ⟨j+1,ns ++ [z],hlt,by rw [HB1.out],HSy.out,by rw [List.length_append,HNl.out]; rfl,?_,?_⟩
           ·rw [List.length_append,List.map_append]; exact ho2
           ·have hw2:=hbw.trans (hBa.mono hbw.size)
            refine ⟨hg2.os.trans hw2.os,hg2.tape.trans hw2.tape,hg2.output.trans hw2.output,Nat.le_trans hw2.size hg2.size,fun b hb=>(hg2.block b (Nat.lt_of_lt_of_le hb hw2.size) (fun e=>?_)).trans (hw2.block b hb)⟩
            have:=(own_base hO2 (b:=b) e.symm).1
            omega
          clear hO2 hne ho2 hg2 hBa hbw HSy
          simp only [uP]
          go_wp2
          exact ⟨HN.out,by simp [intOf]; omega⟩
         ·have HE:Hid (PartsPost w word P (.returned (.tuple #[.string (bs word),.slice none 0 0,.bool false])) w1):=by
           refine ⟨HBl.out.trans (hb1.mono HBl.out.size),.inr ⟨HBad.out (fun n hn e=>he n hn ?_),_,rfl⟩⟩
           rw [HPc.out,e]
          clear he hb1 HPost HBad HPc HEnd HBy HTk
          go_wp2
          go_ret3
          exact HE.out
     ·obtain rfl:j = P.length:=by omega
      have z1:¬ (bpos word P P.length:Int) < (S.size:Int):=by rw [bpos_all,HSl.out]; omega
      have HE:Hid (PartsPost w word P (.returned (.tuple #[.string (bs word),.slice p7 ns.length c7,.bool true])) wr):=by
       refine ⟨HBl.out,.inl ⟨ns,_,?_,rfl,own_isv HOw.out,fun b hb=>(own_base HOw.out hb).1⟩⟩
       have:=HSay.out
       rwa [List.take_length] at this
      go_wp2
      go_ret3
      exact HE.out
end Go.Proofs.YtanndhoimpnhpaaGreatDoor
namespace Go.Proofs.YtanndhoimpnhpaaGreatDoor
open Go.RowKit
theorem kindsW_none (n:Int) (h am:Nat→Int):∀ J,(∀ j,1≤j→j≤J→h j = am j)→kindsW n h am J = []
 | 0,_=>rfl
 | J+1,hh=>by
  simp only [kindsW]
  rw [kindsW_none n h am J (fun j h1 h2=>hh j h1 (by omega)),List.nil_append]
  unfold kindW
  rw [if_pos (hh (J+1) (by omega) (Nat.le_refl _))]
theorem kindsW_congr (n:Int) (h h' am:Nat→Int):∀ J,(∀ j,1≤j→j≤J→h j = h' j)→kindsW n h am J = kindsW n h' am J
 | 0,_=>rfl
 | J+1,hh=>by
  simp only [kindsW]
  rw [kindsW_congr n h h' am J (fun j h1 h2=>hh j h1 (by omega)),hh (J+1) (by omega) (Nat.le_refl _)]
theorem bkP_mem {st:Int} {am:Nat→Nat→Int} {L:List En} {e:En}:∀ {m:Nat},e∈bkP st am L m→e∈L∨(st≤e.d∧e.d < st+m∧1≤e.k∧e.k≤12)
 | 0,h=>.inl h
 | m+1,h=>by
  rcases List.mem_append.1 h with h | h
  ·rcases bkP_mem h with h | h
   ·exact .inl h
   ·exact .inr (by omega)
  ·have:=kindsW_mem h
   exact .inr (by omega)
end Go.Proofs.YtanndhoimpnhpaaGreatDoor
namespace Go.Proofs.YtanndhoimpnhpaaGreatDoor.Ln
open Go.Proofs.YtanndhoimpnhpaaGreatDoor Cal
theorem run_ea {t:Terms} (ht:OkT t) (l:List Ev) (hl:∀ e∈l,OkE t e) (hn:l.length≤40):∀ k:Nat,k≤3700→(run t cdOf (wtOf t.ba) l k).ea≤656820000000000000000000*(sw (wsOf t.ba t.st) k:Int)
 | 0,_=>by simp [run,start,sw]
 | k+1,hk=>by
  have ih:=run_ea ht l hl hn k (by omega)
  have hI:=run_inv ht cdOf (wtOf t.ba) (wsOf t.ba t.st) (wsOf_le _ _) (wsOf_eq _ _) l hl k
  have hs:=sw_bd t.ba t.st ht.st0 ht.st1 k (by omega)
  have hlk:=tot_bound ht l hl hn (k+1)
  have ts:=tot_succ t k l
  have I1:=Inv.events (t.st+k) l (hI.early (t.st+k) (cdOf (t.st+k)) ht) hl
  have hL:(if 0 < k then t.pr else 0)+tot t k l+(if t.st+(k:Int) = t.st then t.pr else 0)+lents (t.st+k) l≤4100000000000:=by
   rw [if_pos (Nat.succ_pos k)] at hlk
   by_cases h0:0 < k
   ·rw [if_pos h0,if_neg (by omega)]; omega
   ·rw [if_neg h0,if_pos (by omega)]; omega
  have hb:=I1.bound hs hL
  have g1:=I1.pr
  have g2:=I1.it
  have g3:=I1.du
  have g4:=I1.la
  have r0:=I1.rt0
  have r1:=I1.rt1
  have fe:=events_ea (t.st+k) l (early t (t.st+k) (cdOf (t.st+k)) (run t cdOf (wtOf t.ba) l k))
  rw [early_ea] at fe
  have hw:=wsOf_eq t.ba t.st k
  have hw3:=wsOf_le t.ba t.st k
  have e:(run t cdOf (wtOf t.ba) l (k+1)).ea = (run t cdOf (wtOf t.ba) l k).ea+(l.foldl (event (t.st+k)) (early t (t.st+k) (cdOf (t.st+k)) (run t cdOf (wtOf t.ba) l k))).g.pr*((l.foldl (event (t.st+k)) (early t (t.st+k) (cdOf (t.st+k)) (run t cdOf (wtOf t.ba) l k))).g.rt*wtOf t.ba (t.st+k)):=by
   rw [← fe]
   rfl
  rw [e,hw]
  generalize l.foldl (event (t.st+k)) (early t (t.st+k) (cdOf (t.st+k)) (run t cdOf (wtOf t.ba) l k)) = y at *
  have m1:y.g.rt*(wsOf t.ba t.st k:Int)≤1000000*(wsOf t.ba t.st k:Int):=Int.mul_le_mul_of_nonneg_right r1 (by omega)
  have m0:0≤y.g.rt*(wsOf t.ba t.st k:Int):=Int.mul_nonneg r0 (by omega)
  have m2:y.g.pr*(y.g.rt*(wsOf t.ba t.st k:Int))≤656820000000000000*(1000000*(wsOf t.ba t.st k:Int)):=Int.mul_le_mul (by omega) m1 m0 (by decide)
  show _≤656820000000000000000000*((sw (wsOf t.ba t.st) k+wsOf t.ba t.st k:Nat):Int)
  omega
theorem run_ea_bd {t:Terms} (ht:OkT t) (l:List Ev) (hl:∀ e∈l,OkE t e) (hn:l.length≤40) (k:Nat) (hk:k≤3700):(run t cdOf (wtOf t.ba) l k).ea / den t≤8000000000000000000:=by
 have h:=run_ea ht l hl hn k hk
 have hs:=sw_bd t.ba t.st ht.st0 ht.st1 k hk
 have hd:=den_bd t
 refine Int.le_trans (Int.ediv_le_ediv (b:=656820000000000000000000*4320) (by omega) (by omega)) ?_
 refine Int.ediv_le_of_le_mul (by omega) ?_
 omega
end Go.Proofs.YtanndhoimpnhpaaGreatDoor.Ln
namespace Go.Proofs.YtanndhoimpnhpaaGreatDoor
open Go.ChangeShapes Go.WideShapes Go.ChangeAt Go.RowKit Lg Cal
theorem doc_days {t:Ln.Terms} (ht:Ln.OkT t) (R:List Ln.Ev) (hl:∀ e∈R,Ln.OkE t e) (hn:R.length≤40) (m:Nat) (hm:m≤3700):DocDays t m R (yOf t R) (Ln.run t cdOf (wtOf t.ba) R):=by
 intro G E pa ecap k W S ev fv av cy cm cd hE hk hG hEv hok hnum h1 h2 hSG hSl
 obtain ⟨hs,hL,hfn⟩:=day_bd ht R hl hn k (by omega)
 have hea:=Ln.run_ea_bd ht R hl hn (k+1) (by omega)
 have s0:=ht.st0
 have s1:=ht.st1
 have hcd:cdOf (t.st+k) = cd:=cdOf_is ⟨cy,cm,hok,hnum⟩
 have hy:yOf t R k = Ln.day t (t.st+k) cd (wsOf t.ba t.st k) R (Ln.run t cdOf (wtOf t.ba) R k):=by
  unfold yOf
  rw [hcd,wsOf_eq]
 have hea2:(yOf t R k).g.ea / Ln.den t≤8000000000000000000:=hea
 rw [hy] at hfn hea2 ⊢
 exact refday_any S W G pa ecap E t _ 0 ev fv av R (t.st+k) cy cm cd hG hn (fun hne=>⟨(hE hne).1,hEv hne,(hE hne).2⟩) hl (by omega) (by omega) hok hnum _ _ (Ln.run_inv ht cdOf (wtOf t.ba) (wsOf t.ba t.st) (wsOf_le _ _) (wsOf_eq _ _) R hl k) ht
  (wsOf t.ba t.st k) (wsOf_eq t.ba t.st k) (wsOf_le t.ba t.st k) hs hL hfn hea2 h1 h2 hSG hSl
theorem wrap_is (x:Int):IntKind.i64.wrap x = wrap64 x:=by
 first
  | rfl
  | (rw [IntKind.wrap_i64]; unfold wrap64; omega)
theorem hv_sum (st:Int) (L:List En) (h:∀ e∈L,st≤e.d∧1≤e.k∧e.k≤12) (m q:Nat) (hq:1≤q) (hq2:q≤12):hv st L (13*m+q) = sumOf L (st+m) q:=by
 unfold hv sumOf
 have:∀ (l:List En) (s:Int),(∀ e∈l,st≤e.d∧1≤e.k∧e.k≤12)→l.foldl (fun s e=>if 13*(e.d - st)+e.k = ((13*m+q:Nat):Int) then IntKind.i64.wrap (s+e.a) else s) s = l.foldl (fun s e=>if st+(m:Int) = e.d∧(q:Int) = e.k then wrap64 (s+e.a) else s) s:=by
  intro l
  induction l with
  | nil=>intro s _; rfl
  | cons e r ih =>
   intro s hl
   have he:=hl e (by simp)
   simp only [List.foldl_cons]
   rw [ih _ (fun x hx=>hl x (by simp [hx]))]
   congr 1
   by_cases hc:st+(m:Int) = e.d∧(q:Int) = e.k
   ·rw [if_pos hc,if_pos (by omega),wrap_is]
   ·rw [if_neg hc,if_neg (by omega)]
 exact this L 0 h
theorem sum_later (st:Int) (am:Nat→Nat→Int) (L:List En) (n j:Nat):∀ k:Nat,k≤n→sumOf (bkP st am L k) (st+n) j = sumOf L (st+n) j
 | 0,_=>rfl
 | k+1,hk=>by
  show sumOf (bkP st am L k ++ kindsW (st+k) _ (am k) 12) (st+n) j = _
  rw [sumOf_append _ _ _ _ (fun e he=>by have:=kindsW_mem he; omega)]
  exact sum_later st am L n j k (by omega)
theorem bookW_bkP (st:Int) (am:Nat→Nat→Int) (L:List En) (h:∀ e∈L,st≤e.d∧1≤e.k∧e.k≤12):∀ m,bookW st (hv st L) am L m = bkP st am L m
 | 0=>rfl
 | k+1=>by
  show bookW st (hv st L) am L k ++ kindsW (st+k) (fun j=>hv st L (13*k+j)) (am k) 12 = bkP st am L k ++ kindsW (st+k) (fun j=>sumOf (bkP st am L k) (st+k) j) (am k) 12
  rw [bookW_bkP st am L h k,kindsW_congr _ _ (fun j=>sumOf (bkP st am L k) (st+k) j) _ 12 (fun j h1 h2=>by
   rw [hv_sum st L h k j h1 h2,sum_later st am L k j k (Nat.le_refl _)])]
structure DcX (w:World) (B:Nat) (t:Ln.Terms) (l:List Ln.Ev) (g:Ln.St) (day:Int) (L:List En) (evv bkv:Value):Prop where
 ln:At w B (dl t evv g day bkv)
 ev:w.ownsRow (B+1) 50 4 evv l.length (evs l)
 bk:w.ownsRow (B+1) 114 3 bkv L.length (ens L)
 ap:∀ b,evv.ownBlock = some b→¬ bkv.ownBlock = some b
 ds:l.Pairwise (fun a b=>¬ a.s = b.s)
 ok:∀ e∈l,Ln.OkE t e
 le:l.length≤40
 ot:Ln.OkT t
 inl:∀ e∈L,t.st≤e.d∧e.d < day∧1≤e.k∧e.k≤12
 d0:t.st≤day
 d1:day≤t.st+3700
def DcRun (w:World) (B:Nat) (t:Ln.Terms) (l:List Ln.Ev) (L:List En) (m:Nat) (evv bk0:Value) (e:Ending) (w':World):Prop :=
 e = .returned (.int .i64 0)∧∃ R bkv,R.Perm l∧R.Pairwise So.Ah∧DcX w' B t l (Ln.run t cdOf (wtOf t.ba) R m) (t.st+m) (bkP t.st (fun k=>(yOf t R k).am) L m) evv bkv∧OwnNew w bk0 bkv∧Keep (fun b=>b = B∨bk0.ownBlock = some b) w w'
theorem refrun_any (w:World) (B:Nat) (t:Ln.Terms) (l:List Ln.Ev) (g0:Ln.St) (day0:Int) (L:List En) (evv bk0:Value) (h:DcX w B t l g0 day0 L evv bk0) (hL:L.length≤4000000000000) (m:Nat) (hd:day0≤t.st+m) (hm:m≤3700) :
  Calls Tryz.prog 60 #[.pointer (some ⟨B,0,none⟩),.int .i64 (t.st+m)] w (DcRun w B t l L m evv bk0):=by
 obtain ⟨pa,ecap,rfl⟩:=own_slice h.ev
 obtain ⟨E0,hE0⟩:∃ E0,l ≠ []→pa = some ⟨E0,0,none⟩∧At w E0 (evs l):=by
  by_cases hne:l = []
  ·exact ⟨0,fun x=>absurd hne x⟩
  ·obtain ⟨x,r,hxr⟩:=List.exists_cons_of_ne_nil hne
   obtain ⟨ge,cape,he,_,_⟩:=h.ev.form (by rw [hxr]; simp)
   injection he with e1 _ _
   subst e1
   exact ⟨ge,fun _=>⟨rfl,own_at h.ev⟩⟩
 have hin:∀ e∈L,t.st≤e.d∧e.d < t.st+m∧1≤e.k∧e.k≤12:=fun e he=>by have:=h.inl e he; omega
 refine (refrun_core w B E0 t pa ecap l g0 day0 bk0 L m (yOf t) (fun R=>Ln.run t cdOf (wtOf t.ba) R) h.ln hE0 h.le h.ds h.bk hL h.ot.st0 h.ot.st1 hm hd hin (fun R=>rfl) (fun R k=>rfl) (fun R hp hs=>doc_days h.ot R (fun e he=>h.ok e (hp.mem_iff.1 he)) (by rw [hp.length_eq]; exact h.le) m hm)).mono ?_
 rintro e w' ⟨rfl,R,bkv,hp,hs,hA,ho,hon,hk⟩
 rw [bookW_bkP t.st (fun k=>(yOf t R k).am) L (fun e he=>by have:=hin e he; omega) m] at ho
 refine ⟨rfl,R,bkv,hp,hs,⟨hA,own_keep h.ev hk (fun b hb hx=>?_),ho,fun b hb hx=>?_,h.ds,h.ok,h.le,h.ot,fun e he=>?_,by omega,by omega⟩,hon,hk⟩
 ·rcases hx with rfl | hx
  ·have:=(own_base h.ev hb).1
   omega
  ·exact h.ap b hb hx
 ·rcases hon with h1 | ⟨c,h1,h2⟩
  ·exact h.ap b hb (h1.symm.trans hx)
  ·have:c = b:=by rw [h1] at hx; exact Option.some.inj hx
   have:=(own_base h.ev hb).2
   omega
 ·rcases bkP_mem he with x | x
  ·exact hin e x
  ·exact x
end Go.Proofs.YtanndhoimpnhpaaGreatDoor
namespace Go.Proofs.YtanndhoimpnhpaaGreatDoor
open Go.ChangeShapes Go.WideShapes Go.RowKit Go.WideMaps Go.Maps Cal
theorem zeroEvp (w:World):(zeroValue 50).run Tryz.prog w = .ok (.agg #[.int .i64 0,.int .i64 0,.int .i64 0,.int .i64 0]) w:=by kernel_rfl
theorem zcells1:(Builtin.zeroCells (Value.agg #[.int .i64 0,.int .i64 0,.int .i64 0,.int .i64 0]).cells 1).toList = evl ⟨0,0,0,0⟩:=by kernel_rfl
theorem del_list (cur:List Value) (l:List Ln.Ev) (i:Nat) (hi:i < l.length) (hx:cur.take (l.length*4) = evs l) (hc:l.length*4≤cur.length) (z:List Value) :
  (laid (laid cur (i*4) (evs (l.drop (i+1)))) ((l.length - 1)*4) z).take ((l.length - 1)*4) = evs (l.eraseIdx i):=by
 have hd:(evs (l.drop (i+1))).length = (l.length - 1 - i)*4:=by rw [So.evs_len,List.length_drop]; omega
 have e0:cur.take (i*4) = evs (l.take i):=by
  have:=congrArg (List.take (i*4)) hx
  rw [List.take_take,Nat.min_eq_left (by omega),evs_take] at this
  exact this
 have ht:(evs (l.take i)).length = i*4:=by rw [So.evs_len,List.length_take]; omega
 have h1:(laid cur (i*4) (evs (l.drop (i+1)))).take ((l.length - 1)*4) = evs (l.eraseIdx i):=by
  unfold laid
  rw [e0,List.eraseIdx_eq_take_drop_succ,So.evs_append]
  have hl:(evs (l.take i) ++ evs (l.drop (i+1))).length = (l.length - 1)*4:=by rw [List.length_append,hd,ht]; omega
  rw [← hl,List.take_left]
 have hll:((laid cur (i*4) (evs (l.drop (i+1)))).take ((l.length - 1)*4)).length = (l.length - 1)*4:=by
  rw [List.length_take,laid_len _ _ _ (by rw [hd]; omega)]
  omega
 generalize laid cur (i*4) (evs (l.drop (i+1))) = R at *
 unfold laid
 rw [List.append_assoc,List.take_append_of_le_length (by omega),List.take_of_length_le (by omega),h1]
set_option maxRecDepth 10000 in
set_option maxHeartbeats 4000000 in
theorem delete_any (w:World) (g cap:Nat) (cur:Array Value) (l:List Ln.Ev) (i:Nat) (hg:w.heap[g]? = some (.cells cur 50 (0,0))) (hsz:cur.size = cap*4) (hxs:cur.toList.take (l.length*4) = evs l) (hnc:l.length≤cap) (hm:cap≤maxLen) (hi:i < l.length) (hl:l.length≤1000000) :
  Calls Tryz.prog 92 #[.slice (some ⟨g,0,none⟩) l.length cap,.int .i64 i,.int .i64 ((i:Int)+1)] w fun e w'=>e = .returned (.slice (some ⟨g,0,none⟩) (l.length - 1) cap)∧w'.ownsRow 0 50 4 (.slice (some ⟨g,0,none⟩) (l.length - 1) cap) (l.length - 1) (evs (l.eraseIdx i))∧Keep (fun b=>b = g) w w':=by
 obtain ⟨i0,hi0,hz0,hz1,hz2⟩:=info_parts infoEvp
 have hcl:cur.toList.length = cap*4:=by rw [Array.length_toList]; exact hsz
 obtain ⟨R1,hR1⟩:∃ R1,R1 = (laid cur.toList (i*4) (evs (l.drop (i+1)))).toArray:=⟨_,rfl⟩
 obtain ⟨R2,hR2⟩:∃ R2,R2 = (laid R1.toList ((l.length - 1)*4) (evl ⟨0,0,0,0⟩)).toArray:=⟨_,rfl⟩
 have hdl:(evs (l.drop (i+1))).length = (l.length - (i+1))*4:=by rw [So.evs_len,List.length_drop]
 have l1:R1.toList.length = cap*4:=by rw [hR1]; show (laid _ _ _).length = _; rw [laid_len _ _ _ (by omega),hcl]
 have l2:R2.size = cap*4:=by rw [← Array.length_toList,hR2]; show (laid _ _ _).length = _; rw [laid_len _ _ _ (by rw [l1]; show (l.length - 1)*4+4≤_; omega),l1]
 have hfin:R2.toList.take ((l.length - 1)*4) = evs (l.eraseIdx i):=by
  rw [hR2,hR1]
  exact del_list cur.toList l i hi hxs (by omega) _
 obtain ⟨A,hA⟩:∃ A:Addr,A = (if cap = i+1 then (⟨g,0,none⟩:Addr) else ⟨g,(i+1)*4,none⟩):=⟨_,rfl⟩
 have hcell:∀ j v,(evs (l.drop (i+1)))[j]? = some v→w.cell? (A.add j) = some v:=fun j v hj=>by
  have hjl:=(List.getElem?_eq_some_iff.1 hj).1
  rw [hdl] at hjl
  rw [hA,if_neg (by omega),Addr.add_lit]
  rw [← evs_drop,List.getElem?_drop] at hj
  have hj2:(evs l)[(i+1)*4+j]? = cur.toList[(i+1)*4+j]?:=by
   rw [← hxs,List.getElem?_take_of_lt (by omega)]
  rw [hj2,Array.getElem?_toList] at hj
  simp [World.cell?,hg,hj]
 have hap:∀ ty c,(Builtin.append_ #[42,42] ty #[.slice (some ⟨g,0,none⟩) i cap,.slice (some A) (l.length - (i+1)) c]).run Tryz.prog w.drew = .ok (.slice (some ⟨g,0,none⟩) (i+(l.length - (i+1))) cap) (w.drew.setRow g R1):=fun ty c=>by
  have h:=run_append_room (P:=Tryz.prog) w.drew 42 ty 50 i0 Tryz.underlying42 hi0 g i cap cur hg A (l.length - (i+1)) c (evs (l.drop (i+1))) (by rw [hz1,hdl]) hcell (fun u hu=>evs_cell1 _ u hu) (by omega) (by rw [hz1,hdl]; omega)
  rw [hz1] at h
  rw [hR1]
  exact h
 have hrow1:(w.drew.setRow g R1).heap[g]? = some (.cells R1 50 (0,0)):=setRow_row (w:=w.drew) hg R1
 have hclr:∀ ty c,(Builtin.clear_ #[42] ty #[.slice (some ⟨g,(l.length - 1)*4,none⟩) 1 c]).run Tryz.prog (w.drew.setRow g R1) = .ok (.tuple #[]) ((w.drew.setRow g R1).setRow g R2):=fun ty c=>by
  have h:=run_clear_rowK (P:=Tryz.prog) (w.drew.setRow g R1) 42 50 ty _ Tryz.underlying42 zeroEvp g ((l.length - 1)*4) 1 c (by omega) R1 50 hrow1 (by rw [zcells1,← Array.length_toList,l1]; show (l.length - 1)*4+4≤_; omega) (by rw [zcells1]; exact fun v hv=>evs_cell1 [⟨0,0,0,0⟩] v hv)
  rw [zcells1] at h
  rw [hR2]
  exact h
 have HEnd:Hid (((w.drew.setRow g R1).setRow g R2).ownsRow 0 50 4 (.slice (some ⟨g,0,none⟩) (l.length - 1) cap) (l.length - 1) (evs (l.eraseIdx i))∧Keep (fun b=>b = g) w ((w.drew.setRow g R1).setRow g R2)):=by
  refine ⟨⟨by rw [So.evs_len,List.length_eraseIdx_of_lt hi],.inr ⟨g,cap,R2,rfl,Nat.zero_le _,setRow_row hrow1 R2,by omega,hm,l2,hfin⟩⟩,?_⟩
  exact ((Keep.refl _ _).drew.trans (keep_setRow w.drew g R1)).trans (keep_setRow _ g R2)
 obtain ⟨vx,s0⟩:∃ vx,∀ W:World,(Instr.sliceAt 42 (.slice (some ⟨g,0,none⟩) l.length cap) (some (.int .i64 (i:Int))) (some (.int .i64 ((i:Int)+1))) (some (.int .i64 (l.length:Int)))).run Tryz.prog W = .ok vx W:=by
  obtain ⟨q,hq⟩:∃ q,q = i+1:=⟨_,rfl⟩
  have hx1:(i:Int)+1 = (q:Int):=by omega
  have hql:q≤l.length:=by omega
  have hiq:i≤q:=by omega
  refine ⟨.slice (if l.length = i then some ⟨g,0,none⟩ else some (if i*4 = 0 then ⟨g,0,none⟩ else ⟨g,i*4,none⟩)) (q - i) (l.length - i),fun W=>?_⟩
  rw [hx1]
  simp [Instr.sliceAt,run_underlying Tryz.underlying42,Instr.slice,Instr.sliceBounds,Instr.sliceBound,asIntOf,Result.andThen,hnc,hql,hiq,Addr.add]
 have s1:=fun W=>slice_to (some ⟨g,0,none⟩) l.length cap (i:Int) i rfl (by omega) W
 have s2:∀ W:World,(Instr.sliceAt 42 (.slice (some ⟨g,0,none⟩) l.length cap) (some (.int .i64 ((i:Int)+1))) none none).run Tryz.prog W = .ok (.slice (some A) (l.length - (i+1)) (cap - (i+1))) W:=fun W=>by
  obtain ⟨q,hq⟩:∃ q,q = i+1:=⟨_,rfl⟩
  have hx1:(i:Int)+1 = (q:Int):=by omega
  have hql:q≤l.length:=by omega
  have hA2:(if cap = q then some (⟨g,0,none⟩:Addr) else some (if q*4 = 0 then ⟨g,0,none⟩ else ⟨g,q*4,none⟩)) = some A:=by
   rw [hA,← hq]
   by_cases hcq:cap = q
   ·rw [if_pos hcq,if_pos hcq]
   ·rw [if_neg hcq,if_neg hcq,if_neg (by omega)]
  rw [hx1,← hq]
  simp [Instr.sliceAt,run_underlying Tryz.underlying42,Instr.slice,Instr.sliceBounds,Instr.sliceBound,asIntOf,Result.andThen,Addr.add,hql]
  exact hA2
 have s3:∀ W:World,(Instr.sliceAt 42 (.slice (some ⟨g,0,none⟩) (l.length - 1) cap) (some (.int .i64 ((l.length - 1:Nat):Int))) (some (.int .i64 (l.length:Int))) none).run Tryz.prog W = .ok (.slice (some ⟨g,(l.length - 1)*4,none⟩) 1 (cap - (l.length - 1))) W:=fun W=>by
  obtain ⟨q,hq⟩:∃ q,q = l.length - 1:=⟨_,rfl⟩
  obtain ⟨n,hn⟩:∃ n,n = l.length:=⟨_,rfl⟩
  have hqn:q≤n:=by omega
  have hnc2:n≤cap:=by omega
  have h1':n - q = 1:=by omega
  have hA2:(if cap = q then some (⟨g,0,none⟩:Addr) else some (if q*4 = 0 then ⟨g,0,none⟩ else ⟨g,q*4,none⟩)) = some ⟨g,q*4,none⟩:=by
   rw [if_neg (by omega)]
   split
   ·rename_i h; rw [h]
   ·rfl
  rw [← hq,← hn,← h1']
  simp [Instr.sliceAt,run_underlying Tryz.underlying42,Instr.slice,Instr.sliceBounds,Instr.sliceBound,asIntOf,Result.andThen,Addr.add,hnc2,hqn]
  exact hA2
 have HAp:=hid hap
 have HCl:=hid hclr
 have hne:((i:Int) == (i:Int)+1) = false:=by simp; omega
 clear hap hclr hg hsz hxs hcl hR1 hR2 hdl l1 l2 hfin hcell hrow1 hi0 hz0 hz1 hz2 hA
 go_enter Tryz.func92,Tryz.ntmps92
 go_upto_region 5 with fail
 clear s0
 refine wp_region_held_drew (S:=fun _=>True) (by kernel_rfl) trivial (fun hHeld=>?_)
 refine tkk 0 (.slice (some ⟨g,0,none⟩) l.length cap) rfl ?_
 simp only [uP]
 refine tkk 1 (.int .i64 i) rfl ?_
 simp only [uP]
 refine tka 2 (.slice (some ⟨g,0,none⟩) i cap) rfl ?_
 simp only [uP]
 refine tkk 3 (.slice (some ⟨g,0,none⟩) l.length cap) rfl ?_
 simp only [uP]
 refine tkk 4 (.int .i64 ((i:Int)+1)) rfl ?_
 simp only [uP]
 refine tka 5 (.slice (some A) (l.length - (i+1)) (cap - (i+1))) rfl ?_
 simp only [uP]
 refine rdy 6 rfl (fun K hK=>?_)
 rw [if_pos (by rfl)]
 refine Lib.wp_append_run _ (.tmp 22) (.tmp 25) 42 42 rfl _ _ rfl rfl _ _ (HAp.out _ _) ?_
 refine hK.out _ _ trivial (fun _=>?_)
 clear hK K HAp s1 s2
 rw [show i+(l.length - (i+1)) = l.length - 1 by omega]
 try simp only [uP]
 refine tkk 7 (.slice (some ⟨g,0,none⟩) (l.length - 1) cap) rfl ?_
 simp only [uP]
 refine wpAnyH_done (by kernel_rfl) ?_ _
 clear hHeld
 go_upto_region 6 with fail
 refine wp_region_lit ?_
 refine wpList_val (.slice (some ⟨g,0,none⟩) (l.length - 1) cap) (w.drew.setRow g R1) rfl rfl ?_
 simp only [uP]
 refine wpList_val (.slice (some ⟨g,0,none⟩) (l.length - 1) cap) (w.drew.setRow g R1) rfl rfl ?_
 simp only [uP]
 refine wpList_val (.int .i64 ((l.length - 1:Nat):Int)) (w.drew.setRow g R1) rfl (by go_simp) ?_
 simp only [uP]
 refine wpList_val (.int .i64 (l.length:Int)) (w.drew.setRow g R1) rfl rfl ?_
 simp only [uP]
 refine wpList_val (.slice (some ⟨g,(l.length - 1)*4,none⟩) 1 (cap - (l.length - 1))) (w.drew.setRow g R1) rfl (by go_simp) ?_
 simp only [uP]
 refine wpList_clear_at _ rfl (.tmp 31) 42 rfl _ rfl (HCl.out _ _) ?_
 simp only [uP]
 clear HCl s3
 generalize (w.drew.setRow g R1).setRow g R2 = V at *
 go_wp2
 go_ret
 exact ⟨rfl,HEnd.out⟩
end Go.Proofs.YtanndhoimpnhpaaGreatDoor
