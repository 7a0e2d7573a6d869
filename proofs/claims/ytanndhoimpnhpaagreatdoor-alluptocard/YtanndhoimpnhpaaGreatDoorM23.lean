/- Joined by program: TxS, LwA, LwB, TyI. -/
import Derived.Test.YtanndhoimpnhpaaGreatDoorM22
namespace Go.Proofs.YtanndhoimpnhpaaGreatDoor
open Go.ChangeShapes Go.WideShapes Go.ChangeAt Go.RowKit Lg Cal
theorem Wr.below {w w':World} {W:Nat} {txt:List UInt8} (h:Wr w W txt) (hb:Below w.heap.size w w'):Wr w' W txt:=by
 obtain ⟨v,h1,h2⟩:=h
 exact ⟨v,At.keep (S:=fun _=>False) h1 (Keep.below hb) (fun x=>x),own_keep (S:=fun _=>False) h2 (Keep.below hb) (fun _ _ x=>x)⟩
theorem evN_at (e:Ln.Ev) (j:Nat) (hj:j < (evN e).length):(evl e)[j]? = some (.int .i64 (evN e)[j]):=by
 match j,hj with
 | 0,_=>rfl
 | 1,_=>rfl
 | 2,_=>rfl
 | 3,_=>rfl
theorem enN_at (e:En) (j:Nat) (hj:j < (enN e).length):(enl e)[j]? = some (.int .i64 (enN e)[j]):=by
 match j,hj with
 | 0,_=>rfl
 | 1,_=>rfl
 | 2,_=>rfl
theorem Nm.made1 {w:World} {W b o:Nat} {n:Int} (hc:w.cell? ⟨b,o,none⟩ = some (.int .i64 n)) (hs:Sf w W b) (hb:b < w.heap.size) (hW:W < w.heap.size) :
  Nm (w.alloc (.cells #[.pointer (some ⟨b,o,none⟩)] 110)) W (.slice (some ⟨w.heap.size,0,none⟩) 1 1) [n]∧Wf W w (w.alloc (.cells #[.pointer (some ⟨b,o,none⟩)] 110)):=by
 have hB:Below w.heap.size w (w.alloc (.cells #[.pointer (some ⟨b,o,none⟩)] 110)):=(Below.refl _ _).alloc (Nat.le_refl _) _
 have hf:Wf W w (w.alloc (.cells #[.pointer (some ⟨b,o,none⟩)] 110)):=Wf.below hB (Nat.le_of_lt hW)
 refine ⟨⟨_,_,rfl,Nat.le_refl _,fun k hk=>⟨w.heap.size,0,b,o,rfl,?_,?_,?_,hs.keep hf⟩⟩,hf⟩
 ·obtain rfl:k = 0:=by simp at hk; exact hk
  exact (At.alloc w [.pointer (some ⟨b,o,none⟩)] 110 0 _ rfl).1
 ·obtain rfl:k = 0:=by simp at hk; exact hk
  exact (World.cell?_of_block (w:=w) (a:=⟨b,o,none⟩) (hB.block b hb)).trans hc
 ·exact .inr ⟨by omega,.cells #[.pointer (some ⟨b,o,none⟩)] 110,Array.getElem?_push_size,fun c fz e=>by injection e with _ e _; exact absurd e (by decide)⟩
set_option maxRecDepth 10000 in
set_option maxHeartbeats 8000000 in
theorem save_any (w : World) (B P Mb : Nat) (t : Ln.Terms) (E : List Ln.Ev) (g : Ln.St) (day : Int) (L : List En) (evv bkv : Value) (h : LoX w B P Mb t E g day L evv bkv) (hr : Rg t E g day L) (hL : L.length ≤ 100000000000) (htab : Lib.TabIs Tryz.prog w "internal/strconv.uint64pow10" .u64 Lib.pow10Tab) :
  Calls Tryz.prog 18 #[.pointer (some ⟨B,0,none⟩)] w fun e w'=>e = .returned (.string (bs (txtB t E g day L)))∧Below w.heap.size w w':=by
 obtain ⟨W,hW⟩:∃ W,W = w.heap.size:=⟨_,rfl⟩
 have HW:=hid hW
 have hBl:B < w.heap.size:=At.lt (v:=.int .i64 t.st) h.ln
 have HB:Hid (B < W):=by show B < W; omega
 have HBe:Hid (∀ wx,Wf W w wx→Below w.heap.size w wx):=fun wx hx=>by rw [← hW]; exact hx.1
 have HLn:Hid (∀ wx,Wf W w wx→At wx B (ll t evv g day (.pointer (some ⟨P,0,none⟩)))):=fun wx hx=>At.keep (S:=fun _=>False) (v:=.int .i64 t.st) h.ln (Keep.below (HBe.out wx hx)) (fun x=>x)
 have HTab : Hid (∀ wx, Wf W w wx → Lib.TabBelow Tryz.prog W wx "internal/strconv.uint64pow10" .u64 Lib.pow10Tab) := fun wx hx => by
  have:=Lib.tabBelow_of_tabIs htab
  rw [← hW] at this
  exact this.on hx.1
 have HBk:Hid (∀ wx,Wf W w wx→BkIs wx P bkv Mb L):=fun wx hx=>h.bk.keep (S:=fun _=>False) (Keep.below (HBe.out wx hx)) (fun _ _ x=>x)
 obtain ⟨pa,ecap,rfl⟩:=own_slice h.ev
 have HEv:Hid (∀ wx,Wf W w wx→∀ k (hk:k < E.length),∃ b,pa = some ⟨b,0,none⟩∧wx.rangeAt b (k*4) (evl E[k])):=fun wx hx k hk=>by
  obtain ⟨T,hn | ⟨gr,capr,cur,he,hgr⟩⟩:=id h.ev
  ·omega
  ·injection he with e1 _ e3
   subst e1 e3
   have hgl:=(own_base h.ev (b:=gr) rfl).2
   have hr:=(own_range h.ev rfl k E[k] (List.getElem?_eq_getElem hk)).1
   exact ⟨gr,rfl,fun j u hu=>(World.cell?_of_block (w:=w) (a:=⟨gr,k*4+j,none⟩) ((HBe.out wx hx).block gr hgl)).trans (hr j u hu)⟩
 have HRg:=hid hr
 have hE40:=h.le
 clear h hr htab hBl
 have b1:Below w.heap.size w (w.alloc (.cells #[.slice none 0 0] 103)):=(Below.refl _ _).alloc (Nat.le_refl _) _
 have f1:Wf W w (w.alloc (.cells #[.slice none 0 0] 103)):=Wf.below b1 (by omega)
 have a1:At (w.alloc (.cells #[.slice none 0 0] 103)) w.heap.size [.slice none 0 0]:=At.alloc w [.slice none 0 0] _
 rw [← hW] at a1
 have w1:Wr (w.alloc (.cells #[.slice none 0 0] 103)) W []:=⟨_,a1,World.ownsRow_nil _ _ _ _⟩
 have hWl1:W < (w.alloc (.cells #[.slice none 0 0] 103)).heap.size:=At.lt a1
 go_enter Tryz.func18,Tryz.ntmps18
 go_upto_region 2 with fail
 rw [← hW]
 clear hW a1 b1
 generalize w.alloc (.cells #[.slice none 0 0] 103) = V1 at *
 have hcs:∀ j (hj:j < (tmN t).length),V1.cell? ⟨B,0+j,none⟩ = some (.int .i64 (tmN t)[j]):=fun j hj=>by
  rw [Nat.zero_add]
  match j,hj with
  | 0,_=>exact (HLn.out _ f1).cell 0 rfl
  | 1,_=>exact (HLn.out _ f1).cell 1 rfl
  | 2,_=>exact (HLn.out _ f1).cell 2 rfl
  | 3,_=>exact (HLn.out _ f1).cell 3 rfl
  | 4,_=>exact (HLn.out _ f1).cell 4 rfl
  | 5,_=>exact (HLn.out _ f1).cell 5 rfl
 obtain ⟨nm2,f2⟩:=Nm.made hcs (.inl HB.out) (Nat.lt_trans HB.out hWl1) hWl1
 have w2:=w1.below (w':=V1.drew.alloc (.cells (ptrs B 0 (tmN t).length).toArray 110)) ((Below.refl _ _).drew.alloc (Nat.le_refl _) _)
 have HF2:Hid (Wf W w (V1.drew.alloc (.cells (ptrs B 0 (tmN t).length).toArray 110))):=f1.trans f2
 have hCn:=termsNumbers_any V1 B 0
 have hWt:=wline_any (V1.drew.alloc (.cells (ptrs B 0 (tmN t).length).toArray 110)) W [] wLoan _ (tmN t) w2 nm2 HRg.out.tm (by show 0+4+22*6≤_; omega) (HTab.out _ HF2.out)
 clear hcs nm2 f2 w2 w1 f1 hWl1
 go_wp2_with fail
 refine hCn.mono ?_
 rintro e w6 ⟨rfl,rfl⟩
 clear hCn
 go_wp2_with fail
 refine hWt.mono ?_
 rintro e w3 ⟨rfl,hW3,hf3⟩
 have HW3:=hid hW3
 have HF3:Hid (Wf W w w3):=HF2.out.trans hf3
 have c6:w3.cell? ⟨B,6,none⟩ = some (.slice pa E.length ecap):=(HLn.out _ HF3.out).cell 6 rfl
 clear hWt hW3 hf3 HF2
 go_wp2
 go_loopw [5,18] (fun _ s18 wr=>∃ k:Nat,k≤E.length∧s18 = .int .i64 k∧Wr wr W (lineB wLoan (tmN t) ++ evT (E.take k))∧Wf W w wr) (fun _ s18 _=>E.length - (intOf s18).toNat)
 case atStart=>exact ⟨0,Nat.zero_le _,rfl,by simpa [evT] using HW3.out,HF3.out⟩
 case round =>
  clear HW3 HF3 c6
  obtain ⟨k,hk,rfl,hWr,hf⟩:=hrel
  have HF:=hid hf
  have HWr:=hid hWr
  have hWl:W < wr.heap.size:=by obtain ⟨v,h1,_⟩:=hWr; exact At.lt h1
  have hS:(lineB wLoan (tmN t) ++ evT (E.take k)).length≤100000:=by
   have h1:=lineB_len wLoan (tmN t) HRg.out.tm
   have h2:=evT_len (E.take k) (fun e he=>HRg.out.ev e (List.mem_of_mem_take he))
   rw [List.length_take] at h2
   have e1:wLoan.length = 4:=rfl
   have e2:(tmN t).length = 6:=rfl
   rw [List.length_append]
   omega
  clear hf hWr
  by_cases hlt:k < E.length
  ·have zk:(k:Int) < (E.length:Int):=by omega
   obtain ⟨b,rfl,hrw⟩:=HEv.out wr HF.out k hlt
   have hie:∀ n∈evN E[k],InR n:=HRg.out.ev _ (List.getElem_mem hlt)
   have HTk:Hid (lineB wLoan (tmN t) ++ evT (E.take (k+1)) = lineB wLoan (tmN t) ++ evT (E.take k) ++ lineB wEvent (evN E[k])):=by
    show _ = _
    rw [evT_take E k hlt,List.append_assoc]
   generalize E[k] = ev at *
   generalize lineB wLoan (tmN t) ++ evT (E.take k) = S at *
   go_upto_region 5 with fail
   refine wp_region_lit ?_
   refine wpList_val (.pointer (some ⟨b,k*4,none⟩)) wr rfl (by go_simp) ?_
   simp only [uP]
   refine wpList_load_mid rfl 50 (.tmp 20) rfl b (k*4) rfl (evl ev) _ hrw Tryz.underlying50 rfl (by kernel_rfl) ?_
   simp only [uP]
   clear hrw
   go_upto_region 6 with (first | (refine wpList_store_new rfl 50 (.tmp 5) (.tmp 21) rfl (evl ev).toArray _ rfl rfl (by kernel_rfl) rfl (by kernel_rfl) ?_) | fail)
   have hB5:Below wr.heap.size wr (wr.alloc (.cells (evl ev).toArray 50)):=(Below.refl _ _).alloc (Nat.le_refl _) _
   have a5:At (wr.alloc (.cells (evl ev).toArray 50)) wr.heap.size (evl ev):=At.alloc wr (evl ev) _
   have s5:Sf (wr.alloc (.cells (evl ev).toArray 50)) W wr.heap.size:=.inr ⟨by omega,.cells (evl ev).toArray 50,Array.getElem?_push_size,fun c fz e=>by injection e with _ e _; exact absurd e (by decide)⟩
   have f5:Wf W w (wr.alloc (.cells (evl ev).toArray 50)):=HF.out.trans (Wf.below hB5 (by omega))
   have w5:Wr (wr.alloc (.cells (evl ev).toArray 50)) W S:=HWr.out.below hB5
   have hWl5:W < (wr.alloc (.cells (evl ev).toArray 50)).heap.size:=Nat.lt_of_lt_of_le hWl hB5.size
   have hNl5:wr.heap.size < (wr.alloc (.cells (evl ev).toArray 50)).heap.size:=At.lt (v:=.int .i64 ev.d) a5
   clear hB5 HF HWr
   generalize wr.alloc (.cells (evl ev).toArray 50) = V5 at *
   generalize wr.heap.size = N5 at *
   have hcs:∀ j (hj:j < (evN ev).length),V5.cell? ⟨N5,0+j,none⟩ = some (.int .i64 (evN ev)[j]):=fun j hj=>by
    rw [Nat.zero_add]
    exact a5.cell j (evN_at ev j hj)
   obtain ⟨nm6,f6⟩:=Nm.made hcs s5 hNl5 hWl5
   have w6:Wr (V5.drew.alloc (.cells (ptrs N5 0 (evN ev).length).toArray 110)) W S:=w5.below ((Below.refl _ _).drew.alloc (Nat.le_refl _) _)
   have f7:=f5.trans f6
   have hCn:=eventNumbers_any V5 N5 0
   have hWt:=wline_any (V5.drew.alloc (.cells (ptrs N5 0 (evN ev).length).toArray 110)) W S wEvent _ (evN ev) w6 nm6 hie (by show S.length+5+22*4≤_; omega) (HTab.out _ f7)
   have HF7:=hid f7
   clear a5 s5 f5 w5 hcs nm6 f6 w6 f7 hWl5 hNl5 hie hWl
   go_wp2_with fail
   refine hCn.mono ?_
   rintro e w6 ⟨rfl,rfl⟩
   clear hCn
   go_wp2_with fail
   refine hWt.mono ?_
   rintro e w7 ⟨rfl,hW7,hf7⟩
   have HW7:=hid hW7
   have HF8:Hid (Wf W w w7):=HF7.out.trans hf7
   clear hWt hW7 hf7 HF7
   go_wp2
   exact ⟨⟨k+1,hlt,rfl,by rw [HTk.out]; exact HW7.out,HF8.out⟩,by simp [intOf]; omega⟩
  ·obtain rfl:k = E.length:=by omega
   have zk:¬ (E.length:Int) < (E.length:Int):=by omega
   rw [List.take_length] at HWr hS
   obtain ⟨A,hA⟩:∃ A,A = lineB wLoan (tmN t) ++ evT E:=⟨_,rfl⟩
   have HA:Hid (A ++ lineB wAt [day] ++ lineB wNow (nwN g) ++ enT L ++ lineB wEnd [] = txtB t E g day L):=by show _ = _; rw [hA]; rfl
   rw [← hA] at HWr hS
   clear hA
   have c14:wr.cell? ⟨B,14,none⟩ = some (.int .i64 day):=(HLn.out _ HF.out).cell 14 rfl
   obtain ⟨nm8,f8⟩:=Nm.made1 c14 (.inl HB.out) (Nat.lt_trans HB.out hWl) hWl
   have w8:=HWr.out.below (w':=wr.alloc (.cells #[.pointer (some ⟨B,14,none⟩)] 110)) ((Below.refl _ _).alloc (Nat.le_refl _) _)
   have HRd:Hid (∀ n∈[day],InR n):=fun n hn=>by rw [List.mem_singleton] at hn; subst hn; exact HRg.out.dy
   have HF8:Hid (Wf W w (wr.alloc (.cells #[.pointer (some ⟨B,14,none⟩)] 110))):=HF.out.trans f8
   have hWt:=wline_any (wr.alloc (.cells #[.pointer (some ⟨B,14,none⟩)] 110)) W A wAt _ [day] w8 nm8 HRd.out (by show A.length+2+22*1≤_; omega) (HTab.out _ HF8.out)
   clear c14 nm8 f8 w8 HF HWr hWl
   go_wp2_with fail
   refine hWt.mono ?_
   rintro e w9 ⟨rfl,hW9,hf9⟩
   have HF9:Hid (Wf W w w9):=HF8.out.trans hf9
   have hS9:(A ++ lineB wAt [day]).length≤200000:=by
    have h1:=lineB_len wAt [day] HRd.out
    have e1:wAt.length = 2:=rfl
    have e2:[day].length = 1:=rfl
    rw [List.length_append]
    omega
   have hWl9:W < w9.heap.size:=by obtain ⟨v,h1,_⟩:=id hW9; exact At.lt h1
   have hcs:∀ j (hj:j < (nwN g).length),w9.cell? ⟨B,7+j,none⟩ = some (.int .i64 (nwN g)[j]):=fun j hj=>by
    match j,hj with
    | 0,_=>exact (HLn.out _ HF9.out).cell 7 rfl
    | 1,_=>exact (HLn.out _ HF9.out).cell 8 rfl
    | 2,_=>exact (HLn.out _ HF9.out).cell 9 rfl
    | 3,_=>exact (HLn.out _ HF9.out).cell 10 rfl
    | 4,_=>exact (HLn.out _ HF9.out).cell 11 rfl
    | 5,_=>exact (HLn.out _ HF9.out).cell 12 rfl
    | 6,_=>exact (HLn.out _ HF9.out).cell 13 rfl
   obtain ⟨nm2,f2⟩:=Nm.made hcs (.inl HB.out) (Nat.lt_trans HB.out hWl9) hWl9
   have w2:=hW9.below (w':=w9.drew.alloc (.cells (ptrs B 7 (nwN g).length).toArray 110)) ((Below.refl _ _).drew.alloc (Nat.le_refl _) _)
   have HF2:Hid (Wf W w (w9.drew.alloc (.cells (ptrs B 7 (nwN g).length).toArray 110))):=HF9.out.trans f2
   have hCn:=owedNumbers_any w9 B 7
   have hS10:(A ++ lineB wAt [day] ++ lineB wNow (nwN g)).length≤300000:=by
    have h1:=lineB_len wNow (nwN g) HRg.out.nw
    have e1:wNow.length = 3:=rfl
    have e2:(nwN g).length = 7:=rfl
    rw [List.length_append]
    omega
   have hWt2:=wline_any (w9.drew.alloc (.cells (ptrs B 7 (nwN g).length).toArray 110)) W (A ++ lineB wAt [day]) wNow _ (nwN g) w2 nm2 HRg.out.nw (by show _+3+22*7≤_; omega) (HTab.out _ HF2.out)
   clear hcs nm2 f2 w2 hWt hW9 hf9 HF8 hWl9 hS9 hS
   go_wp2_with fail
   refine hCn.mono ?_
   rintro e w6 ⟨rfl,rfl⟩
   clear hCn
   go_wp2_with fail
   refine hWt2.mono ?_
   rintro e w10 ⟨rfl,hW10,hf10⟩
   have HF10:Hid (Wf W w w10):=HF2.out.trans hf10
   have HW10:=hid hW10
   have hWl10:W < w10.heap.size:=by obtain ⟨v,h1,_⟩:=hW10; exact At.lt h1
   clear hWt2 hW10 hf10 HF2 HF9
   generalize A ++ lineB wAt [day] ++ lineB wNow (nwN g) = A2 at *
   have c15:w10.cell? ⟨B,15,none⟩ = some (.pointer (some ⟨P,0,none⟩)):=(HLn.out _ HF10.out).cell 15 rfl
   have hFr:=from_any w10 P bkv Mb L (HBk.out _ HF10.out) (by omega) 0
   rw [show kf 0 L.length = 0 by simp [kf],List.drop_zero,Nat.sub_zero] at hFr
   go_wp2_with fail
   refine hFr.mono ?_
   rintro e w11 ⟨v,rfl,ho,hb11⟩
   obtain ⟨pb,bcap,rfl⟩:=own_slice ho
   have HF11:Hid (Wf W w w11):=HF10.out.trans (Wf.below hb11 (by omega))
   have HW11:Hid (Wr w11 W A2):=HW10.out.below hb11
   have HTabE : Hid (∀ wx, Wf W w11 wx → Lib.TabBelow Tryz.prog W wx "internal/strconv.uint64pow10" .u64 Lib.pow10Tab) := fun wx hx => HTab.out wx (HF11.out.trans hx)
   have HEn:Hid (∀ wx,Wf W w11 wx→∀ k (hk:k < L.length),∃ b o,pb = some ⟨b,o,none⟩∧wx.rangeAt b (o+k*3) (enl L[k])):=fun wx hx k hk=>by
    obtain ⟨p2,cap2,e,_,hcell⟩:=own_en ho
    injection e with e1 _ _
    subst e1
    obtain ⟨b,o,rfl,hbl,hrg⟩:=hcell k hk
    obtain ⟨cur,hcur⟩:=own_row ho (k:=b) rfl
    have hbg:=(own_base ho (b:=b) rfl).1
    have hsf:Sf w11 W b:=.inr ⟨by omega,_,hcur,fun c fz e=>by injection e with _ e _; exact absurd e (by decide)⟩
    exact ⟨b,o,rfl,fun j u hu=>(World.cell?_of_block (w:=w11) (a:=⟨b,o+k*3+j,none⟩) (hsf.same hx)).trans (hrg j u hu)⟩
   clear hFr c15 ho hb11 HF10 HW10 hWl10 HEv HBk HLn
   go_wp2
   go_loopw [7,42] (fun _ s42 wr=>∃ k:Nat,k≤L.length∧s42 = .int .i64 k∧Wr wr W (A2 ++ enT (L.take k))∧Wf W w11 wr) (fun _ s42 _=>L.length - (intOf s42).toNat)
   case atStart=>exact ⟨0,Nat.zero_le _,rfl,by simpa [enT] using HW11.out,Wf.refl _ _⟩
   case round =>
    clear HW11
    obtain ⟨k,hk,rfl,hWr,hf⟩:=hrel
    have HF:=hid hf
    have HWr:=hid hWr
    have hWl:W < wr.heap.size:=by obtain ⟨v,h1,_⟩:=hWr; exact At.lt h1
    have hS:(A2 ++ enT (L.take k)).length≤20000000000000:=by
     have h2:=enT_len (L.take k) (fun e he=>HRg.out.en e (List.mem_of_mem_take he))
     rw [List.length_take] at h2
     rw [List.length_append]
     omega
    clear hf hWr
    by_cases hlt:k < L.length
    ·have zk:(k:Int) < (L.length:Int):=by omega
     obtain ⟨b,o,rfl,hrw⟩:=HEn.out wr HF.out k hlt
     have hie:∀ n∈enN L[k],InR n:=HRg.out.en _ (List.getElem_mem hlt)
     have HTk:Hid (A2 ++ enT (L.take (k+1)) = A2 ++ enT (L.take k) ++ lineB wEntry (enN L[k])):=by
      show _ = _
      rw [enT_take L k hlt,List.append_assoc]
     generalize L[k] = en at *
     generalize A2 ++ enT (L.take k) = S at *
     go_upto_region 12 with fail
     refine wp_region_lit ?_
     refine wpList_val (.pointer (some ⟨b,o+k*3,none⟩)) wr rfl (by go_simp) ?_
     simp only [uP]
     refine wpList_load_mid rfl 114 (.tmp 44) rfl b (o+k*3) rfl (enl en) _ hrw Tryz.underlying114 rfl (by kernel_rfl) ?_
     simp only [uP]
     clear hrw
     go_upto_region 13 with (first | (refine wpList_store_new rfl 114 (.tmp 7) (.tmp 45) rfl (enl en).toArray _ rfl rfl (by kernel_rfl) rfl (by kernel_rfl) ?_) | fail)
     have hB5:Below wr.heap.size wr (wr.alloc (.cells (enl en).toArray 114)):=(Below.refl _ _).alloc (Nat.le_refl _) _
     have a5:At (wr.alloc (.cells (enl en).toArray 114)) wr.heap.size (enl en):=At.alloc wr (enl en) _
     have s5:Sf (wr.alloc (.cells (enl en).toArray 114)) W wr.heap.size:=.inr ⟨by omega,.cells (enl en).toArray 114,Array.getElem?_push_size,fun c fz e=>by injection e with _ e _; exact absurd e (by decide)⟩
     have f5:Wf W w11 (wr.alloc (.cells (enl en).toArray 114)):=HF.out.trans (Wf.below hB5 (by omega))
     have w5:Wr (wr.alloc (.cells (enl en).toArray 114)) W S:=HWr.out.below hB5
     have hWl5:W < (wr.alloc (.cells (enl en).toArray 114)).heap.size:=Nat.lt_of_lt_of_le hWl hB5.size
     have hNl5:wr.heap.size < (wr.alloc (.cells (enl en).toArray 114)).heap.size:=At.lt (v:=.int .i64 en.d) a5
     clear hB5 HF HWr
     generalize wr.alloc (.cells (enl en).toArray 114) = V5 at *
     generalize wr.heap.size = N5 at *
     have hcs:∀ j (hj:j < (enN en).length),V5.cell? ⟨N5,0+j,none⟩ = some (.int .i64 (enN en)[j]):=fun j hj=>by
      rw [Nat.zero_add]
      exact a5.cell j (enN_at en j hj)
     obtain ⟨nm6,f6⟩:=Nm.made hcs s5 hNl5 hWl5
     have w6:Wr (V5.drew.alloc (.cells (ptrs N5 0 (enN en).length).toArray 110)) W S:=w5.below ((Below.refl _ _).drew.alloc (Nat.le_refl _) _)
     have f7:=f5.trans f6
     have hCn:=entryNumbers_any V5 N5 0
     have hWt:=wline_any (V5.drew.alloc (.cells (ptrs N5 0 (enN en).length).toArray 110)) W S wEntry _ (enN en) w6 nm6 hie (by show S.length+5+22*3≤_; omega) (HTabE.out _ f7)
     have HF7:=hid f7
     clear a5 s5 f5 w5 hcs nm6 f6 w6 f7 hWl5 hNl5 hie hWl
     go_wp2_with fail
     refine hCn.mono ?_
     rintro e w6 ⟨rfl,rfl⟩
     clear hCn
     go_wp2_with fail
     refine hWt.mono ?_
     rintro e w7 ⟨rfl,hW7,hf7⟩
     have HW7:=hid hW7
     have HF8:Hid (Wf W w11 w7):=HF7.out.trans hf7
     clear hWt hW7 hf7 HF7
     go_wp2
     exact ⟨⟨k+1,hlt,rfl,by rw [HTk.out]; exact HW7.out,HF8.out⟩,by simp [intOf]; omega⟩
    ·obtain rfl:k = L.length:=by omega
     have zk:¬ (L.length:Int) < (L.length:Int):=by omega
     rw [List.take_length] at HWr hS
     have hWt:=wline_any wr W (A2 ++ enT L) wEnd (.slice none 0 0) [] HWr.out ⟨none,0,rfl,Nat.le_refl _,fun k hk=>absurd hk (Nat.not_lt_zero k)⟩ (fun n hn=>absurd hn List.not_mem_nil) (by show _+3+22*0≤_; omega) (HTabE.out _ HF.out)
     rw [HA.out] at hWt
     go_wp2_with fail
     refine hWt.mono ?_
     rintro e w12 ⟨rfl,hW12,hf12⟩
     have hTx:=text_any w12 W _ hW12 (by rw [← HA.out,List.length_append]; show 0 < _+4; omega)
     have HE:Hid (Below w.heap.size w w12):=HBe.out _ (HF11.out.trans (HF.out.trans hf12))
     clear hWt hW12 hf12 HF HWr HEn HF11
     go_wp2_with fail
     refine hTx.mono ?_
     rintro e w13 ⟨rfl,rfl⟩
     clear hTx
     go_wp2
     go_ret
     exact ⟨rfl,HE.out⟩
end Go.Proofs.YtanndhoimpnhpaaGreatDoor
namespace Go.Proofs.YtanndhoimpnhpaaGreatDoor
open Go.ChangeShapes Go.WideShapes Go.ChangeAt Go.RowKit Go.WideMaps Go.Maps Lg Cal
set_option maxRecDepth 10000 in
theorem prun_bad (w:World) (B:Nat) (t:Ln.Terms) (evv:Value) (g:Ln.St) (day0:Int) (bk:Value) (hA:At w B (ll t evv g day0 bk)) (ht:Ln.OkT t) (day:Int) (hd:day < day0∨t.st+3700 < day) :
  Calls Tryz.prog 17 #[.pointer (some ⟨B,0,none⟩),.int .i64 day] w fun e w'=>e = .returned (.int .i64 5)∧Below w.heap.size w w':=by
 have hsp:=fun W=>span_any t W ht.st0 ht.st1
 have q0:w.cell? ⟨B,0,none⟩ = some (.int .i64 t.st):=hA.cell 0 rfl
 have q1:w.cell? ⟨B,1,none⟩ = some (.int .i64 t.pr):=hA.cell 1 rfl
 have q2:w.cell? ⟨B,2,none⟩ = some (.int .i64 t.rt):=hA.cell 2 rfl
 have q3:w.cell? ⟨B,3,none⟩ = some (.int .i64 t.fi):=hA.cell 3 rfl
 have q4:w.cell? ⟨B,4,none⟩ = some (.int .i64 t.ba):=hA.cell 4 rfl
 have q5:w.cell? ⟨B,5,none⟩ = some (.int .i64 t.du):=hA.cell 5 rfl
 have q14:w.cell? ⟨B,14,none⟩ = some (.int .i64 day0):=hA.cell 14 rfl
 clear hA
 by_cases h1:day < day0
 ·go_enter Tryz.func17,Tryz.ntmps17
  go_wp2
  go_ret
  exact ⟨rfl,Below.refl _ _⟩
 ·have hal:=fun W=>allow_no t.st (t.st+3700) day W (by omega)
  go_enter Tryz.func17,Tryz.ntmps17
  go_wp2_with fail
  refine (hsp _).mono ?_
  rintro e w1 ⟨rfl,b1⟩
  go_wp2_with fail
  refine (hal _).mono ?_
  rintro e w2 ⟨rfl,b2⟩
  have hb:Below w.heap.size w w2:=b1.trans (b2.mono b1.size)
  clear q0 q1 q2 q3 q4 q5 q14 hsp hal b1 b2
  go_wp2
  go_ret
  exact ⟨rfl,hb⟩
set_option maxRecDepth 10000 in
theorem refrun_bad (w:World) (B:Nat) (t:Ln.Terms) (evv:Value) (g:Ln.St) (day0:Int) (bk:Value) (hA:At w B (dl t evv g day0 bk)) (ht:Ln.OkT t) (day:Int) (hd:day < day0∨t.st+3700 < day) :
  Calls Tryz.prog 60 #[.pointer (some ⟨B,0,none⟩),.int .i64 day] w fun e w'=>e = .returned (.int .i64 5)∧Below w.heap.size w w':=by
 have q0:w.cell? ⟨B,0,none⟩ = some (.int .i64 t.st):=hA.cell 0 rfl
 have q14:w.cell? ⟨B,14,none⟩ = some (.int .i64 day0):=hA.cell 14 rfl
 have s0:=ht.st0
 have s1:=ht.st1
 have z2:IntKind.i64.wrap (t.st+3700) = t.st+3700:=by rw [IntKind.wrap_i64]; omega
 clear hA
 by_cases h1:day < day0
 ·go_enter Tryz.func60,Tryz.ntmps60
  go_wp2
  go_ret
  exact ⟨rfl,Below.refl _ _⟩
 ·have h2:t.st+3700 < day:=by omega
  go_enter Tryz.func60,Tryz.ntmps60
  go_wp2
  go_ret
  exact ⟨rfl,Below.refl _ _⟩
theorem hasS_perm {q:Int} {E l:List Ln.Ev} (h:E.Perm l):hasS q E = hasS q l:=by
 unfold hasS
 rw [Bool.eq_iff_iff,List.any_eq_true,List.any_eq_true]
 constructor
 ·rintro ⟨x,hx,hq⟩
  exact ⟨x,h.mem_iff.1 hx,hq⟩
 ·rintro ⟨x,hx,hq⟩
  exact ⟨x,h.mem_iff.2 hx,hq⟩
theorem addC_perm {t:Ln.Terms} {E l:List Ln.Ev} (h:E.Perm l) (e:Ln.Ev):addC t E e = addC t l e:=by
 rw [addC_eq,addC_eq,h.length_eq,hasS_perm h]
theorem wo_perm {q:Int} {E l:List Ln.Ev} (h:E.Perm l):(wo q E).Perm (wo q l):=h.filter _
theorem erase_wo {q:Int} {E:List Ln.Ev} (hd:E.Pairwise (fun a b=>¬ a.s = b.s)) (i:Nat) (hi:i < E.length) (hs:E[i].s = q):E.eraseIdx i = wo q E:=by
 have e1:E = E.take i ++ E[i] :: E.drop (i+1):=by rw [← List.drop_eq_getElem_cons hi,List.take_append_drop]
 have hp:=hd
 rw [e1] at hp
 obtain ⟨_,h2,h3⟩:=List.pairwise_append.1 hp
 obtain ⟨h4,_⟩:=List.pairwise_cons.1 h2
 rw [List.eraseIdx_eq_take_drop_succ]
 have w1:wo q (E.take i) = E.take i:=List.filter_eq_self.2 (fun x hx=>by
  have:=h3 x hx E[i] List.mem_cons_self
  simp
  omega)
 have w2:wo q (E.drop (i+1)) = E.drop (i+1):=List.filter_eq_self.2 (fun x hx=>by
  have:=h4 x hx
  simp
  omega)
 have w3:wo q E = wo q (E.take i) ++ (wo q [E[i]] ++ wo q (E.drop (i+1))):=by
  unfold wo
  rw [← List.filter_append,← List.filter_append]
  congr 1
 have w4:wo q [E[i]] = []:=by
  unfold wo
  simp [hs]
 rw [w3,w4,w1,w2,List.nil_append]
theorem ah_distinct {E l:List Ln.Ev} (h:E.Perm l) (hd:l.Pairwise (fun a b=>¬ a.s = b.s)):E.Pairwise (fun a b=>¬ a.s = b.s) :=
 (h.symm.pairwise_iff (fun x=>fun y=>x y.symm)).1 hd
structure TwX (w:World) (B D:Nat) (t:Ln.Terms) (E l:List Ln.Ev) (g:Ln.St) (day:Int) (L:List En) (F1 F2:Nat→Prop):Prop where
 pr:Lo w B t E g day L F1
 dc:Dc w D t l g day L F2
 pm:E.Perm l
 ap:∀ b,F1 b→¬ F2 b
 l1:∀ b,F1 b→b < w.heap.size
 l2:∀ b,F2 b→b < w.heap.size
 sv:Sav t E g day L
theorem TwX.pstep {w w':World} {B D:Nat} {t:Ln.Terms} {E E' l:List Ln.Ev} {g g':Ln.St} {day day':Int} {L L':List En} {F1 F2:Nat→Prop} (h:TwX w B D t E l g day L F1 F2) (hk:Keep F1 w w') (hlo:Lo w' B t E' g' day' L' (Wd F1 w w')) :
  Lo w' B t E' g' day' L' (Wd F1 w w')∧Dc w' D t l g day L F2∧(∀ b,Wd F1 w w' b→¬ F2 b)∧(∀ b,Wd F1 w w' b→b < w'.heap.size)∧(∀ b,F2 b→b < w'.heap.size):=by
 refine ⟨hlo,h.dc.keep hk (fun b hb hx=>h.ap b hx hb),?_,?_,fun b hb=>Nat.lt_of_lt_of_le (h.l2 b hb) hk.size⟩
 ·rintro b (x | x) hb
  ·exact h.ap b x hb
  ·have:=h.l2 b hb
   omega
 ·rintro b (x | x)
  ·exact Nat.lt_of_lt_of_le (h.l1 b x) hk.size
  ·exact x.2
theorem dstep {w w':World} {B D:Nat} {t:Ln.Terms} {E l':List Ln.Ev} {g':Ln.St} {day':Int} {L':List En} {F1 F2:Nat→Prop} (hlo:Lo w B t E g' day' L' F1) (hap:∀ b,F1 b→¬ F2 b) (h1:∀ b,F1 b→b < w.heap.size) (h2:∀ b,F2 b→b < w.heap.size) (hk:Keep F2 w w') (hdc:Dc w' D t l' g' day' L' (Wd F2 w w')) (hpm:E.Perm l') (hsv:Sav t E g' day' L') :
  TwX w' B D t E l' g' day' L' F1 (Wd F2 w w'):=by
 refine ⟨hlo.keep hk (fun b _ hb=>hap b hb),hdc,hpm,?_,fun b hb=>Nat.lt_of_lt_of_le (h1 b hb) hk.size,?_,hsv⟩
 ·rintro b hb (x | x)
  ·exact hap b hb x
  ·have:=h1 b hb
   omega
 ·rintro b (x | x)
  ·exact Nat.lt_of_lt_of_le (h2 b x) hk.size
  ·exact x.2
theorem TwX.below {w w':World} {B D:Nat} {t:Ln.Terms} {E l:List Ln.Ev} {g:Ln.St} {day:Int} {L:List En} {F1 F2:Nat→Prop} (h:TwX w B D t E l g day L F1 F2) (hb:Below w.heap.size w w'):TwX w' B D t E l g day L F1 F2 :=
 ⟨h.pr.below hb,h.dc.keep (S:=fun _=>False) (Keep.below hb) (fun _ _ x=>x),h.pm,h.ap,fun b x=>Nat.lt_of_lt_of_le (h.l1 b x) hb.size,fun b x=>Nat.lt_of_lt_of_le (h.l2 b x) hb.size,h.sv⟩
theorem TwX.keep {S:Nat→Prop} {w w':World} {B D:Nat} {t:Ln.Terms} {E l:List Ln.Ev} {g:Ln.St} {day:Int} {L:List En} {F1 F2:Nat→Prop} (h:TwX w B D t E l g day L F1 F2) (hk:Keep S w w') (h1:∀ b,F1 b→¬ S b) (h2:∀ b,F2 b→¬ S b):TwX w' B D t E l g day L F1 F2 :=
 ⟨h.pr.keep hk (fun b _ hb=>h1 b hb),h.dc.keep hk h2,h.pm,h.ap,fun b x=>Nat.lt_of_lt_of_le (h.l1 b x) hk.size,fun b x=>Nat.lt_of_lt_of_le (h.l2 b x) hk.size,h.sv⟩
theorem num_any (n:Int) (w:World):Calls Tryz.prog 32 #[.int .i64 n] w fun e w'=>e = .returned (.int .i64 n)∧w' = w:=by
 go_enter Tryz.func32,Tryz.ntmps32
 go_wp2
 go_ret
 exact ⟨rfl,rfl⟩
def OpPost (w:World) (t:Ln.Terms) (e:Ending) (w':World):Prop :=
 Below w.heap.size w w'∧((rtB t = false∧e = .returned (.tuple #[.agg #[.pointer none,.pointer none],.bool true])) ∨
  (rtB t = true∧∃ B D F1 F2,e = .returned (.tuple #[.agg #[.pointer (some ⟨B,0,none⟩),.pointer (some ⟨D,0,none⟩)],.bool true])∧TwX w' B D t [] [] (Ln.start t) t.st [] F1 F2∧(∀ b,F1 b→w.heap.size≤b)∧(∀ b,F2 b→w.heap.size≤b)))
set_option maxRecDepth 10000 in
set_option maxHeartbeats 2000000 in
theorem opened_any (t:Ln.Terms) (w:World):Calls Tryz.prog 24 #[tmV t] w (OpPost w t):=by
 have hb1:Below w.heap.size w (w.alloc (.cells (tml t).toArray 23)):=(Below.refl _ _).alloc (Nat.le_refl _) _
 have hs1:(w.alloc (.cells (tml t).toArray 23)).heap.size = w.heap.size+1:=Array.size_push _
 have a0:At ((w.alloc (.cells (tml t).toArray 23)).alloc (.cells #[.pointer none,.pointer none] 31)) w.heap.size (tml t):=At.keep (S:=fun _=>False) (v:=.int .i64 t.st) (At.alloc w (tml t) _) (Keep.below ((Below.refl _ _).alloc (Nat.le_refl _) _)) (fun x=>x)
 have a1:At ((w.alloc (.cells (tml t).toArray 23)).alloc (.cells #[.pointer none,.pointer none] 31)) (w.heap.size+1) [.pointer none,.pointer none]:=by
  have h:=At.alloc (w.alloc (.cells (tml t).toArray 23)) [.pointer none,.pointer none] 31
  rw [hs1] at h
  exact h
 have b0:Below w.heap.size w ((w.alloc (.cells (tml t).toArray 23)).alloc (.cells #[.pointer none,.pointer none] 31)):=hb1.alloc hb1.size _
 have s0:((w.alloc (.cells (tml t).toArray 23)).alloc (.cells #[.pointer none,.pointer none] 31)).heap.size = w.heap.size+2:=(Array.size_push _).trans (by rw [hs1])
 have A0:=hid a0
 have A1:=hid a1
 have B0:=hid b0
 have S0:=hid s0
 clear hb1 hs1 a0 a1 b0 s0
 unfold tmV
 go_enter Tryz.func24,Tryz.ntmps24
 go_upto_region 1 with fail
 have hN1:(w.alloc (.cells (tml t).toArray 23)).heap.size = w.heap.size+1:=Array.size_push _
 change Code.wp _ _ _ _ ((w.alloc (.cells (tml t).toArray 23)).alloc (.cells #[.pointer none,.pointer none] 31))
 generalize (w.alloc (.cells (tml t).toArray 23)).alloc (.cells #[.pointer none,.pointer none] 31) = V0 at *
 refine wp_region_lit ?_
 refine wpList_load_mid rfl 23 (.tmp 1) rfl _ 0 rfl (tml t) _ A0.out.range Tryz.underlying23 rfl (by kernel_rfl) ?_
 simp only [uP]
 cases hr:rtB t with
 | true =>
  have hO:=openL t V0 hr
  unfold tmV at hO
  go_wp2_with fail
  refine hO.mono ?_
  rintro x w1 ⟨B,rfl,hLo,hb1⟩
  clear hO
  have hR:=refopenD t w1 hr
  unfold tmV at hR
  have a1:At w1 w.heap.size (tml t):=At.keep (S:=fun _=>False) (v:=.int .i64 t.st) A0.out (Keep.below hb1) (fun x=>x)
  have HLo:Hid (Lo w1 B t [] (Ln.start t) t.st [] (Wd (fun _=>False) V0 w1)∧Below V0.heap.size V0 w1):=⟨hLo,hb1⟩
  clear hLo hb1
  go_upto_region 2 with fail
  refine wp_region_lit ?_
  refine wpList_load_mid rfl 23 (.tmp 1) rfl _ 0 rfl (tml t) _ a1.range Tryz.underlying23 rfl (by kernel_rfl) ?_
  simp only [uP]
  clear a1
  go_wp2_with fail
  refine hR.mono ?_
  rintro x w2 ⟨D,rfl,hDc,hb2⟩
  clear hR
  have HDc:Hid (Dc w2 D t [] (Ln.start t) t.st [] (Wd (fun _=>False) w1 w2)∧Below w1.heap.size w1 w2):=⟨hDc,hb2⟩
  clear hDc hb2
  go_wp2_with fail
  refine (num_any 0 w2).mono ?_
  rintro x w' ⟨rfl,hw'⟩
  obtain rfl:=hw'.symm
  clear hw'
  go_upto_region 5 with fail
  have hbV2:Below V0.heap.size V0 w2:=HLo.out.2.trans (HDc.out.2.mono HLo.out.2.size)
  have a2:At w2 (w.heap.size+1) [.pointer none,.pointer none]:=At.keep (S:=fun _=>False) (v:=.pointer none) A1.out (Keep.below hbV2) (fun x=>x)
  have a3:At (w2.setCells (w.heap.size+1) 0 [.pointer (some ⟨B,0,none⟩),.pointer (some ⟨D,0,none⟩)]) (w.heap.size+1) [.pointer (some ⟨B,0,none⟩),.pointer (some ⟨D,0,none⟩)]:=a2.setCells_same rfl
  have HE:Hid (OpPost w t (.returned (.tuple #[.agg #[.pointer (some ⟨B,0,none⟩),.pointer (some ⟨D,0,none⟩)],.bool true])) (w2.setCells (w.heap.size+1) 0 [.pointer (some ⟨B,0,none⟩),.pointer (some ⟨D,0,none⟩)])):=by
   have kS:Keep (fun b=>b = w.heap.size+1) w2 (w2.setCells (w.heap.size+1) 0 [.pointer (some ⟨B,0,none⟩),.pointer (some ⟨D,0,none⟩)]):=Keep.setCells (S:=fun b=>b = w.heap.size+1) rfl _ _ _ (Keep.refl _ _)
   have hbw2:Below w.heap.size w w2:=B0.out.trans (hbV2.mono B0.out.size)
   have hs:=S0.out
   have hz:=HLo.out.2.size
   refine ⟨dfresh hbw2 kS (fun b hb=>by omega) hbw2.size,.inr ⟨hr,B,D,Wd (fun _=>False) V0 w1,Wd (fun _=>False) w1 w2,rfl,TwX.keep ⟨HLo.out.1.below HDc.out.2,HDc.out.1,List.Perm.refl _,?_,?_,?_,Sav.start hr⟩ kS ?_ ?_,?_,?_⟩⟩
   ·rintro b (x | x) (y | y)
    ·exact x
    ·exact x
    ·exact y
    ·omega
   ·rintro b (x | x)
    ·exact x.elim
    ·have:=HDc.out.2.size; omega
   ·rintro b (x | x)
    ·exact x.elim
    ·exact x.2
   ·rintro b (x | x)
    ·exact x.elim
    ·omega
   ·rintro b (x | x)
    ·exact x.elim
    ·omega
   ·rintro b (x | x)
    ·exact x.elim
    ·omega
   ·rintro b (x | x)
    ·exact x.elim
    ·omega
  refine wp_region_lit ?_
  refine wpList_val (.pointer (some ⟨B,0,none⟩)) w2 rfl rfl ?_
  simp only [uP]
  refine wpList_val (.pointer (some ⟨D,0,none⟩)) w2 rfl rfl ?_
  simp only [uP]
  refine wpList_val (.agg #[.pointer (some ⟨B,0,none⟩),.pointer (some ⟨D,0,none⟩)]) w2 rfl (by kernel_rfl) ?_
  simp only [uP]
  refine wpList_store_mid rfl 31 (.tmp 2) (.tmp 32) rfl (w.heap.size+1) 0 #[.pointer (some ⟨B,0,none⟩),.pointer (some ⟨D,0,none⟩)] rfl rfl (a2.there 2 rfl) (by kernel_rfl) (by kernel_rfl) ?_
  change wpList _ _ _ _ _ (w2.setCells (w.heap.size+1) 0 [.pointer (some ⟨B,0,none⟩),.pointer (some ⟨D,0,none⟩)])
  generalize w2.setCells (w.heap.size+1) 0 [.pointer (some ⟨B,0,none⟩),.pointer (some ⟨D,0,none⟩)] = W9 at *
  have c0:W9.cell? ⟨w.heap.size+1,0,none⟩ = some (.pointer (some ⟨B,0,none⟩)):=a3.cell 0 rfl
  have c1:W9.cell? ⟨w.heap.size+1,1,none⟩ = some (.pointer (some ⟨D,0,none⟩)):=a3.cell 1 rfl
  clear a2 a3 hbV2
  go_wp2
  exact bodyPost_ret (v:=.tuple #[.agg #[.pointer (some ⟨B,0,none⟩),.pointer (some ⟨D,0,none⟩)],.bool true]) (by simp [results,Tryz.results24,go_sem,c0,c1]) rfl HE.out
 | false =>
  have hO:=open_bad t V0 hr
  unfold tmV at hO
  go_wp2_with fail
  refine hO.mono ?_
  rintro x w1 ⟨rfl,hb1⟩
  clear hO
  have hR:=refopen_bad t w1 hr
  unfold tmV at hR
  have a1:At w1 w.heap.size (tml t):=At.keep (S:=fun _=>False) (v:=.int .i64 t.st) A0.out (Keep.below hb1) (fun x=>x)
  have HB1:=hid hb1
  clear hb1
  go_upto_region 2 with fail
  refine wp_region_lit ?_
  refine wpList_load_mid rfl 23 (.tmp 1) rfl _ 0 rfl (tml t) _ a1.range Tryz.underlying23 rfl (by kernel_rfl) ?_
  simp only [uP]
  clear a1
  go_wp2_with fail
  refine hR.mono ?_
  rintro x w2 ⟨rfl,hb2⟩
  clear hR
  have HB2:=hid hb2
  clear hb2
  go_wp2_with fail
  refine (num_any 3 w2).mono ?_
  rintro x w' ⟨rfl,hw'⟩
  obtain rfl:=hw'.symm
  clear hw'
  go_upto_region 5 with fail
  have hbV2:Below V0.heap.size V0 w2:=HB1.out.trans (HB2.out.mono HB1.out.size)
  have a2:At w2 (w.heap.size+1) [.pointer none,.pointer none]:=At.keep (S:=fun _=>False) (v:=.pointer none) A1.out (Keep.below hbV2) (fun x=>x)
  have a3:At (w2.setCells (w.heap.size+1) 0 [.pointer none,.pointer none]) (w.heap.size+1) [.pointer none,.pointer none]:=a2.setCells_same rfl
  have HE:Hid (OpPost w t (.returned (.tuple #[.agg #[.pointer none,.pointer none],.bool true])) (w2.setCells (w.heap.size+1) 0 [.pointer none,.pointer none])):=by
   have kS:Keep (fun b=>b = w.heap.size+1) w2 (w2.setCells (w.heap.size+1) 0 [.pointer none,.pointer none]):=Keep.setCells (S:=fun b=>b = w.heap.size+1) rfl _ _ _ (Keep.refl _ _)
   have hbw2:Below w.heap.size w w2:=B0.out.trans (hbV2.mono B0.out.size)
   exact ⟨dfresh hbw2 kS (fun b hb=>by omega) hbw2.size,.inl ⟨hr,rfl⟩⟩
  refine wp_region_lit ?_
  refine wpList_val (.pointer none) w2 rfl rfl ?_
  simp only [uP]
  refine wpList_val (.pointer none) w2 rfl rfl ?_
  simp only [uP]
  refine wpList_val (.agg #[.pointer none,.pointer none]) w2 rfl (by kernel_rfl) ?_
  simp only [uP]
  refine wpList_store_mid rfl 31 (.tmp 2) (.tmp 32) rfl (w.heap.size+1) 0 #[.pointer none,.pointer none] rfl rfl (a2.there 2 rfl) (by kernel_rfl) (by kernel_rfl) ?_
  change wpList _ _ _ _ _ (w2.setCells (w.heap.size+1) 0 [.pointer none,.pointer none])
  generalize w2.setCells (w.heap.size+1) 0 [.pointer none,.pointer none] = W9 at *
  have c0:W9.cell? ⟨w.heap.size+1,0,none⟩ = some (.pointer none):=a3.cell 0 rfl
  have c1:W9.cell? ⟨w.heap.size+1,1,none⟩ = some (.pointer none):=a3.cell 1 rfl
  clear a2 a3 hbV2
  go_wp2
  exact bodyPost_ret (v:=.tuple #[.agg #[.pointer none,.pointer none],.bool true]) (by simp [results,Tryz.results24,go_sem,c0,c1]) rfl HE.out
end Go.Proofs.YtanndhoimpnhpaaGreatDoor
namespace Go.Proofs.YtanndhoimpnhpaaGreatDoor
open Go.ChangeShapes Go.WideShapes Go.ChangeAt Go.RowKit Lg Cal
def PlPost (w:World) (s:List UInt8) (e:Ending) (w':World):Prop :=
 Below w.heap.size w w'∧((∃ sv B F,told s = some sv∧e = .returned (.tuple #[.pointer (some ⟨B,0,none⟩),.int .i64 0])∧IsL w' B sv F∧∀ x,F x→w.heap.size≤x∧x < w'.heap.size)∨(told s = none∧e = .returned (.tuple #[.pointer none,.int .i64 10])))
theorem lim_low {w w':World} (h:Lim w) (hb:Below w.heap.size w w'):Lim w':=h.keep (S:=fun _=>False) (Keep.below hb) (fun x=>x)
set_option maxRecDepth 10000 in
set_option maxHeartbeats 1000000 in
theorem load_any (w:World) (s:List UInt8) (hs:Sh s) (hg:Gl w) (hl:Lim w) :
  Calls Tryz.prog 11 #[.string (bs s)] w (PlPost w s):=by
 have hNr:=newreader_any w s
 have HG:Hid (Gl w∧Lim w):=⟨hg,hl⟩
 have HRl:Hid (∀ w1:World,At w1 w.heap.size [.string (bs s)]→Below w.heap.size w w1→Calls Tryz.prog 33 #[.pointer (some ⟨w.heap.size,0,none⟩)] w1 fun e w'=>RlPost w1 w.heap.size s e w'∧Below w.heap.size w w'):=fun w1 h1 h2=>(readloan_any w1 w.heap.size w.heap.size s h1 (Nat.le_refl _) hs (fun wx hx=>⟨HG.out.1.below (h2.trans hx),lim_low HG.out.2 (h2.trans hx)⟩)).mono (fun e w' h=>⟨h,h2.trans h.1⟩)
 clear hg hl
 generalize bs s = S at *
 go_enter Tryz.func11,Tryz.ntmps11
 go_wp2_with fail
 refine hNr.mono ?_
 rintro e w1 ⟨rfl,hA,hb⟩
 have hz:=hb.size
 have hC:=HRl.out w1 hA hb
 clear hNr HRl hA hb
 go_wp2_with fail
 refine hC.mono ?_
 rintro e w2 ⟨⟨_,h2⟩,hb2⟩
 clear hC
 rcases h2 with ⟨sv,B,F,ht,rfl,hL,hF⟩ | ⟨ht,q,rfl⟩
 ·have HE:Hid (PlPost w s (.returned (.tuple #[.pointer (some ⟨B,0,none⟩),.int .i64 0])) w2):=⟨hb2,.inl ⟨sv,B,F,ht,rfl,hL,fun x hx=>by have:=hF x hx; omega⟩⟩
  clear ht hL hF hb2 hz
  go_wp2
  go_ret2
  exact HE.out
 ·have HE:Hid (PlPost w s (.returned (.tuple #[.pointer none,.int .i64 10])) w2):=⟨hb2,.inr ⟨ht,rfl⟩⟩
  clear ht hb2 hz
  go_wp2
  go_ret2
  exact HE.out
def LdPost (w:World) (s:List UInt8) (e:Ending) (w':World):Prop :=
 Below w.heap.size w w'∧((told s = none∧e = .returned (.tuple #[.agg #[.pointer none,.pointer none],.bool true])) ∨
  (∃ sv B D F1 F2,told s = some sv∧e = .returned (.tuple #[.agg #[.pointer (some ⟨B,0,none⟩),.pointer (some ⟨D,0,none⟩)],.bool true])∧TwX w' B D sv.t sv.l sv.l sv.g sv.day sv.L F1 F2∧(∀ b,F1 b→w.heap.size≤b)∧(∀ b,F2 b→w.heap.size≤b)))
set_option maxRecDepth 10000 in
set_option maxHeartbeats 2000000 in
theorem loaded_any (w:World) (s:List UInt8) (hs:Sh s) (hg:Gl w) (hl:Lim w) :
  Calls Tryz.prog 10 #[.string (bs s)] w (LdPost w s):=by
 have hb1:Below w.heap.size w (w.alloc (.cells #[.pointer none,.pointer none] 31)):=(Below.refl _ _).alloc (Nat.le_refl _) _
 have hA1:At (w.alloc (.cells #[.pointer none,.pointer none] 31)) w.heap.size [.pointer none,.pointer none]:=At.alloc w [.pointer none,.pointer none] _
 have hLd:=load_any (w.alloc (.cells #[.pointer none,.pointer none] 31)) s hs (hg.below hb1) (lim_low hl hb1)
 have HG:Hid (Gl w∧Lim w):=⟨hg,hl⟩
 have HB1:Hid (Below w.heap.size w (w.alloc (.cells #[.pointer none,.pointer none] 31))∧w.heap.size < (w.alloc (.cells #[.pointer none,.pointer none] 31)).heap.size):=⟨hb1,At.lt hA1⟩
 have HA1:=hid hA1
 have HRf:Hid (∀ wx,Calls Tryz.prog 31 #[.string (bs s)] wx (LoadPost wx s)):=fun wx=>refload_any wx s hs.2
 have HSv:Hid (∀ wx B sv F,IsL wx B sv F→told s = some sv→Below w.heap.size w wx→Calls Tryz.prog 18 #[.pointer (some ⟨B,0,none⟩)] wx fun e w'=>e = .returned (.string (bs s))∧Below wx.heap.size wx w'):=fun wx B sv F h1 h2 h3=>by
  obtain ⟨P,Mb,evv,bkv,h4,_⟩:=h1
  obtain ⟨e1,e2⟩:=told_txt h2
  have e3:=txtB_more sv.t sv.l sv.g sv.day sv.L
  rw [← e1] at e3
  have:=save_any wx B P Mb sv.t sv.l sv.g sv.day sv.L evv bkv h4 e2 (by have:=hs.2; omega) (HG.out.1.below h3).tb
  rw [← e1] at this
  exact this
 clear hb1 hA1 hg hl
 generalize bs s = S at *
 go_enter Tryz.func10,Tryz.ntmps10
 go_upto_region 1 with fail
 generalize w.alloc (.cells #[.pointer none,.pointer none] 31) = V0 at *
 go_wp2_with fail
 refine hLd.mono ?_
 rintro e w1 ⟨hb1,⟨sv,B,F,ht,rfl,hL,hF⟩ | ⟨ht,rfl⟩⟩
 ·have HL1:Hid (IsL w1 B sv F∧(∀ x,F x→V0.heap.size≤x∧x < w1.heap.size)∧Below V0.heap.size V0 w1):=⟨hL,hF,hb1⟩
  have HTo:=hid ht
  clear hLd hL hF hb1 ht
  go_wp2_with fail
  refine (HRf.out w1).mono ?_
  rintro e w2 ⟨hb2,⟨sv',D,ht,rfl,hD⟩ | ⟨ht,_⟩⟩
  ·obtain rfl:sv = sv':=Option.some.inj (HTo.out.symm.trans ht)
   have HD2:Hid (IsD w2 D sv (Wd (fun _=>False) w1 w2)∧Below w1.heap.size w1 w2):=⟨hD,hb2⟩
   clear ht hD hb2
   go_wp2_with fail
   refine (num_any 0 w2).mono ?_
   rintro x w' ⟨rfl,hw'⟩
   obtain rfl:=hw'.symm
   clear hw'
   have hbV2:Below V0.heap.size V0 w2:=HL1.out.2.2.trans (HD2.out.2.mono HL1.out.2.2.size)
   have hbw2:Below w.heap.size w w2:=HB1.out.1.trans (hbV2.mono HB1.out.1.size)
   have hSv:=HSv.out w2 B sv F (HL1.out.1.keep (S:=fun _=>False) (Keep.below HD2.out.2) (fun _ _ x=>x)) HTo.out hbw2
   have HBV2:Hid (Below V0.heap.size V0 w2∧Below w.heap.size w w2):=⟨hbV2,hbw2⟩
   clear hbV2 hbw2
   go_wp2_with fail
   refine hSv.mono ?_
   rintro x w3 ⟨rfl,hb3⟩
   clear hSv
   go_upto_region 7 with fail
   have hbV3:Below V0.heap.size V0 w3:=HBV2.out.1.trans (hb3.mono HBV2.out.1.size)
   have a2:At w3 w.heap.size [.pointer none,.pointer none]:=At.keep (S:=fun _=>False) (v:=.pointer none) HA1.out (Keep.below hbV3) (fun x=>x)
   have a3:At (w3.setCells w.heap.size 0 [.pointer (some ⟨B,0,none⟩),.pointer (some ⟨D,0,none⟩)]) w.heap.size [.pointer (some ⟨B,0,none⟩),.pointer (some ⟨D,0,none⟩)]:=a2.setCells_same rfl
   have HE:Hid (LdPost w s (.returned (.tuple #[.agg #[.pointer (some ⟨B,0,none⟩),.pointer (some ⟨D,0,none⟩)],.bool true])) (w3.setCells w.heap.size 0 [.pointer (some ⟨B,0,none⟩),.pointer (some ⟨D,0,none⟩)])):=by
    have kS:Keep (fun b=>b = w.heap.size) w3 (w3.setCells w.heap.size 0 [.pointer (some ⟨B,0,none⟩),.pointer (some ⟨D,0,none⟩)]):=Keep.setCells (S:=fun b=>b = w.heap.size) rfl _ _ _ (Keep.refl _ _)
    have hbw3:Below w.heap.size w w3:=HB1.out.1.trans (hbV3.mono HB1.out.1.size)
    have hz1:=HB1.out.2
    have hz2:=HL1.out.2.2.size
    have hz3:=HD2.out.2.size
    have hz4:=hb3.size
    have hF:=HL1.out.2.1
    have hlo:Lo w3 B sv.t sv.l sv.g sv.day sv.L F:=(HL1.out.1.keep (S:=fun _=>False) (Keep.below (HD2.out.2.trans (hb3.mono hz3))) (fun _ _ x=>x))
    have hdc:Dc w3 D sv.t sv.l sv.g sv.day sv.L (Wd (fun _=>False) w1 w2):=Dc.keep (S:=fun _=>False) HD2.out.1 (Keep.below hb3) (fun _ _ x=>x)
    refine ⟨dfresh hbw3 kS (fun b hb=>by omega) hbw3.size,.inr ⟨sv,B,D,F,Wd (fun _=>False) w1 w2,HTo.out,rfl,TwX.keep ⟨hlo,hdc,List.Perm.refl _,?_,?_,?_,(told_sav HTo.out).2⟩ kS ?_ ?_,?_,?_⟩⟩
    ·rintro b x (y | y)
     ·exact y
     ·have:=hF b x; omega
    ·intro b x
     have:=hF b x; omega
    ·rintro b (x | x)
     ·exact x.elim
     ·omega
    ·intro b x
     have:=hF b x; omega
    ·rintro b (x | x)
     ·exact x.elim
     ·omega
    ·intro b x
     have:=hF b x; omega
    ·rintro b (x | x)
     ·exact x.elim
     ·omega
   refine wp_region_lit ?_
   refine wpList_val (.pointer (some ⟨B,0,none⟩)) w3 rfl rfl ?_
   simp only [uP]
   refine wpList_val (.pointer (some ⟨D,0,none⟩)) w3 rfl rfl ?_
   simp only [uP]
   refine wpList_val (.agg #[.pointer (some ⟨B,0,none⟩),.pointer (some ⟨D,0,none⟩)]) w3 rfl (by kernel_rfl) ?_
   simp only [uP]
   refine wpList_val (.string S) w3 rfl rfl ?_
   simp only [uP]
   refine wpList_val (.string S) w3 rfl rfl ?_
   simp only [uP]
   refine wpList_val (.bool true) w3 rfl (by go_simp) ?_
   simp only [uP]
   refine wpList_store_mid rfl 31 (.tmp 2) (.tmp 37) rfl w.heap.size 0 #[.pointer (some ⟨B,0,none⟩),.pointer (some ⟨D,0,none⟩)] rfl rfl (a2.there 2 rfl) (by kernel_rfl) (by kernel_rfl) ?_
   change wpList _ _ _ _ _ (w3.setCells w.heap.size 0 [.pointer (some ⟨B,0,none⟩),.pointer (some ⟨D,0,none⟩)])
   generalize w3.setCells w.heap.size 0 [.pointer (some ⟨B,0,none⟩),.pointer (some ⟨D,0,none⟩)] = W9 at *
   have c0:W9.cell? ⟨w.heap.size,0,none⟩ = some (.pointer (some ⟨B,0,none⟩)):=a3.cell 0 rfl
   have c1:W9.cell? ⟨w.heap.size,1,none⟩ = some (.pointer (some ⟨D,0,none⟩)):=a3.cell 1 rfl
   clear a2 a3 hbV3 hb3
   go_wp2
   exact bodyPost_ret (v:=.tuple #[.agg #[.pointer (some ⟨B,0,none⟩),.pointer (some ⟨D,0,none⟩)],.bool true]) (by simp [results,Tryz.results10,go_sem,c0,c1]) rfl HE.out
  ·exact absurd (HTo.out.symm.trans ht) (by simp)
 ·have HL1:=hid hb1
  have HTo:=hid ht
  clear hLd hb1 ht
  go_wp2_with fail
  refine (HRf.out w1).mono ?_
  rintro e w2 ⟨hb2,⟨sv',D,ht,_⟩ | ⟨_,rfl⟩⟩
  ·exact absurd (HTo.out.symm.trans ht) (by simp)
  ·have HB2:=hid hb2
   clear hb2
   go_wp2_with fail
   refine (num_any 10 w2).mono ?_
   rintro x w' ⟨rfl,hw'⟩
   obtain rfl:=hw'.symm
   clear hw'
   have hbV2:Below V0.heap.size V0 w2:=HL1.out.trans (HB2.out.mono HL1.out.size)
   go_upto_region 8 with fail
   have a2:At w2 w.heap.size [.pointer none,.pointer none]:=At.keep (S:=fun _=>False) (v:=.pointer none) HA1.out (Keep.below hbV2) (fun x=>x)
   have a3:At (w2.setCells w.heap.size 0 [.pointer none,.pointer none]) w.heap.size [.pointer none,.pointer none]:=a2.setCells_same rfl
   have HE:Hid (LdPost w s (.returned (.tuple #[.agg #[.pointer none,.pointer none],.bool true])) (w2.setCells w.heap.size 0 [.pointer none,.pointer none])):=by
    have kS:Keep (fun b=>b = w.heap.size) w2 (w2.setCells w.heap.size 0 [.pointer none,.pointer none]):=Keep.setCells (S:=fun b=>b = w.heap.size) rfl _ _ _ (Keep.refl _ _)
    have hbw2:Below w.heap.size w w2:=HB1.out.1.trans (hbV2.mono HB1.out.1.size)
    exact ⟨dfresh hbw2 kS (fun b hb=>by omega) hbw2.size,.inl ⟨HTo.out,rfl⟩⟩
   refine wp_region_lit ?_
   refine wpList_val (.agg #[.pointer none,.pointer none]) w2 rfl (by kernel_rfl) ?_
   simp only [uP]
   refine wpList_store_mid rfl 31 (.tmp 2) (.tmp 41) rfl w.heap.size 0 #[.pointer none,.pointer none] rfl rfl (a2.there 2 rfl) (by kernel_rfl) (by kernel_rfl) ?_
   change wpList _ _ _ _ _ (w2.setCells w.heap.size 0 [.pointer none,.pointer none])
   generalize w2.setCells w.heap.size 0 [.pointer none,.pointer none] = W9 at *
   have c0:W9.cell? ⟨w.heap.size,0,none⟩ = some (.pointer none):=a3.cell 0 rfl
   have c1:W9.cell? ⟨w.heap.size,1,none⟩ = some (.pointer none):=a3.cell 1 rfl
   clear a2 a3 hbV2
   go_wp2
   exact bodyPost_ret (v:=.tuple #[.agg #[.pointer none,.pointer none],.bool true]) (by simp [results,Tryz.results10,go_sem,c0,c1]) rfl HE.out
end Go.Proofs.YtanndhoimpnhpaaGreatDoor
