/- Joined by program: BsQ, TzC, LwH0. -/
import Derived.Test.YtanndhoimpnhpaaGreatDoorM26
namespace Go.Proofs.YtanndhoimpnhpaaGreatDoor
open Go.ChangeShapes Go.WideShapes Go.ChangeAt Go.RowKit Go.WideMaps Go.Maps Lg Cal
def StepPost2 (w0:World) (W n:Nat) (pv dv:Nat→Value) (cn:Nat) (e:Ending) (w':World):Prop:=e = .returned (.bool true)∧∃ G' B' c' Q',c'≤cn+2∧WlG w0 w' W (n+1) pv dv G' B' c' Q'
theorem wlb_at (B:Bv) (pv dv:Nat→Value) (k:Nat) (hk:k < 2):∀ j u,[pv k,dv k][j]? = some u→(wlb B (pv 0) (dv 0) (pv 1) (dv 1))[6+k*2+j]? = some u:=by
 intro j u hu
 rcases (show k = 0∨k = 1 by omega) with rfl | rfl
 ·match j,hu with
  | 0,h=>exact h
  | 1,h=>exact h
 ·match j,hu with
  | 0,h=>exact h
  | 1,h=>exact h
set_option maxRecDepth 10000 in
set_option maxHeartbeats 8000000 in
theorem step_gen (w0 w:World) (W n:Nat) (pv dv:Nat→Value) (G:Nat→Nat→Prop) (Bk:Bv) (cn:Nat) (Q:Nat→Prop) (h:WlG w0 w W n pv dv G Bk cn Q) (hcn:cn≤199999990) (hmv:Mv w0) (hlim:Lim w0) (hn:n≤40000000) (kind on:Int) (e:Ln.Ev) (m:Int) (sv:Value) (hk6:kind≤6) (hin:InR e.s) :
  Calls Tryz.prog 25 #[.pointer (some ⟨W,0,none⟩),.agg #[.int .i64 kind,.int .i64 on,.int .i64 e.d,.int .i64 e.k,.int .i64 e.s,.int .i64 e.a,.int .i64 m,sv]] w (StepPost2 w0 W n pv dv cn):=by
 have hgl:=hmv.lt
 have HMv:=hid hmv
 have HLim:=hid hlim
 have HO:Hid (At (w.alloc (.cells #[.int .i64 kind,.int .i64 on,.int .i64 e.d,.int .i64 e.k,.int .i64 e.s,.int .i64 e.a,.int .i64 m,sv] 60)) w.heap.size (opl kind on e m sv)):=At.alloc w (opl kind on e m sv) _
 have HS:Hid (WlG w0 (w.alloc (.cells #[.int .i64 kind,.int .i64 on,.int .i64 e.d,.int .i64 e.k,.int .i64 e.s,.int .i64 e.a,.int .i64 m,sv] 60)) W n pv dv G Bk cn Q):=h.below ((Below.refl _ _).alloc (Nat.le_refl _) _)
 have HGN:Hid (∀ k,k < 2→∀ b,G k b→b < w.heap.size):=fun k hk b hb=>h.lt k b hk hb
 clear h hmv hlim
 go_enter Tryz.func25,Tryz.ntmps25
 go_upto_region 2 with fail
 change Code.wp _ _ _ _ (w.alloc (.cells #[.int .i64 kind,.int .i64 on,.int .i64 e.d,.int .i64 e.k,.int .i64 e.s,.int .i64 e.a,.int .i64 m,sv] 60))
 generalize w.alloc (.cells #[.int .i64 kind,.int .i64 on,.int .i64 e.d,.int .i64 e.k,.int .i64 e.s,.int .i64 e.a,.int .i64 m,sv] 60) = V0 at *
 generalize w.heap.size = N0 at *
 have q1:V0.cell? ⟨N0,1,none⟩ = some (.int .i64 on):=HO.out.cell 1 rfl
 have htm:=two_mod on
 go_upto_if 16 with fail
 go_cut [5] from 13 to 16 (fun s5 wx=>∃ k:Nat,k < 2∧s5 = .int .i64 k∧wx = V0)
 case first =>
  by_cases hon:on.tmod 2 = 0
  ·have hb:(on.tmod 2 != 0) = false:=by simp [hon]
   go_wp2_with fail
   go_meet
   case rel=>exact ⟨0,by omega,rfl,rfl⟩
  ·have hb:(on.tmod 2 != 0) = true:=by simp [hon]
   go_wp2_with fail
   go_meet
   case rel=>exact ⟨1,by omega,rfl,rfl⟩
 case rest =>
  obtain ⟨k,hk2,rfl,hwc⟩:=hcut
  obtain rfl:=hwc.symm
  clear hwc q1 htm
  have hpr:=HS.out.pr k hk2
  have hrow:V0.rangeAt W (6+k*2) [pv k,dv k]:=HS.out.wa.mid (6+k*2) _ (wlb_at Bk pv dv k hk2)
  have zk:(k:Int) < 2:=by omega
  have hN0:N0 < V0.heap.size:=At.lt (v:=.int .i64 kind) HO.out
  have hGN:=HGN.out k hk2
  go_upto_region 4 with fail
  refine wp_region_lit ?_
  refine wpList_val (.pointer (some ⟨W,0,none⟩)) V0 rfl rfl ?_
  simp only [uP]
  refine wpList_val (.int .i64 k) V0 rfl rfl ?_
  simp only [uP]
  refine wpList_val (.pointer (some ⟨W,0,none⟩)) V0 rfl rfl ?_
  simp only [uP]
  refine wpList_val (.pointer (some ⟨W,6,none⟩)) V0 rfl (by go_simp) ?_
  simp only [uP]
  refine wpList_val (.pointer (some ⟨W,6+k*2,none⟩)) V0 rfl (by go_simp) ?_
  simp only [uP]
  rcases hpr with ⟨hp,hd⟩ | ⟨B,D,t,E,l,g,day,L,F1,F2,hp,hd,hT,hG1,hG2,hLl⟩
  ·rw [hp,hd] at hrow
   refine wpList_load_mid rfl 31 (.tmp 21) rfl W (6+k*2) rfl [.pointer none,.pointer none] _ hrow Tryz.underlying31 rfl (by kernel_rfl) ?_
   simp only [uP]
   have b1:Below V0.heap.size V0 (V0.alloc (.cells #[.pointer none,.pointer none] 31)):=(Below.refl _ _).alloc (Nat.le_refl _) _
   have HE:Hid (StepPost2 w0 W n pv dv cn (.returned (.bool true)) (V0.alloc (.cells #[.pointer none,.pointer none] 31))):=⟨rfl,G,_,_,_,Nat.le_add_right _ _,(HS.out.below b1).more⟩
   clear hrow b1 HS HO hGN HGN
   go_wp2_with (first | (refine wpList_store_new rfl 31 (.tmp 6) (.tmp 22) rfl #[.pointer none,.pointer none] _ rfl rfl (by kernel_rfl) rfl (by kernel_rfl) ?_) | fail)
   go_ret
   exact HE.out
  ·rw [hp,hd] at hrow
   refine wpList_load_mid rfl 31 (.tmp 21) rfl W (6+k*2) rfl [.pointer (some ⟨B,0,none⟩),.pointer (some ⟨D,0,none⟩)] _ hrow Tryz.underlying31 rfl (by kernel_rfl) ?_
   simp only [uP]
   have b1:Below V0.heap.size V0 (V0.alloc (.cells #[.pointer (some ⟨B,0,none⟩),.pointer (some ⟨D,0,none⟩)] 31)):=(Below.refl _ _).alloc (Nat.le_refl _) _
   have HT:Hid (TwX (V0.alloc (.cells #[.pointer (some ⟨B,0,none⟩),.pointer (some ⟨D,0,none⟩)] 31)) B D t E l g day L F1 F2):=hT.below b1
   have HS1:Hid (WlG w0 (V0.alloc (.cells #[.pointer (some ⟨B,0,none⟩),.pointer (some ⟨D,0,none⟩)] 31)) W n pv dv G Bk cn Q):=HS.out.below b1
   have HO1:Hid (At (V0.alloc (.cells #[.pointer (some ⟨B,0,none⟩),.pointer (some ⟨D,0,none⟩)] 31)) N0 (opl kind on e m sv)):=At.keep (S:=fun _=>False) (v:=.int .i64 kind) HO.out (Keep.below b1) (fun x=>x)
   have HA1:Hid (At (V0.alloc (.cells #[.pointer (some ⟨B,0,none⟩),.pointer (some ⟨D,0,none⟩)] 31)) V0.heap.size [.pointer (some ⟨B,0,none⟩),.pointer (some ⟨D,0,none⟩)]):=At.alloc V0 [.pointer (some ⟨B,0,none⟩),.pointer (some ⟨D,0,none⟩)] _
   have HPD:Hid (pv k = .pointer (some ⟨B,0,none⟩)∧dv k = .pointer (some ⟨D,0,none⟩)):=⟨hp,hd⟩
   have HGG:Hid ((∀ b,F1 b→G k b)∧(∀ b,F2 b→G k b)∧∀ b,G k b→b < N0):=⟨hG1,hG2,hGN⟩
   have x0:(V0.alloc (.cells #[.pointer (some ⟨B,0,none⟩),.pointer (some ⟨D,0,none⟩)] 31)).cell? ⟨N0,0,none⟩ = some (.int .i64 kind):=HO1.out.cell 0 rfl
   have x6:(V0.alloc (.cells #[.pointer (some ⟨B,0,none⟩),.pointer (some ⟨D,0,none⟩)] 31)).cell? ⟨N0,6,none⟩ = some (.int .i64 m):=HO1.out.cell 6 rfl
   have y0:(V0.alloc (.cells #[.pointer (some ⟨B,0,none⟩),.pointer (some ⟨D,0,none⟩)] 31)).cell? ⟨V0.heap.size,0,none⟩ = some (.pointer (some ⟨B,0,none⟩)):=HA1.out.cell 0 rfl
   clear hrow b1 HS HO hT hp hd hG1 hG2 hGN HGN
   go_upto_if 25 with (first | (refine wpList_store_new rfl 31 (.tmp 6) (.tmp 22) rfl #[.pointer (some ⟨B,0,none⟩),.pointer (some ⟨D,0,none⟩)] _ rfl rfl (by kernel_rfl) rfl (by kernel_rfl) ?_) | fail)
   have hN01:N0 < V0.heap.size:=hN0
   generalize V0.alloc (.cells #[.pointer (some ⟨B,0,none⟩),.pointer (some ⟨D,0,none⟩)] 31) = V1 at *
   generalize V0.heap.size = N1 at *
   have HL:=hid hLl
   clear hLl hN0
   have hFN:Hid (∀ b,F1 b→b < N0):=fun b hb=>HGG.out.2.2 b (HGG.out.1 b hb)
   by_cases h1:kind = 1
   ·subst h1
    have hA:=HT.out.padd e (HLim.out.keep (S:=fun _=>False) (Keep.below HS1.out.bl) (fun x=>x))
    have hev:V1.rangeAt N0 2 (evl e):=HO1.out.mid 2 _ (opl_ev 1 on e m sv)
    unfold evV at hA
    go_upto_region 9 with fail
    refine wp_region_lit ?_
    refine wpList_val (.pointer (some ⟨N1,0,none⟩)) V1 rfl (by go_simp) ?_
    simp only [uP]
    refine wpList_val (.pointer (some ⟨B,0,none⟩)) V1 rfl (by go_simp) ?_
    simp only [uP]
    refine wpList_val (.pointer (some ⟨N0,2,none⟩)) V1 rfl (by go_simp) ?_
    simp only [uP]
    refine wpList_load_mid rfl 50 (.tmp 32) rfl N0 2 rfl (evl e) _ hev Tryz.underlying50 rfl (by kernel_rfl) ?_
    simp only [uP]
    clear x0 x6 y0 hev
    go_wp2_with fail
    refine hA.mono ?_
    rintro x w2 ⟨rfl,hk,E',hE',hM⟩
    clear hA
    have hR:=hM.dadd e hE' HT.out.sv HT.out.pm hin
    have a2:At w2 N1 [.pointer (some ⟨B,0,none⟩),.pointer (some ⟨D,0,none⟩)]:=At.keep (v:=.pointer (some ⟨B,0,none⟩)) HA1.out hk (fun x=>by have:=hFN.out _ x; omega)
    have o2:At w2 N0 (opl 1 on e m sv):=At.keep (v:=.int .i64 1) HO1.out hk (fun x=>by have:=hFN.out _ x; omega)
    have hev:w2.rangeAt N0 2 (evl e):=o2.mid 2 _ (opl_ev 1 on e m sv)
    have y1:w2.cell? ⟨N1,1,none⟩ = some (.pointer (some ⟨D,0,none⟩)):=a2.cell 1 rfl
    have HK:=hid hk
    unfold evc at hR
    clear a2 o2 hk hM hE'
    go_upto_region 10 with fail
    refine wp_region_lit ?_
    refine wpList_val (.pointer (some ⟨N1,1,none⟩)) w2 rfl (by go_simp) ?_
    simp only [uP]
    refine wpList_val (.pointer (some ⟨D,0,none⟩)) w2 rfl (by go_simp) ?_
    simp only [uP]
    refine wpList_val (.pointer (some ⟨N0,2,none⟩)) w2 rfl (by go_simp) ?_
    simp only [uP]
    refine wpList_load_mid rfl 50 (.tmp 37) rfl N0 2 rfl (evl e) _ hev Tryz.underlying50 rfl (by kernel_rfl) ?_
    simp only [uP]
    clear y1 hev
    go_wp2_with fail
    refine hR.mono ?_
    rintro x w3 ⟨rfl,hAg⟩
    clear hR
    have HE:Hid (StepPost2 w0 W n pv dv cn (.returned (.bool true)) w3):=by
     obtain ⟨hkk,hpp⟩:=pair_again (G:=G k) (n:=n+1) HK.out hAg HGG.out.1 HGG.out.2.1 (by have:=HL.out; omega)
     rw [← HPD.out.1,← HPD.out.2] at hpp
     exact ⟨rfl,_,_,_,_,Nat.le_add_right _ _,HS1.out.upd k hk2 hkk hpp⟩
    generalize addC t l e = c at *
    have hcc:(c == c) = true:=by simp
    clear hAg HK
    go_wp2_with fail
    refine (num_any c w3).mono ?_
    rintro x w' ⟨rfl,hw'⟩
    obtain rfl:=hw'.symm
    clear hw'
    go_wp2
    go_ret
    exact HE.out
   ·have e1:(kind == 1) = false:=by simp [h1]
    by_cases h2:kind = 2
    ·subst h2
     have hA:=HT.out.pcan m
     go_wp2_with fail
     refine hA.mono ?_
     rintro x w2 ⟨rfl,hk,E',hE',hM⟩
     clear hA x0 x6 y0
     have hR:=hM.dcan m hE' HT.out.sv HT.out.pm
     have a2:At w2 N1 [.pointer (some ⟨B,0,none⟩),.pointer (some ⟨D,0,none⟩)]:=At.keep (v:=.pointer (some ⟨B,0,none⟩)) HA1.out hk (fun x=>by have:=hFN.out _ x; omega)
     have o2:At w2 N0 (opl 2 on e m sv):=At.keep (v:=.int .i64 2) HO1.out hk (fun x=>by have:=hFN.out _ x; omega)
     have y1:w2.cell? ⟨N1,1,none⟩ = some (.pointer (some ⟨D,0,none⟩)):=a2.cell 1 rfl
     have y6:w2.cell? ⟨N0,6,none⟩ = some (.int .i64 m):=o2.cell 6 rfl
     have HK:=hid hk
     clear a2 o2 hk hM hE'
     go_wp2_with fail
     refine hR.mono ?_
     rintro x w3 ⟨rfl,hAg⟩
     clear hR y1 y6
     have HE:Hid (StepPost2 w0 W n pv dv cn (.returned (.bool true)) w3):=by
      obtain ⟨hkk,hpp⟩:=pair_again (G:=G k) (n:=n+1) HK.out hAg HGG.out.1 HGG.out.2.1 (by have:=HL.out; omega)
      rw [← HPD.out.1,← HPD.out.2] at hpp
      exact ⟨rfl,_,_,_,_,Nat.le_add_right _ _,HS1.out.upd k hk2 hkk hpp⟩
     generalize canC m l = c at *
     have hcc:(c == c) = true:=by simp
     clear hAg HK
     go_wp2_with fail
     refine (num_any c w3).mono ?_
     rintro x w' ⟨rfl,hw'⟩
     obtain rfl:=hw'.symm
     clear hw'
     go_wp2
     go_ret
     exact HE.out
    ·have e2:(kind == 2) = false:=by simp [h2]
     by_cases h3:kind = 3
     ·subst h3
      have y1:V1.cell? ⟨N1,1,none⟩ = some (.pointer (some ⟨D,0,none⟩)):=HA1.out.cell 1 rfl
      by_cases hday:m < day∨t.st+3700 < m
      ·have hA:=HT.out.prun_bad m hday
       go_wp2_with fail
       refine hA.mono ?_
       rintro x w2 ⟨rfl,hb2⟩
       clear hA x0 y0
       have hR:=(HT.out.below hb2).drun_bad m hday
       have y1':w2.cell? ⟨N1,1,none⟩ = some (.pointer (some ⟨D,0,none⟩)):=(At.keep (S:=fun _=>False) (v:=.pointer (some ⟨B,0,none⟩)) HA1.out (Keep.below hb2) (fun x=>x)).cell 1 rfl
       have y6':w2.cell? ⟨N0,6,none⟩ = some (.int .i64 m):=(At.keep (S:=fun _=>False) (v:=.int .i64 3) HO1.out (Keep.below hb2) (fun x=>x)).cell 6 rfl
       have HB2:=hid hb2
       clear hb2 x6 y1
       go_wp2_with fail
       refine hR.mono ?_
       rintro x w3 ⟨rfl,hb3⟩
       clear hR y1' y6'
       have HE:Hid (StepPost2 w0 W n pv dv cn (.returned (.bool true)) w3):=⟨rfl,G,_,_,_,Nat.le_add_right _ _,((HS1.out.below HB2.out).below hb3).more⟩
       clear hb3 HB2
       go_wp2_with fail
       refine (num_any 5 w3).mono ?_
       rintro x w' ⟨rfl,hw'⟩
       obtain rfl:=hw'.symm
       clear hw'
       go_wp2
       go_ret
       exact HE.out
      ·obtain ⟨_,_,hDX,_⟩:=HT.out.dc
       have hd0:=hDX.d0
       clear hDX
       obtain ⟨M,rfl⟩:∃ M:Nat,m = t.st+(M:Int):=⟨(m - t.st).toNat,by omega⟩
       have hM37:M≤3700:=by omega
       have hMd:day≤t.st+(M:Int):=by omega
       clear hday
       have hL4:L.length≤4000000000000:=by have:=HL.out; omega
       have hA:=HT.out.prun hL4 M hMd hM37 (HMv.out.below HS1.out.bl) (fun x=>by have:=HS1.out.ge k _ hk2 (HGG.out.1 _ x); omega)
       go_wp2_with fail
       refine hA.mono ?_
       rintro x w2 ⟨rfl,hk,hM⟩
       clear hA x0 y0 x6 y1
       have hR:=hM.drun HT.out.pm hL4 hMd hM37 HT.out.sv
       have a2:At w2 N1 [.pointer (some ⟨B,0,none⟩),.pointer (some ⟨D,0,none⟩)]:=At.keep (v:=.pointer (some ⟨B,0,none⟩)) HA1.out hk (fun x=>by have:=hFN.out _ x; omega)
       have o2:At w2 N0 (opl 3 on e (t.st+(M:Int)) sv):=At.keep (v:=.int .i64 3) HO1.out hk (fun x=>by have:=hFN.out _ x; omega)
       have y1:w2.cell? ⟨N1,1,none⟩ = some (.pointer (some ⟨D,0,none⟩)):=a2.cell 1 rfl
       have y6:w2.cell? ⟨N0,6,none⟩ = some (.int .i64 (t.st+(M:Int))):=o2.cell 6 rfl
       have HK:=hid hk
       clear a2 o2 hk hM
       go_wp2_with fail
       refine hR.mono ?_
       rintro x w3 ⟨rfl,hAg⟩
       clear hR y1 y6
       have HE:Hid (StepPost2 w0 W n pv dv cn (.returned (.bool true)) w3):=by
        obtain ⟨hkk,hpp⟩:=pair_again (G:=G k) (n:=n+1) HK.out hAg HGG.out.1 HGG.out.2.1 (by have h1:=HL.out; have h2:=bkP_len t.st (fun k=>(yOf t E k).am) L M; omega)
        rw [← HPD.out.1,← HPD.out.2] at hpp
        exact ⟨rfl,_,_,_,_,Nat.le_add_right _ _,HS1.out.upd k hk2 hkk hpp⟩
       clear hAg HK
       go_wp2_with fail
       refine (num_any 0 w3).mono ?_
       rintro x w' ⟨rfl,hw'⟩
       obtain rfl:=hw'.symm
       clear hw'
       go_wp2
       go_ret
       exact HE.out
     ·have e3:(kind == 3) = false:=by simp [h3]
      by_cases h4:kind = 4
      ·subst h4
       have hA:=lawbal_any V1 B D t E l g day L F1 F2 HT.out
       have ha1:=HA1.out.range
       go_upto_region 21 with fail
       refine wp_region_lit ?_
       refine wpList_load_mid rfl 31 (.tmp 6) rfl N1 0 rfl [.pointer (some ⟨B,0,none⟩),.pointer (some ⟨D,0,none⟩)] _ ha1 Tryz.underlying31 rfl (by kernel_rfl) ?_
       simp only [uP]
       clear x0 x6 y0 ha1
       go_wp2_with fail
       refine hA.mono ?_
       rintro x w2 ⟨rfl,hb2⟩
       have HE:Hid (StepPost2 w0 W n pv dv cn (.returned (.bool true)) w2):=⟨rfl,G,_,_,_,Nat.le_add_right _ _,(HS1.out.below hb2).more⟩
       clear hA hb2
       go_wp2
       go_ret
       exact HE.out
      ·have e4:(kind == 4) = false:=by simp [h4]
       have HCn:Hid (∀ w2,AskPost V1 W (pv 0) (dv 0) (pv 1) (dv 1) cn Q (.returned (.bool true)) w2→StepPost2 w0 W n pv dv cn (.returned (.bool true)) w2):=fun w2 ⟨_,B',hA',hB',hk'⟩=>⟨rfl,G,B',cn+2,_,Nat.le_refl _,(HS1.out.home hA' hk' hB' (fun b hb=>hb)).more⟩
       have hL4:L.length≤4000000000000:=by have:=HL.out; omega
       by_cases h5:kind = 5
       ·subst h5
        have hA:=booked_any V1 W Bk (pv 0) (dv 0) (pv 1) (dv 1) cn Q HS1.out.wa HS1.out.bk hcn HS1.out.ql HS1.out.qw B D t E l g day L F1 F2 HT.out hL4 m
        have ha1:=HA1.out.range
        go_upto_region 23 with fail
        refine wp_region_lit ?_
        refine wpList_val (.pointer (some ⟨W,0,none⟩)) V1 rfl rfl ?_
        simp only [uP]
        refine wpList_load_mid rfl 31 (.tmp 6) rfl N1 0 rfl [.pointer (some ⟨B,0,none⟩),.pointer (some ⟨D,0,none⟩)] _ ha1 Tryz.underlying31 rfl (by kernel_rfl) ?_
        simp only [uP]
        clear x0 y0 ha1
        go_wp2_with fail
        refine hA.mono ?_
        rintro x w2 hP
        obtain rfl:=hP.1
        have HE:Hid (StepPost2 w0 W n pv dv cn (.returned (.bool true)) w2):=HCn.out w2 hP
        clear hA hP HCn x6
        go_wp2
        go_ret
        exact HE.out
       ·have e5:(kind == 5) = false:=by simp [h5]
        by_cases h6:kind = 6
        ·subst h6
         have hA:=accounts_any V1 W Bk (pv 0) (dv 0) (pv 1) (dv 1) cn Q HS1.out.wa HS1.out.bk hcn HS1.out.ql HS1.out.qw B D t E l g day L F1 F2 HT.out hL4 (HMv.out.below HS1.out.bl)
         have ha1:=HA1.out.range
         go_upto_region 25 with fail
         refine wp_region_lit ?_
         refine wpList_val (.pointer (some ⟨W,0,none⟩)) V1 rfl rfl ?_
         simp only [uP]
         refine wpList_load_mid rfl 31 (.tmp 6) rfl N1 0 rfl [.pointer (some ⟨B,0,none⟩),.pointer (some ⟨D,0,none⟩)] _ ha1 Tryz.underlying31 rfl (by kernel_rfl) ?_
         simp only [uP]
         clear x0 y0 ha1 x6
         go_wp2_with fail
         refine hA.mono ?_
         rintro x w2 hP
         obtain rfl:=hP.1
         have HE:Hid (StepPost2 w0 W n pv dv cn (.returned (.bool true)) w2):=HCn.out w2 hP
         clear hA hP HCn
         go_wp2
         go_ret
         exact HE.out
        ·have e6:(kind == 6) = false:=by simp [h6]
         have e7:(kind == 7) = false:=by simp; omega
         have e8:(kind == 8) = false:=by simp; omega
         have HE:Hid (StepPost2 w0 W n pv dv cn (.returned (.bool true)) V1):=⟨rfl,G,_,_,_,Nat.le_add_right _ _,HS1.out.more⟩
         go_wp2
         go_ret
         exact HE.out
def TsPost (w:World) (W:Nat) (Bk:Bv) (pv dv:Nat→Value) (k:Nat) (L0:List En) (x:Ending) (w':World):Prop :=
 x = .returned (.bool true)∧(Below w.heap.size w w'∨∃ (B D:Nat) (t:Ln.Terms) (E l:List Ln.Ev) (g:Ln.St) (day:Int) (L:List En) (F1 F2:Nat→Prop),TwX w' B D t E l g day L F1 F2∧(∀ b,F1 b→w.heap.size≤b)∧(∀ b,F2 b→w.heap.size≤b)∧(L.length≤L0.length∨L.length≤104857)∧Keep (fun b=>b = W) w w' ∧
  At w' W (wlb Bk (if 0 = k then .pointer (some ⟨B,0,none⟩) else pv 0) (if 0 = k then .pointer (some ⟨D,0,none⟩) else dv 0) (if 1 = k then .pointer (some ⟨B,0,none⟩) else pv 1) (if 1 = k then .pointer (some ⟨D,0,none⟩) else dv 1)))
theorem wlb_set (Bk:Bv) (pv dv:Nat→Value) (k:Nat) (hk:k < 2) (a c:Value):setl (wlb Bk (pv 0) (dv 0) (pv 1) (dv 1)) (6+k*2) [a,c] = wlb Bk (if 0 = k then a else pv 0) (if 0 = k then c else dv 0) (if 1 = k then a else pv 1) (if 1 = k then c else dv 1):=by
 rcases (show k = 0∨k = 1 by omega) with rfl | rfl
 ·rfl
 ·rfl
theorem ts_post {w w4:World} {W:Nat} {Bk:Bv} {pv dv:Nat→Value} {k:Nat} {L0:List En} (hk:k < 2) (hA:At w W (wlb Bk (pv 0) (dv 0) (pv 1) (dv 1))) (hb:Below w.heap.size w w4) {B D:Nat} {t:Ln.Terms} {E l:List Ln.Ev} {g:Ln.St} {day:Int} {L:List En} {F1 F2:Nat→Prop} (hT:TwX w4 B D t E l g day L F1 F2) (h1:∀ b,F1 b→w.heap.size≤b) (h2:∀ b,F2 b→w.heap.size≤b) (hL:L.length≤L0.length∨L.length≤104857) :
  TsPost w W Bk pv dv k L0 (.returned (.bool true)) ((w4.alloc (.cells #[.pointer (some ⟨B,0,none⟩),.pointer (some ⟨D,0,none⟩)] 31)).drew.setCells W (6+k*2) [.pointer (some ⟨B,0,none⟩),.pointer (some ⟨D,0,none⟩)]):=by
 have hWl:W < w.heap.size:=At.lt (v:=Bk.l1) hA
 have hb4:Below w4.heap.size w4 (w4.alloc (.cells #[.pointer (some ⟨B,0,none⟩),.pointer (some ⟨D,0,none⟩)] 31)):=(Below.refl _ _).alloc (Nat.le_refl _) _
 have hA4:At (w4.alloc (.cells #[.pointer (some ⟨B,0,none⟩),.pointer (some ⟨D,0,none⟩)] 31)) W (wlb Bk (pv 0) (dv 0) (pv 1) (dv 1)):=At.keep (S:=fun _=>False) (v:=Bk.l1) hA (Keep.below (hb.trans (hb4.mono hb.size))) (fun x=>x)
 have hT4:=hT.below hb4
 have hb5:=hb.trans (hb4.mono hb.size)
 generalize w4.alloc (.cells #[.pointer (some ⟨B,0,none⟩),.pointer (some ⟨D,0,none⟩)] 31) = V4 at *
 have kS:Keep (fun b=>b = W) V4 (V4.drew.setCells W (6+k*2) [.pointer (some ⟨B,0,none⟩),.pointer (some ⟨D,0,none⟩)]):=Keep.setCells (S:=fun b=>b = W) rfl _ _ _ (Keep.refl _ _).drew
 have hA5:=At.setCells [.pointer (some ⟨B,0,none⟩),.pointer (some ⟨D,0,none⟩)] (6+k*2) _ _ hA4.drew (show 6+k*2+2≤10 by omega)
 rw [wlb_set Bk pv dv k hk] at hA5
 exact ⟨rfl,.inr ⟨B,D,t,E,l,g,day,L,F1,F2,hT4.keep kS (fun b hb x=>by have:=h1 b hb; omega) (fun b hb x=>by have:=h2 b hb; omega),h1,h2,hL,((Keep.below hb5).mono (S:=fun _=>False) (fun _ _ x=>x.elim)).trans kS,hA5⟩⟩
set_option maxRecDepth 10000 in
set_option maxHeartbeats 4000000 in
theorem texts2_any (w:World) (W:Nat) (Bk:Bv) (pv dv:Nat→Value) (k:Nat) (hk:k < 2) (hA:At w W (wlb Bk (pv 0) (dv 0) (pv 1) (dv 1))) (B D:Nat) (t:Ln.Terms) (E l:List Ln.Ev) (g:Ln.St) (day:Int) (L:List En) (F1 F2:Nat→Prop) (hT:TwX w B D t E l g day L F1 F2) (hL:L.length≤9900000000) (kind on:Int) (e:Ln.Ev) (m:Int) (st:List UInt8) (hst:st.length≤1048576) (hkd:kind = 7∨kind = 8) (hg:Gl w) (hl:Lim w) :
  Calls Tryz.prog 61 #[.pointer (some ⟨W,0,none⟩),.agg #[.pointer (some ⟨B,0,none⟩),.pointer (some ⟨D,0,none⟩)],.int .i64 k,.agg #[.int .i64 kind,.int .i64 on,.int .i64 e.d,.int .i64 e.k,.int .i64 e.s,.int .i64 e.a,.int .i64 m,.string (bs st)]] w (TsPost w W Bk pv dv k L):=by
 have hWl:W < w.heap.size:=At.lt (v:=Bk.l1) hA
 have s1:(w.alloc (.cells #[.pointer (some ⟨B,0,none⟩),.pointer (some ⟨D,0,none⟩)] 31)).heap.size = w.heap.size+1:=Array.size_push _
 have b1:Below w.heap.size w (w.alloc (.cells #[.pointer (some ⟨B,0,none⟩),.pointer (some ⟨D,0,none⟩)] 31)):=(Below.refl _ _).alloc (Nat.le_refl _) _
 have b0:Below w.heap.size w ((w.alloc (.cells #[.pointer (some ⟨B,0,none⟩),.pointer (some ⟨D,0,none⟩)] 31)).alloc (.cells #[.int .i64 kind,.int .i64 on,.int .i64 e.d,.int .i64 e.k,.int .i64 e.s,.int .i64 e.a,.int .i64 m,.string (bs st)] 60)):=b1.alloc b1.size _
 have kb:Below (w.alloc (.cells #[.pointer (some ⟨B,0,none⟩),.pointer (some ⟨D,0,none⟩)] 31)).heap.size (w.alloc (.cells #[.pointer (some ⟨B,0,none⟩),.pointer (some ⟨D,0,none⟩)] 31)) ((w.alloc (.cells #[.pointer (some ⟨B,0,none⟩),.pointer (some ⟨D,0,none⟩)] 31)).alloc (.cells #[.int .i64 kind,.int .i64 on,.int .i64 e.d,.int .i64 e.k,.int .i64 e.s,.int .i64 e.a,.int .i64 m,.string (bs st)] 60)):=(Below.refl _ _).alloc (Nat.le_refl _) _
 have a0:At ((w.alloc (.cells #[.pointer (some ⟨B,0,none⟩),.pointer (some ⟨D,0,none⟩)] 31)).alloc (.cells #[.int .i64 kind,.int .i64 on,.int .i64 e.d,.int .i64 e.k,.int .i64 e.s,.int .i64 e.a,.int .i64 m,.string (bs st)] 60)) w.heap.size [.pointer (some ⟨B,0,none⟩),.pointer (some ⟨D,0,none⟩)]:=At.keep (S:=fun _=>False) (v:=.pointer (some ⟨B,0,none⟩)) (At.alloc w [.pointer (some ⟨B,0,none⟩),.pointer (some ⟨D,0,none⟩)] _) (Keep.below kb) (fun x=>x)
 have o0:At ((w.alloc (.cells #[.pointer (some ⟨B,0,none⟩),.pointer (some ⟨D,0,none⟩)] 31)).alloc (.cells #[.int .i64 kind,.int .i64 on,.int .i64 e.d,.int .i64 e.k,.int .i64 e.s,.int .i64 e.a,.int .i64 m,.string (bs st)] 60)) (w.heap.size+1) (opl kind on e m (.string (bs st))):=by
  have h:=At.alloc (w.alloc (.cells #[.pointer (some ⟨B,0,none⟩),.pointer (some ⟨D,0,none⟩)] 31)) (opl kind on e m (.string (bs st))) 60
  rw [s1] at h
  exact h
 have z0:((w.alloc (.cells #[.pointer (some ⟨B,0,none⟩),.pointer (some ⟨D,0,none⟩)] 31)).alloc (.cells #[.int .i64 kind,.int .i64 on,.int .i64 e.d,.int .i64 e.k,.int .i64 e.s,.int .i64 e.a,.int .i64 m,.string (bs st)] 60)).heap.size = w.heap.size+2:=(Array.size_push _).trans (by rw [s1])
 have HB0:Hid (Below w.heap.size w ((w.alloc (.cells #[.pointer (some ⟨B,0,none⟩),.pointer (some ⟨D,0,none⟩)] 31)).alloc (.cells #[.int .i64 kind,.int .i64 on,.int .i64 e.d,.int .i64 e.k,.int .i64 e.s,.int .i64 e.a,.int .i64 m,.string (bs st)] 60))∧((w.alloc (.cells #[.pointer (some ⟨B,0,none⟩),.pointer (some ⟨D,0,none⟩)] 31)).alloc (.cells #[.int .i64 kind,.int .i64 on,.int .i64 e.d,.int .i64 e.k,.int .i64 e.s,.int .i64 e.a,.int .i64 m,.string (bs st)] 60)).heap.size = w.heap.size+2):=⟨b0,z0⟩
 have HA0:=hid a0
 have HO0:=hid o0
 have HT0:Hid (TwX ((w.alloc (.cells #[.pointer (some ⟨B,0,none⟩),.pointer (some ⟨D,0,none⟩)] 31)).alloc (.cells #[.int .i64 kind,.int .i64 on,.int .i64 e.d,.int .i64 e.k,.int .i64 e.s,.int .i64 e.a,.int .i64 m,.string (bs st)] 60)) B D t E l g day L F1 F2):=hT.below b0
 have HA:=hid hA
 have HG:Hid (Gl ((w.alloc (.cells #[.pointer (some ⟨B,0,none⟩),.pointer (some ⟨D,0,none⟩)] 31)).alloc (.cells #[.int .i64 kind,.int .i64 on,.int .i64 e.d,.int .i64 e.k,.int .i64 e.s,.int .i64 e.a,.int .i64 m,.string (bs st)] 60))∧Lim ((w.alloc (.cells #[.pointer (some ⟨B,0,none⟩),.pointer (some ⟨D,0,none⟩)] 31)).alloc (.cells #[.int .i64 kind,.int .i64 on,.int .i64 e.d,.int .i64 e.k,.int .i64 e.s,.int .i64 e.a,.int .i64 m,.string (bs st)] 60))):=⟨hg.below b0,lim_low hl b0⟩
 have HLd:Hid (∀ (wx:World) (s:List UInt8),Sh s→Below ((w.alloc (.cells #[.pointer (some ⟨B,0,none⟩),.pointer (some ⟨D,0,none⟩)] 31)).alloc (.cells #[.int .i64 kind,.int .i64 on,.int .i64 e.d,.int .i64 e.k,.int .i64 e.s,.int .i64 e.a,.int .i64 m,.string (bs st)] 60)).heap.size ((w.alloc (.cells #[.pointer (some ⟨B,0,none⟩),.pointer (some ⟨D,0,none⟩)] 31)).alloc (.cells #[.int .i64 kind,.int .i64 on,.int .i64 e.d,.int .i64 e.k,.int .i64 e.s,.int .i64 e.a,.int .i64 m,.string (bs st)] 60)) wx→Calls Tryz.prog 10 #[.string (bs s)] wx (LdPost wx s)):=fun wx s h1 h2=>loaded_any wx s h1 ((hg.below b0).below h2) (lim_low (lim_low hl b0) h2)
 clear s1 b1 b0 kb a0 o0 z0 hT hA hg hl
 go_enter Tryz.func61,Tryz.ntmps61
 go_upto_region 1 with fail
 have hN1:(w.alloc (.cells #[.pointer (some ⟨B,0,none⟩),.pointer (some ⟨D,0,none⟩)] 31)).heap.size = w.heap.size+1:=Array.size_push _
 change Code.wp _ _ _ _ ((w.alloc (.cells #[.pointer (some ⟨B,0,none⟩),.pointer (some ⟨D,0,none⟩)] 31)).alloc (.cells #[.int .i64 kind,.int .i64 on,.int .i64 e.d,.int .i64 e.k,.int .i64 e.s,.int .i64 e.a,.int .i64 m,.string (bs st)] 60))
 generalize ((w.alloc (.cells #[.pointer (some ⟨B,0,none⟩),.pointer (some ⟨D,0,none⟩)] 31)).alloc (.cells #[.int .i64 kind,.int .i64 on,.int .i64 e.d,.int .i64 e.k,.int .i64 e.s,.int .i64 e.a,.int .i64 m,.string (bs st)] 60)) = V0 at *
 clear hN1
 rcases hkd with rfl | rfl
 ·have c7:V0.cell? ⟨w.heap.size+1,7,none⟩ = some (.string (bs st)):=HO0.out.cell 7 rfl
  have c0:V0.cell? ⟨w.heap.size+1,0,none⟩ = some (.int .i64 7):=HO0.out.cell 0 rfl
  have d0:V0.cell? ⟨w.heap.size,0,none⟩ = some (.pointer (some ⟨B,0,none⟩)):=HA0.out.cell 0 rfl
  obtain ⟨P,Mb,evv,bkv,hLo,_⟩:=HT0.out.pr
  have hS:=save_any V0 B P Mb t E g day L evv bkv hLo HT0.out.sv.rg (by omega) HG.out.1.tb
  clear hLo
  have HLd7:=HLd.out
  have HTd:Hid (told (txtB t E g day L) = some ⟨t,E,cents g,day,L⟩∧Sh (txtB t E g day L)):=⟨HT0.out.sv.told,HT0.out.sv.sh hL⟩
  have HLd8:Hid (∀ wx:World,Below V0.heap.size V0 wx→Calls Tryz.prog 10 #[.string (bs (txtB t E g day L))] wx (LdPost wx (txtB t E g day L))):=fun wx h2=>HLd.out wx _ HTd.out.2 h2
  have HRs:Hid (∀ wx:World,Below V0.heap.size V0 wx→Calls Tryz.prog 97 #[.pointer (some ⟨D,0,none⟩)] wx fun x w'=>x = .returned (.string (bs (txtB t E g day L)))∧Below wx.heap.size wx w'):=fun wx h2=>by
   obtain ⟨ev2,bk2,hDc,_⟩:=(HT0.out.below h2).dc
   have hr:=HT0.out.sv.rg
   refine (refsave_any wx D t l g day L ev2 bk2 hDc ⟨hr.tm,fun e he=>hr.ev e (HT0.out.pm.mem_iff.2 he),hr.nw,hr.dy,hr.en⟩ (by omega)).mono ?_
   rintro x w' ⟨R,hp,hs,rfl,hb⟩
   obtain rfl:R = E:=So.sorted_one (hp.trans HT0.out.pm.symm) hs HT0.out.sv.so
   exact ⟨rfl,hb⟩
  clear HLd HLd7
  generalize hS0:bs (txtB t E g day L) = S0 at *
  generalize hs0:txtB t E g day L = s0 at *
  clear hS0 hs0
  go_wp2_with fail
  refine hS.mono ?_
  rintro x w1 ⟨rfl,hb1⟩
  clear hS c7 c0 d0
  have d1:w1.cell? ⟨w.heap.size,1,none⟩ = some (.pointer (some ⟨D,0,none⟩)):=(HA0.out.lower hb1).cell 1 rfl
  have hR:=HRs.out w1 hb1
  go_wp2_with fail
  refine hR.mono ?_
  rintro x w2 ⟨rfl,hb2⟩
  clear hR HRs d1
  have hB2:Below V0.heap.size V0 w2:=hb1.trans (hb2.mono hb1.size)
  have hLd:=HLd8.out w2 hB2
  go_wp2_with fail
  refine hLd.mono ?_
  rintro x w4 ⟨hb4,⟨hto,_⟩ | ⟨sv',B',D',F1',F2',hto,rfl,hT',hF1',hF2'⟩⟩
  ·exact absurd (HTd.out.1.symm.trans hto) (by simp)
  ·obtain rfl:=Option.some.inj (HTd.out.1.symm.trans hto)
   have HT':Hid (TwX w4 B' D' t E E (cents g) day L F1' F2'∧(∀ b,F1' b→w.heap.size≤b)∧(∀ b,F2' b→w.heap.size≤b)∧(L.length≤L.length∨L.length≤104857)):=by
    have h1:=HB0.out
    have h2:=hB2.size
    exact ⟨hT',fun b hb=>by have:=hF1' b hb; omega,fun b hb=>by have:=hF2' b hb; omega,.inl (Nat.le_refl _)⟩
   have hb04:Below w.heap.size w w4:=HB0.out.1.trans ((hB2.trans (hb4.mono hB2.size)).mono HB0.out.1.size)
   clear hLd HLd8 hto hT' hF1' hF2' hb1 hb2 hB2 hb4 HTd
   have HE:Hid (TsPost w W Bk pv dv k L (.returned (.bool true)) ((w4.alloc (.cells #[.pointer (some ⟨B',0,none⟩),.pointer (some ⟨D',0,none⟩)] 31)).drew.setCells W (6+k*2) [.pointer (some ⟨B',0,none⟩),.pointer (some ⟨D',0,none⟩)])):=ts_post hk HA.out hb04 HT'.out.1 HT'.out.2.1 HT'.out.2.2.1 HT'.out.2.2.2
   have hb5:Below w4.heap.size w4 (w4.alloc (.cells #[.pointer (some ⟨B',0,none⟩),.pointer (some ⟨D',0,none⟩)] 31)):=(Below.refl _ _).alloc (Nat.le_refl _) _
   have a11:At (w4.alloc (.cells #[.pointer (some ⟨B',0,none⟩),.pointer (some ⟨D',0,none⟩)] 31)) w4.heap.size [.pointer (some ⟨B',0,none⟩),.pointer (some ⟨D',0,none⟩)]:=At.alloc w4 [.pointer (some ⟨B',0,none⟩),.pointer (some ⟨D',0,none⟩)] _
   have hAw:At (w4.alloc (.cells #[.pointer (some ⟨B',0,none⟩),.pointer (some ⟨D',0,none⟩)] 31)) W (wlb Bk (pv 0) (dv 0) (pv 1) (dv 1)):=At.keep (S:=fun _=>False) (v:=Bk.l1) HA.out (Keep.below (hb04.trans (hb5.mono hb04.size))) (fun x=>x)
   have c11:(w4.alloc (.cells #[.pointer (some ⟨B',0,none⟩),.pointer (some ⟨D',0,none⟩)] 31)).cell? ⟨w4.heap.size,0,none⟩ = some (.pointer (some ⟨B',0,none⟩)):=a11.cell 0 rfl
   have HZ:Hid (W < w4.heap.size):=by have:=hb04.size; show W < _; omega
   clear hb5 hb04 HT'
   go_upto_region 9 with (first | (refine wpList_store_new rfl 31 (.tmp 11) (.tmp 30) rfl #[.pointer (some ⟨B',0,none⟩),.pointer (some ⟨D',0,none⟩)] _ rfl rfl (by kernel_rfl) rfl (by kernel_rfl) ?_) | fail)
   generalize w4.alloc (.cells #[.pointer (some ⟨B',0,none⟩),.pointer (some ⟨D',0,none⟩)] 31) = V4 at *
   generalize w4.heap.size = N11 at *
   clear c11
   have zk:(k:Int) < 2:=by omega
   refine wp_region_held_drew (S:=fun wx=>At wx N11 [.pointer (some ⟨B',0,none⟩),.pointer (some ⟨D',0,none⟩)]) (by kernel_rfl) a11.drew (fun hHeld=>?_)
   refine tkk 0 (.pointer (some ⟨W,0,none⟩)) rfl ?_
   simp only [uP]
   refine tkk 1 (.int .i64 k) rfl ?_
   simp only [uP]
   refine wpAnyH_take (i:=2) (v:=(.agg #[.pointer (some ⟨B',0,none⟩),.pointer (some ⟨D',0,none⟩)])) rfl (by kernel_rfl) (by kernel_rfl) (by kernel_rfl) (fun _ _ _ h=>h) (yieldsIf_load_mid (by rfl) 31 (.tmp 11) rfl _ _ rfl _ _ (fun _ h=>h.range) Tryz.underlying31 rfl (by kernel_rfl)) (by assumption) ?_
   try simp only [uP]
   refine tkk 3 (.pointer (some ⟨W,0,none⟩)) rfl ?_
   simp only [uP]
   refine tkk 4 (.pointer (some ⟨W,6,none⟩)) rfl ?_
   simp only [uP]
   refine tka 5 (.pointer (some ⟨W,6+k*2,none⟩)) rfl ?_
   simp only [uP]
   refine rdy 6 rfl (fun K hK=>?_)
   rw [if_pos (by rfl)]
   have hs6:=hAw.drew.there_mid (6+k*2) 2 (show 6+k*2+2≤10 by omega)
   have kS:Keep (fun b=>b = W) V4 (V4.drew.setCells W (6+k*2) [.pointer (some ⟨B',0,none⟩),.pointer (some ⟨D',0,none⟩)]):=Keep.setCells (S:=fun b=>b = W) rfl _ _ _ (Keep.refl _ _).drew
   refine wp_store_mid 31 (.tmp 40) (.tmp 37) rfl _ (6+k*2) #[.pointer (some ⟨B',0,none⟩),.pointer (some ⟨D',0,none⟩)] rfl rfl hs6 (by kernel_rfl) (by kernel_rfl) ?_
   have a12:=At.keep (v:=.pointer (some ⟨B',0,none⟩)) a11 kS (by have:=HZ.out; omega)
   refine hK.out _ _ a12 (fun _=>?_)
   clear hK K hHeld
   refine wpAnyH_done (by kernel_rfl) ?_ _
   clear hAw hs6 kS a11
   change Exit.then _ _ _ _ (V4.drew.setCells W (6+k*2) [.pointer (some ⟨B',0,none⟩),.pointer (some ⟨D',0,none⟩)])
   generalize V4.drew.setCells W (6+k*2) [.pointer (some ⟨B',0,none⟩),.pointer (some ⟨D',0,none⟩)] = V5 at *
   have c12:V5.cell? ⟨N11,0,none⟩ = some (.pointer (some ⟨B',0,none⟩)):=a12.cell 0 rfl
   clear a12
   go_wp2
   go_ret
   exact HE.out
 ·have c7:V0.cell? ⟨w.heap.size+1,7,none⟩ = some (.string (bs st)):=HO0.out.cell 7 rfl
  have c0:V0.cell? ⟨w.heap.size+1,0,none⟩ = some (.int .i64 8):=HO0.out.cell 0 rfl
  have hLd:=HLd.out V0 st (Sh.short (by omega)) (Below.refl _ _)
  generalize bs st = S0 at *
  go_wp2_with fail
  refine hLd.mono ?_
  rintro x w4 ⟨hb4,⟨hto,rfl⟩ | ⟨sv',B',D',F1',F2',hto,rfl,hT',hF1',hF2'⟩⟩
  ·clear hLd HLd c7 c0
   have hb04:Below w.heap.size w w4:=HB0.out.1.trans (hb4.mono HB0.out.1.size)
   have hb5:Below w4.heap.size w4 (w4.alloc (.cells #[.pointer none,.pointer none] 31)):=(Below.refl _ _).alloc (Nat.le_refl _) _
   have a11:At (w4.alloc (.cells #[.pointer none,.pointer none] 31)) w4.heap.size [.pointer none,.pointer none]:=At.alloc w4 [.pointer none,.pointer none] _
   have c11:(w4.alloc (.cells #[.pointer none,.pointer none] 31)).cell? ⟨w4.heap.size,0,none⟩ = some (.pointer none):=a11.cell 0 rfl
   have c0:(w4.alloc (.cells #[.pointer none,.pointer none] 31)).cell? ⟨w.heap.size+1,0,none⟩ = some (.int .i64 8):=(HO0.out.lower (hb4.trans (hb5.mono hb4.size))).cell 0 rfl
   have HE:Hid (TsPost w W Bk pv dv k L (.returned (.bool true)) (w4.alloc (.cells #[.pointer none,.pointer none] 31))):=⟨rfl,.inl (hb04.trans (hb5.mono hb04.size))⟩
   clear hb4 hb04 hb5 a11 hto
   go_upto_region 8 with (first | (refine wpList_store_new rfl 31 (.tmp 11) (.tmp 30) rfl #[.pointer none,.pointer none] _ rfl rfl (by kernel_rfl) rfl (by kernel_rfl) ?_) | fail)
   generalize w4.alloc (.cells #[.pointer none,.pointer none] 31) = V4 at *
   generalize w4.heap.size = N11 at *
   go_wp2
   go_ret
   exact HE.out
  ·have HT':Hid (TwX w4 B' D' sv'.t sv'.l sv'.l sv'.g sv'.day sv'.L F1' F2'∧(∀ b,F1' b→w.heap.size≤b)∧(∀ b,F2' b→w.heap.size≤b)∧(sv'.L.length≤L.length∨sv'.L.length≤104857)):=by
    have h1:=HB0.out
    have h3:=txtB_more sv'.t sv'.l sv'.g sv'.day sv'.L
    rw [← (told_sav hto).1] at h3
    exact ⟨hT',fun b hb=>by have:=hF1' b hb; omega,fun b hb=>by have:=hF2' b hb; omega,.inr (by omega)⟩
   have hb04:Below w.heap.size w w4:=HB0.out.1.trans (hb4.mono HB0.out.1.size)
   clear hLd HLd hto hT' hF1' hF2' hb4 c7 c0
   have HE:Hid (TsPost w W Bk pv dv k L (.returned (.bool true)) ((w4.alloc (.cells #[.pointer (some ⟨B',0,none⟩),.pointer (some ⟨D',0,none⟩)] 31)).drew.setCells W (6+k*2) [.pointer (some ⟨B',0,none⟩),.pointer (some ⟨D',0,none⟩)])):=ts_post hk HA.out hb04 HT'.out.1 HT'.out.2.1 HT'.out.2.2.1 HT'.out.2.2.2
   have hb5:Below w4.heap.size w4 (w4.alloc (.cells #[.pointer (some ⟨B',0,none⟩),.pointer (some ⟨D',0,none⟩)] 31)):=(Below.refl _ _).alloc (Nat.le_refl _) _
   have a11:At (w4.alloc (.cells #[.pointer (some ⟨B',0,none⟩),.pointer (some ⟨D',0,none⟩)] 31)) w4.heap.size [.pointer (some ⟨B',0,none⟩),.pointer (some ⟨D',0,none⟩)]:=At.alloc w4 [.pointer (some ⟨B',0,none⟩),.pointer (some ⟨D',0,none⟩)] _
   have hAw:At (w4.alloc (.cells #[.pointer (some ⟨B',0,none⟩),.pointer (some ⟨D',0,none⟩)] 31)) W (wlb Bk (pv 0) (dv 0) (pv 1) (dv 1)):=At.keep (S:=fun _=>False) (v:=Bk.l1) HA.out (Keep.below (hb04.trans (hb5.mono hb04.size))) (fun x=>x)
   have c11:(w4.alloc (.cells #[.pointer (some ⟨B',0,none⟩),.pointer (some ⟨D',0,none⟩)] 31)).cell? ⟨w4.heap.size,0,none⟩ = some (.pointer (some ⟨B',0,none⟩)):=a11.cell 0 rfl
   have HZ:Hid (W < w4.heap.size):=by have:=hb04.size; show W < _; omega
   clear hb5 hb04 HT'
   go_upto_region 9 with (first | (refine wpList_store_new rfl 31 (.tmp 11) (.tmp 30) rfl #[.pointer (some ⟨B',0,none⟩),.pointer (some ⟨D',0,none⟩)] _ rfl rfl (by kernel_rfl) rfl (by kernel_rfl) ?_) | fail)
   generalize w4.alloc (.cells #[.pointer (some ⟨B',0,none⟩),.pointer (some ⟨D',0,none⟩)] 31) = V4 at *
   generalize w4.heap.size = N11 at *
   clear c11
   have zk:(k:Int) < 2:=by omega
   refine wp_region_held_drew (S:=fun wx=>At wx N11 [.pointer (some ⟨B',0,none⟩),.pointer (some ⟨D',0,none⟩)]) (by kernel_rfl) a11.drew (fun hHeld=>?_)
   refine tkk 0 (.pointer (some ⟨W,0,none⟩)) rfl ?_
   simp only [uP]
   refine tkk 1 (.int .i64 k) rfl ?_
   simp only [uP]
   refine wpAnyH_take (i:=2) (v:=(.agg #[.pointer (some ⟨B',0,none⟩),.pointer (some ⟨D',0,none⟩)])) rfl (by kernel_rfl) (by kernel_rfl) (by kernel_rfl) (fun _ _ _ h=>h) (yieldsIf_load_mid (by rfl) 31 (.tmp 11) rfl _ _ rfl _ _ (fun _ h=>h.range) Tryz.underlying31 rfl (by kernel_rfl)) (by assumption) ?_
   try simp only [uP]
   refine tkk 3 (.pointer (some ⟨W,0,none⟩)) rfl ?_
   simp only [uP]
   refine tkk 4 (.pointer (some ⟨W,6,none⟩)) rfl ?_
   simp only [uP]
   refine tka 5 (.pointer (some ⟨W,6+k*2,none⟩)) rfl ?_
   simp only [uP]
   refine rdy 6 rfl (fun K hK=>?_)
   rw [if_pos (by rfl)]
   have hs6:=hAw.drew.there_mid (6+k*2) 2 (show 6+k*2+2≤10 by omega)
   have kS:Keep (fun b=>b = W) V4 (V4.drew.setCells W (6+k*2) [.pointer (some ⟨B',0,none⟩),.pointer (some ⟨D',0,none⟩)]):=Keep.setCells (S:=fun b=>b = W) rfl _ _ _ (Keep.refl _ _).drew
   refine wp_store_mid 31 (.tmp 40) (.tmp 37) rfl _ (6+k*2) #[.pointer (some ⟨B',0,none⟩),.pointer (some ⟨D',0,none⟩)] rfl rfl hs6 (by kernel_rfl) (by kernel_rfl) ?_
   have a12:=At.keep (v:=.pointer (some ⟨B',0,none⟩)) a11 kS (by have:=HZ.out; omega)
   refine hK.out _ _ a12 (fun _=>?_)
   clear hK K hHeld
   refine wpAnyH_done (by kernel_rfl) ?_ _
   clear hAw hs6 kS a11
   change Exit.then _ _ _ _ (V4.drew.setCells W (6+k*2) [.pointer (some ⟨B',0,none⟩),.pointer (some ⟨D',0,none⟩)])
   generalize V4.drew.setCells W (6+k*2) [.pointer (some ⟨B',0,none⟩),.pointer (some ⟨D',0,none⟩)] = V5 at *
   have c12:V5.cell? ⟨N11,0,none⟩ = some (.pointer (some ⟨B',0,none⟩)):=a12.cell 0 rfl
   clear a12
   go_wp2
   go_ret
   exact HE.out
structure Sp where
 kind:Int
 on:Int
 e:Ln.Ev
 m:Int
 sv:Value
def spl (s:Sp):List Value:=opl s.kind s.on s.e s.m s.sv
def SpV (w:World) (v:Value) (l:List Sp):Prop :=
 ∃ p cap,v = .slice p l.length cap∧l.length≤cap∧∀ k (hk:k < l.length),∃ b o,p = some ⟨b,o,none⟩∧b < w.heap.size∧w.rangeAt b (o+k*8) (spl l[k])
theorem op_pair {w w':World} {t:Ln.Terms} {x:Ending} (h:OpPost w t x w'):Below w.heap.size w w'∧∃ a c:Option Addr,x = .returned (.tuple #[.agg #[.pointer a,.pointer c],.bool true])∧Pair w' (.pointer a) (.pointer c) 0 (Wd (fun _=>False) w w'):=by
 obtain ⟨hb,⟨_,rfl⟩ | ⟨_,B,D,F1,F2,rfl,hT,h1,h2⟩⟩:=h
 ·exact ⟨hb,none,none,rfl,.inl ⟨rfl,rfl⟩⟩
 ·exact ⟨hb,some ⟨B,0,none⟩,some ⟨D,0,none⟩,rfl,.inr ⟨B,D,t,[],[],_,_,[],F1,F2,rfl,rfl,hT,fun b hb=>.inr ⟨h1 b hb,hT.l1 b hb⟩,fun b hb=>.inr ⟨h2 b hb,hT.l2 b hb⟩,by simp⟩⟩
theorem Pair.below {w w':World} {p d:Value} {n:Nat} {G:Nat→Prop} (h:Pair w p d n G) (hb:Below w.heap.size w w'):Pair w' p d n G:=h.keep (S:=fun _=>False) (Keep.below hb) (fun _ _ x=>x)
theorem SpV.below {w w':World} {v:Value} {l:List Sp} (h:SpV w v l) (hb:Below w.heap.size w w'):SpV w' v l:=by
 obtain ⟨p,cap,h1,h2,h3⟩:=h
 refine ⟨p,cap,h1,h2,fun k hk=>?_⟩
 obtain ⟨b,o,h4,h5,h6⟩:=h3 k hk
 exact ⟨b,o,h4,Nat.lt_of_lt_of_le h5 hb.size,fun j u hu=>(World.cell?_of_block (w:=w) (a:=⟨b,o+k*8+j,none⟩) (hb.block b h5)).trans (h6 j u hu)⟩
end Go.Proofs.YtanndhoimpnhpaaGreatDoor
