/- Joined by program: BsR, TzD, LwI, LwJ0, BsS, TzE, Opl, TyM0, Opw. -/
import Derived.Test.YtanndhoimpnhpaaGreatDoorM27
import Derived.Deep.Slices
import Derived.ChangeSame
import Derived.Test.YtanndhoimpnhpaaGreatDoorRows
namespace Go.Proofs.YtanndhoimpnhpaaGreatDoor
open Go.ChangeShapes Go.WideShapes Go.ChangeAt Go.RowKit Go.WideMaps Go.Maps Lg Cal
theorem Pair.le {w:World} {p d:Value} {n m:Nat} {G:Nat→Prop} (h:Pair w p d n G) (hm:n≤m):Pair w p d m G:=by
 rcases h with h | ⟨B,D,t,E,l,g,day,L,F1,F2,h1,h2,h3,h4,h5,h6⟩
 ·exact .inl h
 ·exact .inr ⟨B,D,t,E,l,g,day,L,F1,F2,h1,h2,h3,h4,h5,by omega⟩
def StepTo (w0:World) (W n c:Nat) (e:Ending) (w':World):Prop:=e = .returned (.bool true)∧∃ pv dv G B c' Q,c'≤c+2∧WlG w0 w' W (n+1) pv dv G B c' Q
def PlG (w:World) (W N n0:Nat) (s14:Value) (wr:World):Prop:=∃ (k n:Nat) (pv dv:Nat→Value) (G:Nat→Nat→Prop) (B:Bv) (c:Nat) (Q:Nat→Prop),k≤N∧n0≤n∧n≤n0+k∧c≤2*k∧s14 = .int .i64 k∧WlG w wr W n pv dv G B c Q
def PlH (w:World) (W:Nat) (s18:Value) (wr:World):Prop:=∃ (k n:Nat) (pv dv:Nat→Value) (G:Nat→Nat→Prop) (B:Bv) (c:Nat) (Q:Nat→Prop),k≤2∧n≤30000000∧c≤60000000+4*k∧s18 = .int .i64 k∧WlG w wr W n pv dv G B c Q
set_option maxRecDepth 10000 in
set_option maxHeartbeats 8000000 in
theorem played_gen (most:Int) (hm5:5≤most) (n0:Nat) (w:World) (ta tb:Ln.Terms) (v:Value) (sc:List Sp) (hv:SpV w v sc) (hsl:n0+sc.length≤30000000) (hmv:Mv w)
  (hst:∀ (wr:World) (W n:Nat) (pv dv:Nat→Value) (G:Nat→Nat→Prop) (B:Bv) (c:Nat) (Q:Nat→Prop) (s:Sp),s∈sc→s.kind≤most→WlG w wr W n pv dv G B c Q→n0≤n→n≤n0+sc.length→c≤60000000→Calls Tryz.prog 25 #[.pointer (some ⟨W,0,none⟩),.agg (spl s).toArray] wr (StepTo w W n c)) :
  Calls Tryz.prog 9 #[tmV ta,tmV tb,v,.int .i64 most] w fun e w'=>e = .returned (.bool true)∧Below w.heap.size w w':=by
 have HSt:=hid hst
 clear hst
 have HMv:=hid hmv
 obtain ⟨sp,scap,rfl,hcap,hsr⟩:=hv
 have HSR:=hid hsr
 have s1:(w.alloc (.cells (tml ta).toArray 23)).heap.size = w.heap.size+1:=Array.size_push _
 have s2:((w.alloc (.cells (tml ta).toArray 23)).alloc (.cells (tml tb).toArray 23)).heap.size = w.heap.size+2:=(Array.size_push _).trans (by rw [s1])
 have b1:Below w.heap.size w (w.alloc (.cells (tml ta).toArray 23)):=(Below.refl _ _).alloc (Nat.le_refl _) _
 have b2:Below w.heap.size w ((w.alloc (.cells (tml ta).toArray 23)).alloc (.cells (tml tb).toArray 23)):=b1.alloc b1.size _
 have b3:Below w.heap.size w (((w.alloc (.cells (tml ta).toArray 23)).alloc (.cells (tml tb).toArray 23)).alloc (.cells (wl (.pointer none) (.pointer none) (.pointer none) (.pointer none)).toArray 68)):=b2.alloc b2.size _
 have k12:Below (w.alloc (.cells (tml ta).toArray 23)).heap.size (w.alloc (.cells (tml ta).toArray 23)) ((w.alloc (.cells (tml ta).toArray 23)).alloc (.cells (tml tb).toArray 23)):=(Below.refl _ _).alloc (Nat.le_refl _) _
 have k23:Below ((w.alloc (.cells (tml ta).toArray 23)).alloc (.cells (tml tb).toArray 23)).heap.size ((w.alloc (.cells (tml ta).toArray 23)).alloc (.cells (tml tb).toArray 23)) (((w.alloc (.cells (tml ta).toArray 23)).alloc (.cells (tml tb).toArray 23)).alloc (.cells (wl (.pointer none) (.pointer none) (.pointer none) (.pointer none)).toArray 68)):=(Below.refl _ _).alloc (Nat.le_refl _) _
 have HA:Hid (At (((w.alloc (.cells (tml ta).toArray 23)).alloc (.cells (tml tb).toArray 23)).alloc (.cells (wl (.pointer none) (.pointer none) (.pointer none) (.pointer none)).toArray 68)) w.heap.size (tml ta)):=At.keep (S:=fun _=>False) (v:=.int .i64 ta.st) (At.keep (S:=fun _=>False) (v:=.int .i64 ta.st) (At.alloc w (tml ta) _) (Keep.below k12) (fun x=>x)) (Keep.below k23) (fun x=>x)
 have HB:Hid (At (((w.alloc (.cells (tml ta).toArray 23)).alloc (.cells (tml tb).toArray 23)).alloc (.cells (wl (.pointer none) (.pointer none) (.pointer none) (.pointer none)).toArray 68)) (w.heap.size+1) (tml tb)):=by
  have h:=At.alloc (w.alloc (.cells (tml ta).toArray 23)) (tml tb) 23
  rw [s1] at h
  exact At.keep (S:=fun _=>False) (v:=.int .i64 tb.st) h (Keep.below k23) (fun x=>x)
 have HW:Hid (At (((w.alloc (.cells (tml ta).toArray 23)).alloc (.cells (tml tb).toArray 23)).alloc (.cells (wl (.pointer none) (.pointer none) (.pointer none) (.pointer none)).toArray 68)) (w.heap.size+2) (wl (.pointer none) (.pointer none) (.pointer none) (.pointer none))):=by
  have h:=At.alloc ((w.alloc (.cells (tml ta).toArray 23)).alloc (.cells (tml tb).toArray 23)) (wl (.pointer none) (.pointer none) (.pointer none) (.pointer none)) 68
  rw [s2] at h
  exact h
 have HBl:Hid (Below w.heap.size w (((w.alloc (.cells (tml ta).toArray 23)).alloc (.cells (tml tb).toArray 23)).alloc (.cells (wl (.pointer none) (.pointer none) (.pointer none) (.pointer none)).toArray 68))∧(((w.alloc (.cells (tml ta).toArray 23)).alloc (.cells (tml tb).toArray 23)).alloc (.cells (wl (.pointer none) (.pointer none) (.pointer none) (.pointer none)).toArray 68)).heap.size = w.heap.size+3):=⟨b3,(Array.size_push _).trans (by rw [s2])⟩
 clear hsr s1 s2 b1 b2 b3 k12 k23 hmv
 unfold tmV
 go_enter Tryz.func9,Tryz.ntmps9
 go_upto_region 2 with fail
 have z1:(w.alloc (.cells (tml ta).toArray 23)).heap.size = w.heap.size+1:=Array.size_push _
 change Code.wp _ _ _ _ (((w.alloc (.cells (tml ta).toArray 23)).alloc (.cells (tml tb).toArray 23)).alloc (.cells (wl (.pointer none) (.pointer none) (.pointer none) (.pointer none)).toArray 68))
 generalize (((w.alloc (.cells (tml ta).toArray 23)).alloc (.cells (tml tb).toArray 23)).alloc (.cells (wl (.pointer none) (.pointer none) (.pointer none) (.pointer none)).toArray 68)) = V0 at *
 refine wp_region_lit ?_
 refine wpList_load_mid rfl 23 (.tmp 4) rfl _ 0 rfl (tml ta) _ HA.out.range Tryz.underlying23 rfl (by kernel_rfl) ?_
 simp only [uP]
 have hO:=opened_any ta V0
 unfold tmV at hO
 go_wp2_with fail
 refine hO.mono ?_
 rintro x w1 hx
 obtain ⟨hb1,a0,c0,rfl,hP0⟩:=op_pair hx
 clear hx hO
 have kb1:Below w1.heap.size w1 (w1.alloc (.cells #[.pointer a0,.pointer c0] 31)):=(Below.refl _ _).alloc (Nat.le_refl _) _
 have k1:Below V0.heap.size V0 (w1.alloc (.cells #[.pointer a0,.pointer c0] 31)):=hb1.alloc hb1.size _
 have HP0:Hid (Pair (w1.alloc (.cells #[.pointer a0,.pointer c0] 31)) (.pointer a0) (.pointer c0) 0 (Wd (fun _=>False) V0 w1)∧At (w1.alloc (.cells #[.pointer a0,.pointer c0] 31)) w1.heap.size [.pointer a0,.pointer c0]∧V0.heap.size≤w1.heap.size∧(w1.alloc (.cells #[.pointer a0,.pointer c0] 31)).heap.size = w1.heap.size+1):=⟨hP0.below kb1,At.alloc w1 [.pointer a0,.pointer c0] _,hb1.size,Array.size_push _⟩
 have HB1:Hid (At (w1.alloc (.cells #[.pointer a0,.pointer c0] 31)) (w.heap.size+1) (tml tb)):=At.keep (S:=fun _=>False) (v:=.int .i64 tb.st) HB.out (Keep.below k1) (fun x=>x)
 have HW1:Hid (At (w1.alloc (.cells #[.pointer a0,.pointer c0] 31)) (w.heap.size+2) (wl (.pointer none) (.pointer none) (.pointer none) (.pointer none))):=At.keep (S:=fun _=>False) (v:=.slice none 0 0) HW.out (Keep.below k1) (fun x=>x)
 have HBl1:Hid (Below w.heap.size w (w1.alloc (.cells #[.pointer a0,.pointer c0] 31))∧V0.heap.size = w.heap.size+3):=⟨HBl.out.1.trans (k1.mono HBl.out.1.size),HBl.out.2⟩
 have HN1:Hid (∀ b,Wd (fun _=>False) V0 w1 b→V0.heap.size≤b∧b < w1.heap.size):=fun b hb=>hb.elim (fun x=>x.elim) (fun x=>x)
 clear hP0 kb1 k1 hb1 HA HB HW HBl
 go_upto_region 3 with (first | (refine wpList_store_new rfl 31 (.tmp 10) (.tmp 29) rfl #[.pointer a0,.pointer c0] _ rfl rfl (by kernel_rfl) rfl (by kernel_rfl) ?_) | fail)
 generalize w1.alloc (.cells #[.pointer a0,.pointer c0] 31) = V1 at *
 generalize w1.heap.size = N10 at *
 refine wp_region_lit ?_
 refine wpList_load_mid rfl 23 (.tmp 5) rfl _ 0 rfl (tml tb) _ HB1.out.range Tryz.underlying23 rfl (by kernel_rfl) ?_
 simp only [uP]
 have hO:=opened_any tb V1
 unfold tmV at hO
 go_wp2_with fail
 refine hO.mono ?_
 rintro x w2 hx
 obtain ⟨hb2,a1,c1,rfl,hP1⟩:=op_pair hx
 clear hx hO
 have kb2:Below w2.heap.size w2 (w2.alloc (.cells #[.pointer a1,.pointer c1] 31)):=(Below.refl _ _).alloc (Nat.le_refl _) _
 have k2:Below V1.heap.size V1 (w2.alloc (.cells #[.pointer a1,.pointer c1] 31)):=hb2.alloc hb2.size _
 have HP1:Hid (Pair (w2.alloc (.cells #[.pointer a1,.pointer c1] 31)) (.pointer a1) (.pointer c1) 0 (Wd (fun _=>False) V1 w2)∧At (w2.alloc (.cells #[.pointer a1,.pointer c1] 31)) w2.heap.size [.pointer a1,.pointer c1]∧V1.heap.size≤w2.heap.size∧(w2.alloc (.cells #[.pointer a1,.pointer c1] 31)).heap.size = w2.heap.size+1):=⟨hP1.below kb2,At.alloc w2 [.pointer a1,.pointer c1] _,hb2.size,Array.size_push _⟩
 have HP02:Hid (Pair (w2.alloc (.cells #[.pointer a1,.pointer c1] 31)) (.pointer a0) (.pointer c0) 0 (Wd (fun _=>False) V0 w1)∧At (w2.alloc (.cells #[.pointer a1,.pointer c1] 31)) N10 [.pointer a0,.pointer c0]∧V0.heap.size≤N10∧V1.heap.size = N10+1):=⟨HP0.out.1.below k2,At.keep (S:=fun _=>False) (v:=.pointer a0) HP0.out.2.1 (Keep.below k2) (fun x=>x),HP0.out.2.2.1,HP0.out.2.2.2⟩
 have HW2:Hid (At (w2.alloc (.cells #[.pointer a1,.pointer c1] 31)) (w.heap.size+2) (wl (.pointer none) (.pointer none) (.pointer none) (.pointer none))):=At.keep (S:=fun _=>False) (v:=.slice none 0 0) HW1.out (Keep.below k2) (fun x=>x)
 have HBl2:Hid (Below w.heap.size w (w2.alloc (.cells #[.pointer a1,.pointer c1] 31))∧V0.heap.size = w.heap.size+3):=⟨HBl1.out.1.trans (k2.mono HBl1.out.1.size),HBl1.out.2⟩
 have HN2:Hid (∀ b,Wd (fun _=>False) V1 w2 b→V1.heap.size≤b∧b < w2.heap.size):=fun b hb=>hb.elim (fun x=>x.elim) (fun x=>x)
 generalize hGa:Wd (fun _=>False) V0 w1 = Ga at *
 generalize hGb:Wd (fun _=>False) V1 w2 = Gb at *
 clear hP1 kb2 k2 hb2 HB1 HW1 HBl1 HP0 hGa hGb
 go_upto_region 6 with (first | (refine wpList_store_new rfl 31 (.tmp 12) (.tmp 34) rfl #[.pointer a1,.pointer c1] _ rfl rfl (by kernel_rfl) rfl (by kernel_rfl) ?_) | fail)
 generalize w2.alloc (.cells #[.pointer a1,.pointer c1] 31) = V2 at *
 generalize w2.heap.size = N12 at *
 refine wp_region_held_drew (S:=fun wx=>At wx N10 [.pointer a0,.pointer c0]) (by kernel_rfl) HP02.out.2.1.drew (fun hHeld=>?_)
 refine tkk 0 (.pointer (some ⟨w.heap.size+2,0,none⟩)) rfl ?_
 simp only [uP]
 refine wpAnyH_take (i:=1) (v:=(.agg #[.pointer a0,.pointer c0])) rfl (by kernel_rfl) (by kernel_rfl) (by kernel_rfl) (fun _ _ _ h=>h) (yieldsIf_load_mid (by rfl) 31 (.tmp 10) rfl _ _ rfl _ _ (fun _ h=>h.range) Tryz.underlying31 rfl (by kernel_rfl)) (by assumption) ?_
 simp only [uP]
 refine tkk 2 (.pointer (some ⟨w.heap.size+2,0,none⟩)) rfl ?_
 simp only [uP]
 refine tkk 3 (.pointer (some ⟨w.heap.size+2,6,none⟩)) rfl ?_
 simp only [uP]
 refine tkk 4 (.pointer (some ⟨w.heap.size+2,6,none⟩)) rfl ?_
 simp only [uP]
 refine rdy 5 rfl (fun K hK=>?_)
 rw [if_pos (by rfl)]
 have hw2:=HW2.out.drew
 have hs6:=hw2.there_mid 6 2 (show 6+2≤10 by decide)
 have hn10:V0.heap.size = w.heap.size+3∧V0.heap.size≤N10∧V1.heap.size = N10+1:=⟨HBl2.out.2,HP02.out.2.2.1,HP02.out.2.2.2⟩
 have kS1:Keep (fun b=>b = w.heap.size+2) V2 (V2.drew.setCells (w.heap.size+2) 6 [.pointer a0,.pointer c0]):=Keep.setCells (S:=fun b=>b = w.heap.size+2) rfl _ _ _ (Keep.refl _ _).drew
 refine wp_store_mid 31 (.tmp 46) (.tmp 43) rfl _ 6 #[.pointer a0,.pointer c0] rfl rfl hs6 (by kernel_rfl) (by kernel_rfl) ?_
 refine hK.out _ _ (At.keep (v:=.pointer a0) HP02.out.2.1 kS1 (by omega)) (fun _=>?_)
 clear hK K hHeld
 refine wpAnyH_done (by kernel_rfl) ?_ _
 have hA3:At (V2.drew.setCells (w.heap.size+2) 6 [.pointer a0,.pointer c0]) (w.heap.size+2) (wl (.pointer a0) (.pointer c0) (.pointer none) (.pointer none)):=At.setCells [.pointer a0,.pointer c0] 6 _ _ hw2 (show 6+2≤10 by decide)
 have HS3:Hid (At (V2.drew.setCells (w.heap.size+2) 6 [.pointer a0,.pointer c0]) (w.heap.size+2) (wl (.pointer a0) (.pointer c0) (.pointer none) (.pointer none))∧Keep (fun b=>b = w.heap.size+2) V2 (V2.drew.setCells (w.heap.size+2) 6 [.pointer a0,.pointer c0])):=⟨hA3,kS1⟩
 clear hA3 kS1 hw2 hs6
 change Exit.then _ _ _ _ (V2.drew.setCells (w.heap.size+2) 6 [.pointer a0,.pointer c0])
 generalize V2.drew.setCells (w.heap.size+2) 6 [.pointer a0,.pointer c0] = V3 at *
 go_upto_region 7 with fail
 have hN12:V1.heap.size≤N12∧V2.heap.size = N12+1:=⟨HP1.out.2.2.1,HP1.out.2.2.2⟩
 have hq3:At V3 N12 [.pointer a1,.pointer c1]:=At.keep (v:=.pointer a1) HP1.out.2.1 HS3.out.2 (by omega)
 refine wp_region_held_drew (S:=fun wx=>At wx N12 [.pointer a1,.pointer c1]) (by kernel_rfl) hq3.drew (fun hHeld=>?_)
 refine tkk 0 (.pointer (some ⟨w.heap.size+2,0,none⟩)) rfl ?_
 simp only [uP]
 refine wpAnyH_take (i:=1) (v:=(.agg #[.pointer a1,.pointer c1])) rfl (by kernel_rfl) (by kernel_rfl) (by kernel_rfl) (fun _ _ _ h=>h) (yieldsIf_load_mid (by rfl) 31 (.tmp 12) rfl _ _ rfl _ _ (fun _ h=>h.range) Tryz.underlying31 rfl (by kernel_rfl)) (by assumption) ?_
 simp only [uP]
 refine tkk 2 (.pointer (some ⟨w.heap.size+2,0,none⟩)) rfl ?_
 simp only [uP]
 refine tkk 3 (.pointer (some ⟨w.heap.size+2,6,none⟩)) rfl ?_
 simp only [uP]
 refine tkk 4 (.pointer (some ⟨w.heap.size+2,8,none⟩)) rfl ?_
 simp only [uP]
 refine rdy 5 rfl (fun K hK=>?_)
 rw [if_pos (by rfl)]
 have hw3:=HS3.out.1.drew
 have hs8:=hw3.there_mid 8 2 (show 8+2≤10 by decide)
 have kS2:Keep (fun b=>b = w.heap.size+2) V3 (V3.drew.setCells (w.heap.size+2) 8 [.pointer a1,.pointer c1]):=Keep.setCells (S:=fun b=>b = w.heap.size+2) rfl _ _ _ (Keep.refl _ _).drew
 refine wp_store_mid 31 (.tmp 51) (.tmp 48) rfl _ 8 #[.pointer a1,.pointer c1] rfl rfl hs8 (by kernel_rfl) (by kernel_rfl) ?_
 refine hK.out _ _ (At.keep (v:=.pointer a1) hq3 kS2 (by omega)) (fun _=>?_)
 clear hK K hHeld
 refine wpAnyH_done (by kernel_rfl) ?_ _
 have hA4:At (V3.drew.setCells (w.heap.size+2) 8 [.pointer a1,.pointer c1]) (w.heap.size+2) (wl (.pointer a0) (.pointer c0) (.pointer a1) (.pointer c1)):=At.setCells [.pointer a1,.pointer c1] 8 _ _ hw3 (show 8+2≤10 by decide)
 have HS4:Hid (WlG w (V3.drew.setCells (w.heap.size+2) 8 [.pointer a1,.pointer c1]) (w.heap.size+2) n0 (fun k=>if k = 0 then .pointer a0 else .pointer a1) (fun k=>if k = 0 then .pointer c0 else .pointer c1) (fun k=>if k = 0 then Ga else Gb) nilB 0 (fun _=>False)):=by
  have kk:Keep (fun b=>b = w.heap.size+2) V2 (V3.drew.setCells (w.heap.size+2) 8 [.pointer a1,.pointer c1]):=HS3.out.2.trans kS2
  have hz:=HBl2.out.1.size
  have hzk:=kk.size
  refine ⟨hA4,Keep.fresh HBl2.out.1 kk (fun b hb=>by omega),fun k hk=>?_,fun b hb hb2=>?_,fun k hk=>?_,fun k b hk=>?_,fun k b hk=>?_,by omega,Bok.nil _,fun x=>x,fun _ _ _ _ x=>x,fun _ x=>x.elim,fun _ x=>x.elim⟩
  ·rcases (show k = 0∨k = 1 by omega) with rfl | rfl
   ·exact (HP02.out.1.keep kk (fun b hb=>by have:=HN1.out b hb; omega)).le (Nat.zero_le _)
   ·exact (HP1.out.1.keep kk (fun b hb=>by have:=HN2.out b hb; omega)).le (Nat.zero_le _)
  ·have h1:=HN1.out b hb
   have h2:=HN2.out b hb2
   omega
  ·rcases (show k = 0∨k = 1 by omega) with rfl | rfl
   ·exact fun x=>by have:=HN1.out _ x; omega
   ·exact fun x=>by have:=HN2.out _ x; omega
  ·rcases (show k = 0∨k = 1 by omega) with rfl | rfl
   ·exact fun x=>by have:=HN1.out _ x; omega
   ·exact fun x=>by have:=HN2.out _ x; omega
  ·rcases (show k = 0∨k = 1 by omega) with rfl | rfl
   ·exact fun x=>by have:=HN1.out _ x; omega
   ·exact fun x=>by have:=HN2.out _ x; omega
 clear hA4 kS2 hw3 hs8 hq3 HS3 HP1 HP02 HW2 HBl2 HN1 HN2 hN12 hn10
 change Exit.then _ _ _ _ (V3.drew.setCells (w.heap.size+2) 8 [.pointer a1,.pointer c1])
 generalize V3.drew.setCells (w.heap.size+2) 8 [.pointer a1,.pointer c1] = V4 at *
 generalize hpv:(fun k:Nat=>if k = 0 then Value.pointer a0 else Value.pointer a1) = pv at *
 generalize hdv:(fun k:Nat=>if k = 0 then Value.pointer c0 else Value.pointer c1) = dv at *
 clear hpv hdv
 obtain ⟨W,hW⟩:∃ W,W = w.heap.size+2:=⟨_,rfl⟩
 rw [← hW] at HS4
 have HWe:=hid hW
 rw [show w.heap.size+1+1 = W from hW.symm]
 clear hW
 go_wp2
 go_loopw [14,15,16,17] (fun s14 _ _ _ wr=>PlG w W sc.length n0 s14 wr) (fun s14 _ _ _ _=>(sc.length - intOf s14).toNat)
 case atStart=>exact ⟨0,n0,_,_,_,_,0,_,Nat.zero_le _,Nat.le_refl _,Nat.le_refl _,Nat.le_refl _,rfl,HS4.out⟩
 case round =>
  obtain ⟨k,n,pv,dv,G,Bk,c,Q,hk,hn0,hnk,hck,rfl,hS⟩:=hrel
  have HS:=hid hS
  clear hS HS4
  by_cases hlt:k < sc.length
  ·obtain ⟨b,o,rfl,hbl,hx⟩:=HSR.out k hlt
   have hrw:wr.rangeAt b (o+k*8) (spl sc[k]):=fun j u hu=>(World.cell?_of_block (w:=w) (a:=⟨b,o+k*8+j,none⟩) (HS.out.bl.block b hbl)).trans (hx j u hu)
   clear hx
   have HSk:Hid (sc[k].kind≤most→Calls Tryz.prog 25 #[.pointer (some ⟨W,0,none⟩),.agg (spl sc[k]).toArray] wr (StepTo w W n c)):=fun hm=>HSt.out wr W n pv dv G Bk c Q sc[k] (List.getElem_mem hlt) hm HS.out hn0 (by omega) (by omega)
   generalize sc[k] = sp at *
   obtain ⟨kind,on,e,m,sv⟩:=sp
   have q0:wr.cell? ⟨b,o+k*8,none⟩ = some (.int .i64 kind):=hrw 0 _ rfl
   have zk:(k:Int) < (sc.length:Int):=by omega
   by_cases hk4:most < kind
   ·have HE:Hid (PlG w W sc.length n0 (.int .i64 ((k+1:Nat):Int)) wr):=⟨k+1,n,pv,dv,G,Bk,c,Q,hlt,hn0,by omega,by omega,rfl,HS.out⟩
    clear hrw HSk
    go_wp2
    exact ⟨HE.out,by simp [intOf]; omega⟩
   ·have hSt:Calls Tryz.prog 25 #[.pointer (some ⟨W,0,none⟩),.agg (opl kind on e m sv).toArray] wr (StepTo w W n c):=HSk.out (by show kind≤most; omega)
    have hrw2:wr.rangeAt b (o+k*8) (opl kind on e m sv):=hrw
    clear HSk
    go_upto_region 12 with fail
    refine wp_region_lit ?_
    refine wpList_val (.pointer (some ⟨W,0,none⟩)) wr rfl rfl ?_
    simp only [uP]
    refine wpList_val (.slice (some ⟨b,o,none⟩) sc.length scap) wr rfl rfl ?_
    simp only [uP]
    refine wpList_val (.int .i64 k) wr rfl rfl ?_
    simp only [uP]
    refine wpList_val (.pointer (some ⟨b,o+k*8,none⟩)) wr rfl (by go_simp) ?_
    simp only [uP]
    refine wpList_load_mid rfl 60 (.tmp 68) rfl b (o+k*8) rfl (opl kind on e m sv) _ hrw2 Tryz.underlying60 rfl (by kernel_rfl) ?_
    simp only [uP]
    clear q0 hrw hrw2
    go_wp2_with fail
    refine hSt.mono ?_
    rintro x w2 ⟨rfl,pv2,dv2,G2,B2,c2,Q2,hc2,hS2⟩
    clear hSt HS
    have HS2:=hid hS2
    clear hS2
    have HE:Hid (∀ wy B Q,WlG w wy W (n+1) pv2 dv2 G2 B c2 Q→PlG w W sc.length n0 (.int .i64 ((k+1:Nat):Int)) wy):=fun wy B Q hy=>⟨k+1,n+1,pv2,dv2,G2,B,c2,Q,hlt,by omega,by omega,by omega,rfl,hy⟩
    by_cases h3:k % 3 = 2
    ·have z3:((k:Int) % 3 == 2) = true:=by simp; omega
     have hSe:=settle_any w2 W B2 _ _ _ _ c2 Q2 HS2.out.wa HS2.out.bk (by omega) HS2.out.ql HS2.out.qw
     go_wp2_with fail
     refine hSe.mono ?_
     rintro x w3 ⟨rfl,B3,hA3,hB3,hk3⟩
     clear hSe
     have HS3:Hid (WlG w w3 W (n+1) pv2 dv2 G2 B3 c2 (Wd Q2 w2 w3)):=HS2.out.home hA3 hk3 hB3 (fun b hb=>hb)
     have hLo:=looks_any w3 W B3 _ _ _ _ c2 _ hA3 hB3 (by omega)
     clear hA3 hk3 hB3 HS2
     go_wp2_with fail
     refine hLo.mono ?_
     rintro x w4 ⟨rfl,hw4⟩
     obtain rfl:=hw4.symm
     clear hLo hw4
     have HE3:Hid (PlG w W sc.length n0 (.int .i64 ((k+1:Nat):Int)) w3):=HE.out w3 _ _ HS3.out
     clear HE HS3
     go_wp2
     exact ⟨HE3.out,by simp [intOf]; omega⟩
    ·have z3:((k:Int) % 3 == 2) = false:=by simp; omega
     have hLo:=looks_any w2 W B2 _ _ _ _ c2 Q2 HS2.out.wa HS2.out.bk (by omega)
     go_wp2_with fail
     refine hLo.mono ?_
     rintro x w4 ⟨rfl,hw4⟩
     obtain rfl:=hw4.symm
     clear hLo hw4
     have HE3:Hid (PlG w W sc.length n0 (.int .i64 ((k+1:Nat):Int)) w2):=HE.out w2 _ _ HS2.out
     clear HE HS2
     go_wp2
     exact ⟨HE3.out,by simp [intOf]; omega⟩
  ·obtain rfl:k = sc.length:=by omega
   have zk:¬ (sc.length:Int) < (sc.length:Int):=by omega
   go_wp2
   go_loopw [18,19,20,21] (fun s18 _ _ _ wr=>PlH w W s18 wr) (fun s18 _ _ _ _=>(2 - intOf s18).toNat)
   case atStart=>exact ⟨0,n,pv,dv,G,Bk,c,Q,Nat.zero_le _,by omega,by omega,rfl,HS.out⟩
   case round =>
    rename_i wr0 _ _ _ _ _ _ _ _
    obtain ⟨j,n2,pv2,dv2,G2,B2,c2,Q2,hj,hn2,hc2,rfl,hS2⟩:=hrel
    have HS2:=hid hS2
    clear hS2 HS
    by_cases hj2:j < 2
    ·have zj:(j:Int) < 2:=by omega
     have hrow:wr.rangeAt W (6+j*2) [pv2 j,dv2 j]:=HS2.out.wa.mid (6+j*2) _ (wlb_at B2 pv2 dv2 j hj2)
     have HE:Hid (∀ wy B c Q,c≤c2+4→WlG w wy W n2 pv2 dv2 G2 B c Q→PlH w W (.int .i64 ((j+1:Nat):Int)) wy):=fun wy B c Q hc hy=>⟨j+1,n2,pv2,dv2,G2,B,c,Q,hj2,hn2,by omega,rfl,hy⟩
     rcases HS2.out.pr j hj2 with ⟨hp,hd⟩ | ⟨Bl,D,t,E,l,g,day,L,F1,F2,hp,hd,hT,hG1,hG2,hLl⟩
     ·rw [hp,hd] at hrow
      have q0:wr.cell? ⟨W,6+j*2,none⟩ = some (.pointer none):=hrow 0 _ rfl
      have HE3:Hid (PlH w W (.int .i64 ((j+1:Nat):Int)) wr):=HE.out wr _ _ _ (by omega) HS2.out
      clear hrow HE HS2
      go_wp2
      exact ⟨HE3.out,by simp [intOf]; omega⟩
     ·rw [hp,hd] at hrow
      have q0:wr.cell? ⟨W,6+j*2,none⟩ = some (.pointer (some ⟨Bl,0,none⟩)):=hrow 0 _ rfl
      have hL4:L.length≤4000000000000:=by omega
      have hBa:=lawbal_any wr Bl D t E l g day L F1 F2 hT
      have HT:=hid hT
      have HGq:Hid (∀ b,F1 b∨F2 b→b < wr.heap.size∧¬ b = W∧¬ Q2 b):=fun b hb=>by
       have hg:G2 j b:=hb.elim (hG1 b) (hG2 b)
       exact ⟨HS2.out.lt j b hj2 hg,fun e=>HS2.out.nw j hj2 (e ▸ hg),HS2.out.qg j b hj2 hg⟩
      have HPD:Hid (pv2 j = .pointer (some ⟨Bl,0,none⟩)∧dv2 j = .pointer (some ⟨D,0,none⟩)):=⟨hp,hd⟩
      clear hT hp hd hG1 hG2 hLl
      go_upto_region 23 with fail
      refine wp_region_lit ?_
      refine wpList_val (.pointer (some ⟨W,0,none⟩)) wr rfl rfl ?_
      simp only [uP]
      refine wpList_val (.int .i64 j) wr rfl rfl ?_
      simp only [uP]
      refine wpList_val (.pointer (some ⟨W,0,none⟩)) wr rfl rfl ?_
      simp only [uP]
      refine wpList_val (.pointer (some ⟨W,6,none⟩)) wr rfl (by go_simp) ?_
      simp only [uP]
      refine wpList_val (.pointer (some ⟨W,6+j*2,none⟩)) wr rfl (by go_simp) ?_
      simp only [uP]
      refine wpList_load_mid rfl 31 (.tmp 108) rfl W (6+j*2) rfl [.pointer (some ⟨Bl,0,none⟩),.pointer (some ⟨D,0,none⟩)] _ hrow Tryz.underlying31 rfl (by kernel_rfl) ?_
      simp only [uP]
      clear q0 hrow
      go_wp2_with fail
      refine hBa.mono ?_
      rintro x w3 ⟨rfl,hb3⟩
      have HS3:Hid (WlG w w3 W n2 pv2 dv2 G2 B2 c2 Q2):=HS2.out.below hb3
      have hA3:=booked_any w3 W B2 (pv2 0) (dv2 0) (pv2 1) (dv2 1) c2 Q2 HS3.out.wa HS3.out.bk (by omega) HS3.out.ql HS3.out.qw Bl D t E l g day L F1 F2 (HT.out.below hb3) hL4 0
      have hrow:w3.rangeAt W (6+j*2) [.pointer (some ⟨Bl,0,none⟩),.pointer (some ⟨D,0,none⟩)]:=by
       have:=HS3.out.wa.mid (6+j*2) _ (wlb_at B2 pv2 dv2 j hj2)
       rwa [HPD.out.1,HPD.out.2] at this
      have HT3:Hid (TwX w3 Bl D t E l g day L F1 F2):=HT.out.below hb3
      have HGq3:Hid (∀ b,F1 b∨F2 b→b < w3.heap.size∧¬ b = W∧¬ Q2 b):=fun b hb=>⟨Nat.lt_of_lt_of_le (HGq.out b hb).1 hb3.size,(HGq.out b hb).2⟩
      clear hBa hb3 HS2 HT HGq
      go_upto_region 25 with fail
      refine wp_region_lit ?_
      refine wpList_val (.pointer (some ⟨W,0,none⟩)) w3 rfl rfl ?_
      simp only [uP]
      refine wpList_val (.pointer (some ⟨W,0,none⟩)) w3 rfl rfl ?_
      simp only [uP]
      refine wpList_val (.int .i64 j) w3 rfl rfl ?_
      simp only [uP]
      refine wpList_val (.pointer (some ⟨W,0,none⟩)) w3 rfl (by go_simp) ?_
      simp only [uP]
      refine wpList_val (.pointer (some ⟨W,6,none⟩)) w3 rfl (by go_simp) ?_
      simp only [uP]
      refine wpList_val (.pointer (some ⟨W,6+j*2,none⟩)) w3 rfl (by go_simp) ?_
      simp only [uP]
      refine wpList_load_mid rfl 31 (.tmp 121) rfl W (6+j*2) rfl [.pointer (some ⟨Bl,0,none⟩),.pointer (some ⟨D,0,none⟩)] _ hrow Tryz.underlying31 rfl (by kernel_rfl) ?_
      simp only [uP]
      clear hrow
      go_wp2_with fail
      refine hA3.mono ?_
      rintro x w4 ⟨rfl,B4,hA4,hB4,hk4⟩
      have HS4:Hid (WlG w w4 W n2 pv2 dv2 G2 B4 (c2+2) (Wd Q2 w3 w4)):=HS3.out.home hA4 hk4 hB4 (fun b hb=>hb)
      have HT4:Hid (TwX w4 Bl D t E l g day L F1 F2):=HT3.out.keep hk4 (fun b hb hx=>by have:=HGq3.out b (.inl hb); rcases hx with hx | hx; exact this.2.1 hx; exact this.2.2 hx) (fun b hb hx=>by have:=HGq3.out b (.inr hb); rcases hx with hx | hx; exact this.2.1 hx; exact this.2.2 hx)
      have hA5:=accounts_any w4 W B4 (pv2 0) (dv2 0) (pv2 1) (dv2 1) (c2+2) (Wd Q2 w3 w4) HS4.out.wa HS4.out.bk (by omega) HS4.out.ql HS4.out.qw Bl D t E l g day L F1 F2 HT4.out hL4 (HMv.out.below HS4.out.bl)
      have hrow:w4.rangeAt W (6+j*2) [.pointer (some ⟨Bl,0,none⟩),.pointer (some ⟨D,0,none⟩)]:=by
       have:=HS4.out.wa.mid (6+j*2) _ (wlb_at B4 pv2 dv2 j hj2)
       rwa [HPD.out.1,HPD.out.2] at this
      clear hA3 hA4 hB4 hk4 HS3 HT3 HT4 HGq3 HPD
      go_upto_region 26 with fail
      refine wp_region_lit ?_
      refine wpList_val (.pointer (some ⟨W,0,none⟩)) w4 rfl rfl ?_
      simp only [uP]
      refine wpList_val (.pointer (some ⟨W,0,none⟩)) w4 rfl rfl ?_
      simp only [uP]
      refine wpList_val (.int .i64 j) w4 rfl rfl ?_
      simp only [uP]
      refine wpList_val (.pointer (some ⟨W,0,none⟩)) w4 rfl (by go_simp) ?_
      simp only [uP]
      refine wpList_val (.pointer (some ⟨W,6,none⟩)) w4 rfl (by go_simp) ?_
      simp only [uP]
      refine wpList_val (.pointer (some ⟨W,6+j*2,none⟩)) w4 rfl (by go_simp) ?_
      simp only [uP]
      refine wpList_load_mid rfl 31 (.tmp 129) rfl W (6+j*2) rfl [.pointer (some ⟨Bl,0,none⟩),.pointer (some ⟨D,0,none⟩)] _ hrow Tryz.underlying31 rfl (by kernel_rfl) ?_
      simp only [uP]
      clear hrow
      go_wp2_with fail
      refine hA5.mono ?_
      rintro x w5 ⟨rfl,B5,hA5',hB5,hk5⟩
      have HE3:Hid (PlH w W (.int .i64 ((j+1:Nat):Int)) w5):=HE.out w5 B5 (c2+2+2) _ (by omega) (HS4.out.home hA5' hk5 hB5 (fun b hb=>hb))
      clear hA5 hA5' hB5 hk5 HS4 HE
      go_wp2
      exact ⟨HE3.out,by simp [intOf]; omega⟩
    ·obtain rfl:j = 2:=by omega
     have zj:¬ ((2:Nat):Int) < 2:=by omega
     have hSe:=settle_any wr W B2 _ _ _ _ c2 Q2 HS2.out.wa HS2.out.bk (by omega) HS2.out.ql HS2.out.qw
     go_wp2_with fail
     refine hSe.mono ?_
     rintro x w3 ⟨rfl,B3,hA3,hB3,hk3⟩
     clear hSe
     have HB3:Hid (Below w.heap.size w w3):=(HS2.out.home hA3 hk3 hB3 (fun b hb=>hb)).bl
     have hLo:=looks_any w3 W B3 _ _ _ _ c2 _ hA3 hB3 (by omega)
     clear hA3 hk3 hB3 HS2
     go_wp2_with fail
     refine hLo.mono ?_
     rintro x w4 ⟨rfl,hw4⟩
     obtain rfl:=hw4.symm
     clear hLo hw4
     go_wp2
     go_ret
     exact ⟨rfl,HB3.out⟩
theorem WlG.swap {w0 w w':World} {W n c:Nat} {pv dv:Nat→Value} {G:Nat→Nat→Prop} {Bk:Bv} {Q:Nat→Prop} (h:WlG w0 w W n pv dv G Bk c Q) {k:Nat} (hk2:k < 2) (hn:1≤n) {L0:List En} (hL0:L0.length≤88800*n) {x:Ending} (hx:TsPost w W Bk pv dv k L0 x w'):StepTo w0 W n c x w':=by
 have hs:=h.bl.size
 have hW:W < w.heap.size:=At.lt (v:=Bk.l1) h.wa
 obtain ⟨rfl,hb | ⟨B,D,t,E,l,g,day,L,F1,F2,hT,h1,h2,hL,hk,hA⟩⟩:=hx
 ·exact ⟨rfl,pv,dv,G,Bk,c,Q,Nat.le_add_right _ _,(h.below hb).more⟩
 ·refine ⟨rfl,fun i=>if i = k then .pointer (some ⟨B,0,none⟩) else pv i,fun i=>if i = k then .pointer (some ⟨D,0,none⟩) else dv i,fun i=>if i = k then (fun b=>F1 b∨F2 b) else G i,Bk,c,Q,Nat.le_add_right _ _,?_⟩
  have hnew:∀ b,F1 b∨F2 b→w.heap.size≤b∧b < w'.heap.size:=fun b hb=>hb.elim (fun x=>⟨h1 b x,hT.l1 b x⟩) (fun x=>⟨h2 b x,hT.l2 b x⟩)
  refine ⟨hA,Keep.fresh h.bl hk (fun b hb=>by rw [hb]; exact h.wg),fun i hi=>?_,?_,fun i hi=>?_,fun i b hi=>?_,fun i b hi=>?_,h.wg,h.bk.keep hk (fun b hb hx=>h.qw (by rw [← hx]; exact hb)),h.qw,fun i b hi=>?_,h.qe,fun b hq=>Nat.lt_of_lt_of_le (h.ql b hq) hk.size⟩
  ·by_cases hik:i = k
   ·simp only [if_pos hik]
    exact .inr ⟨B,D,t,E,l,g,day,L,F1,F2,rfl,rfl,hT,fun b hb=>.inl hb,fun b hb=>.inr hb,by omega⟩
   ·simp only [if_neg hik]
    exact ((h.pr i hi).keep hk (fun b hb hx=>h.nw i hi (by rw [← hx]; exact hb))).more
  ·intro b
   by_cases h0:(0:Nat) = k
   ·have h3:¬ (1:Nat) = k:=by omega
    simp only [if_pos h0,if_neg h3]
    exact fun x y=>by have:=hnew b x; have:=h.lt 1 b (by omega) y; omega
   ·by_cases h3:(1:Nat) = k
    ·simp only [if_neg h0,if_pos h3]
     exact fun x y=>by have:=hnew b y; have:=h.lt 0 b (by omega) x; omega
    ·omega
  ·by_cases hik:i = k
   ·simp only [if_pos hik]
    exact fun x=>by have:=hnew W x; omega
   ·simp only [if_neg hik]
    exact h.nw i hi
  ·by_cases hik:i = k
   ·simp only [if_pos hik]
    exact fun x=>by have:=hnew b x; omega
   ·simp only [if_neg hik]
    exact h.ge i b hi
  ·by_cases hik:i = k
   ·simp only [if_pos hik]
    exact fun x=>(hnew b x).2
   ·simp only [if_neg hik]
    exact fun x=>Nat.lt_of_lt_of_le (h.lt i b hi x) hk.size
  ·by_cases hik:i = k
   ·simp only [if_pos hik]
    exact fun x y=>by have:=hnew b x; have:=h.ql b y; omega
   ·simp only [if_neg hik]
    exact h.qg i b hi
set_option maxRecDepth 10000 in
set_option maxHeartbeats 8000000 in
theorem step_text (w0 w:World) (W n:Nat) (pv dv:Nat→Value) (G:Nat→Nat→Prop) (Bk:Bv) (cn:Nat) (Q:Nat→Prop) (h:WlG w0 w W n pv dv G Bk cn Q) (hgl0:Gl w0) (hlim:Lim w0) (hn1:1≤n) (hn:n≤110000) (kind on:Int) (e:Ln.Ev) (m:Int) (st:List UInt8) (hst:st.length≤1048576) (hk78:kind = 7∨kind = 8) :
  Calls Tryz.prog 25 #[.pointer (some ⟨W,0,none⟩),.agg #[.int .i64 kind,.int .i64 on,.int .i64 e.d,.int .i64 e.k,.int .i64 e.s,.int .i64 e.a,.int .i64 m,.string (bs st)]] w (StepTo w0 W n cn):=by
 obtain ⟨sv,hsv⟩:∃ sv,sv = Value.string (bs st):=⟨_,rfl⟩
 have HSv:=hid hsv
 rw [← hsv]
 clear hsv
 have HGl:=hid hgl0
 have HLim:=hid hlim
 have HO:Hid (At (w.alloc (.cells #[.int .i64 kind,.int .i64 on,.int .i64 e.d,.int .i64 e.k,.int .i64 e.s,.int .i64 e.a,.int .i64 m,sv] 60)) w.heap.size (opl kind on e m sv)):=At.alloc w (opl kind on e m sv) _
 have HS:Hid (WlG w0 (w.alloc (.cells #[.int .i64 kind,.int .i64 on,.int .i64 e.d,.int .i64 e.k,.int .i64 e.s,.int .i64 e.a,.int .i64 m,sv] 60)) W n pv dv G Bk cn Q):=h.below ((Below.refl _ _).alloc (Nat.le_refl _) _)
 have HGN:Hid (∀ k,k < 2→∀ b,G k b→b < w.heap.size):=fun k hk b hb=>h.lt k b hk hb
 clear h hgl0 hlim
 go_enter Tryz.func25,Tryz.ntmps25
 go_upto_region 2 with fail
 change Code.wp _ _ _ _ (w.alloc (.cells #[.int .i64 kind,.int .i64 on,.int .i64 e.d,.int .i64 e.k,.int .i64 e.s,.int .i64 e.a,.int .i64 m,sv] 60))
 generalize w.alloc (.cells #[.int .i64 kind,.int .i64 on,.int .i64 e.d,.int .i64 e.k,.int .i64 e.s,.int .i64 e.a,.int .i64 m,sv] 60) = V0 at *
 generalize w.heap.size = N0 at *
 have q1:V0.cell? ⟨N0,1,none⟩ = some (.int .i64 on):=HO.out.cell 1 rfl
 have htm:=two_mod on
 go_upto_if 16 with fail
 go_cut [5] from 13 to 16 (fun s5 wx=>∃ k:Nat,k < 2∧s5 = .int .i64 k∧wx = V0)
 case first =>
  by_cases hon:on.tmod 2 = 0
  ·have hb:(on.tmod 2 != 0) = false:=by simp [hon]
   go_wp2_with fail
   go_meet
   case rel=>exact ⟨0,by omega,rfl,rfl⟩
  ·have hb:(on.tmod 2 != 0) = true:=by simp [hon]
   go_wp2_with fail
   go_meet
   case rel=>exact ⟨1,by omega,rfl,rfl⟩
 case rest =>
  obtain ⟨k,hk2,rfl,hwc⟩:=hcut
  obtain rfl:=hwc.symm
  clear hwc q1 htm
  have hpr:=HS.out.pr k hk2
  have hrow:V0.rangeAt W (6+k*2) [pv k,dv k]:=HS.out.wa.mid (6+k*2) _ (wlb_at Bk pv dv k hk2)
  have zk:(k:Int) < 2:=by omega
  have hN0:N0 < V0.heap.size:=At.lt (v:=.int .i64 kind) HO.out
  have hGN:=HGN.out k hk2
  go_upto_region 4 with fail
  refine wp_region_lit ?_
  refine wpList_val (.pointer (some ⟨W,0,none⟩)) V0 rfl rfl ?_
  simp only [uP]
  refine wpList_val (.int .i64 k) V0 rfl rfl ?_
  simp only [uP]
  refine wpList_val (.pointer (some ⟨W,0,none⟩)) V0 rfl rfl ?_
  simp only [uP]
  refine wpList_val (.pointer (some ⟨W,6,none⟩)) V0 rfl (by go_simp) ?_
  simp only [uP]
  refine wpList_val (.pointer (some ⟨W,6+k*2,none⟩)) V0 rfl (by go_simp) ?_
  simp only [uP]
  rcases hpr with ⟨hp,hd⟩ | ⟨B,D,t,E,l,g,day,L,F1,F2,hp,hd,hT,hG1,hG2,hLl⟩
  ·rw [hp,hd] at hrow
   refine wpList_load_mid rfl 31 (.tmp 21) rfl W (6+k*2) rfl [.pointer none,.pointer none] _ hrow Tryz.underlying31 rfl (by kernel_rfl) ?_
   simp only [uP]
   have b1:Below V0.heap.size V0 (V0.alloc (.cells #[.pointer none,.pointer none] 31)):=(Below.refl _ _).alloc (Nat.le_refl _) _
   have HE:Hid (StepTo w0 W n cn (.returned (.bool true)) (V0.alloc (.cells #[.pointer none,.pointer none] 31))):=⟨rfl,pv,dv,G,_,_,_,Nat.le_add_right _ _,(HS.out.below b1).more⟩
   clear hrow b1 HS HO hGN HGN
   go_wp2_with (first | (refine wpList_store_new rfl 31 (.tmp 6) (.tmp 22) rfl #[.pointer none,.pointer none] _ rfl rfl (by kernel_rfl) rfl (by kernel_rfl) ?_) | fail)
   go_ret
   exact HE.out
  ·rw [hp,hd] at hrow
   refine wpList_load_mid rfl 31 (.tmp 21) rfl W (6+k*2) rfl [.pointer (some ⟨B,0,none⟩),.pointer (some ⟨D,0,none⟩)] _ hrow Tryz.underlying31 rfl (by kernel_rfl) ?_
   simp only [uP]
   have b1:Below V0.heap.size V0 (V0.alloc (.cells #[.pointer (some ⟨B,0,none⟩),.pointer (some ⟨D,0,none⟩)] 31)):=(Below.refl _ _).alloc (Nat.le_refl _) _
   have HT:Hid (TwX (V0.alloc (.cells #[.pointer (some ⟨B,0,none⟩),.pointer (some ⟨D,0,none⟩)] 31)) B D t E l g day L F1 F2):=hT.below b1
   have HS1:Hid (WlG w0 (V0.alloc (.cells #[.pointer (some ⟨B,0,none⟩),.pointer (some ⟨D,0,none⟩)] 31)) W n pv dv G Bk cn Q):=HS.out.below b1
   have HO1:Hid (At (V0.alloc (.cells #[.pointer (some ⟨B,0,none⟩),.pointer (some ⟨D,0,none⟩)] 31)) N0 (opl kind on e m sv)):=At.keep (S:=fun _=>False) (v:=.int .i64 kind) HO.out (Keep.below b1) (fun x=>x)
   have HA1:Hid (At (V0.alloc (.cells #[.pointer (some ⟨B,0,none⟩),.pointer (some ⟨D,0,none⟩)] 31)) V0.heap.size [.pointer (some ⟨B,0,none⟩),.pointer (some ⟨D,0,none⟩)]):=At.alloc V0 [.pointer (some ⟨B,0,none⟩),.pointer (some ⟨D,0,none⟩)] _
   have HPD:Hid (pv k = .pointer (some ⟨B,0,none⟩)∧dv k = .pointer (some ⟨D,0,none⟩)):=⟨hp,hd⟩
   have HGG:Hid ((∀ b,F1 b→G k b)∧(∀ b,F2 b→G k b)∧∀ b,G k b→b < N0):=⟨hG1,hG2,hGN⟩
   have x0:(V0.alloc (.cells #[.pointer (some ⟨B,0,none⟩),.pointer (some ⟨D,0,none⟩)] 31)).cell? ⟨N0,0,none⟩ = some (.int .i64 kind):=HO1.out.cell 0 rfl
   have x6:(V0.alloc (.cells #[.pointer (some ⟨B,0,none⟩),.pointer (some ⟨D,0,none⟩)] 31)).cell? ⟨N0,6,none⟩ = some (.int .i64 m):=HO1.out.cell 6 rfl
   have y0:(V0.alloc (.cells #[.pointer (some ⟨B,0,none⟩),.pointer (some ⟨D,0,none⟩)] 31)).cell? ⟨V0.heap.size,0,none⟩ = some (.pointer (some ⟨B,0,none⟩)):=HA1.out.cell 0 rfl
   clear hrow b1 HS HO hT hp hd hG1 hG2 hGN HGN
   go_upto_if 25 with (first | (refine wpList_store_new rfl 31 (.tmp 6) (.tmp 22) rfl #[.pointer (some ⟨B,0,none⟩),.pointer (some ⟨D,0,none⟩)] _ rfl rfl (by kernel_rfl) rfl (by kernel_rfl) ?_) | fail)
   have hN01:N0 < V0.heap.size:=hN0
   generalize V0.alloc (.cells #[.pointer (some ⟨B,0,none⟩),.pointer (some ⟨D,0,none⟩)] 31) = V1 at *
   generalize V0.heap.size = N1 at *
   have HL:=hid hLl
   clear hLl hN0
   have hFN:Hid (∀ b,F1 b→b < N0):=fun b hb=>HGG.out.2.2 b (HGG.out.1 b hb)
   have hTx:=texts2_any V1 W Bk pv dv k hk2 HS1.out.wa B D t E l g day L F1 F2 HT.out (by have:=HL.out; omega) kind on e m st hst hk78 (HGl.out.below HS1.out.bl) (lim_low HLim.out HS1.out.bl)
   rw [← HSv.out] at hTx
   have ha1:=HA1.out.range
   have ho1:=HO1.out.range
   have HSw:Hid (∀ x w2,TsPost V1 W Bk pv dv k L x w2→StepTo w0 W n cn x w2):=fun x w2 hx=>HS1.out.swap hk2 hn1 HL.out hx
   clear x6
   rcases hk78 with rfl | rfl
   ·have e78:True:=trivial
    go_upto_region 28 with fail
    refine wp_region_lit ?_
    refine wpList_val (.pointer (some ⟨W,0,none⟩)) V1 rfl rfl ?_
    simp only [uP]
    refine wpList_load_mid rfl 31 (.tmp 6) rfl N1 0 rfl [.pointer (some ⟨B,0,none⟩),.pointer (some ⟨D,0,none⟩)] _ ha1 Tryz.underlying31 rfl (by kernel_rfl) ?_
    simp only [uP]
    refine wpList_val (.int .i64 k) V1 rfl rfl ?_
    simp only [uP]
    refine wpList_load_mid rfl 60 (.tmp 3) rfl N0 0 rfl (opl 7 on e m sv) _ ho1 Tryz.underlying60 rfl (by kernel_rfl) ?_
    simp only [uP]
    clear x0 y0 ha1 ho1
    go_wp2_with fail
    refine hTx.mono ?_
    rintro x w2 hx
    obtain ⟨rfl,hx2⟩:=id hx
    have HE:Hid (StepTo w0 W n cn (.returned (.bool true)) w2):=HSw.out _ w2 hx
    clear hTx hx hx2
    go_wp2
    go_ret
    exact HE.out
   ·have e78:True:=trivial
    go_upto_region 28 with fail
    refine wp_region_lit ?_
    refine wpList_val (.pointer (some ⟨W,0,none⟩)) V1 rfl rfl ?_
    simp only [uP]
    refine wpList_load_mid rfl 31 (.tmp 6) rfl N1 0 rfl [.pointer (some ⟨B,0,none⟩),.pointer (some ⟨D,0,none⟩)] _ ha1 Tryz.underlying31 rfl (by kernel_rfl) ?_
    simp only [uP]
    refine wpList_val (.int .i64 k) V1 rfl rfl ?_
    simp only [uP]
    refine wpList_load_mid rfl 60 (.tmp 3) rfl N0 0 rfl (opl 8 on e m sv) _ ho1 Tryz.underlying60 rfl (by kernel_rfl) ?_
    simp only [uP]
    clear x0 y0 ha1 ho1
    go_wp2_with fail
    refine hTx.mono ?_
    rintro x w2 hx
    obtain ⟨rfl,hx2⟩:=id hx
    have HE:Hid (StepTo w0 W n cn (.returned (.bool true)) w2):=HSw.out _ w2 hx
    clear hTx hx hx2
    go_wp2
    go_ret
    exact HE.out
def kt:Ln.Terms:=⟨36524,36500000,10000,0,1,15⟩
theorem kt_cd0:cdOf (36524+((0:Nat):Int)) = 1:=cdOf_is ⟨2000,1,by unfold Ok; decide,by decide⟩
theorem kt_cd1:cdOf (36524+((1:Nat):Int)) = 2:=cdOf_is ⟨2000,1,by unfold Ok; decide,by decide⟩
theorem kt_it:(Ln.run kt cdOf (wtOf kt.ba) [] 2).it = 2000:=by
 show (Ln.day kt (36524+((1:Nat):Int)) (cdOf (36524+((1:Nat):Int))) (wtOf 1 (36524+((1:Nat):Int))) [] (Ln.day kt (36524+((0:Nat):Int)) (cdOf (36524+((0:Nat):Int))) (wtOf 1 (36524+((0:Nat):Int))) [] (Ln.start kt)).g).g.it = 2000
 rw [kt_cd0,kt_cd1,wtOf_one _ (by decide),wtOf_one _ (by decide)]
 decide
def ksc:List Sp:=[⟨3,0,⟨0,0,0,0⟩,36526,.string ByteArray.empty⟩,⟨7,0,⟨0,0,0,0⟩,0,.string ByteArray.empty⟩,⟨1,0,⟨36525,5,0,500⟩,0,.string ByteArray.empty⟩,⟨3,0,⟨0,0,0,0⟩,36539,.string ByteArray.empty⟩]
def scl:List Sp→List Value
 | []=>[]
 | s :: r=>spl s ++ scl r
theorem ksc_mid (k:Nat) (hk:k < ksc.length):∀ j u,(spl ksc[k])[j]? = some u→(scl ksc)[k*8+j]? = some u:=by
 intro j u hu
 have hj:j < 8:=(List.getElem?_eq_some_iff.1 hu).1
 have hk4:k < 4:=hk
 match k,hk4,j,hj with
 | 0,_,0,_=>exact hu
 | 0,_,1,_=>exact hu
 | 0,_,2,_=>exact hu
 | 0,_,3,_=>exact hu
 | 0,_,4,_=>exact hu
 | 0,_,5,_=>exact hu
 | 0,_,6,_=>exact hu
 | 0,_,7,_=>exact hu
 | 1,_,0,_=>exact hu
 | 1,_,1,_=>exact hu
 | 1,_,2,_=>exact hu
 | 1,_,3,_=>exact hu
 | 1,_,4,_=>exact hu
 | 1,_,5,_=>exact hu
 | 1,_,6,_=>exact hu
 | 1,_,7,_=>exact hu
 | 2,_,0,_=>exact hu
 | 2,_,1,_=>exact hu
 | 2,_,2,_=>exact hu
 | 2,_,3,_=>exact hu
 | 2,_,4,_=>exact hu
 | 2,_,5,_=>exact hu
 | 2,_,6,_=>exact hu
 | 2,_,7,_=>exact hu
 | 3,_,0,_=>exact hu
 | 3,_,1,_=>exact hu
 | 3,_,2,_=>exact hu
 | 3,_,3,_=>exact hu
 | 3,_,4,_=>exact hu
 | 3,_,5,_=>exact hu
 | 3,_,6,_=>exact hu
 | 3,_,7,_=>exact hu
set_option maxRecDepth 10000 in
set_option maxHeartbeats 8000000 in
theorem known_gen (most:Int) (w:World) (hmv:Mv w) (hpl:∀ (wx:World) (va:Value),SpV wx va ksc→Below w.heap.size w wx→Calls Tryz.prog 9 #[tmV kt,tmV kt,va,.int .i64 most] wx fun e w'=>e = .returned (.bool true)∧Below wx.heap.size wx w') :
  Calls Tryz.prog 8 #[.int .i64 most] w fun e w'=>e = .returned (.bool true)∧Below w.heap.size w w':=by
 have HMv:=hid hmv
 have HPl:=hid hpl
 have hgl:=hmv.lt
 have HA:Hid (At (w.alloc (.cells (tml kt).toArray 23)) w.heap.size (tml kt)):=At.alloc w _ _
 have HB:Hid (Below w.heap.size w (w.alloc (.cells (tml kt).toArray 23))):=(Below.refl _ _).alloc (Nat.le_refl _) _
 clear hmv hpl
 go_enter Tryz.func8,Tryz.ntmps8
 go_upto_region 2 with (first | (refine wpList_store_new rfl 23 (.tmp 3) (.tmp 9) rfl (tml kt).toArray _ rfl rfl (by kernel_rfl) rfl (by kernel_rfl) ?_) | fail)
 change Code.wp _ _ _ _ (w.alloc (.cells (tml kt).toArray 23))
 generalize w.alloc (.cells (tml kt).toArray 23) = V0 at *
 have hO:=openL kt V0 (by decide)
 unfold tmV at hO
 refine wp_region_lit ?_
 refine wpList_load_mid rfl 23 (.tmp 3) rfl _ 0 rfl (tml kt) _ HA.out.range Tryz.underlying23 rfl (by kernel_rfl) ?_
 simp only [uP]
 go_wp2_with fail
 refine hO.mono ?_
 rintro x w1 ⟨B,rfl,hLo,hb1⟩
 clear hO
 have hbw1:Below w.heap.size w w1:=HB.out.trans (hb1.mono HB.out.size)
 have hR:Calls Tryz.prog 17 #[.pointer (some ⟨B,0,none⟩),.int .i64 36526] w1 _:=runL w1 B kt [] _ _ _ _ hLo (by simp) 2 (by decide) (by omega) (HMv.out.below hbw1) (fun x=>by have:=Wd.fresh x; have:=HB.out.size; omega)
 go_wp2_with fail
 refine hR.mono ?_
 rintro x w2 ⟨rfl,hLo2,hk2⟩
 clear hR
 have HB2:Hid (Below V0.heap.size V0 w2):=dfresh hb1 hk2 (fun b x=>Wd.fresh x) hb1.size
 have hBa:=balanceL w2 B _ _ _ _ _ _ hLo2
 have Hit:=hid kt_it
 clear hLo hLo2 hk2 hbw1 hb1
 generalize Ln.run kt cdOf (wtOf kt.ba) [] 2 = G at *
 generalize kt.st+((2:Nat):Int) = dy at *
 go_wp2_with fail
 refine hBa.mono ?_
 rintro x w3 ⟨rfl,hb3⟩
 clear hBa
 unfold blV
 have hb4:Below V0.heap.size V0 (w3.alloc (.cells (bll G dy).toArray 52)):=(HB2.out.trans (hb3.mono HB2.out.size)).alloc (Nat.le_trans HB2.out.size hb3.size) _
 have HN7:Hid (At (w3.alloc (.cells (bll G dy).toArray 52)) w3.heap.size (bll G dy)):=At.alloc w3 _ _
 have HB4:Hid (Below w.heap.size w (w3.alloc (.cells (bll G dy).toArray 52))):=HB.out.trans (hb4.mono HB.out.size)
 have HA4:Hid (At (w3.alloc (.cells (bll G dy).toArray 52)) w.heap.size (tml kt)):=At.keep (S:=fun _=>False) (v:=.int .i64 kt.st) HA.out (Keep.below hb4) (fun x=>x)
 clear HB2 hb3 hb4 HA HB
 go_upto_region 7 with (first | (refine wpList_store_new rfl 52 (.tmp 7) (.tmp 24) rfl (bll G dy).toArray _ rfl rfl (by kernel_rfl) rfl (by kernel_rfl) ?_) | fail)
 generalize w3.alloc (.cells (bll G dy).toArray 52) = V3 at *
 generalize w3.heap.size = N7 at *
 refine wp_region_lit ?_
 refine wpList_load_mid rfl 23 (.tmp 3) rfl _ 0 rfl (tml kt) _ HA4.out.range Tryz.underlying23 rfl (by kernel_rfl) ?_
 simp only [uP]
 refine wpList_load_mid rfl 23 (.tmp 3) rfl _ 0 rfl (tml kt) _ HA4.out.range Tryz.underlying23 rfl (by kernel_rfl) ?_
 simp only [uP]
 refine wpList_val (.agg #[.int .i64 3,.int .i64 0,.int .i64 0,.int .i64 0,.int .i64 0,.int .i64 0,.int .i64 36526,.string ByteArray.empty]) V3 rfl (by kernel_rfl) ?_
 simp only [uP]
 refine wpList_val (.agg #[.int .i64 7,.int .i64 0,.int .i64 0,.int .i64 0,.int .i64 0,.int .i64 0,.int .i64 0,.string ByteArray.empty]) V3 rfl (by kernel_rfl) ?_
 simp only [uP]
 refine wpList_val (.agg #[.int .i64 36525,.int .i64 5,.int .i64 0,.int .i64 500]) V3 rfl (by kernel_rfl) ?_
 simp only [uP]
 refine wpList_val (.agg #[.int .i64 1,.int .i64 0,.int .i64 36525,.int .i64 5,.int .i64 0,.int .i64 500,.int .i64 0,.string ByteArray.empty]) V3 rfl (by kernel_rfl) ?_
 simp only [uP]
 refine wpList_val (.agg #[.int .i64 3,.int .i64 0,.int .i64 0,.int .i64 0,.int .i64 0,.int .i64 0,.int .i64 36539,.string ByteArray.empty]) V3 rfl (by kernel_rfl) ?_
 simp only [uP]
 have hsz:Below V3.heap.size V3 (V3.alloc (.cells (scl ksc).toArray 60)):=(Below.refl _ _).alloc (Nat.le_refl _) _
 have HB5:Hid (Below w.heap.size w (V3.alloc (.cells (scl ksc).toArray 60))):=HB4.out.alloc HB4.out.size _
 have HN5:Hid (At (V3.alloc (.cells (scl ksc).toArray 60)) N7 (bll G dy)):=At.keep (S:=fun _=>False) (v:=.int .i64 G.pr) HN7.out (Keep.below hsz) (fun x=>x)
 have hRow:At (V3.alloc (.cells (scl ksc).toArray 60)) V3.heap.size (scl ksc):=At.alloc V3 _ _
 have hSp:SpV (V3.alloc (.cells (scl ksc).toArray 60)) (.slice (some ⟨V3.heap.size,0,none⟩) 4 4) ksc:=⟨some ⟨V3.heap.size,0,none⟩,4,rfl,Nat.le_refl _,fun k hk=>⟨V3.heap.size,0,rfl,At.lt (v:=.int .i64 3) hRow,by rw [Nat.zero_add]; exact hRow.mid (k*8) _ (ksc_mid k hk)⟩⟩
 have hPl:=HPl.out _ _ hSp HB5.out
 unfold tmV at hPl
 refine wpList_val (.slice (some ⟨V3.heap.size,0,none⟩) 4 4) (V3.alloc (.cells (scl ksc).toArray 60)) rfl (by kernel_rfl) ?_
 simp only [uP]
 clear hRow hSp hsz HB4 HA4 HN7
 generalize V3.alloc (.cells (scl ksc).toArray 60) = V5 at *
 go_wp2_with fail
 refine hPl.mono ?_
 rintro x w6 ⟨rfl,hb6⟩
 clear hPl
 have q1:w6.cell? ⟨N7,1,none⟩ = some (.int .i64 2000):=by
  have:=(At.keep (S:=fun _=>False) (v:=.int .i64 G.pr) HN5.out (Keep.below hb6) (fun x=>x)).cell 1 rfl
  rw [this,Hit.out]
 have HE:Hid (Below w.heap.size w w6):=HB5.out.trans (hb6.mono HB5.out.size)
 clear hb6 HN5 HB5
 go_wp2
 go_ret
 exact ⟨rfl,HE.out⟩
theorem ksc_in:∀ s∈ksc,InR s.e.s:=by
 intro s hs
 simp only [ksc,List.mem_cons,List.not_mem_nil,or_false] at hs
 rcases hs with rfl | rfl | rfl | rfl <;> (unfold InR; decide)
theorem step6 (w wr:World) (hmv:Mv w) (hlim:Lim w) (W n:Nat) (pv dv:Nat→Value) (G:Nat→Nat→Prop) (B:Bv) (c:Nat) (Q:Nat→Prop) (s:Sp) (hs:s.kind≤6) (hin:InR s.e.s) (h:WlG w wr W n pv dv G B c Q) (hn:n≤30000000) (hc:c≤60000000):Calls Tryz.prog 25 #[.pointer (some ⟨W,0,none⟩),.agg (spl s).toArray] wr (StepTo w W n c):=by
 obtain ⟨kind,on,e,m,sv⟩:=s
 refine (step_gen w wr W n pv dv G B c Q h (by omega) hmv hlim (by omega) kind on e m sv hs hin).mono ?_
 rintro x w' ⟨rfl,G',B',c',Q',hc',hW⟩
 exact ⟨rfl,pv,dv,G',B',c',Q',hc',hW⟩
def SpOk (s:Sp):Prop:=InR s.e.s∧∃ st:List UInt8,s.sv = .string (bs st)∧st.length≤1048576
set_option maxRecDepth 10000 in
set_option maxHeartbeats 4000000 in
theorem all_gen (w:World) (ta tb:Ln.Terms) (v:Value) (sc:List Sp) (hv:SpV w v sc) (hkn:∀ wx:World,Below w.heap.size w wx→Calls Tryz.prog 8 #[.int .i64 8] wx fun e w'=>e = .returned (.bool true)∧Below wx.heap.size wx w') (hpl:∀ wx:World,Below w.heap.size w wx→Calls Tryz.prog 9 #[tmV ta,tmV tb,v,.int .i64 8] wx fun e w'=>e = .returned (.bool true)∧Below wx.heap.size wx w') :
  Calls Tryz.prog 7 #[tmV ta,tmV tb,v] w fun e w'=>e = .returned (.bool true)∧Below w.heap.size w w':=by
 have s1:(w.alloc (.cells (tml ta).toArray 23)).heap.size = w.heap.size+1:=Array.size_push _
 have b1:Below w.heap.size w (w.alloc (.cells (tml ta).toArray 23)):=(Below.refl _ _).alloc (Nat.le_refl _) _
 have b2:Below w.heap.size w ((w.alloc (.cells (tml ta).toArray 23)).alloc (.cells (tml tb).toArray 23)):=b1.alloc b1.size _
 have k12:Below (w.alloc (.cells (tml ta).toArray 23)).heap.size (w.alloc (.cells (tml ta).toArray 23)) ((w.alloc (.cells (tml ta).toArray 23)).alloc (.cells (tml tb).toArray 23)):=(Below.refl _ _).alloc (Nat.le_refl _) _
 have HA:Hid (At ((w.alloc (.cells (tml ta).toArray 23)).alloc (.cells (tml tb).toArray 23)) w.heap.size (tml ta)):=At.keep (S:=fun _=>False) (v:=.int .i64 ta.st) (At.alloc w (tml ta) _) (Keep.below k12) (fun x=>x)
 have HB:Hid (At ((w.alloc (.cells (tml ta).toArray 23)).alloc (.cells (tml tb).toArray 23)) (w.heap.size+1) (tml tb)):=by
  have h:=At.alloc (w.alloc (.cells (tml ta).toArray 23)) (tml tb) 23
  rw [s1] at h
  exact h
 have HBl:=hid b2
 obtain ⟨sp,scap,rfl,_,_⟩:=hv
 have HKn:=hid hkn
 have HPl:=hid hpl
 clear s1 b1 b2 k12 hkn hpl
 unfold tmV
 go_enter Tryz.func7,Tryz.ntmps7
 go_upto_region 1 with fail
 change Code.wp _ _ _ _ ((w.alloc (.cells (tml ta).toArray 23)).alloc (.cells (tml tb).toArray 23))
 generalize (w.alloc (.cells (tml ta).toArray 23)).alloc (.cells (tml tb).toArray 23) = V0 at *
 have hK:=HKn.out V0 HBl.out
 go_wp2_with fail
 refine hK.mono ?_
 rintro x w1 ⟨rfl,hb1⟩
 clear hK
 have HB1:Hid (Below w.heap.size w w1):=HBl.out.trans (hb1.mono HBl.out.size)
 have ra:w1.rangeAt w.heap.size 0 (tml ta):=(At.keep (S:=fun _=>False) (v:=.int .i64 ta.st) HA.out (Keep.below hb1) (fun x=>x)).range
 have rb:w1.rangeAt (w.heap.size+1) 0 (tml tb):=(At.keep (S:=fun _=>False) (v:=.int .i64 tb.st) HB.out (Keep.below hb1) (fun x=>x)).range
 have hP:=HPl.out w1 HB1.out
 unfold tmV at hP
 clear hb1 HA HB HBl
 go_upto_region 2 with fail
 refine wp_region_lit ?_
 refine wpList_load_mid rfl 23 (.tmp 3) rfl _ 0 rfl (tml ta) _ ra Tryz.underlying23 rfl (by kernel_rfl) ?_
 simp only [uP]
 refine wpList_load_mid rfl 23 (.tmp 4) rfl _ 0 rfl (tml tb) _ rb Tryz.underlying23 rfl (by kernel_rfl) ?_
 simp only [uP]
 clear ra rb
 go_wp2_with fail
 refine hP.mono ?_
 rintro x w2 ⟨rfl,hb2⟩
 clear hP
 have HE:Hid (Below w.heap.size w w2):=HB1.out.trans (hb2.mono HB1.out.size)
 clear hb2 HB1
 go_wp2
 go_ret
 exact ⟨rfl,HE.out⟩
theorem step8 (w wr:World) (hmv:Mv w) (hlim:Lim w) (hgl:Gl w) (W n:Nat) (pv dv:Nat→Value) (G:Nat→Nat→Prop) (B:Bv) (c:Nat) (Q:Nat→Prop) (s:Sp) (hs:s.kind≤8) (ho:SpOk s) (h:WlG w wr W n pv dv G B c Q) (hn1:1≤n) (hn:n≤110000) (hc:c≤60000000):Calls Tryz.prog 25 #[.pointer (some ⟨W,0,none⟩),.agg (spl s).toArray] wr (StepTo w W n c):=by
 by_cases h6:s.kind≤6
 ·exact step6 w wr hmv hlim W n pv dv G B c Q s h6 ho.1 h (by omega) hc
 ·obtain ⟨kind,on,e,m,sv⟩:=s
  obtain ⟨_,st,rfl,hst⟩:=ho
  have hs:kind≤8:=hs
  have h6:¬ kind≤6:=h6
  exact step_text w wr W n pv dv G B c Q h hgl hlim hn1 hn kind on e m st hst (by omega)
theorem played8 (w:World) (ta tb:Ln.Terms) (v:Value) (sc:List Sp) (hv:SpV w v sc) (hsl:sc.length≤109000) (hsc:∀ s∈sc,SpOk s) (hmv:Mv w) (hlim:Lim w) (hgl:Gl w) :
  Calls Tryz.prog 9 #[tmV ta,tmV tb,v,.int .i64 8] w fun e w'=>e = .returned (.bool true)∧Below w.heap.size w w' :=
 played_gen 8 (by omega) 2 w ta tb v sc hv (by omega) hmv (fun wr W n pv dv G B c Q s hsm hk hW hn0 hn hc=>step8 w wr hmv hlim hgl W n pv dv G B c Q s hk (hsc s hsm) hW (by omega) (by omega) hc)
theorem ksc_ok:∀ s∈ksc,SpOk s:=by
 intro s hs
 refine ⟨ksc_in s hs,[],?_,by decide⟩
 simp only [ksc,List.mem_cons,List.not_mem_nil,or_false] at hs
 rcases hs with rfl | rfl | rfl | rfl <;> rfl
theorem all_any (w:World) (ta tb:Ln.Terms) (v:Value) (sc:List Sp) (hv:SpV w v sc) (hsl:sc.length≤109000) (hsc:∀ s∈sc,SpOk s) (hmv:Mv w) (hlim:Lim w) (hgl:Gl w) :
  Calls Tryz.prog 7 #[tmV ta,tmV tb,v] w fun e w'=>e = .returned (.bool true)∧Below w.heap.size w w':=by
 have hl:∀ wx,Below w.heap.size w wx→Lim wx:=fun wx hx=>hlim.keep (S:=fun _=>False) (Keep.below hx) (fun x=>x)
 exact all_gen w ta tb v sc hv
  (fun wx hx=>known_gen 8 wx (hmv.below hx) (fun wy va hs hy=>played8 wy kt kt va ksc hs (by decide) ksc_ok (hmv.below (hx.trans (hy.mono hx.size))) (hl wy (hx.trans (hy.mono hx.size))) (hgl.below (hx.trans (hy.mono hx.size)))))
  (fun wx hx=>played8 wx ta tb v sc (hv.below hx) hsl hsc (hmv.below hx) (hl wx hx) (hgl.below hx))
end Go.Proofs.YtanndhoimpnhpaaGreatDoor
namespace Go.Proofs.YtanndhoimpnhpaaGreatDoor
open Go.ChangeShapes Go.WideShapes Go.RowKit Go.Deep Cal
instance : Inhabited Sp := ⟨⟨0,0,⟨0,0,0,0⟩,0,.bool false⟩⟩
section
variable {H:Type} {enc:TypeId × Value→H}
set_option maxRecDepth 100000 in
theorem open_Terms {W:World} {b0:Nat} {v:Value} {d:DataW H} {ps:List MemPlace} (hok:Value.okWide Tryz.prog W .any b0 23 v) (h:DataW.Trod enc Tryz.prog W 0 (fun _=>true) true 23 v d ps):∃ t:Ln.Terms,v = tmV t:=by
 obtain ⟨cs,rfl,hsz⟩:=okWide_struct Tryz.underlying23 hok
 obtain ⟨n,hn⟩:=h
 have hn2:DataW.trod enc Tryz.prog W 0 (fun _=>true) true n 23 cs.toList = some (d,ps):=hn
 rw [show Tryz.prog.cellsOf 23 = 6 by kernel_rfl] at hsz
 obtain ⟨xs,k,hk,hxy,_,hxl,hf⟩:=DataW.trod_struct Tryz.underlying23 hn2
 obtain ⟨l⟩:=cs
 match l,hsz with
 | [u0,u1,u2,u3,u4,u5],_ =>
  match xs,hxl with
  | [y0,y1,y2,y3,y4,y5],_ =>
   have g0:=hf 0 _ rfl
   have g1:=hf 1 _ rfl
   have g2:=hf 2 _ rfl
   have g3:=hf 3 _ rfl
   have g4:=hf 4 _ rfl
   have g5:=hf 5 _ rfl
   have c1:Tryz.prog.cellsOf 3 = 1:=by kernel_rfl
   simp [c1] at g0 g1 g2 g3 g4 g5
   obtain ⟨z0,e0,_,w0⟩:=DataW.trod_int Tryz.underlying3 g0
   obtain ⟨z1,e1,_,w1⟩:=DataW.trod_int Tryz.underlying3 g1
   obtain ⟨z2,e2,_,w2⟩:=DataW.trod_int Tryz.underlying3 g2
   obtain ⟨z3,e3,_,w3⟩:=DataW.trod_int Tryz.underlying3 g3
   obtain ⟨z4,e4,_,w4⟩:=DataW.trod_int Tryz.underlying3 g4
   obtain ⟨z5,e5,_,w5⟩:=DataW.trod_int Tryz.underlying3 g5
   simp only [List.cons.injEq,and_true] at e0 e1 e2 e3 e4 e5
   subst e0 e1 e2 e3 e4 e5
   exact ⟨⟨z0,z1,z2,z3,z4,z5⟩,rfl⟩
end
end Go.Proofs.YtanndhoimpnhpaaGreatDoor
namespace Go.Proofs.YtanndhoimpnhpaaGreatDoor
theorem wf_in {n:Int} (h:(Lit.int .i64 n).wf = true):InR n:=by
 have h1:IntKind.i64.min≤n∧n≤9223372036854775807:=by simpa [Lit.wf] using h
 have h2:IntKind.i64.min = -9223372036854775808:=by decide
 unfold InR
 omega
end Go.Proofs.YtanndhoimpnhpaaGreatDoor
namespace Go.Proofs.YtanndhoimpnhpaaGreatDoor
open Go.ChangeShapes Go.WideShapes Go.RowKit Go.Deep Cal
section
variable {H:Type} {enc:TypeId × Value→H}
theorem bulk_all2 (D:Nat→DataW H) (n:Nat) (h:∀ i,i < n→10≤Rows.uptoBulk (D i)):∀ l:List Nat,(∀ i∈l,i < n)→10*l.length≤Rows.uptoBulkAll (l.map D)
 | [],_=>by simp
 | i :: l,hl=>by
  have h1:=bulk_all2 D n h l (fun x hx=>hl x (by simp [hx]))
  have h2:=h i (hl i (by simp))
  simp only [List.map_cons,Rows.uptoBulkAll,List.length_cons]
  omega
theorem bulk_one (D:Nat→DataW H) (k:Nat):∀ l:List Nat,k∈l→Rows.uptoBulk (D k)≤Rows.uptoBulkAll (l.map D)
 | [],h=>by simp at h
 | i :: l,h=>by
  simp only [List.map_cons,Rows.uptoBulkAll]
  rcases List.mem_cons.1 h with rfl | h
  ·omega
  ·have:=bulk_one D k l h
   omega
set_option maxRecDepth 100000 in
theorem open_SpW {W:World} {b0:Nat} {v:Value} {d:DataW H} {ps:List MemPlace} (hok:Value.okWide Tryz.prog W .any b0 24 v) (h:DataW.Trod enc Tryz.prog W 0 (fun _=>true) true 24 v d ps) :
  ∃ sc:List Sp,SpV W v sc∧(∀ s∈sc,InR s.e.s∧∃ st:List UInt8,s.sv = .string (bs st)∧st.length≤Rows.uptoBulk d)∧10*sc.length≤Rows.uptoBulk d:=by
 obtain ⟨a0,len,cap,rfl⟩:=okWide_slice Tryz.underlying24 hok
 obtain ⟨n,hn⟩:=h
 have hn2:DataW.trod enc Tryz.prog W 0 (fun _=>true) true n 24 [.slice a0 len cap] = some (d,ps):=hn
 rcases open_slice Tryz.underlying24 hn2 with ⟨hc,_⟩ | ⟨a,len',cap',m,n',D,Pl,hc,_,hl,hm,hmm,hz,hx⟩
 ·simp only [List.cons.injEq,Value.slice.injEq,and_true] at hc
  obtain ⟨rfl,rfl,rfl⟩:=hc
  exact ⟨[],⟨none,0,rfl,Nat.le_refl _,fun k hk=>absurd hk (Nat.not_lt_zero k)⟩,fun s hs=>by simp at hs,by simp⟩
 ·simp only [List.cons.injEq,Value.slice.injEq,and_true] at hc
  obtain ⟨rfl,rfl,rfl⟩:=hc
  simp only [if_true] at hmm
  subst hmm
  have ce:Tryz.prog.cellsOf 60 = 8:=by kernel_rfl
  have each:∀ i,i < len→∃ r:Sp,(∀ j u,(spl r)[j]? = some u→W.cell? (a.add (i*8+j)) = some u)∧InR r.e.s∧∃ st:List UInt8,r.sv = .string (bs st)∧st.length+10≤Rows.uptoBulk (D i):=fun i hi=>by
   obtain ⟨cs',h1,h2⟩:=hx i (by omega)
   rw [ce] at h1
   obtain ⟨_,hlen,hcell⟩:=World.cells?_some h1
   obtain ⟨xs,k,hk,hxy,_,hxl,hf⟩:=DataW.trod_struct Tryz.underlying60 h2
   have hD:D i = .agg (xs.map (·.1)):=congrArg Prod.fst hxy
   match xs,hxl,cs',hlen,hD,hf,hcell with
   | [y0,y1,y2,y3,y4],_,[u0,u1,u2,u3,u4,u5,u6,u7],_,hD,hf,hcell =>
    have g0:=hf 0 _ rfl
    have g1:=hf 1 _ rfl
    have g2:=hf 2 _ rfl
    have g3:=hf 3 _ rfl
    have g4:=hf 4 _ rfl
    have c1:Tryz.prog.cellsOf 3 = 1:=by kernel_rfl
    have c4:Tryz.prog.cellsOf 50 = 4:=by kernel_rfl
    have c9:Tryz.prog.cellsOf 9 = 1:=by kernel_rfl
    simp [c1,c4,c9] at g0 g1 g2 g3 g4
    obtain ⟨z0,e0,y0e,w0⟩:=DataW.trod_int Tryz.underlying3 g0
    obtain ⟨z1,e1,y1e,w1⟩:=DataW.trod_int Tryz.underlying3 g1
    obtain ⟨z3,e3,y3e,w3⟩:=DataW.trod_int Tryz.underlying3 g3
    obtain ⟨sb,e4,y4e,w4⟩:=DataW.trod_string Tryz.underlying9 g4
    obtain ⟨ys,k2,hk2,hyy,_,hyl,hg⟩:=DataW.trod_struct Tryz.underlying50 g2
    match ys,hyl,hyy,hg with
    | [x0,x1,x2,x3],_,hyy,hg =>
     have f0:=hg 0 _ rfl
     have f1:=hg 1 _ rfl
     have f2:=hg 2 _ rfl
     have f3:=hg 3 _ rfl
     simp [c1] at f0 f1 f2 f3
     obtain ⟨q0,i0,x0e,wf0⟩:=DataW.trod_int Tryz.underlying3 f0
     obtain ⟨q1,i1,x1e,wf1⟩:=DataW.trod_int Tryz.underlying3 f1
     obtain ⟨q2,i2,x2e,wf2⟩:=DataW.trod_int Tryz.underlying3 f2
     obtain ⟨q3,i3,x3e,wf3⟩:=DataW.trod_int Tryz.underlying3 f3
     simp only [List.cons.injEq,and_true] at e0 e1 e3 e4 i0 i1 i2 i3
     subst e0 e1 e3 e4 i0 i1 i2 i3
     refine ⟨⟨z0,z1,⟨q0,q1,q2,q3⟩,z3,.string sb⟩,fun j u hu=>?_,wf_in wf2,sb.data.toList,by rw [show bs sb.data.toList = sb from by unfold bs; simp],?_⟩
     rotate_left
     ·rw [hD]
      have hy2:y2.1 = .agg [x0.1,x1.1,x2.1,x3.1]:=congrArg Prod.fst hyy
      simp only [List.map_cons,List.map_nil,Rows.uptoBulk,Rows.uptoBulkAll,hy2,y0e,y1e,y3e,y4e,x0e,x1e,x2e,x3e]
      omega
     have hj:j < 8:=(List.getElem?_eq_some_iff.1 hu).1
     have hc:=hcell j (by simpa using hj)
     rw [add_add] at hc
     rw [hc]
     exact hu
  obtain ⟨R,hR0⟩:=choose_lt each
  have hR:=fun i hi=>(hR0 i hi).1
  have hd:d = .slice ((List.range len).map D) ((List.range (m - len)).map fun j=>D (len+j)):=congrArg Prod.fst hz
  have hbk:∀ i,i < len→10≤Rows.uptoBulk (D i):=fun i hi=>by obtain ⟨_,_,st,_,h3⟩:=hR0 i hi; omega
  have hrl:((List.range len).map R).length = len:=by simp
  have hm2:m≤9223372036854775807:=hm
  refine ⟨(List.range len).map R,⟨some a,m,by rw [hrl],by omega,fun k hk=>?_⟩,fun s hs=>?_,?_⟩
  ·have hk2:k < len:=by omega
   have hRk:=hR k hk2
   have e:((List.range len).map R)[k] = R k:=by simp
   rw [e]
   obtain ⟨ab,ao,asp⟩:=a
   have h0:=hRk 0 _ rfl
   have hsp:asp = none:=by
    have:=World.cell?_spot (hR 0 (by omega) 0 _ rfl)
    simpa [Addr.add] using this
   subst hsp
   rw [Addr.add_lit] at h0
   refine ⟨ab,ao,rfl,World.block_lt_of_cell? W ⟨ab,ao+(k*8+0),none⟩ h0,fun j u hj=>?_⟩
   have:=hRk j u hj
   rw [Addr.add_lit,← Nat.add_assoc] at this
   exact this
  ·obtain ⟨k,hk,rfl⟩:=List.mem_map.1 hs
   obtain ⟨_,h1,st,h2,h3⟩:=hR0 k (List.mem_range.1 hk)
   refine ⟨h1,st,h2,?_⟩
   have h4:=bulk_one D k (List.range len) hk
   rw [hd]
   simp only [Rows.uptoBulk]
   omega
  ·have h4:=bulk_all2 D len hbk (List.range len) (fun i hi=>List.mem_range.1 hi)
   rw [hd]
   simp only [Rows.uptoBulk,List.length_map]
   omega
end
end Go.Proofs.YtanndhoimpnhpaaGreatDoor
