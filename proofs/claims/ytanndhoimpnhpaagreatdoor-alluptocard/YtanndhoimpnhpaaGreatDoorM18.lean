/- Joined by program: BsH, TxR, TxZ. -/
import Derived.Test.YtanndhoimpnhpaaGreatDoorM17
namespace Go.Proofs.YtanndhoimpnhpaaGreatDoor
open Go.ChangeShapes Go.WideShapes Go.ChangeAt Go.RowKit Cal
theorem wp_skipD {Pr:Program} {o:Oper} {a:Act} {w:World} {K:Act→World→Prop} {Q:Exit→Act→World→Prop} (w':World) (hrun:(execOp a.eval o).run Pr w = .ok .skip w') (h:K (a.put o.dst undef) w'):Oper.wp Pr o a w K Q:=by
 unfold Oper.wp
 rw [hrun]
 exact h
def CamePost (w:World) (TS:TypeId) (sz W:Nat) (pre X:List Value) (wv rv:Value) (Ws Rs:List Value) (v:Value) (n:Nat) (xs:List Value) (e:Ending) (w':World):Prop :=
 e = .returned (.tuple #[])∧∃ wv' rv' r,At w' W (pre ++ wv' :: rv' :: X)∧CameTo w TS sz W wv rv Ws Rs v n xs wv' rv' r w'
set_option maxRecDepth 10000 in
set_option maxHeartbeats 4000000 in
theorem came_core (w:World) (W:Nat) (X:List Value) (b0 b1 wv rv l:Value) (Ws Rs:List Value) (n:Nat) (xs:List Value) (hX:At w W (b0 :: b1 :: wv :: rv :: X)) (how:w.ownsRow 0 38 1 wv Ws.length Ws) (hor:w.ownsRow 0 38 1 rv Ws.length Rs) (hl:OwT w 1 l n xs) (h1c:∀ u∈xs,u.oneCell' = true) (hWs:Ws.length≤1000000000) (hn:n≤4000000000000) (a1:∀ b,wv.ownBlock = some b→¬ b = W∧¬ rv.ownBlock = some b) (a2:∀ b,rv.ownBlock = some b→¬ b = W) (a3:∀ b,l.ownBlock = some b→¬ b = W∧¬ wv.ownBlock = some b) :
  Calls Tryz.prog 70 #[.pointer (some ⟨W,0,none⟩),l] w (CamePost w 38 1 W [b0,b1] X wv rv Ws Rs l n xs):=by
 obtain ⟨i0,hi0,hz0,hz1,hz2⟩:=info_parts bsI
 obtain ⟨i1,hi1,hy0,hy1,hy2⟩:=info_parts bsIs
 have hrl:Rs.length = Ws.length:=by have:=hor.1; omega
 obtain ⟨wp,wcap,rfl⟩:=own_slice how
 obtain ⟨rp,rcap,rfl⟩:=own_slice hor
 have hWl:W < w.heap.size:=At.lt hX
 have HX:=hid hX
 have HOw:=hid how
 have HOr:=hid hor
 have HL:=hid hl
 have HH1:=hid h1c
 have HA1:=hid a1
 have HA2:=hid a2
 have HA3:=hid a3
 obtain ⟨p,cap,rfl⟩:=hl.slice
 have c2:w.cell? ⟨W,2,none⟩ = some (.slice wp Ws.length wcap):=hX.cell 2 rfl
 have hB1:Below w.heap.size w (w.alloc (.cells #[.slice p n cap] 38)):=(Below.refl _ _).alloc (Nat.le_refl _) _
 have hO1:(w.alloc (.cells #[.slice p n cap] 38)).ownsRow 0 38 1 (.slice wp Ws.length wcap) Ws.length Ws:=own_keep (S:=fun _=>False) how (Keep.below hB1) (fun _ _ x=>x)
 have hA1:At (w.alloc (.cells #[.slice p n cap] 38)) W (b0 :: b1 :: .slice wp Ws.length wcap :: .slice rp Ws.length rcap :: X):=At.keep (S:=fun _=>False) hX (Keep.below hB1) (fun x=>x)
 have hne1:∀ j u,[Value.slice p n cap][j]? = some u→(w.alloc (.cells #[.slice p n cap] 38)).cell? ((⟨w.heap.size,0,none⟩:Addr).add j) = some u:=fun j u hu=>by
  have:=(At.alloc w [.slice p n cap] 38 j u hu).1
  rw [Addr.add_lit,Nat.zero_add]
  exact this
 clear hX how hor hl h1c a1 a2 a3
 go_enter Tryz.func70,Tryz.ntmps70
 go_upto_region 0 with fail
 refine wp_region_lit ?_
 refine wpList_val (.pointer (some ⟨W,0,none⟩)) w rfl rfl ?_
 simp only [uP]
 refine wpList_val (.pointer (some ⟨W,0,none⟩)) w rfl rfl ?_
 simp only [uP]
 refine wpList_val (.pointer (some ⟨W,0,none⟩)) w rfl (by go_simp) ?_
 simp only [uP]
 refine wpList_val (.pointer (some ⟨W,2,none⟩)) w rfl (by go_simp) ?_
 simp only [uP]
 refine wpList_val (.slice wp Ws.length wcap) w rfl (by go_simp) ?_
 simp only [uP]
 refine wpList_val (.slice p n cap) w rfl rfl ?_
 simp only [uP]
 refine wpList_val (.slice (some ⟨w.heap.size,0,none⟩) 1 1) (w.alloc (.cells #[.slice p n cap] 38)) rfl (by kernel_rfl) ?_
 simp only [uP]
 refine wpList_append_own_at _ rfl (.tmp 8) (.tmp 10) 62 rfl 0 38 i1 _ 1 24 Tryz.underlying62 hi1 hy0 hy1 hy2 rfl (by omega) _ Ws.length Ws rfl hO1 ⟨w.heap.size,0,none⟩ 1 1 _ rfl rfl hne1 (fun u hu=>?_) (by unfold maxLen; omega) (by omega) (Nat.zero_le _) ?_
 ·rw [List.mem_singleton] at hu
  subst hu
  rfl
 intro wv' w1 ho1 hg1 _ hat1
 have hA2:At w1 W (b0 :: b1 :: .slice wp Ws.length wcap :: .slice rp Ws.length rcap :: X):=At.keep (S:=fun b=>(Value.slice wp Ws.length wcap).ownBlock = some b) hA1 ⟨hg1.os,hg1.tape,hg1.output,hg1.size,fun b hb hs=>hg1.block b hb (fun e=>hs e.symm)⟩ (fun e=>(HA1.out W e).1 rfl)
 obtain ⟨wg,wcap',rfl,_,_⟩:=ho1.form (by omega)
 have c2:w1.cell? ⟨W,2,none⟩ = some (.slice wp Ws.length wcap):=hA2.cell 2 rfl
 have f2:w1.frozen? ⟨W,2,none⟩ = false:=hA2.free 2 rfl
 have HR:Hid (RowTo w 38 W (.slice wp Ws.length wcap) Ws (.slice p n cap) (.slice (some ⟨wg,0,none⟩) (Ws.length+1) wcap') (w1.setCell ⟨W,2,none⟩ (.slice (some ⟨wg,0,none⟩) (Ws.length+1) wcap'))):=row_to hB1 (fun b hb=>(HA1.out b hb).1) hWl ho1 hg1 hat1 2 _
 have HA3w:Hid (At (w1.setCell ⟨W,2,none⟩ (.slice (some ⟨wg,0,none⟩) (Ws.length+1) wcap')) W (b0 :: b1 :: .slice (some ⟨wg,0,none⟩) (Ws.length+1) wcap' :: .slice rp Ws.length rcap :: X)):=hA2.set 2 (by simp) _
 clear hA2 hA1 hO1 hne1 hB1 ho1 hg1 hat1
 simp only [uP]
 go_upto_region 1 with fail
 clear c2 f2
 generalize w1.setCell ⟨W,2,none⟩ (.slice (some ⟨wg,0,none⟩) (Ws.length+1) wcap') = w2 at *
 have hc3:w2.cell? ⟨W,3,none⟩ = some (.slice rp Ws.length rcap):=HA3w.out.cell 3 rfl
 have hL2:OwT w2 1 (.slice p n cap) n xs:=HL.out.keep HR.out.kp (fun b hb hx=>by
  rcases hx with hx | hx
  ·exact (HA3.out b hb).1 hx
  ·exact (HA3.out b hb).2 hx)
 refine wp_region_held_drew (S:=fun _=>True) (by kernel_rfl) trivial (fun hHeld=>?_)
 refine tkk 0 (.pointer (some ⟨W,0,none⟩)) rfl ?_
 simp only [uP]
 refine tkk 1 (.pointer (some ⟨W,0,none⟩)) rfl ?_
 simp only [uP]
 refine tka 2 (.pointer (some ⟨W,0,none⟩)) rfl ?_
 simp only [uP]
 refine tka 3 (.pointer (some ⟨W,3,none⟩)) rfl ?_
 simp only [uP]
 refine tkk 5 (.slice p n cap) rfl ?_
 simp only [uP]
 have hc3d:w2.drew.cell? ⟨W,3,none⟩ = some (.slice rp Ws.length rcap):=hc3
 refine wpAnyH_ready (rs:=[4,6]) (by kernel_rfl) (by simp) ?_
 refine AllReadyH.cons rfl (fun K hK=>?_) (AllReadyH.cons rfl (fun K hK=>?_) AllReadyH.nil)
 ·rw [if_pos (by rfl)]
  refine wp_valD (.slice rp Ws.length rcap) w2.drew (by go_simp) ?_
  refine hK.out _ _ trivial (fun _=>?_)
  clear hK K
  try simp only [uP]
  refine rdy 6 rfl (fun K hK=>?_)
  rw [if_pos (by rfl)]
  refine wp_append_copy w2.drew (.const (.slice none 0 0)) (.tmp 19) 38 rfl 3 i0 _ 1 8 Tryz.underlying38 hi0 hz0 hz1 hz2 rfl (by omega) (.slice p n cap) n xs rfl rfl hL2 HH1.out (by unfold maxLen; omega) (by omega) ?_
  intro r w3 hr3 hb3 hrb3
  have hb3:Below w2.heap.size w2 w3:=(Below.refl w2.heap.size w2).drew.trans hb3
  have hrb3:∀ b,r.ownBlock = some b→w2.heap.size≤b:=fun b hb=>Nat.le_of_eq (hrb3 b hb).symm
  have hA3:At w3 W (b0 :: b1 :: .slice (some ⟨wg,0,none⟩) (Ws.length+1) wcap' :: .slice rp Ws.length rcap :: X):=At.keep (S:=fun _=>False) HA3w.out (Keep.below hb3) (fun x=>x)
  have hO3:w3.ownsRow 0 38 1 (.slice rp Ws.length rcap) Ws.length Rs:=own_keep (S:=fun _=>False) (own_keep HOr.out HR.out.kp (fun b hb hx=>by
   rcases hx with hx | hx
   ·exact HA2.out b hb hx
   ·exact (HA1.out b hx).2 hb)) (Keep.below hb3) (fun _ _ x=>x)
  refine hK.out _ _ trivial (fun _=>?_)
  clear hK K hc3 hL2 hc3d
  try simp only [uP]
  obtain ⟨rq,rqc,rfl⟩:=hr3.slice
  refine rdy 7 rfl (fun K hK=>?_)
  rw [if_pos (by rfl)]
  have hB4:Below w3.heap.size w3 (w3.alloc (.cells #[.slice rq n rqc] 38)):=(Below.refl _ _).alloc (Nat.le_refl _) _
  refine wp_valD (.slice (some ⟨w3.heap.size,0,none⟩) 1 1) (w3.alloc (.cells #[.slice rq n rqc] 38)) (by kernel_rfl) ?_
  have hA4:At (w3.alloc (.cells #[.slice rq n rqc] 38)) W (b0 :: b1 :: .slice (some ⟨wg,0,none⟩) (Ws.length+1) wcap' :: .slice rp Ws.length rcap :: X):=At.keep (S:=fun _=>False) hA3 (Keep.below hB4) (fun x=>x)
  have hO4:(w3.alloc (.cells #[.slice rq n rqc] 38)).ownsRow 0 38 1 (.slice rp Ws.length rcap) Ws.length Rs:=own_keep (S:=fun _=>False) hO3 (Keep.below hB4) (fun _ _ x=>x)
  have hne4:∀ j u,[Value.slice rq n rqc][j]? = some u→(w3.alloc (.cells #[.slice rq n rqc] 38)).cell? ((⟨w3.heap.size,0,none⟩:Addr).add j) = some u:=fun j u hu=>by
   have:=(At.alloc w3 [.slice rq n rqc] 38 j u hu).1
   rw [Addr.add_lit,Nat.zero_add]
   exact this
  refine hK.out _ _ trivial (fun _=>?_)
  clear hK K hA3 hO3
  try simp only [uP]
  refine rdy 8 rfl (fun K hK=>?_)
  rw [if_pos (by rfl)]
  refine wp_append_at (w3.alloc (.cells #[.slice rq n rqc] 38)) (.tmp 18) (.tmp 21) 62 rfl 0 38 i1 _ 1 24 Tryz.underlying62 hi1 hy0 hy1 hy2 rfl (by omega) (.slice rp Ws.length rcap) Ws.length Rs rfl hO4 ⟨w3.heap.size,0,none⟩ 1 1 _ rfl rfl hne4 (fun u hu=>?_) (by unfold maxLen; omega) (by omega) (Nat.zero_le _) ?_
  ·rw [List.mem_singleton] at hu
   subst hu
   rfl
  intro rv' w4 ho4 hg4 hat4
  have hA5:At w4 W (b0 :: b1 :: .slice (some ⟨wg,0,none⟩) (Ws.length+1) wcap' :: .slice rp Ws.length rcap :: X):=At.keep (S:=fun b=>(Value.slice rp Ws.length rcap).ownBlock = some b) hA4 ⟨hg4.os,hg4.tape,hg4.output,hg4.size,fun b hb hs=>hg4.block b hb (fun e=>hs e.symm)⟩ (fun e=>HA2.out W e rfl)
  refine hK.out _ _ trivial (fun _=>?_)
  clear hK K hA4 hO4 hne4
  try simp only [uP]
  obtain ⟨rg,rcap',rfl,_,_⟩:=ho4.form (by omega)
  refine tka 9 (.pointer (some ⟨W,0,none⟩)) rfl ?_
  simp only [uP]
  refine tka 10 (.pointer (some ⟨W,3,none⟩)) rfl ?_
  simp only [uP]
  have c3:w4.cell? ⟨W,3,none⟩ = some (.slice rp Ws.length rcap):=hA5.cell 3 rfl
  have f3:w4.frozen? ⟨W,3,none⟩ = false:=hA5.free 3 rfl
  have hWl3:W < w3.heap.size:=by have:=HR.out.kp.size; have:=hb3.size; omega
  have ho5:w4.ownsRow 0 38 1 (.slice (some ⟨rg,0,none⟩) (Ws.length+1) rcap') (Rs.length+1) (Rs ++ [.slice rq n rqc]):=by rw [hrl]; exact ho4
  have HE:Hid (CamePost w 38 1 W [b0,b1] X (.slice wp Ws.length wcap) (.slice rp Ws.length rcap) Ws Rs (.slice p n cap) n xs (.returned (.tuple #[])) (w4.setCell ⟨W,3,none⟩ (.slice (some ⟨rg,0,none⟩) (Ws.length+1) rcap'))) :=
   ⟨rfl,_,_,_,hA5.set 3 (by simp) _,came_make hrl hWl HOw.out HOr.out HA1.out HR.out hb3 hr3 hrb3 (row_to hB4 HA2.out hWl3 ho5 hg4 hat4 3 _)⟩
  refine rdy 11 rfl (fun K hK=>?_)
  rw [if_pos (by rfl)]
  refine wp_skipD (w4.setCell ⟨W,3,none⟩ (.slice (some ⟨rg,0,none⟩) (Ws.length+1) rcap')) (by go_simp) ?_
  refine hK.out _ _ trivial (fun _=>?_)
  clear hK K hA5 ho4 ho5 hg4 hat4 c3 f3 hr3 hb3 hrb3 hB4 HOw HOr HL HH1 HA1 HA2 HA3 HX HR HA3w
  refine wpAnyH_done (by kernel_rfl) ?_ _
  go_wp2
  go_end0
  exact HE.out
 ·rw [if_pos (by rfl)]
  refine wp_append_copy w2.drew (.const (.slice none 0 0)) (.tmp 19) 38 rfl 3 i0 _ 1 8 Tryz.underlying38 hi0 hz0 hz1 hz2 rfl (by omega) (.slice p n cap) n xs rfl rfl hL2 HH1.out (by unfold maxLen; omega) (by omega) ?_
  intro r w3 hr3 hb3 hrb3
  have hb3:Below w2.heap.size w2 w3:=(Below.refl w2.heap.size w2).drew.trans hb3
  have hrb3:∀ b,r.ownBlock = some b→w2.heap.size≤b:=fun b hb=>Nat.le_of_eq (hrb3 b hb).symm
  have hA3:At w3 W (b0 :: b1 :: .slice (some ⟨wg,0,none⟩) (Ws.length+1) wcap' :: .slice rp Ws.length rcap :: X):=At.keep (S:=fun _=>False) HA3w.out (Keep.below hb3) (fun x=>x)
  have hO3:w3.ownsRow 0 38 1 (.slice rp Ws.length rcap) Ws.length Rs:=own_keep (S:=fun _=>False) (own_keep HOr.out HR.out.kp (fun b hb hx=>by
   rcases hx with hx | hx
   ·exact HA2.out b hb hx
   ·exact (HA1.out b hx).2 hb)) (Keep.below hb3) (fun _ _ x=>x)
  refine hK.out _ _ trivial (fun _=>?_)
  clear hK K hc3 hL2 hc3d
  try simp only [uP]
  obtain ⟨rq,rqc,rfl⟩:=hr3.slice
  refine wpAnyH_ready (rs:=[4,7]) (by kernel_rfl) (by simp) ?_
  refine AllReadyH.cons rfl (fun K hK=>?_) (AllReadyH.cons rfl (fun K hK=>?_) AllReadyH.nil)
  ·have hc4:w3.cell? ⟨W,3,none⟩ = some (.slice rp Ws.length rcap):=hA3.cell 3 rfl
   rw [if_pos (by rfl)]
   refine wp_valD (.slice rp Ws.length rcap) w3 (by go_simp) ?_
   refine hK.out _ _ trivial (fun _=>?_)
   clear hK K hc4
   try simp only [uP]
   refine rdy 7 rfl (fun K hK=>?_)
   rw [if_pos (by rfl)]
   have hB4:Below w3.heap.size w3 (w3.alloc (.cells #[.slice rq n rqc] 38)):=(Below.refl _ _).alloc (Nat.le_refl _) _
   refine wp_valD (.slice (some ⟨w3.heap.size,0,none⟩) 1 1) (w3.alloc (.cells #[.slice rq n rqc] 38)) (by kernel_rfl) ?_
   have hA4:At (w3.alloc (.cells #[.slice rq n rqc] 38)) W (b0 :: b1 :: .slice (some ⟨wg,0,none⟩) (Ws.length+1) wcap' :: .slice rp Ws.length rcap :: X):=At.keep (S:=fun _=>False) hA3 (Keep.below hB4) (fun x=>x)
   have hO4:(w3.alloc (.cells #[.slice rq n rqc] 38)).ownsRow 0 38 1 (.slice rp Ws.length rcap) Ws.length Rs:=own_keep (S:=fun _=>False) hO3 (Keep.below hB4) (fun _ _ x=>x)
   have hne4:∀ j u,[Value.slice rq n rqc][j]? = some u→(w3.alloc (.cells #[.slice rq n rqc] 38)).cell? ((⟨w3.heap.size,0,none⟩:Addr).add j) = some u:=fun j u hu=>by
    have:=(At.alloc w3 [.slice rq n rqc] 38 j u hu).1
    rw [Addr.add_lit,Nat.zero_add]
    exact this
   refine hK.out _ _ trivial (fun _=>?_)
   clear hK K hA3 hO3
   try simp only [uP]
   refine rdy 8 rfl (fun K hK=>?_)
   rw [if_pos (by rfl)]
   refine wp_append_at (w3.alloc (.cells #[.slice rq n rqc] 38)) (.tmp 18) (.tmp 21) 62 rfl 0 38 i1 _ 1 24 Tryz.underlying62 hi1 hy0 hy1 hy2 rfl (by omega) (.slice rp Ws.length rcap) Ws.length Rs rfl hO4 ⟨w3.heap.size,0,none⟩ 1 1 _ rfl rfl hne4 (fun u hu=>?_) (by unfold maxLen; omega) (by omega) (Nat.zero_le _) ?_
   ·rw [List.mem_singleton] at hu
    subst hu
    rfl
   intro rv' w4 ho4 hg4 hat4
   have hA5:At w4 W (b0 :: b1 :: .slice (some ⟨wg,0,none⟩) (Ws.length+1) wcap' :: .slice rp Ws.length rcap :: X):=At.keep (S:=fun b=>(Value.slice rp Ws.length rcap).ownBlock = some b) hA4 ⟨hg4.os,hg4.tape,hg4.output,hg4.size,fun b hb hs=>hg4.block b hb (fun e=>hs e.symm)⟩ (fun e=>HA2.out W e rfl)
   refine hK.out _ _ trivial (fun _=>?_)
   clear hK K hA4 hO4 hne4
   try simp only [uP]
   obtain ⟨rg,rcap',rfl,_,_⟩:=ho4.form (by omega)
   refine tka 9 (.pointer (some ⟨W,0,none⟩)) rfl ?_
   simp only [uP]
   refine tka 10 (.pointer (some ⟨W,3,none⟩)) rfl ?_
   simp only [uP]
   have c3:w4.cell? ⟨W,3,none⟩ = some (.slice rp Ws.length rcap):=hA5.cell 3 rfl
   have f3:w4.frozen? ⟨W,3,none⟩ = false:=hA5.free 3 rfl
   have hWl3:W < w3.heap.size:=by have:=HR.out.kp.size; have:=hb3.size; omega
   have ho5:w4.ownsRow 0 38 1 (.slice (some ⟨rg,0,none⟩) (Ws.length+1) rcap') (Rs.length+1) (Rs ++ [.slice rq n rqc]):=by rw [hrl]; exact ho4
   have HE:Hid (CamePost w 38 1 W [b0,b1] X (.slice wp Ws.length wcap) (.slice rp Ws.length rcap) Ws Rs (.slice p n cap) n xs (.returned (.tuple #[])) (w4.setCell ⟨W,3,none⟩ (.slice (some ⟨rg,0,none⟩) (Ws.length+1) rcap'))) :=
    ⟨rfl,_,_,_,hA5.set 3 (by simp) _,came_make hrl hWl HOw.out HOr.out HA1.out HR.out hb3 hr3 hrb3 (row_to hB4 HA2.out hWl3 ho5 hg4 hat4 3 _)⟩
   refine rdy 11 rfl (fun K hK=>?_)
   rw [if_pos (by rfl)]
   refine wp_skipD (w4.setCell ⟨W,3,none⟩ (.slice (some ⟨rg,0,none⟩) (Ws.length+1) rcap')) (by go_simp) ?_
   refine hK.out _ _ trivial (fun _=>?_)
   clear hK K hA5 ho4 ho5 hg4 hat4 c3 f3 hr3 hb3 hrb3 hB4 HOw HOr HL HH1 HA1 HA2 HA3 HX HR HA3w
   refine wpAnyH_done (by kernel_rfl) ?_ _
   go_wp2
   go_end0
   exact HE.out
  ·rw [if_pos (by rfl)]
   have hB4:Below w3.heap.size w3 (w3.alloc (.cells #[.slice rq n rqc] 38)):=(Below.refl _ _).alloc (Nat.le_refl _) _
   refine wp_valD (.slice (some ⟨w3.heap.size,0,none⟩) 1 1) (w3.alloc (.cells #[.slice rq n rqc] 38)) (by kernel_rfl) ?_
   have hA4:At (w3.alloc (.cells #[.slice rq n rqc] 38)) W (b0 :: b1 :: .slice (some ⟨wg,0,none⟩) (Ws.length+1) wcap' :: .slice rp Ws.length rcap :: X):=At.keep (S:=fun _=>False) hA3 (Keep.below hB4) (fun x=>x)
   have hO4:(w3.alloc (.cells #[.slice rq n rqc] 38)).ownsRow 0 38 1 (.slice rp Ws.length rcap) Ws.length Rs:=own_keep (S:=fun _=>False) hO3 (Keep.below hB4) (fun _ _ x=>x)
   have hne4:∀ j u,[Value.slice rq n rqc][j]? = some u→(w3.alloc (.cells #[.slice rq n rqc] 38)).cell? ((⟨w3.heap.size,0,none⟩:Addr).add j) = some u:=fun j u hu=>by
    have:=(At.alloc w3 [.slice rq n rqc] 38 j u hu).1
    rw [Addr.add_lit,Nat.zero_add]
    exact this
   refine hK.out _ _ trivial (fun _=>?_)
   clear hK K hA3 hO3
   try simp only [uP]
   have hc5:(w3.alloc (.cells #[.slice rq n rqc] 38)).cell? ⟨W,3,none⟩ = some (.slice rp Ws.length rcap):=hA4.cell 3 rfl
   refine rdy 4 rfl (fun K hK=>?_)
   rw [if_pos (by rfl)]
   refine wp_valD (.slice rp Ws.length rcap) (w3.alloc (.cells #[.slice rq n rqc] 38)) (by go_simp) ?_
   refine hK.out _ _ trivial (fun _=>?_)
   clear hK K hc5
   try simp only [uP]
   refine rdy 8 rfl (fun K hK=>?_)
   rw [if_pos (by rfl)]
   refine wp_append_at (w3.alloc (.cells #[.slice rq n rqc] 38)) (.tmp 18) (.tmp 21) 62 rfl 0 38 i1 _ 1 24 Tryz.underlying62 hi1 hy0 hy1 hy2 rfl (by omega) (.slice rp Ws.length rcap) Ws.length Rs rfl hO4 ⟨w3.heap.size,0,none⟩ 1 1 _ rfl rfl hne4 (fun u hu=>?_) (by unfold maxLen; omega) (by omega) (Nat.zero_le _) ?_
   ·rw [List.mem_singleton] at hu
    subst hu
    rfl
   intro rv' w4 ho4 hg4 hat4
   have hA5:At w4 W (b0 :: b1 :: .slice (some ⟨wg,0,none⟩) (Ws.length+1) wcap' :: .slice rp Ws.length rcap :: X):=At.keep (S:=fun b=>(Value.slice rp Ws.length rcap).ownBlock = some b) hA4 ⟨hg4.os,hg4.tape,hg4.output,hg4.size,fun b hb hs=>hg4.block b hb (fun e=>hs e.symm)⟩ (fun e=>HA2.out W e rfl)
   refine hK.out _ _ trivial (fun _=>?_)
   clear hK K hA4 hO4 hne4
   try simp only [uP]
   obtain ⟨rg,rcap',rfl,_,_⟩:=ho4.form (by omega)
   refine tka 9 (.pointer (some ⟨W,0,none⟩)) rfl ?_
   simp only [uP]
   refine tka 10 (.pointer (some ⟨W,3,none⟩)) rfl ?_
   simp only [uP]
   have c3:w4.cell? ⟨W,3,none⟩ = some (.slice rp Ws.length rcap):=hA5.cell 3 rfl
   have f3:w4.frozen? ⟨W,3,none⟩ = false:=hA5.free 3 rfl
   have hWl3:W < w3.heap.size:=by have:=HR.out.kp.size; have:=hb3.size; omega
   have ho5:w4.ownsRow 0 38 1 (.slice (some ⟨rg,0,none⟩) (Ws.length+1) rcap') (Rs.length+1) (Rs ++ [.slice rq n rqc]):=by rw [hrl]; exact ho4
   have HE:Hid (CamePost w 38 1 W [b0,b1] X (.slice wp Ws.length wcap) (.slice rp Ws.length rcap) Ws Rs (.slice p n cap) n xs (.returned (.tuple #[])) (w4.setCell ⟨W,3,none⟩ (.slice (some ⟨rg,0,none⟩) (Ws.length+1) rcap'))) :=
    ⟨rfl,_,_,_,hA5.set 3 (by simp) _,came_make hrl hWl HOw.out HOr.out HA1.out HR.out hb3 hr3 hrb3 (row_to hB4 HA2.out hWl3 ho5 hg4 hat4 3 _)⟩
   refine rdy 11 rfl (fun K hK=>?_)
   rw [if_pos (by rfl)]
   refine wp_skipD (w4.setCell ⟨W,3,none⟩ (.slice (some ⟨rg,0,none⟩) (Ws.length+1) rcap')) (by go_simp) ?_
   refine hK.out _ _ trivial (fun _=>?_)
   clear hK K hA5 ho4 ho5 hg4 hat4 c3 f3 hr3 hb3 hrb3 hB4 HOw HOr HL HH1 HA1 HA2 HA3 HX HR HA3w
   refine wpAnyH_done (by kernel_rfl) ?_ _
   go_wp2
   go_end0
   exact HE.out
set_option maxRecDepth 10000 in
set_option maxHeartbeats 4000000 in
theorem told_core (w:World) (W:Nat) (X:List Value) (b0 b1 b2 b3 wv rv l:Value) (Ws Rs:List Value) (n:Nat) (xs:List Value) (hX:At w W (b0 :: b1 :: b2 :: b3 :: wv :: rv :: X)) (how:w.ownsRow 0 54 1 wv Ws.length Ws) (hor:w.ownsRow 0 54 1 rv Ws.length Rs) (hl:OwT w 3 l n xs) (h1c:∀ u∈xs,u.oneCell' = true) (hWs:Ws.length≤1000000000) (hn:n≤4000000000000) (a1:∀ b,wv.ownBlock = some b→¬ b = W∧¬ rv.ownBlock = some b) (a2:∀ b,rv.ownBlock = some b→¬ b = W) (a3:∀ b,l.ownBlock = some b→¬ b = W∧¬ wv.ownBlock = some b) :
  Calls Tryz.prog 67 #[.pointer (some ⟨W,0,none⟩),l] w (CamePost w 54 3 W [b0,b1,b2,b3] X wv rv Ws Rs l n xs):=by
 obtain ⟨i0,hi0,hz0,hz1,hz2⟩:=info_parts bsE
 obtain ⟨i1,hi1,hy0,hy1,hy2⟩:=info_parts bsEs
 have hrl:Rs.length = Ws.length:=by have:=hor.1; omega
 obtain ⟨wp,wcap,rfl⟩:=own_slice how
 obtain ⟨rp,rcap,rfl⟩:=own_slice hor
 have hWl:W < w.heap.size:=At.lt hX
 have HX:=hid hX
 have HOw:=hid how
 have HOr:=hid hor
 have HL:=hid hl
 have HH1:=hid h1c
 have HA1:=hid a1
 have HA2:=hid a2
 have HA3:=hid a3
 obtain ⟨p,cap,rfl⟩:=hl.slice
 have c2:w.cell? ⟨W,4,none⟩ = some (.slice wp Ws.length wcap):=hX.cell 4 rfl
 have hB1:Below w.heap.size w (w.alloc (.cells #[.slice p n cap] 54)):=(Below.refl _ _).alloc (Nat.le_refl _) _
 have hO1:(w.alloc (.cells #[.slice p n cap] 54)).ownsRow 0 54 1 (.slice wp Ws.length wcap) Ws.length Ws:=own_keep (S:=fun _=>False) how (Keep.below hB1) (fun _ _ x=>x)
 have hA1:At (w.alloc (.cells #[.slice p n cap] 54)) W (b0 :: b1 :: b2 :: b3 :: .slice wp Ws.length wcap :: .slice rp Ws.length rcap :: X):=At.keep (S:=fun _=>False) hX (Keep.below hB1) (fun x=>x)
 have hne1:∀ j u,[Value.slice p n cap][j]? = some u→(w.alloc (.cells #[.slice p n cap] 54)).cell? ((⟨w.heap.size,0,none⟩:Addr).add j) = some u:=fun j u hu=>by
  have:=(At.alloc w [.slice p n cap] 54 j u hu).1
  rw [Addr.add_lit,Nat.zero_add]
  exact this
 clear hX how hor hl h1c a1 a2 a3
 go_enter Tryz.func67,Tryz.ntmps67
 go_upto_region 0 with fail
 refine wp_region_lit ?_
 refine wpList_val (.pointer (some ⟨W,0,none⟩)) w rfl rfl ?_
 simp only [uP]
 refine wpList_val (.pointer (some ⟨W,0,none⟩)) w rfl rfl ?_
 simp only [uP]
 refine wpList_val (.pointer (some ⟨W,0,none⟩)) w rfl (by go_simp) ?_
 simp only [uP]
 refine wpList_val (.pointer (some ⟨W,4,none⟩)) w rfl (by go_simp) ?_
 simp only [uP]
 refine wpList_val (.slice wp Ws.length wcap) w rfl (by go_simp) ?_
 simp only [uP]
 refine wpList_val (.slice p n cap) w rfl rfl ?_
 simp only [uP]
 refine wpList_val (.slice (some ⟨w.heap.size,0,none⟩) 1 1) (w.alloc (.cells #[.slice p n cap] 54)) rfl (by kernel_rfl) ?_
 simp only [uP]
 refine wpList_append_own_at _ rfl (.tmp 8) (.tmp 10) 63 rfl 0 54 i1 _ 1 24 Tryz.underlying63 hi1 hy0 hy1 hy2 rfl (by omega) _ Ws.length Ws rfl hO1 ⟨w.heap.size,0,none⟩ 1 1 _ rfl rfl hne1 (fun u hu=>?_) (by unfold maxLen; omega) (by omega) (Nat.zero_le _) ?_
 ·rw [List.mem_singleton] at hu
  subst hu
  rfl
 intro wv' w1 ho1 hg1 _ hat1
 have hA2:At w1 W (b0 :: b1 :: b2 :: b3 :: .slice wp Ws.length wcap :: .slice rp Ws.length rcap :: X):=At.keep (S:=fun b=>(Value.slice wp Ws.length wcap).ownBlock = some b) hA1 ⟨hg1.os,hg1.tape,hg1.output,hg1.size,fun b hb hs=>hg1.block b hb (fun e=>hs e.symm)⟩ (fun e=>(HA1.out W e).1 rfl)
 obtain ⟨wg,wcap',rfl,_,_⟩:=ho1.form (by omega)
 have c2:w1.cell? ⟨W,4,none⟩ = some (.slice wp Ws.length wcap):=hA2.cell 4 rfl
 have f2:w1.frozen? ⟨W,4,none⟩ = false:=hA2.free 4 rfl
 have HR:Hid (RowTo w 54 W (.slice wp Ws.length wcap) Ws (.slice p n cap) (.slice (some ⟨wg,0,none⟩) (Ws.length+1) wcap') (w1.setCell ⟨W,4,none⟩ (.slice (some ⟨wg,0,none⟩) (Ws.length+1) wcap'))):=row_to hB1 (fun b hb=>(HA1.out b hb).1) hWl ho1 hg1 hat1 4 _
 have HA3w:Hid (At (w1.setCell ⟨W,4,none⟩ (.slice (some ⟨wg,0,none⟩) (Ws.length+1) wcap')) W (b0 :: b1 :: b2 :: b3 :: .slice (some ⟨wg,0,none⟩) (Ws.length+1) wcap' :: .slice rp Ws.length rcap :: X)):=hA2.set 4 (by simp) _
 clear hA2 hA1 hO1 hne1 hB1 ho1 hg1 hat1
 simp only [uP]
 go_upto_region 1 with fail
 clear c2 f2
 generalize w1.setCell ⟨W,4,none⟩ (.slice (some ⟨wg,0,none⟩) (Ws.length+1) wcap') = w2 at *
 have hc3:w2.cell? ⟨W,5,none⟩ = some (.slice rp Ws.length rcap):=HA3w.out.cell 5 rfl
 have hL2:OwT w2 3 (.slice p n cap) n xs:=HL.out.keep HR.out.kp (fun b hb hx=>by
  rcases hx with hx | hx
  ·exact (HA3.out b hb).1 hx
  ·exact (HA3.out b hb).2 hx)
 refine wp_region_held_drew (S:=fun _=>True) (by kernel_rfl) trivial (fun hHeld=>?_)
 refine tkk 0 (.pointer (some ⟨W,0,none⟩)) rfl ?_
 simp only [uP]
 refine tkk 1 (.pointer (some ⟨W,0,none⟩)) rfl ?_
 simp only [uP]
 refine tka 2 (.pointer (some ⟨W,0,none⟩)) rfl ?_
 simp only [uP]
 refine tka 3 (.pointer (some ⟨W,5,none⟩)) rfl ?_
 simp only [uP]
 refine tkk 5 (.slice p n cap) rfl ?_
 simp only [uP]
 have hc3d:w2.drew.cell? ⟨W,5,none⟩ = some (.slice rp Ws.length rcap):=hc3
 refine wpAnyH_ready (rs:=[4,6]) (by kernel_rfl) (by simp) ?_
 refine AllReadyH.cons rfl (fun K hK=>?_) (AllReadyH.cons rfl (fun K hK=>?_) AllReadyH.nil)
 ·rw [if_pos (by rfl)]
  refine wp_valD (.slice rp Ws.length rcap) w2.drew (by go_simp) ?_
  refine hK.out _ _ trivial (fun _=>?_)
  clear hK K
  try simp only [uP]
  refine rdy 6 rfl (fun K hK=>?_)
  rw [if_pos (by rfl)]
  refine wp_append_copy w2.drew (.const (.slice none 0 0)) (.tmp 19) 54 rfl 114 i0 _ 3 24 Tryz.underlying54 hi0 hz0 hz1 hz2 rfl (by omega) (.slice p n cap) n xs rfl rfl hL2 HH1.out (by unfold maxLen; omega) (by omega) ?_
  intro r w3 hr3 hb3 hrb3
  have hb3:Below w2.heap.size w2 w3:=(Below.refl w2.heap.size w2).drew.trans hb3
  have hrb3:∀ b,r.ownBlock = some b→w2.heap.size≤b:=fun b hb=>Nat.le_of_eq (hrb3 b hb).symm
  have hA3:At w3 W (b0 :: b1 :: b2 :: b3 :: .slice (some ⟨wg,0,none⟩) (Ws.length+1) wcap' :: .slice rp Ws.length rcap :: X):=At.keep (S:=fun _=>False) HA3w.out (Keep.below hb3) (fun x=>x)
  have hO3:w3.ownsRow 0 54 1 (.slice rp Ws.length rcap) Ws.length Rs:=own_keep (S:=fun _=>False) (own_keep HOr.out HR.out.kp (fun b hb hx=>by
   rcases hx with hx | hx
   ·exact HA2.out b hb hx
   ·exact (HA1.out b hx).2 hb)) (Keep.below hb3) (fun _ _ x=>x)
  refine hK.out _ _ trivial (fun _=>?_)
  clear hK K hc3 hL2 hc3d
  try simp only [uP]
  obtain ⟨rq,rqc,rfl⟩:=hr3.slice
  refine rdy 7 rfl (fun K hK=>?_)
  rw [if_pos (by rfl)]
  have hB4:Below w3.heap.size w3 (w3.alloc (.cells #[.slice rq n rqc] 54)):=(Below.refl _ _).alloc (Nat.le_refl _) _
  refine wp_valD (.slice (some ⟨w3.heap.size,0,none⟩) 1 1) (w3.alloc (.cells #[.slice rq n rqc] 54)) (by kernel_rfl) ?_
  have hA4:At (w3.alloc (.cells #[.slice rq n rqc] 54)) W (b0 :: b1 :: b2 :: b3 :: .slice (some ⟨wg,0,none⟩) (Ws.length+1) wcap' :: .slice rp Ws.length rcap :: X):=At.keep (S:=fun _=>False) hA3 (Keep.below hB4) (fun x=>x)
  have hO4:(w3.alloc (.cells #[.slice rq n rqc] 54)).ownsRow 0 54 1 (.slice rp Ws.length rcap) Ws.length Rs:=own_keep (S:=fun _=>False) hO3 (Keep.below hB4) (fun _ _ x=>x)
  have hne4:∀ j u,[Value.slice rq n rqc][j]? = some u→(w3.alloc (.cells #[.slice rq n rqc] 54)).cell? ((⟨w3.heap.size,0,none⟩:Addr).add j) = some u:=fun j u hu=>by
   have:=(At.alloc w3 [.slice rq n rqc] 54 j u hu).1
   rw [Addr.add_lit,Nat.zero_add]
   exact this
  refine hK.out _ _ trivial (fun _=>?_)
  clear hK K hA3 hO3
  try simp only [uP]
  refine rdy 8 rfl (fun K hK=>?_)
  rw [if_pos (by rfl)]
  refine wp_append_at (w3.alloc (.cells #[.slice rq n rqc] 54)) (.tmp 18) (.tmp 21) 63 rfl 0 54 i1 _ 1 24 Tryz.underlying63 hi1 hy0 hy1 hy2 rfl (by omega) (.slice rp Ws.length rcap) Ws.length Rs rfl hO4 ⟨w3.heap.size,0,none⟩ 1 1 _ rfl rfl hne4 (fun u hu=>?_) (by unfold maxLen; omega) (by omega) (Nat.zero_le _) ?_
  ·rw [List.mem_singleton] at hu
   subst hu
   rfl
  intro rv' w4 ho4 hg4 hat4
  have hA5:At w4 W (b0 :: b1 :: b2 :: b3 :: .slice (some ⟨wg,0,none⟩) (Ws.length+1) wcap' :: .slice rp Ws.length rcap :: X):=At.keep (S:=fun b=>(Value.slice rp Ws.length rcap).ownBlock = some b) hA4 ⟨hg4.os,hg4.tape,hg4.output,hg4.size,fun b hb hs=>hg4.block b hb (fun e=>hs e.symm)⟩ (fun e=>HA2.out W e rfl)
  refine hK.out _ _ trivial (fun _=>?_)
  clear hK K hA4 hO4 hne4
  try simp only [uP]
  obtain ⟨rg,rcap',rfl,_,_⟩:=ho4.form (by omega)
  refine tka 9 (.pointer (some ⟨W,0,none⟩)) rfl ?_
  simp only [uP]
  refine tka 10 (.pointer (some ⟨W,5,none⟩)) rfl ?_
  simp only [uP]
  have c3:w4.cell? ⟨W,5,none⟩ = some (.slice rp Ws.length rcap):=hA5.cell 5 rfl
  have f3:w4.frozen? ⟨W,5,none⟩ = false:=hA5.free 5 rfl
  have hWl3:W < w3.heap.size:=by have:=HR.out.kp.size; have:=hb3.size; omega
  have ho5:w4.ownsRow 0 54 1 (.slice (some ⟨rg,0,none⟩) (Ws.length+1) rcap') (Rs.length+1) (Rs ++ [.slice rq n rqc]):=by rw [hrl]; exact ho4
  have HE:Hid (CamePost w 54 3 W [b0,b1,b2,b3] X (.slice wp Ws.length wcap) (.slice rp Ws.length rcap) Ws Rs (.slice p n cap) n xs (.returned (.tuple #[])) (w4.setCell ⟨W,5,none⟩ (.slice (some ⟨rg,0,none⟩) (Ws.length+1) rcap'))) :=
   ⟨rfl,_,_,_,hA5.set 5 (by simp) _,came_make hrl hWl HOw.out HOr.out HA1.out HR.out hb3 hr3 hrb3 (row_to hB4 HA2.out hWl3 ho5 hg4 hat4 5 _)⟩
  refine rdy 11 rfl (fun K hK=>?_)
  rw [if_pos (by rfl)]
  refine wp_skipD (w4.setCell ⟨W,5,none⟩ (.slice (some ⟨rg,0,none⟩) (Ws.length+1) rcap')) (by go_simp) ?_
  refine hK.out _ _ trivial (fun _=>?_)
  clear hK K hA5 ho4 ho5 hg4 hat4 c3 f3 hr3 hb3 hrb3 hB4 HOw HOr HL HH1 HA1 HA2 HA3 HX HR HA3w
  refine wpAnyH_done (by kernel_rfl) ?_ _
  go_wp2
  go_end0
  exact HE.out
 ·rw [if_pos (by rfl)]
  refine wp_append_copy w2.drew (.const (.slice none 0 0)) (.tmp 19) 54 rfl 114 i0 _ 3 24 Tryz.underlying54 hi0 hz0 hz1 hz2 rfl (by omega) (.slice p n cap) n xs rfl rfl hL2 HH1.out (by unfold maxLen; omega) (by omega) ?_
  intro r w3 hr3 hb3 hrb3
  have hb3:Below w2.heap.size w2 w3:=(Below.refl w2.heap.size w2).drew.trans hb3
  have hrb3:∀ b,r.ownBlock = some b→w2.heap.size≤b:=fun b hb=>Nat.le_of_eq (hrb3 b hb).symm
  have hA3:At w3 W (b0 :: b1 :: b2 :: b3 :: .slice (some ⟨wg,0,none⟩) (Ws.length+1) wcap' :: .slice rp Ws.length rcap :: X):=At.keep (S:=fun _=>False) HA3w.out (Keep.below hb3) (fun x=>x)
  have hO3:w3.ownsRow 0 54 1 (.slice rp Ws.length rcap) Ws.length Rs:=own_keep (S:=fun _=>False) (own_keep HOr.out HR.out.kp (fun b hb hx=>by
   rcases hx with hx | hx
   ·exact HA2.out b hb hx
   ·exact (HA1.out b hx).2 hb)) (Keep.below hb3) (fun _ _ x=>x)
  refine hK.out _ _ trivial (fun _=>?_)
  clear hK K hc3 hL2 hc3d
  try simp only [uP]
  obtain ⟨rq,rqc,rfl⟩:=hr3.slice
  refine wpAnyH_ready (rs:=[4,7]) (by kernel_rfl) (by simp) ?_
  refine AllReadyH.cons rfl (fun K hK=>?_) (AllReadyH.cons rfl (fun K hK=>?_) AllReadyH.nil)
  ·have hc4:w3.cell? ⟨W,5,none⟩ = some (.slice rp Ws.length rcap):=hA3.cell 5 rfl
   rw [if_pos (by rfl)]
   refine wp_valD (.slice rp Ws.length rcap) w3 (by go_simp) ?_
   refine hK.out _ _ trivial (fun _=>?_)
   clear hK K hc4
   try simp only [uP]
   refine rdy 7 rfl (fun K hK=>?_)
   rw [if_pos (by rfl)]
   have hB4:Below w3.heap.size w3 (w3.alloc (.cells #[.slice rq n rqc] 54)):=(Below.refl _ _).alloc (Nat.le_refl _) _
   refine wp_valD (.slice (some ⟨w3.heap.size,0,none⟩) 1 1) (w3.alloc (.cells #[.slice rq n rqc] 54)) (by kernel_rfl) ?_
   have hA4:At (w3.alloc (.cells #[.slice rq n rqc] 54)) W (b0 :: b1 :: b2 :: b3 :: .slice (some ⟨wg,0,none⟩) (Ws.length+1) wcap' :: .slice rp Ws.length rcap :: X):=At.keep (S:=fun _=>False) hA3 (Keep.below hB4) (fun x=>x)
   have hO4:(w3.alloc (.cells #[.slice rq n rqc] 54)).ownsRow 0 54 1 (.slice rp Ws.length rcap) Ws.length Rs:=own_keep (S:=fun _=>False) hO3 (Keep.below hB4) (fun _ _ x=>x)
   have hne4:∀ j u,[Value.slice rq n rqc][j]? = some u→(w3.alloc (.cells #[.slice rq n rqc] 54)).cell? ((⟨w3.heap.size,0,none⟩:Addr).add j) = some u:=fun j u hu=>by
    have:=(At.alloc w3 [.slice rq n rqc] 54 j u hu).1
    rw [Addr.add_lit,Nat.zero_add]
    exact this
   refine hK.out _ _ trivial (fun _=>?_)
   clear hK K hA3 hO3
   try simp only [uP]
   refine rdy 8 rfl (fun K hK=>?_)
   rw [if_pos (by rfl)]
   refine wp_append_at (w3.alloc (.cells #[.slice rq n rqc] 54)) (.tmp 18) (.tmp 21) 63 rfl 0 54 i1 _ 1 24 Tryz.underlying63 hi1 hy0 hy1 hy2 rfl (by omega) (.slice rp Ws.length rcap) Ws.length Rs rfl hO4 ⟨w3.heap.size,0,none⟩ 1 1 _ rfl rfl hne4 (fun u hu=>?_) (by unfold maxLen; omega) (by omega) (Nat.zero_le _) ?_
   ·rw [List.mem_singleton] at hu
    subst hu
    rfl
   intro rv' w4 ho4 hg4 hat4
   have hA5:At w4 W (b0 :: b1 :: b2 :: b3 :: .slice (some ⟨wg,0,none⟩) (Ws.length+1) wcap' :: .slice rp Ws.length rcap :: X):=At.keep (S:=fun b=>(Value.slice rp Ws.length rcap).ownBlock = some b) hA4 ⟨hg4.os,hg4.tape,hg4.output,hg4.size,fun b hb hs=>hg4.block b hb (fun e=>hs e.symm)⟩ (fun e=>HA2.out W e rfl)
   refine hK.out _ _ trivial (fun _=>?_)
   clear hK K hA4 hO4 hne4
   try simp only [uP]
   obtain ⟨rg,rcap',rfl,_,_⟩:=ho4.form (by omega)
   refine tka 9 (.pointer (some ⟨W,0,none⟩)) rfl ?_
   simp only [uP]
   refine tka 10 (.pointer (some ⟨W,5,none⟩)) rfl ?_
   simp only [uP]
   have c3:w4.cell? ⟨W,5,none⟩ = some (.slice rp Ws.length rcap):=hA5.cell 5 rfl
   have f3:w4.frozen? ⟨W,5,none⟩ = false:=hA5.free 5 rfl
   have hWl3:W < w3.heap.size:=by have:=HR.out.kp.size; have:=hb3.size; omega
   have ho5:w4.ownsRow 0 54 1 (.slice (some ⟨rg,0,none⟩) (Ws.length+1) rcap') (Rs.length+1) (Rs ++ [.slice rq n rqc]):=by rw [hrl]; exact ho4
   have HE:Hid (CamePost w 54 3 W [b0,b1,b2,b3] X (.slice wp Ws.length wcap) (.slice rp Ws.length rcap) Ws Rs (.slice p n cap) n xs (.returned (.tuple #[])) (w4.setCell ⟨W,5,none⟩ (.slice (some ⟨rg,0,none⟩) (Ws.length+1) rcap'))) :=
    ⟨rfl,_,_,_,hA5.set 5 (by simp) _,came_make hrl hWl HOw.out HOr.out HA1.out HR.out hb3 hr3 hrb3 (row_to hB4 HA2.out hWl3 ho5 hg4 hat4 5 _)⟩
   refine rdy 11 rfl (fun K hK=>?_)
   rw [if_pos (by rfl)]
   refine wp_skipD (w4.setCell ⟨W,5,none⟩ (.slice (some ⟨rg,0,none⟩) (Ws.length+1) rcap')) (by go_simp) ?_
   refine hK.out _ _ trivial (fun _=>?_)
   clear hK K hA5 ho4 ho5 hg4 hat4 c3 f3 hr3 hb3 hrb3 hB4 HOw HOr HL HH1 HA1 HA2 HA3 HX HR HA3w
   refine wpAnyH_done (by kernel_rfl) ?_ _
   go_wp2
   go_end0
   exact HE.out
  ·rw [if_pos (by rfl)]
   have hB4:Below w3.heap.size w3 (w3.alloc (.cells #[.slice rq n rqc] 54)):=(Below.refl _ _).alloc (Nat.le_refl _) _
   refine wp_valD (.slice (some ⟨w3.heap.size,0,none⟩) 1 1) (w3.alloc (.cells #[.slice rq n rqc] 54)) (by kernel_rfl) ?_
   have hA4:At (w3.alloc (.cells #[.slice rq n rqc] 54)) W (b0 :: b1 :: b2 :: b3 :: .slice (some ⟨wg,0,none⟩) (Ws.length+1) wcap' :: .slice rp Ws.length rcap :: X):=At.keep (S:=fun _=>False) hA3 (Keep.below hB4) (fun x=>x)
   have hO4:(w3.alloc (.cells #[.slice rq n rqc] 54)).ownsRow 0 54 1 (.slice rp Ws.length rcap) Ws.length Rs:=own_keep (S:=fun _=>False) hO3 (Keep.below hB4) (fun _ _ x=>x)
   have hne4:∀ j u,[Value.slice rq n rqc][j]? = some u→(w3.alloc (.cells #[.slice rq n rqc] 54)).cell? ((⟨w3.heap.size,0,none⟩:Addr).add j) = some u:=fun j u hu=>by
    have:=(At.alloc w3 [.slice rq n rqc] 54 j u hu).1
    rw [Addr.add_lit,Nat.zero_add]
    exact this
   refine hK.out _ _ trivial (fun _=>?_)
   clear hK K hA3 hO3
   try simp only [uP]
   have hc5:(w3.alloc (.cells #[.slice rq n rqc] 54)).cell? ⟨W,5,none⟩ = some (.slice rp Ws.length rcap):=hA4.cell 5 rfl
   refine rdy 4 rfl (fun K hK=>?_)
   rw [if_pos (by rfl)]
   refine wp_valD (.slice rp Ws.length rcap) (w3.alloc (.cells #[.slice rq n rqc] 54)) (by go_simp) ?_
   refine hK.out _ _ trivial (fun _=>?_)
   clear hK K hc5
   try simp only [uP]
   refine rdy 8 rfl (fun K hK=>?_)
   rw [if_pos (by rfl)]
   refine wp_append_at (w3.alloc (.cells #[.slice rq n rqc] 54)) (.tmp 18) (.tmp 21) 63 rfl 0 54 i1 _ 1 24 Tryz.underlying63 hi1 hy0 hy1 hy2 rfl (by omega) (.slice rp Ws.length rcap) Ws.length Rs rfl hO4 ⟨w3.heap.size,0,none⟩ 1 1 _ rfl rfl hne4 (fun u hu=>?_) (by unfold maxLen; omega) (by omega) (Nat.zero_le _) ?_
   ·rw [List.mem_singleton] at hu
    subst hu
    rfl
   intro rv' w4 ho4 hg4 hat4
   have hA5:At w4 W (b0 :: b1 :: b2 :: b3 :: .slice (some ⟨wg,0,none⟩) (Ws.length+1) wcap' :: .slice rp Ws.length rcap :: X):=At.keep (S:=fun b=>(Value.slice rp Ws.length rcap).ownBlock = some b) hA4 ⟨hg4.os,hg4.tape,hg4.output,hg4.size,fun b hb hs=>hg4.block b hb (fun e=>hs e.symm)⟩ (fun e=>HA2.out W e rfl)
   refine hK.out _ _ trivial (fun _=>?_)
   clear hK K hA4 hO4 hne4
   try simp only [uP]
   obtain ⟨rg,rcap',rfl,_,_⟩:=ho4.form (by omega)
   refine tka 9 (.pointer (some ⟨W,0,none⟩)) rfl ?_
   simp only [uP]
   refine tka 10 (.pointer (some ⟨W,5,none⟩)) rfl ?_
   simp only [uP]
   have c3:w4.cell? ⟨W,5,none⟩ = some (.slice rp Ws.length rcap):=hA5.cell 5 rfl
   have f3:w4.frozen? ⟨W,5,none⟩ = false:=hA5.free 5 rfl
   have hWl3:W < w3.heap.size:=by have:=HR.out.kp.size; have:=hb3.size; omega
   have ho5:w4.ownsRow 0 54 1 (.slice (some ⟨rg,0,none⟩) (Ws.length+1) rcap') (Rs.length+1) (Rs ++ [.slice rq n rqc]):=by rw [hrl]; exact ho4
   have HE:Hid (CamePost w 54 3 W [b0,b1,b2,b3] X (.slice wp Ws.length wcap) (.slice rp Ws.length rcap) Ws Rs (.slice p n cap) n xs (.returned (.tuple #[])) (w4.setCell ⟨W,5,none⟩ (.slice (some ⟨rg,0,none⟩) (Ws.length+1) rcap'))) :=
    ⟨rfl,_,_,_,hA5.set 5 (by simp) _,came_make hrl hWl HOw.out HOr.out HA1.out HR.out hb3 hr3 hrb3 (row_to hB4 HA2.out hWl3 ho5 hg4 hat4 5 _)⟩
   refine rdy 11 rfl (fun K hK=>?_)
   rw [if_pos (by rfl)]
   refine wp_skipD (w4.setCell ⟨W,5,none⟩ (.slice (some ⟨rg,0,none⟩) (Ws.length+1) rcap')) (by go_simp) ?_
   refine hK.out _ _ trivial (fun _=>?_)
   clear hK K hA5 ho4 ho5 hg4 hat4 c3 f3 hr3 hb3 hrb3 hB4 HOw HOr HL HH1 HA1 HA2 HA3 HX HR HA3w
   refine wpAnyH_done (by kernel_rfl) ?_ _
   go_wp2
   go_end0
   exact HE.out
end Go.Proofs.YtanndhoimpnhpaaGreatDoor
namespace Go.Proofs.YtanndhoimpnhpaaGreatDoor
open Go.ChangeShapes Go.WideShapes Go.ChangeAt Go.RowKit Lg Cal
def ptrs (b o:Nat):Nat→List Value
 | 0=>[]
 | n+1=>ptrs b o n ++ [.pointer (some ⟨b,o+n,none⟩)]
theorem ptrs_len (b o:Nat):∀ n,(ptrs b o n).length = n
 | 0=>rfl
 | n+1=>by simp [ptrs,ptrs_len b o n]
theorem ptrs_at (b o:Nat):∀ n k,k < n→(ptrs b o n)[k]? = some (.pointer (some ⟨b,o+k,none⟩))
 | 0,_,h=>absurd h (Nat.not_lt_zero _)
 | n+1,k,h=>by
  rw [ptrs]
  rcases Nat.lt_or_ge k n with h1 | h1
  ·rw [List.getElem?_append_left (by rw [ptrs_len]; exact h1)]
   exact ptrs_at b o n k h1
  ·obtain rfl:k = n:=by omega
   rw [List.getElem?_append_right (by rw [ptrs_len]; exact Nat.le_refl _),ptrs_len,Nat.sub_self]
   rfl
theorem Nm.made {w:World} {W b o:Nat} {ns:List Int} (hc:∀ k (hk:k < ns.length),w.cell? ⟨b,o+k,none⟩ = some (.int .i64 ns[k])) (hs:Sf w W b) (hb:b < w.heap.size) (hW:W < w.heap.size) :
  Nm (w.drew.alloc (.cells (ptrs b o ns.length).toArray 110)) W (.slice (some ⟨w.heap.size,0,none⟩) ns.length ns.length) ns∧Wf W w (w.drew.alloc (.cells (ptrs b o ns.length).toArray 110)):=by
 have hB:Below w.heap.size w (w.drew.alloc (.cells (ptrs b o ns.length).toArray 110)):=(Below.refl _ _).drew.alloc (Nat.le_refl _) _
 have hf:Wf W w (w.drew.alloc (.cells (ptrs b o ns.length).toArray 110)):=Wf.below hB (Nat.le_of_lt hW)
 refine ⟨⟨_,_,rfl,Nat.le_refl _,fun k hk=>⟨w.heap.size,0,b,o+k,rfl,?_,?_,?_,hs.keep hf⟩⟩,hf⟩
 ·rw [Nat.zero_add]
  exact (At.alloc w.drew (ptrs b o ns.length) 110 k _ (ptrs_at b o ns.length k hk)).1
 ·exact (World.cell?_of_block (w:=w) (a:=⟨b,o+k,none⟩) (hB.block b hb)).trans (hc k hk)
 ·refine .inr ⟨by omega,.cells (ptrs b o ns.length).toArray 110,?_,fun c fz e=>?_⟩
  ·show (w.heap.push (.cells (ptrs b o ns.length).toArray 110))[w.heap.size]? = _
   exact Array.getElem?_push_size
  ·injection e with _ e _
   exact absurd e (by decide)
set_option maxRecDepth 10000 in
theorem termsNumbers_any (w:World) (b o:Nat):Calls Tryz.prog 43 #[.pointer (some ⟨b,o,none⟩)] w fun e w'=>e = .returned (.slice (some ⟨w.heap.size,0,none⟩) 6 6)∧w' = w.drew.alloc (.cells (ptrs b o 6).toArray 110):=by
 go_enter Tryz.func43,Tryz.ntmps43
 go_upto_region 1 with fail
 refine wp_region_held_drew (S:=fun _=>True) (by kernel_rfl) trivial (fun hHeld=>?_)
 refine tkk 0 (.pointer (some ⟨b,o,none⟩)) rfl ?_
 simp only [uP]
 refine tka 1 (.pointer (some ⟨b,o,none⟩)) rfl ?_
 simp only [uP]
 refine tka 2 (.pointer (some ⟨b,o,none⟩)) rfl ?_
 simp only [uP]
 refine tkk 3 (.pointer (some ⟨b,o,none⟩)) rfl ?_
 simp only [uP]
 refine tka 4 (.pointer (some ⟨b,o,none⟩)) rfl ?_
 simp only [uP]
 refine tka 5 (.pointer (some ⟨b,o+1,none⟩)) rfl ?_
 simp only [uP]
 refine tkk 6 (.pointer (some ⟨b,o,none⟩)) rfl ?_
 simp only [uP]
 refine tka 7 (.pointer (some ⟨b,o,none⟩)) rfl ?_
 simp only [uP]
 refine tka 8 (.pointer (some ⟨b,o+2,none⟩)) rfl ?_
 simp only [uP]
 refine tkk 9 (.pointer (some ⟨b,o,none⟩)) rfl ?_
 simp only [uP]
 refine tka 10 (.pointer (some ⟨b,o,none⟩)) rfl ?_
 simp only [uP]
 refine tka 11 (.pointer (some ⟨b,o+3,none⟩)) rfl ?_
 simp only [uP]
 refine tkk 12 (.pointer (some ⟨b,o,none⟩)) rfl ?_
 simp only [uP]
 refine tka 13 (.pointer (some ⟨b,o,none⟩)) rfl ?_
 simp only [uP]
 refine tka 14 (.pointer (some ⟨b,o+4,none⟩)) rfl ?_
 simp only [uP]
 refine tkk 15 (.pointer (some ⟨b,o,none⟩)) rfl ?_
 simp only [uP]
 refine tka 16 (.pointer (some ⟨b,o,none⟩)) rfl ?_
 simp only [uP]
 refine tka 17 (.pointer (some ⟨b,o+5,none⟩)) rfl ?_
 simp only [uP]
 refine rdy 18 rfl (fun K hK=>?_)
 rw [if_pos (by rfl)]
 refine wp_valD (.slice (some ⟨w.heap.size,0,none⟩) 6 6) (w.drew.alloc (.cells #[.pointer (some ⟨b,o,none⟩),.pointer (some ⟨b,o+1,none⟩),.pointer (some ⟨b,o+2,none⟩),.pointer (some ⟨b,o+3,none⟩),.pointer (some ⟨b,o+4,none⟩),.pointer (some ⟨b,o+5,none⟩)] 110)) (by kernel_rfl) ?_
 refine hK.out _ _ trivial (fun hHeld=>?_)
 clear hK K
 try simp only [uP]
 refine tkk 19 (.slice (some ⟨w.heap.size,0,none⟩) 6 6) rfl ?_
 simp only [uP]
 refine wpAnyH_done (by kernel_rfl) ?_ _
 go_wp2
 go_ret
 exact ⟨rfl,rfl⟩
set_option maxRecDepth 10000 in
theorem eventNumbers_any (w:World) (b o:Nat):Calls Tryz.prog 44 #[.pointer (some ⟨b,o,none⟩)] w fun e w'=>e = .returned (.slice (some ⟨w.heap.size,0,none⟩) 4 4)∧w' = w.drew.alloc (.cells (ptrs b o 4).toArray 110):=by
 go_enter Tryz.func44,Tryz.ntmps44
 go_upto_region 1 with fail
 refine wp_region_held_drew (S:=fun _=>True) (by kernel_rfl) trivial (fun hHeld=>?_)
 refine tkk 0 (.pointer (some ⟨b,o,none⟩)) rfl ?_
 simp only [uP]
 refine tka 1 (.pointer (some ⟨b,o,none⟩)) rfl ?_
 simp only [uP]
 refine tka 2 (.pointer (some ⟨b,o,none⟩)) rfl ?_
 simp only [uP]
 refine tkk 3 (.pointer (some ⟨b,o,none⟩)) rfl ?_
 simp only [uP]
 refine tka 4 (.pointer (some ⟨b,o,none⟩)) rfl ?_
 simp only [uP]
 refine tka 5 (.pointer (some ⟨b,o+1,none⟩)) rfl ?_
 simp only [uP]
 refine tkk 6 (.pointer (some ⟨b,o,none⟩)) rfl ?_
 simp only [uP]
 refine tka 7 (.pointer (some ⟨b,o,none⟩)) rfl ?_
 simp only [uP]
 refine tka 8 (.pointer (some ⟨b,o+2,none⟩)) rfl ?_
 simp only [uP]
 refine tkk 9 (.pointer (some ⟨b,o,none⟩)) rfl ?_
 simp only [uP]
 refine tka 10 (.pointer (some ⟨b,o,none⟩)) rfl ?_
 simp only [uP]
 refine tka 11 (.pointer (some ⟨b,o+3,none⟩)) rfl ?_
 simp only [uP]
 refine rdy 12 rfl (fun K hK=>?_)
 rw [if_pos (by rfl)]
 refine wp_valD (.slice (some ⟨w.heap.size,0,none⟩) 4 4) (w.drew.alloc (.cells #[.pointer (some ⟨b,o,none⟩),.pointer (some ⟨b,o+1,none⟩),.pointer (some ⟨b,o+2,none⟩),.pointer (some ⟨b,o+3,none⟩)] 110)) (by kernel_rfl) ?_
 refine hK.out _ _ trivial (fun hHeld=>?_)
 clear hK K
 try simp only [uP]
 refine tkk 13 (.slice (some ⟨w.heap.size,0,none⟩) 4 4) rfl ?_
 simp only [uP]
 refine wpAnyH_done (by kernel_rfl) ?_ _
 go_wp2
 go_ret
 exact ⟨rfl,rfl⟩
set_option maxRecDepth 10000 in
theorem owedNumbers_any (w:World) (b o:Nat):Calls Tryz.prog 45 #[.pointer (some ⟨b,o,none⟩)] w fun e w'=>e = .returned (.slice (some ⟨w.heap.size,0,none⟩) 7 7)∧w' = w.drew.alloc (.cells (ptrs b o 7).toArray 110):=by
 go_enter Tryz.func45,Tryz.ntmps45
 go_upto_region 1 with fail
 refine wp_region_held_drew (S:=fun _=>True) (by kernel_rfl) trivial (fun hHeld=>?_)
 refine tkk 0 (.pointer (some ⟨b,o,none⟩)) rfl ?_
 simp only [uP]
 refine tka 1 (.pointer (some ⟨b,o,none⟩)) rfl ?_
 simp only [uP]
 refine tka 2 (.pointer (some ⟨b,o,none⟩)) rfl ?_
 simp only [uP]
 refine tkk 3 (.pointer (some ⟨b,o,none⟩)) rfl ?_
 simp only [uP]
 refine tka 4 (.pointer (some ⟨b,o,none⟩)) rfl ?_
 simp only [uP]
 refine tka 5 (.pointer (some ⟨b,o+1,none⟩)) rfl ?_
 simp only [uP]
 refine tkk 6 (.pointer (some ⟨b,o,none⟩)) rfl ?_
 simp only [uP]
 refine tka 7 (.pointer (some ⟨b,o,none⟩)) rfl ?_
 simp only [uP]
 refine tka 8 (.pointer (some ⟨b,o+2,none⟩)) rfl ?_
 simp only [uP]
 refine tkk 9 (.pointer (some ⟨b,o,none⟩)) rfl ?_
 simp only [uP]
 refine tka 10 (.pointer (some ⟨b,o,none⟩)) rfl ?_
 simp only [uP]
 refine tka 11 (.pointer (some ⟨b,o+3,none⟩)) rfl ?_
 simp only [uP]
 refine tkk 12 (.pointer (some ⟨b,o,none⟩)) rfl ?_
 simp only [uP]
 refine tka 13 (.pointer (some ⟨b,o,none⟩)) rfl ?_
 simp only [uP]
 refine tka 14 (.pointer (some ⟨b,o+4,none⟩)) rfl ?_
 simp only [uP]
 refine tkk 15 (.pointer (some ⟨b,o,none⟩)) rfl ?_
 simp only [uP]
 refine tka 16 (.pointer (some ⟨b,o,none⟩)) rfl ?_
 simp only [uP]
 refine tka 17 (.pointer (some ⟨b,o+5,none⟩)) rfl ?_
 simp only [uP]
 refine tkk 18 (.pointer (some ⟨b,o,none⟩)) rfl ?_
 simp only [uP]
 refine tka 19 (.pointer (some ⟨b,o,none⟩)) rfl ?_
 simp only [uP]
 refine tka 20 (.pointer (some ⟨b,o+6,none⟩)) rfl ?_
 simp only [uP]
 refine rdy 21 rfl (fun K hK=>?_)
 rw [if_pos (by rfl)]
 refine wp_valD (.slice (some ⟨w.heap.size,0,none⟩) 7 7) (w.drew.alloc (.cells #[.pointer (some ⟨b,o,none⟩),.pointer (some ⟨b,o+1,none⟩),.pointer (some ⟨b,o+2,none⟩),.pointer (some ⟨b,o+3,none⟩),.pointer (some ⟨b,o+4,none⟩),.pointer (some ⟨b,o+5,none⟩),.pointer (some ⟨b,o+6,none⟩)] 110)) (by kernel_rfl) ?_
 refine hK.out _ _ trivial (fun hHeld=>?_)
 clear hK K
 try simp only [uP]
 refine tkk 22 (.slice (some ⟨w.heap.size,0,none⟩) 7 7) rfl ?_
 simp only [uP]
 refine wpAnyH_done (by kernel_rfl) ?_ _
 go_wp2
 go_ret
 exact ⟨rfl,rfl⟩
set_option maxRecDepth 10000 in
theorem entryNumbers_any (w:World) (b o:Nat):Calls Tryz.prog 47 #[.pointer (some ⟨b,o,none⟩)] w fun e w'=>e = .returned (.slice (some ⟨w.heap.size,0,none⟩) 3 3)∧w' = w.drew.alloc (.cells (ptrs b o 3).toArray 110):=by
 go_enter Tryz.func47,Tryz.ntmps47
 go_upto_region 1 with fail
 refine wp_region_held_drew (S:=fun _=>True) (by kernel_rfl) trivial (fun hHeld=>?_)
 refine tkk 0 (.pointer (some ⟨b,o,none⟩)) rfl ?_
 simp only [uP]
 refine tka 1 (.pointer (some ⟨b,o,none⟩)) rfl ?_
 simp only [uP]
 refine tka 2 (.pointer (some ⟨b,o,none⟩)) rfl ?_
 simp only [uP]
 refine tkk 3 (.pointer (some ⟨b,o,none⟩)) rfl ?_
 simp only [uP]
 refine tka 4 (.pointer (some ⟨b,o,none⟩)) rfl ?_
 simp only [uP]
 refine tka 5 (.pointer (some ⟨b,o+1,none⟩)) rfl ?_
 simp only [uP]
 refine tkk 6 (.pointer (some ⟨b,o,none⟩)) rfl ?_
 simp only [uP]
 refine tka 7 (.pointer (some ⟨b,o,none⟩)) rfl ?_
 simp only [uP]
 refine tka 8 (.pointer (some ⟨b,o+2,none⟩)) rfl ?_
 simp only [uP]
 refine rdy 9 rfl (fun K hK=>?_)
 rw [if_pos (by rfl)]
 refine wp_valD (.slice (some ⟨w.heap.size,0,none⟩) 3 3) (w.drew.alloc (.cells #[.pointer (some ⟨b,o,none⟩),.pointer (some ⟨b,o+1,none⟩),.pointer (some ⟨b,o+2,none⟩)] 110)) (by kernel_rfl) ?_
 refine hK.out _ _ trivial (fun hHeld=>?_)
 clear hK K
 try simp only [uP]
 refine tkk 10 (.slice (some ⟨w.heap.size,0,none⟩) 3 3) rfl ?_
 simp only [uP]
 refine wpAnyH_done (by kernel_rfl) ?_ _
 go_wp2
 go_ret
 exact ⟨rfl,rfl⟩
theorem text_any (w:World) (W:Nat) (txt:List UInt8) (hW:Wr w W txt) (h0:0 < txt.length) :
  Calls Tryz.prog 48 #[.pointer (some ⟨W,0,none⟩)] w fun e w'=>e = .returned (.string (bs txt))∧w' = w:=by
 obtain ⟨v,hA,ho⟩:=hW
 obtain ⟨g,cap,rfl,_,_⟩:=ho.form h0
 have c0:w.cell? ⟨W,0,none⟩ = some (.slice (some ⟨g,0,none⟩) txt.length cap):=hA.cell 0 rfl
 have hcv:(convert 101 9 (.slice (some ⟨g,0,none⟩) txt.length cap)).run Tryz.prog w = .ok (.string (bs txt)) w:=by
  refine run_convert_bytes_back (P:=Tryz.prog) w 101 9 5 ⟨g,0,none⟩ cap txt Tryz.underlying101 Tryz.underlying5 Tryz.underlying9 ?_
  intro j hj
  rw [Addr.add_lit,Nat.zero_add,ho.cellAt j (by omega)]
  unfold Lib.byteCells
  rw [List.getElem?_map,List.getElem?_eq_getElem hj]
  rfl
 clear hA ho
 go_enter Tryz.func48,Tryz.ntmps48
 go_wp2
 go_ret
 exact ⟨rfl,rfl⟩
theorem LoX.book {w w':World} {B P Mb:Nat} {t:Ln.Terms} {E:List Ln.Ev} {g:Ln.St} {day:Int} {L L':List En} {evv bkv bkv':Value} (h:LoX w B P Mb t E g day L evv bkv) (hb:BkIs w' P bkv' Mb L') (ho:OwnNew w bkv bkv') (hk:Keep (BkS P Mb bkv) w w'):LoX w' B P Mb t E g day L' evv bkv':=by
 have hBl:B < w.heap.size:=At.lt (v:=.int .i64 t.st) h.ln
 have hS:∀ x,x < w.heap.size→BkS P Mb bkv' x→BkS P Mb bkv x:=fun x hx hs=>by
  rcases hs with h1 | h1 | h1
  ·exact .inl h1
  ·exact .inr (.inl h1)
  ·rcases ho with h2 | ⟨b,h2,h3⟩
   ·exact .inr (.inr (h2.symm.trans h1))
   ·rw [h2] at h1
    injection h1 with h1
    omega
 exact ⟨At.keep (v:=.int .i64 t.st) h.ln hk h.nb,hb,own_keep h.ev hk (fun b hb=>(h.ne b hb).2),fun x=>h.nb (hS B hBl x),fun b hb=>⟨(h.ne b hb).1,fun x=>(h.ne b hb).2 (hS b (own_base h.ev hb).2 x)⟩,h.so,h.ok,h.le,h.ot⟩
def IsL (w:World) (B:Nat) (s:Sv) (F:Nat→Prop):Prop:=Lo w B s.t s.l s.g s.day s.L F
theorem IsL.book {w:World} {B:Nat} {sv:Sv} {F:Nat→Prop} (h:IsL w B sv F) (d k a:Int) (ha:¬ a = 0) (hd:I64 d) (hk:I64 k) (ha2:I64 a) (hl:sv.L.length+1≤5000000000000):∃ P,w.cell? ⟨B,15,none⟩ = some (.pointer (some ⟨P,0,none⟩)) ∧
  Calls Tryz.prog 81 #[.pointer (some ⟨P,0,none⟩),.agg #[.int .i64 d,.int .i64 k,.int .i64 a]] w fun e w'=>e = .returned (.tuple #[])∧IsL w' B { sv with L:=sv.L ++ [⟨d,k,a⟩] } (Wd F w w')∧Keep F w w'∧w'.cell? ⟨B,15,none⟩ = some (.pointer (some ⟨P,0,none⟩)):=by
 obtain ⟨P,Mb,evv,bkv,h1,h2⟩:=h
 refine ⟨P,h1.ln.cell 15 rfl,?_⟩
 refine (write_any w P bkv Mb sv.L h1.bk hl d k a hd hk ha2).mono ?_
 rintro e w' ⟨rfl,bkv',hb,ho,hkp⟩
 rw [if_neg ha] at hb
 refine ⟨rfl,⟨P,Mb,evv,bkv',h1.book hb ho hkp,fun b hb2=>?_⟩,hkp.mono (fun x _ hx=>h2 x (.inr (.inl hx))),(h1.book hb ho hkp).ln.cell 15 rfl⟩
 rcases hb2 with h3 | (h3 | h3 | h3) | h3
 ·exact .inl (h2 b (.inl h3))
 ·exact .inl (h2 b (.inr (.inl (.inl h3))))
 ·exact .inl (h2 b (.inr (.inl (.inr (.inl h3)))))
 ·rcases ho with h4 | ⟨c,h4,h5⟩
  ·exact .inl (h2 b (.inr (.inl (.inr (.inr (h4.symm.trans h3))))))
  ·rw [h4] at h3
   injection h3 with h3
   subst h3
   exact .inr ⟨h5,(hb.own h4).2⟩
 ·exact .inl (h2 b (.inr (.inr h3)))
theorem IsL.keep {S F:Nat→Prop} {w w':World} {B:Nat} {sv:Sv} (h:IsL w B sv F) (hk:Keep S w w') (hs:∀ b,F b→¬ S b):IsL w' B sv F:=Lo.keep h hk (fun b _ hb=>hs b hb)
theorem IsL.at {w:World} {B:Nat} {sv:Sv} {F:Nat→Prop} (h:IsL w B sv F):∃ evv bk,At w B (ll sv.t evv sv.g sv.day bk)∧F B:=by
 obtain ⟨P,Mb,evv,bkv,h1,h2⟩:=h
 exact ⟨_,_,h1.ln,h2 B (.inl rfl)⟩
theorem Pt.made (w:World) (R c d n:Nat) (hR:R < w.heap.size) (hc:c < w.heap.size):Pt (w.drew.alloc (.cells (ptrs c d n).toArray 110)) R (.slice (some ⟨w.heap.size,0,none⟩) n n) c d n:=by
 refine ⟨_,_,rfl,Nat.le_refl _,fun k hk=>⟨w.heap.size,0,rfl,?_,by omega,by omega,?_⟩⟩
 ·show w.heap.size < (w.heap.push _).size
  rw [Array.size_push]
  omega
 ·rw [Nat.zero_add]
  exact (At.alloc w.drew (ptrs c d n) 110 k _ (ptrs_at c d n k hk)).1
end Go.Proofs.YtanndhoimpnhpaaGreatDoor
