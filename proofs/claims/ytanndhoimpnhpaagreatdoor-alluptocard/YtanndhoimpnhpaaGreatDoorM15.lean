/- Joined by program: AdG, AdF, TyB, Sav, TyF, TyH, TzB. -/
import Derived.Test.YtanndhoimpnhpaaGreatDoorM14
import Derived.Laws.NewBlocks
namespace Go.Proofs.YtanndhoimpnhpaaGreatDoor
open Go.RowKit Cal
theorem grow_list (row:List Value) (l:List Ln.Ev) (e:Ln.Ev) (i:Nat) (hi:i < l.length) (hx:row.take (i*4) = evs (l.take i)) :
  (laid (laid row (i*4) (evl e)) ((i+1)*4) (evs (l.drop i))).take ((l.length+1)*4) = evs (So.insAt e l i):=by
 have hd:(evs (l.drop i)).length = (l.length - i)*4:=by rw [So.evs_len,List.length_drop]
 have hle:(evl e).length = 4:=rfl
 have ht:(evs (l.take i)).length = i*4:=by rw [So.evs_len,List.length_take]; omega
 have h1:(laid row (i*4) (evl e)).take ((i+1)*4) = evs (l.take i) ++ evl e:=by
  unfold laid
  rw [hx]
  have hl:(evs (l.take i) ++ evl e).length = (i+1)*4:=by rw [List.length_append,ht,hle]; omega
  rw [← hl,List.take_left]
 rw [insAt_evs]
 unfold laid at h1 ⊢
 rw [h1]
 have hl:(evs (l.take i) ++ evl e ++ evs (l.drop i)).length = (l.length+1)*4:=by
  rw [List.length_append,List.length_append,hd,ht,hle]
  omega
 rw [← hl,List.take_left]
set_option maxRecDepth 10000 in
set_option maxHeartbeats 4000000 in
theorem insert_grow (w:World) (g cap:Nat) (cur:Array Value) (l:List Ln.Ev) (e:Ln.Ev) (i N:Nat) (hg:w.heap[g]? = some (.cells cur 50 (0,0))) (hxs:cur.toList.take (l.length*4) = evs l) (hnc:l.length≤cap) (hroom:cap < l.length+1) (hi:i < l.length) (hl:l.length≤1000000)
  (hN:w.heap[N]? = some (.cells (evl e).toArray 50 (0,0))) :
  Calls Tryz.prog 53 #[.slice (some ⟨g,0,none⟩) l.length cap,.int .i64 i,.slice (some ⟨N,0,none⟩) 1 1] w (InsPost w (.slice (some ⟨g,0,none⟩) l.length cap) (l.length+1) (evs (So.insAt e l i))):=by
 obtain ⟨i0,hi0,hz0,hz1,hz2⟩:=info_parts infoEvp
 have hgl:g < w.heap.size:=(Array.getElem?_eq_some_iff.1 hg).1
 have hNl:N < w.heap.size:=(Array.getElem?_eq_some_iff.1 hN).1
 have hcell:∀ q j v,(evs (l.drop q))[j]? = some v→w.cell? ⟨g,q*4+j,none⟩ = some v:=fun q j v hj=>by
  rw [← evs_drop,List.getElem?_drop] at hj
  have hj2:(evs l)[q*4+j]? = cur.toList[q*4+j]?:=by
   rw [← hxs,List.getElem?_take_of_lt]
   have:=(List.getElem?_eq_some_iff.1 hj).1
   rw [So.evs_len] at this
   omega
  rw [hj2,Array.getElem?_toList] at hj
  simp [World.cell?,hg,hj]
 have hold:(Builtin.firstCells i0.size i (.slice (some ⟨g,0,none⟩) i cap)).run Tryz.prog w.drew = .ok (evs (l.take i)).toArray w.drew:=by
  rw [hz1]
  refine run_firstCells_some w.drew 4 i ⟨g,0,none⟩ i cap (evs (l.take i)) (by rw [So.evs_len,List.length_take]; omega) (fun j v hj=>?_)
  rw [Addr.add_lit]
  rw [← evs_take,List.getElem?_take] at hj
  split at hj
  ·have:=hcell 0 j v (by rw [List.drop_zero]; exact hj)
   rw [Nat.zero_mul] at this
   exact this
  ·cases hj
 obtain ⟨C,hC⟩:∃ C,C = grownCap w (l.length+1) cap 50:=⟨_,rfl⟩
 have hCn:l.length+1≤C:=by rw [hC]; exact grownCap_ge w _ _ _
 have hCm:C≤maxLen:=by rw [hC]; exact grownCap_le_maxLen w (l.length+1) cap 50 (by unfold maxLen; omega)
 obtain ⟨ROW,hROW⟩:∃ ROW:Array Value,ROW = (evs (l.take i)).toArray ++ Builtin.zeroCells (Value.agg #[.int .i64 0,.int .i64 0,.int .i64 0,.int .i64 0]).cells (l.length+1 - i) ++ Builtin.zeroCells (Value.agg #[.int .i64 0,.int .i64 0,.int .i64 0,.int .i64 0]).cells (C - (l.length+1)):=⟨_,rfl⟩
 have hkk:(l.length:Int)+1 - (i:Int) = ((l.length+1 - i:Nat):Int):=by omega
 have hik:i+(l.length+1 - i) = l.length+1:=by omega
 have hrz:∀ ty,(Builtin.append_ #[42,3] ty #[.slice (some ⟨g,0,none⟩) i cap,.int .i64 ((l.length:Int)+1 - (i:Int))]).run Tryz.prog w = .ok (.slice (some ⟨w.heap.size,0,none⟩) (l.length+1) C) (w.drew.alloc (.cells ROW 50)):=fun ty=>by
  have h:=Lib.run_append_grow_zeros w 42 3 ty 50 i0 _ .i64 .i64 Tryz.underlying42 Tryz.underlying3 hi0 hz0 (some ⟨g,0,none⟩) i cap (evs (l.take i)) hold (l.length+1 - i) (by omega) (by omega) (by omega) (by omega) (by rw [hz2]; omega) (by rw [hz2,hik]; exact growslice_fits hroom (by omega))
  rw [hik,← hC,← hROW] at h
  rw [hkk]
  exact h
 have htl:(evs (l.take i)).length = i*4:=by rw [So.evs_len,List.length_take]; omega
 have hzl:∀ n:Nat,(Builtin.zeroCells (Value.agg #[.int .i64 0,.int .i64 0,.int .i64 0,.int .i64 0]).cells n).size = n*4:=fun n=>by
  have e4:(Value.agg #[.int .i64 0,.int .i64 0,.int .i64 0,.int .i64 0]).cells.size = 4:=rfl
  unfold Builtin.zeroCells
  rw [Array.size_map,Array.size_range,e4]
 have hRs:ROW.size = C*4:=by
  rw [hROW,Array.size_append,Array.size_append,hzl,hzl,List.size_toArray,htl]
  omega
 have hRt:ROW.toList.take (i*4) = evs (l.take i):=by
  rw [hROW,Array.toList_append,Array.toList_append,List.append_assoc,← htl,List.take_left]
 obtain ⟨R1,hR1⟩:∃ R1,R1 = (laid ROW.toList (i*4) (evl e)).toArray:=⟨_,rfl⟩
 obtain ⟨R2,hR2⟩:∃ R2,R2 = (laid R1.toList ((i+1)*4) (evs (l.drop i))).toArray:=⟨_,rfl⟩
 have hdl:(evs (l.drop i)).length = (l.length - i)*4:=by rw [So.evs_len,List.length_drop]
 have lR:ROW.toList.length = C*4:=by rw [Array.length_toList]; exact hRs
 have l1:R1.toList.length = C*4:=by rw [hR1]; show (laid _ _ _).length = _; rw [laid_len _ _ _ (by rw [lR]; show i*4+4≤_; omega),lR]
 have l2:R2.size = C*4:=by rw [← Array.length_toList,hR2]; show (laid _ _ _).length = _; rw [laid_len _ _ _ (by omega),l1]
 have hfin:R2.toList.take ((l.length+1)*4) = evs (So.insAt e l i):=by
  rw [hR2,hR1]
  exact grow_list ROW.toList l e i hi hRt
 obtain ⟨W1,hW1⟩:∃ W1,W1 = w.drew.alloc (.cells ROW 50):=⟨_,rfl⟩
 have hrow0:W1.heap[w.heap.size]? = some (.cells ROW 50 (0,0)):=by
  rw [hW1]
  show (w.heap.push (.cells ROW 50))[w.heap.size]? = _
  simp
 have hold1:∀ b,b < w.heap.size→W1.heap[b]? = w.heap[b]?:=fun b hb=>by
  rw [hW1]
  exact ((Below.refl w.heap.size w.drew).alloc (Nat.le_refl _) (.cells ROW 50)).block b hb
 have hN1:∀ j v,(evl e)[j]? = some v→W1.cell? ⟨N,0+j,none⟩ = some v:=fun j v hj=>by
  have:(evl e).toArray[j]? = some v:=by simpa using hj
  rw [Nat.zero_add]
  simp [World.cell?,hold1 N hNl,hN,this]
 have hcp1:∀ ty dc,(Builtin.copy_ #[42,42] ty #[.slice (some ⟨w.heap.size,i*4,none⟩) (l.length+1 - i) dc,.slice (some ⟨N,0,none⟩) 1 1]).run Tryz.prog W1 = .ok (goInt (Nat.min 1 (l.length+1 - i))) (W1.setRow w.heap.size R1):=fun ty dc=>by
  have hmin:Nat.min 1 (l.length+1 - i) = 1:=by simp only [Nat.min_def]; split <;> omega
  rw [hR1]
  refine run_copy_rowK W1 _ _ ty 50 4 w.heap.size (i*4) _ dc ⟨N,0,none⟩ _ 1 ROW 50 (evl e) Tryz.underlying42 sizeEvp hrow0 (by rw [hmin]; rfl) (fun j v hj=>?_) ?_ (fun v hv=>evs_cell1 [e] v hv)
  ·rw [Addr.add_lit]
   exact hN1 j v hj
  ·rw [hRs]
   show i*4+4≤_
   omega
 have hrow1:(W1.setRow w.heap.size R1).heap[w.heap.size]? = some (.cells R1 50 (0,0)):=setRow_row hrow0 R1
 have hcp2:∀ W:World,W.heap = (W1.setRow w.heap.size R1).heap→∀ ty dc sc,(Builtin.copy_ #[42,42] ty #[.slice (some ⟨w.heap.size,(i+1)*4,none⟩) (l.length+1 - (i+1)) dc,.slice (some ⟨g,i*4,none⟩) (l.length - i) sc]).run Tryz.prog W = .ok (goInt (Nat.min (l.length - i) (l.length+1 - (i+1)))) (W.setRow w.heap.size R2):=fun W hW ty dc sc=>by
  have hmin:Nat.min (l.length - i) (l.length+1 - (i+1)) = l.length - i:=by simp only [Nat.min_def]; split <;> omega
  rw [hR2]
  refine run_copy_rowK W _ _ ty 50 4 w.heap.size ((i+1)*4) _ dc ⟨g,i*4,none⟩ _ sc R1 50 (evs (l.drop i)) Tryz.underlying42 sizeEvp (by rw [hW]; exact hrow1) (by rw [hdl,hmin]) (fun j v hj=>?_) (by rw [hdl,← Array.length_toList,l1]; omega) (fun v hv=>evs_cell1 _ v hv)
  rw [Addr.add_lit]
  have h1:=hcell i j v hj
  have h2:(W1.setRow w.heap.size R1).cell? ⟨g,i*4+j,none⟩ = w.cell? ⟨g,i*4+j,none⟩:=by
   rw [cell_setRow_other _ _ _ _ (by show ¬ g = w.heap.size; omega)]
   simp [World.cell?,hold1 g hgl]
  rw [← h2] at h1
  unfold World.cell? at h1 ⊢
  rw [hW]
  exact h1
 have HFin:Hid (∀ W:World,W.heap = ((W1.setRow w.heap.size R1).setRow w.heap.size R2).heap→W.os = w.os→W.tape = w.tape→W.output = w.output→InsPost w (.slice (some ⟨g,0,none⟩) l.length cap) (l.length+1) (evs (So.insAt e l i)) (.returned (.slice (some ⟨w.heap.size,0,none⟩) (l.length+1) C)) W):=fun W hW h1 h2 h3=>by
  have hrow2:=setRow_row hrow1 R2
  refine ⟨_,rfl,⟨by rw [So.evs_len,So.insAt_len _ _ _ (by omega)],.inr ⟨w.heap.size,C,R2,rfl,Nat.zero_le _,by rw [hW]; exact hrow2,hCn,hCm,l2,hfin⟩⟩,.inr ⟨w.heap.size,rfl,Nat.le_refl _⟩,?_⟩
  have k1:=keep_setRow W1 w.heap.size R1
  have k2:=keep_setRow (W1.setRow w.heap.size R1) w.heap.size R2
  have hs1:w.heap.size≤W1.heap.size:=by rw [hW1]; simp [World.alloc]
  refine ⟨h1,h2,h3,by rw [hW]; exact Nat.le_trans hs1 (Nat.le_trans k1.size k2.size),fun b hb hs=>?_⟩
  have hbg:¬ b = w.heap.size:=by omega
  rw [hW,k2.block b (Nat.lt_of_lt_of_le hb (Nat.le_trans hs1 k1.size)) hbg,k1.block b (Nat.lt_of_lt_of_le hb hs1) hbg,hold1 b hb]
 have HE1:Hid (W1.os = w.os∧W1.tape = w.tape∧W1.output = w.output):=by rw [hW1]; exact ⟨rfl,rfl,rfl⟩
 rw [← hW1] at hrz
 have hmx:cap≤9223372036854775807:=by omega
 have hCx:C≤9223372036854775807:=hCm
 have hw1:IntKind.i64.wrap ((i:Int)+1) = (i:Int)+1:=by rw [IntKind.wrap_i64]; omega
 have hw2:IntKind.i64.wrap ((l.length:Int)+1) = (l.length:Int)+1:=by rw [IntKind.wrap_i64]; omega
 have hw3:IntKind.i64.wrap ((l.length:Int)+1 - (i:Int)) = (l.length:Int)+1 - (i:Int):=by rw [IntKind.wrap_i64]; omega
 have s0:=fun W=>slice_from g l.length cap (i:Int) i rfl (by omega) (by omega) W
 have s1:=fun W=>slice_to (some ⟨g,0,none⟩) l.length cap (i:Int) i rfl (by omega) W
 have s2:=fun W=>slice_from w.heap.size (l.length+1) C (i:Int) i rfl (by omega) (by omega) W
 have s3:=fun W=>slice_from w.heap.size (l.length+1) C ((i:Int)+1) (i+1) (by omega) (by omega) (by omega) W
 have f1:((i:Int) == (l.length:Int)) = false:=by simp; omega
 have f3:(cap:Int) < (l.length:Int)+1:=by omega
 have HRZ:=hid hrz
 have HC1:=hid hcp1
 have HC2:=hid hcp2
 clear hrz hcp1 hcp2 hg hxs hN hcell hold hC hCm hROW hkk hik htl hzl hRs hRt hR1 hR2 hdl lR l1 l2 hfin hrow0 hold1 hN1 hrow1 hW1 hgl hNl hi0 hz0 hz1 hz2
 go_enter Tryz.func53,Tryz.ntmps53
 go_upto_region 9 with fail
 refine wp_region_lit ?_
 refine wpList_val (.slice (some ⟨g,0,none⟩) l.length cap) w rfl rfl ?_
 simp only [uP]
 refine wpList_val (.int .i64 i) w rfl rfl ?_
 simp only [uP]
 refine wpList_val (.slice (some ⟨g,0,none⟩) i cap) w rfl (by go_simp) ?_
 simp only [uP]
 refine wpList_val (.int .i64 l.length) w rfl rfl ?_
 simp only [uP]
 refine wpList_val (.int .i64 1) w rfl rfl ?_
 simp only [uP]
 refine wpList_val (.int .i64 ((l.length:Int)+1)) w rfl (by go_simp) ?_
 simp only [uP]
 refine wpList_val (.int .i64 i) w rfl rfl ?_
 simp only [uP]
 refine wpList_val (.int .i64 ((l.length:Int)+1 - (i:Int))) w rfl (by go_simp) ?_
 simp only [uP]
 refine wpList_append_to w rfl (.tmp 34) (.tmp 39) 42 3 rfl _ _ rfl rfl (HRZ.out _) ?_
 simp only [uP]
 clear HRZ s1
 go_upto_region 10 with fail
 refine wp_region_lit ?_
 refine wpList_val (.slice (some ⟨w.heap.size,0,none⟩) (l.length+1) C) W1 rfl rfl ?_
 simp only [uP]
 refine wpList_val (.int .i64 i) W1 rfl rfl ?_
 simp only [uP]
 refine wpList_val (.slice (some ⟨w.heap.size,i*4,none⟩) (l.length+1 - i) (C - i)) W1 rfl (by go_simp) ?_
 simp only [uP]
 refine wpList_val (.slice (some ⟨N,0,none⟩) 1 1) W1 rfl rfl ?_
 simp only [uP]
 refine wpList_copy_at W1 rfl (.tmp 43) (.tmp 44) 42 42 rfl _ _ rfl rfl (HC1.out _ _) ?_
 simp only [uP]
 clear HC1 s2
 generalize hwd:W1.setRow w.heap.size R1 = V at *
 have HV:Hid (V.os = w.os∧V.tape = w.tape∧V.output = w.output):=by subst hwd; exact HE1.out
 clear hwd HE1
 go_upto_region 11 with fail
 refine wp_region_held_drew (S:=fun _=>True) (by kernel_rfl) trivial (fun hHeld=>?_)
 refine tkk 0 (.slice (some ⟨w.heap.size,0,none⟩) (l.length+1) C) rfl ?_
 simp only [uP]
 refine tkk 1 (.int .i64 i) rfl ?_
 simp only [uP]
 refine tkk 2 (.int .i64 1) rfl ?_
 simp only [uP]
 refine tka 3 (.int .i64 ((i:Int)+1)) rfl ?_
 simp only [uP]
 refine tka 4 (.slice (some ⟨w.heap.size,(i+1)*4,none⟩) (l.length+1 - (i+1)) (C - (i+1))) rfl ?_
 simp only [uP]
 refine tkk 5 (.slice (some ⟨g,0,none⟩) l.length cap) rfl ?_
 simp only [uP]
 refine tkk 6 (.int .i64 i) rfl ?_
 simp only [uP]
 refine tka 7 (.slice (some ⟨g,i*4,none⟩) (l.length - i) (cap - i)) rfl ?_
 simp only [uP]
 refine rdy 8 rfl (fun K hK=>?_)
 rw [if_pos (by rfl)]
 refine wp_copy_at _ (.tmp 50) (.tmp 53) 42 42 rfl _ _ rfl rfl (HC2.out V.drew rfl _ _ _) ?_
 refine hK.out _ _ trivial (fun _=>?_)
 clear hK K
 try simp only [uP]
 refine wpAnyH_done (by kernel_rfl) ?_ _
 have HW:Hid (InsPost w (.slice (some ⟨g,0,none⟩) l.length cap) (l.length+1) (evs (So.insAt e l i)) (.returned (.slice (some ⟨w.heap.size,0,none⟩) (l.length+1) C)) (V.drew.setRow w.heap.size R2)):=HFin.out _ rfl HV.out.1 HV.out.2.1 HV.out.2.2
 clear HFin HC2 s0 s3 hHeld
 go_wp2
 go_ret
 exact HW.out
theorem insert_any (w:World) (v:Value) (l:List Ln.Ev) (e:Ln.Ev) (i N:Nat) (hown:w.ownsRow 0 50 4 v l.length (evs l)) (hN:w.heap[N]? = some (.cells (evl e).toArray 50 (0,0))) (hne:∀ b,v.ownBlock = some b→¬ N = b) (hi:i≤l.length) (hl:l.length≤1000000) :
  Calls Tryz.prog 53 #[v,.int .i64 i,.slice (some ⟨N,0,none⟩) 1 1] w (InsPost w v (l.length+1) (evs (So.insAt e l i))):=by
 by_cases h:i = l.length
 ·subst h
  rw [So.insAt_end]
  refine insert_end w v l e N hown (fun j u hj=>?_) hl
  have:(evl e).toArray[j]? = some u:=by simpa using hj
  exact ⟨by simp [World.cell?,hN,this],by simp [World.frozen?,hN]⟩
 ·obtain ⟨_,⟨h1,h2⟩ | ⟨g,cap,cur,rfl,_,hg,hnc,hm,hsz,hxs⟩⟩:=hown
  ·omega
  ·by_cases hr:l.length+1≤cap
   ·exact insert_shift w g cap cur l e i N hg hsz hxs hr hm (by omega) hl hN (hne g rfl)
   ·exact insert_grow w g cap cur l e i N hg hxs hnc (by omega) (by omega) hl hN
end Go.Proofs.YtanndhoimpnhpaaGreatDoor
namespace Go.Proofs.YtanndhoimpnhpaaGreatDoor
open Go.ChangeShapes Go.WideShapes Go.RowKit Go.WideMaps Go.Maps Cal
theorem addC_eq (t:Ln.Terms) (l:List Ln.Ev) (e:Ln.Ev):addC t l e = if ¬ evF t e = 0 then evF t e else if 40≤l.length then 7 else if hasS e.s l = true then 8 else 0:=by
 unfold addC evF
 by_cases h1:e.k < 1∨5 < e.k
 ·simp [h1]
 ·by_cases h2:e.d < t.st∨t.st+3700 < e.d
  ·simp [h1,h2]
  ·by_cases h3:fitsB e.k e.a = false
   ·simp [h1,h2,h3]
   ·simp [h1,h2,h3]
theorem pos_has (q:Int) (l:List Ln.Ev):(0≤posOf q l ↔ hasS q l = true)∧-1≤posOf q l:=by
 unfold posOf hasS
 cases h:l.findIdx? (fun e=>e.s == q) with
 | none =>
  rw [List.findIdx?_eq_none_iff] at h
  refine ⟨⟨fun h=>absurd h (by decide),fun h2=>?_⟩,by decide⟩
  obtain ⟨x,hx,hq⟩:=List.any_eq_true.1 h2
  rw [h x hx] at hq
  cases hq
 | some i =>
  obtain ⟨hi,hq,_⟩:=List.findIdx?_eq_some_iff_getElem.1 h
  refine ⟨⟨fun _=>List.any_eq_true.2 ⟨_,List.getElem_mem hi,hq⟩,fun _=>Int.natCast_nonneg i⟩,?_⟩
  show (-1:Int)≤(i:Int)
  omega
theorem evF_ok {t:Ln.Terms} {e:Ln.Ev} (h:evF t e = 0):Ln.OkE t e:=by
 unfold evF at h
 by_cases h1:e.k < 1∨5 < e.k
 ·rw [if_pos h1] at h; cases h
 ·rw [if_neg h1] at h
  by_cases h2:e.d < t.st∨t.st+3700 < e.d
  ·rw [if_pos h2] at h; cases h
  ·rw [if_neg h2] at h
   by_cases h3:fitsB e.k e.a = false
   ·rw [if_pos h3] at h; cases h
   ·have h4:fitsB e.k e.a = true:=by simpa using h3
    unfold fitsB at h4
    refine ⟨by omega,by omega,by omega,by omega,?_,?_,fun hk=>?_,fun hk=>?_⟩
    ·split at h4
     ·simp at h4; omega
     ·split at h4
      ·simp at h4; omega
      ·split at h4
       ·simp at h4; omega
       ·simp at h4; omega
    ·split at h4
     ·simp at h4; omega
     ·split at h4
      ·simp at h4; omega
      ·split at h4
       ·simp at h4; omega
       ·simp at h4; omega
    ·rw [if_neg (by omega),if_pos hk] at h4
     simp at h4
     omega
    ·rw [if_neg (by omega),if_neg (by omega),if_pos hk] at h4
     simp at h4
     omega
theorem bel_sorted {e:Ln.Ev} {l:List Ln.Ev} {i:Nat} (h:Bel e l i) (hs:l.Pairwise So.Ah) (hd:hasS e.s l = false):(So.insAt e l i).Pairwise So.Ah:=by
 have hd2:∀ x∈l,¬ x.s = e.s:=fun x hx he=>by
  have:hasS e.s l = true:=List.any_eq_true.2 ⟨x,hx,by simp [he]⟩
  rw [hd] at this
  cases this
 refine So.ins_sorted e l i h.le hs hd2 (fun j hj hij=>?_) ?_
 ·rcases So.ah_total (a:=e) (b:=l[j]) (fun x=>hd2 _ (List.getElem_mem hj) x.symm) with x | x
  ·exact x
  ·exact absurd x (h.hi j hj hij)
 ·by_cases hz:i = 0
  ·exact .inl hz
  ·refine .inr ⟨by have:=h.le; omega,fun x=>?_⟩
   exact So.ah_irrefl _ (So.ah_trans x (h.lo (i - 1) (by have:=h.le; omega) (by omega)))
def AdS (w:World) (e:Ln.Ev) (wx:World):Prop:=At wx w.heap.size (evl e)∧Below w.heap.size w wx
theorem AdS.below {w W W':World} {e:Ln.Ev} (h:AdS w e W) (hb:Below W.heap.size W W'):AdS w e W' :=
 ⟨At.keep (S:=fun _=>False) (v:=.int .i64 e.d) h.1 (Keep.below hb) (fun x=>x),h.2.trans (hb.mono h.2.size)⟩
theorem AdS.drew {w W:World} {e:Ln.Ev} (h:AdS w e W):AdS w e W.drew:=⟨h.1.drew,h.2.drew⟩
def AdPost (w:World) (B P:Nat) (t:Ln.Terms) (E:List Ln.Ev) (g:Ln.St) (day:Int) (evv:Value) (e:Ln.Ev) (code:Int) (x:Ending) (w':World):Prop :=
 x = .returned (.int .i64 code)∧((¬ code = 0∧Below w.heap.size w w') ∨
  (code = 0∧∃ i v',Bel e E i∧At w' B (ll t v' g day (.pointer (some ⟨P,0,none⟩)))∧w'.ownsRow 0 50 4 v' (E.length+1) (evs (So.insAt e E i))∧OwnNew w evv v'∧Keep (fun b=>b = B∨evv.ownBlock = some b) w w'))
theorem AdPost.err {w:World} {B P:Nat} {t:Ln.Terms} {E:List Ln.Ev} {g:Ln.St} {day:Int} {evv:Value} {e:Ln.Ev} {code:Int} {w':World} (h:¬ code = 0) (hb:Below w.heap.size w w'):AdPost w B P t E g day evv e code (.returned (.int .i64 code)) w':=⟨rfl,.inl ⟨h,hb⟩⟩
set_option maxRecDepth 10000 in
set_option maxHeartbeats 4000000 in
theorem add_core (w:World) (B P Mb:Nat) (t:Ln.Terms) (E:List Ln.Ev) (g:Ln.St) (day:Int) (L:List En) (evv bkv:Value) (h:LoX w B P Mb t E g day L evv bkv) (e:Ln.Ev) (hlim:Lim w) :
  Calls Tryz.prog 19 #[.pointer (some ⟨B,0,none⟩),evV e] w (AdPost w B P t E g day evv e (addC t E e)):=by
 obtain ⟨Eb,hev,_⟩:=evs_evv h.ev
 have hBl:B < w.heap.size:=At.lt (v:=.int .i64 t.st) h.ln
 have hEl:E.length≤40:=h.le
 have HS0:Hid (AdS w e (w.alloc (.cells (evl e).toArray 50))):=⟨At.alloc w (evl e) _,(Below.refl _ _).alloc (Nat.le_refl _) _⟩
 have HLn:Hid (∀ W,AdS w e W→At W B (ll t evv g day (.pointer (some ⟨P,0,none⟩)))):=fun W hW=>At.keep (S:=fun _=>False) (v:=.int .i64 t.st) h.ln (Keep.below hW.2) (fun x=>x)
 have HF:Hid (∀ W,AdS w e W→Calls Tryz.prog 49 #[tmV t,evV e] W fun x w'=>x = .returned (.int .i64 (evF t e))∧Below W.heap.size W w'):=fun W hW=>eventFault_any t e W h.ot.st0 h.ot.st1 (hlim.keep (S:=fun _=>False) (Keep.below hW.2) (fun x=>x))
 have HPl:Hid (∀ W,AdS w e W→Calls Tryz.prog 50 #[evv,.int .i64 e.s] W fun x w'=>x = .returned (.int .i64 (posOf e.s E))∧Below W.heap.size W w'):=fun W hW=>placeOfSeq_any W Eb evv E (hev.keep (S:=fun _=>False) (Keep.below hW.2) (fun _ x=>x)) (by omega) e.s
 have HSe:Hid (∀ W,AdS w e W→Calls Tryz.prog 51 #[evv,evV e,.func (.func 52) #[] #[]] W fun x w'=>(∃ (i:Nat) (b:Bool),x = .returned (.tuple #[.int .i64 i,.bool b])∧Bel e E i)∧Below W.heap.size W w'):=fun W hW=>search_any W Eb evv E e (hev.keep (S:=fun _=>False) (Keep.below hW.2) (fun _ x=>x)) (by omega) h.so
 have HIn:Hid (∀ (W:World) (i N:Nat),Below w.heap.size w W→W.heap[N]? = some (.cells (evl e).toArray 50 (0,0))→w.heap.size≤N→i≤E.length→Calls Tryz.prog 53 #[evv,.int .i64 i,.slice (some ⟨N,0,none⟩) 1 1] W (InsPost W evv (E.length+1) (evs (So.insAt e E i)))):=fun W i N hW hN hNw hi =>
  insert_any W evv E e i N (own_keep h.ev (S:=fun _=>False) (Keep.below hW) (fun _ _ x=>x)) hN (fun b hb=>by have:=(own_base h.ev hb).2; omega) hi (by omega)
 have HNe:Hid (∀ b,evv.ownBlock = some b→¬ b = B∧b < w.heap.size):=fun b hb=>⟨(h.ne b hb).1,(own_base h.ev hb).2⟩
 have HC:Hid (addC t E e = if ¬ evF t e = 0 then evF t e else if 40≤E.length then 7 else if hasS e.s E = true then 8 else 0):=addC_eq t E e
 have HPo:Hid ((0≤posOf e.s E ↔ hasS e.s E = true)∧-1≤posOf e.s E):=pos_has e.s E
 obtain ⟨ep,ecap,rfl⟩:=own_slice h.ev
 clear h hlim hev
 generalize addC t E e = code at *
 generalize posOf e.s E = pos at *
 generalize evF t e = fa at *
 unfold evV at *
 go_enter Tryz.func19,Tryz.ntmps19
 go_upto_region 1 with fail
 change Code.wp _ _ _ _ (w.alloc (.cells (evl e).toArray 50))
 generalize w.alloc (.cells (evl e).toArray 50) = V at *
 refine wp_region_held_drew (S:=AdS w e) (by kernel_rfl) HS0.out.drew (fun hHeld=>?_)
 clear HS0
 generalize V.drew = V1 at *
 refine tkk 0 (.pointer (some ⟨B,0,none⟩)) rfl ?_
 simp only [uP]
 refine tkk 1 (.pointer (some ⟨B,0,none⟩)) rfl ?_
 simp only [uP]
 refine tkk 2 (.pointer (some ⟨B,0,none⟩)) rfl ?_
 simp only [uP]
 refine wpAnyH_take (i:=3) (v:=(.agg (tml t).toArray)) rfl (by kernel_rfl) (by kernel_rfl) (by kernel_rfl) (fun _ _ _ h=>h) (yieldsIf_load_mid (by rfl) 23 (.tmp 10) rfl _ _ rfl _ _ (fun _ h=>(HLn.out _ h).mid 0 _ (tml_mid t _ g day _)) Tryz.underlying23 rfl (by kernel_rfl)) (by assumption) ?_
 simp only [uP]
 refine wpAnyH_take (i:=4) (v:=(.agg (evl e).toArray)) rfl (by kernel_rfl) (by kernel_rfl) (by kernel_rfl) (fun _ _ _ h=>h) (yieldsIf_load_mid (by rfl) 50 (.tmp 3) rfl _ _ rfl _ _ (fun _ h=>h.1.range) Tryz.underlying50 rfl (by kernel_rfl)) (by assumption) ?_
 simp only [uP]
 refine rdy 5 rfl (fun K hK=>?_)
 have hF:=HF.out V1 hHeld
 unfold tmV at hF
 clear HF
 go_simp
 refine hF.mono ?_
 rintro x w2 ⟨rfl,hb2⟩
 go_wp2_with fail
 refine hK.out _ _ (hHeld.below hb2) (fun hHeld2=>?_)
 clear hK K hHeld hb2 hF
 try simp only [uP]
 refine tkk 6 (.int .i64 fa) rfl ?_
 simp only [uP]
 refine wpAnyH_done (by kernel_rfl) ?_ _
 have H2:=hid hHeld2
 clear hHeld2
 by_cases hfa:fa = 0
 ·have hfb:(fa != 0) = false:=by simp [hfa]
  have c6:w2.cell? ⟨B,6,none⟩ = some (.slice ep E.length ecap):=(HLn.out w2 H2.out).cell 6 rfl
  by_cases h40:40≤E.length
  ·have e40:(40:Int)≤(E.length:Int):=by omega
   have HE:Hid (code = 7):=by show code = 7; rw [HC.out,if_neg (by simp [hfa]),if_pos h40]
   have HB:Hid (Below w.heap.size w w2):=H2.out.2
   clear HC HPl HSe HIn HNe HPo H2 HLn
   obtain rfl:=HE.out
   go_wp2
   go_ret
   exact AdPost.err (by decide) HB.out
  ·have e40:¬ (40:Int)≤(E.length:Int):=by omega
   have HC2:Hid (code = if hasS e.s E = true then 8 else 0):=by show code = _; rw [HC.out,if_neg (by simp [hfa]),if_neg h40]
   clear HC
   go_upto_region 6 with fail
   refine wp_region_held_drew (S:=AdS w e) (by kernel_rfl) H2.out.drew (fun hHeld=>?_)
   clear H2 c6
   generalize w2.drew = V2 at *
   refine tkk 0 (.pointer (some ⟨B,0,none⟩)) rfl ?_
   simp only [uP]
   refine tkk 1 (.pointer (some ⟨B,0,none⟩)) rfl ?_
   simp only [uP]
   refine tkk 2 (.pointer (some ⟨B,6,none⟩)) rfl ?_
   simp only [uP]
   refine tkh 3 (.slice ep E.length ecap) rfl (fun wx hSw=>by (have hc:wx.cell? ⟨B,6,none⟩ = some (.slice ep E.length ecap):=(HLn.out wx hSw).cell 6 rfl; go_simp)) ?_
   simp only [uP]
   refine tka 4 (.pointer (some ⟨w.heap.size,2,none⟩)) rfl ?_
   simp only [uP]
   refine tkh 5 (.int .i64 e.s) rfl (fun wx hSw=>by (have hc:wx.cell? ⟨w.heap.size,2,none⟩ = some (.int .i64 e.s):=hSw.1.cell 2 rfl; go_simp)) ?_
   simp only [uP]
   refine rdy 6 rfl (fun K hK=>?_)
   have hF:=HPl.out V2 hHeld
   clear HPl
   go_simp
   refine hF.mono ?_
   rintro x w3 ⟨rfl,hb3⟩
   go_wp2_with fail
   refine hK.out _ _ (hHeld.below hb3) (fun hHeld3=>?_)
   clear hK K hHeld hb3 hF
   try simp only [uP]
   by_cases hp:0≤pos
   ·have hpb:decide (0≤pos) = true:=by simp [hp]
    have HE:Hid (code = 8):=by show code = 8; rw [HC2.out,if_pos (HPo.out.1.1 hp)]
    have HB:Hid (Below w.heap.size w w3):=hHeld3.2
    refine tka 7 (.bool true) rfl ?_
    simp only [uP]
    refine wpAnyH_done (by kernel_rfl) ?_ _
    clear hHeld3 HC2 HSe HIn HNe HPo HLn
    obtain rfl:=HE.out
    go_wp2
    go_ret
    exact AdPost.err (by decide) HB.out
   ·have hpb:decide (0≤pos) = false:=by simp [hp]
    have HE:Hid (code = 0):=by show code = 0; rw [HC2.out,if_neg (fun x=>hp (HPo.out.1.2 x))]
    have H3:=hid hHeld3
    refine tka 7 (.bool false) rfl ?_
    simp only [uP]
    refine wpAnyH_done (by kernel_rfl) ?_ _
    clear hHeld3 HC2 HPo
    go_upto_region 8 with fail
    refine wp_region_held_drew (S:=AdS w e) (by kernel_rfl) H3.out.drew (fun hHeld=>?_)
    clear H3
    generalize w3.drew = V3 at *
    refine tkk 0 (.pointer (some ⟨B,0,none⟩)) rfl ?_
    simp only [uP]
    refine tkk 1 (.pointer (some ⟨B,0,none⟩)) rfl ?_
    simp only [uP]
    refine tkk 2 (.pointer (some ⟨B,6,none⟩)) rfl ?_
    simp only [uP]
    refine tkh 3 (.slice ep E.length ecap) rfl (fun wx hSw=>by (have hc:wx.cell? ⟨B,6,none⟩ = some (.slice ep E.length ecap):=(HLn.out wx hSw).cell 6 rfl; go_simp)) ?_
    simp only [uP]
    refine wpAnyH_take (i:=4) (v:=(.agg (evl e).toArray)) rfl (by kernel_rfl) (by kernel_rfl) (by kernel_rfl) (fun _ _ _ h=>h) (yieldsIf_load_mid (by rfl) 50 (.tmp 3) rfl _ _ rfl _ _ (fun _ h=>h.1.range) Tryz.underlying50 rfl (by kernel_rfl)) (by assumption) ?_
    simp only [uP]
    refine rdy 5 rfl (fun K hK=>?_)
    have hF:=HSe.out V3 hHeld
    clear HSe
    go_simp
    refine hF.mono ?_
    rintro x w4 ⟨⟨i,b,rfl,hbel⟩,hb4⟩
    go_wp2_with fail
    refine hK.out _ _ (hHeld.below hb4) (fun hHeld4=>?_)
    clear hK K hHeld hb4 hF
    try simp only [uP]
    refine tkk 6 (.tuple #[.int .i64 i,.bool b]) rfl ?_
    simp only [uP]
    refine tkk 7 (.int .i64 i) rfl ?_
    simp only [uP]
    refine tkk 8 (.bool b) rfl ?_
    simp only [uP]
    refine tkk 9 (.int .i64 i) rfl ?_
    simp only [uP]
    refine tkk 10 (.bool b) rfl ?_
    simp only [uP]
    refine wpAnyH_done (by kernel_rfl) ?_ _
    have H4:=hid hHeld4
    have HBel:=hid hbel
    clear hHeld4 hbel
    go_upto_region 9 with fail
    have H4S:=H4.out
    have hA4:At w4.drew B (ll t (.slice ep E.length ecap) g day (.pointer (some ⟨P,0,none⟩))):=(HLn.out w4 H4S).drew
    have hX4:At w4.drew w.heap.size (evl e):=H4S.1.drew
    have hB4:Below w.heap.size w w4.drew:=H4S.2.drew
    refine wp_region_held_drew (S:=fun wx=>At wx w.heap.size (evl e)) (by kernel_rfl) hX4 (fun hHeld=>?_)
    clear H4 H4S HLn
    generalize w4.drew = V4 at *
    have hr5:(V4.alloc (.cells (evl e).toArray 50)).heap[V4.heap.size]? = some (.cells (evl e).toArray 50 (0,0)):=by
     show (V4.heap.push (.cells (evl e).toArray 50))[V4.heap.size]? = _
     simp
    have HB5:Hid (Below w.heap.size w (V4.alloc (.cells (evl e).toArray 50))):=hB4.alloc hB4.size _
    have HR5:=hid hr5
    have HN5:Hid (w.heap.size≤V4.heap.size):=hB4.size
    have HX5:Hid (At (V4.alloc (.cells (evl e).toArray 50)) w.heap.size (evl e)):=At.over (v:=.int .i64 e.d) hX4 _
    have HA5:Hid (At (V4.alloc (.cells (evl e).toArray 50)) B (ll t (.slice ep E.length ecap) g day (.pointer (some ⟨P,0,none⟩)))):=At.over (v:=.int .i64 t.st) hA4 _
    have u6:V4.cell? ⟨B,6,none⟩ = some (.slice ep E.length ecap):=hA4.cell 6 rfl
    have u7:(V4.alloc (.cells (evl e).toArray 50)).cell? ⟨B,6,none⟩ = some (.slice ep E.length ecap):=HA5.out.cell 6 rfl
    clear hr5 hA4 hX4 hB4
    refine tkk 0 (.pointer (some ⟨B,0,none⟩)) rfl ?_
    simp only [uP]
    refine tkk 1 (.pointer (some ⟨B,0,none⟩)) rfl ?_
    simp only [uP]
    refine tkk 2 (.pointer (some ⟨B,0,none⟩)) rfl ?_
    simp only [uP]
    refine tkk 3 (.pointer (some ⟨B,6,none⟩)) rfl ?_
    simp only [uP]
    refine tkk 5 (.int .i64 i) rfl ?_
    simp only [uP]
    refine wpAnyH_take (i:=6) (v:=(.agg (evl e).toArray)) rfl (by kernel_rfl) (by kernel_rfl) (by kernel_rfl) (fun _ _ _ h=>h) (yieldsIf_load_mid (by rfl) 50 (.tmp 3) rfl _ _ rfl _ _ (fun _ h=>h.range) Tryz.underlying50 rfl (by kernel_rfl)) (by assumption) ?_
    simp only [uP]
    refine wpAnyH_ready (rs:=[4,7]) (by kernel_rfl) (by simp) ?_
    refine AllReadyH.cons rfl (fun K hK=>?_) (AllReadyH.cons rfl (fun K hK=>?_) AllReadyH.nil)
    ·clear u7
     go_simp
     refine hK.out _ _ hHeld (fun hHeld2=>?_)
     clear hK K u6
     try simp only [uP]
     refine rdy 7 rfl (fun K hK=>?_)
     rw [if_pos (by rfl)]
     refine wp_valD (.slice (some ⟨V4.heap.size,0,none⟩) 1 1) (V4.alloc (.cells (evl e).toArray 50)) (by kernel_rfl) ?_
     refine hK.out _ _ HX5.out (fun hHeld3=>?_)
     clear hK K hHeld hHeld2 hHeld3
     try simp only [uP]
     generalize hV5:V4.alloc (.cells (evl e).toArray 50) = V5 at *
     generalize hN5:V4.heap.size = N at *
     clear hV5 hN5
     refine rdy 8 rfl (fun K hK=>?_)
     have hF:=HIn.out V5 i N HB5.out HR5.out HN5.out HBel.out.le
     clear HIn
     go_simp
     refine hF.mono ?_
     rintro x w6 ⟨v',rfl,ho6,hon6,hk6⟩
     have x6:At w6 w.heap.size (evl e):=At.keep (v:=.int .i64 e.d) HX5.out hk6 (fun h=>by have:=(HNe.out _ h).2; omega)
     have a6:At w6 B (ll t (.slice ep E.length ecap) g day (.pointer (some ⟨P,0,none⟩))):=At.keep (v:=.int .i64 t.st) HA5.out hk6 (fun h=>(HNe.out _ h).1 rfl)
     have hvB:∀ b,v'.ownBlock = some b→¬ b = B:=fun b hb hbB=>by
      rcases hon6 with h | ⟨c,h1,h2⟩
      ·exact (HNe.out b (h.symm.trans hb)).1 hbB
      ·rw [h1] at hb
       cases hb
       have:=HB5.out.size
       omega
     obtain ⟨g',cap',rfl,_,_⟩:=ho6.form (by omega)
     go_wp2_with fail
     refine hK.out _ _ x6 (fun hHeld6=>?_)
     clear hK K hF hHeld6
     try simp only [uP]
     refine tkk 9 (.pointer (some ⟨B,0,none⟩)) rfl ?_
     simp only [uP]
     refine tkk 10 (.pointer (some ⟨B,6,none⟩)) rfl ?_
     simp only [uP]
     refine rdy 11 rfl (fun K hK=>?_)
     have y6:w6.cell? ⟨B,6,none⟩ = some (.slice ep E.length ecap):=a6.cell 6 rfl
     have y7:w6.frozen? ⟨B,6,none⟩ = false:=a6.free 6 rfl
     go_simp
     have x7:At (w6.setCell ⟨B,6,none⟩ (.slice (some ⟨g',0,none⟩) (E.length+1) cap')) w.heap.size (evl e):=At.other x6 (c:=B) (by omega) 6 _
     refine hK.out _ _ x7 (fun _=>?_)
     have kS:Keep (fun b=>b = B) w6 (w6.setCell ⟨B,6,none⟩ (.slice (some ⟨g',0,none⟩) (E.length+1) cap')):=(Keep.refl _ _).set (S:=fun b=>b = B) rfl 6 _
     have HPost:Hid (AdPost w B P t E g day (.slice ep E.length ecap) e 0 (.returned (.int .i64 0)) (w6.setCell ⟨B,6,none⟩ (.slice (some ⟨g',0,none⟩) (E.length+1) cap'))):=by
      refine ⟨rfl,.inr ⟨rfl,i,_,HBel.out,a6.set 6 (show 6 < 16 by decide) _,own_keep ho6 kS (fun b hb=>hvB b hb),?_,?_⟩⟩
      ·rcases hon6 with h | ⟨c,h1,h2⟩
       ·exact .inl h
       ·exact .inr ⟨c,h1,Nat.le_trans HB5.out.size h2⟩
      ·exact ((Keep.below (S:=fun b=>b = B∨(Value.slice ep E.length ecap).ownBlock = some b) HB5.out).trans (hk6.mono (fun _ _ h=>.inr h))).trans (kS.mono (fun _ _ h=>.inl h))
     clear hK K x6 a6 x7 kS y6 y7 ho6 hon6 hk6 hvB HB5 HR5 HN5 HX5 HA5 HBel
     generalize w6.setCell ⟨B,6,none⟩ (.slice (some ⟨g',0,none⟩) (E.length+1) cap') = w9 at *
     refine wpAnyH_done (by kernel_rfl) ?_ _
     obtain rfl:=HE.out
     go_wp2
     go_ret
     exact HPost.out
    ·rw [if_pos (by rfl)]
     refine wp_valD (.slice (some ⟨V4.heap.size,0,none⟩) 1 1) (V4.alloc (.cells (evl e).toArray 50)) (by kernel_rfl) ?_
     refine hK.out _ _ HX5.out (fun hHeld2=>?_)
     clear hK K u6
     try simp only [uP]
     refine rdy 4 rfl (fun K hK=>?_)
     go_simp
     refine hK.out _ _ hHeld2 (fun hHeld3=>?_)
     clear hK K u7 hHeld hHeld2 hHeld3
     try simp only [uP]
     generalize hV5:V4.alloc (.cells (evl e).toArray 50) = V5 at *
     generalize hN5:V4.heap.size = N at *
     clear hV5 hN5
     refine rdy 8 rfl (fun K hK=>?_)
     have hF:=HIn.out V5 i N HB5.out HR5.out HN5.out HBel.out.le
     clear HIn
     go_simp
     refine hF.mono ?_
     rintro x w6 ⟨v',rfl,ho6,hon6,hk6⟩
     have x6:At w6 w.heap.size (evl e):=At.keep (v:=.int .i64 e.d) HX5.out hk6 (fun h=>by have:=(HNe.out _ h).2; omega)
     have a6:At w6 B (ll t (.slice ep E.length ecap) g day (.pointer (some ⟨P,0,none⟩))):=At.keep (v:=.int .i64 t.st) HA5.out hk6 (fun h=>(HNe.out _ h).1 rfl)
     have hvB:∀ b,v'.ownBlock = some b→¬ b = B:=fun b hb hbB=>by
      rcases hon6 with h | ⟨c,h1,h2⟩
      ·exact (HNe.out b (h.symm.trans hb)).1 hbB
      ·rw [h1] at hb
       cases hb
       have:=HB5.out.size
       omega
     obtain ⟨g',cap',rfl,_,_⟩:=ho6.form (by omega)
     go_wp2_with fail
     refine hK.out _ _ x6 (fun hHeld6=>?_)
     clear hK K hF hHeld6
     try simp only [uP]
     refine tkk 9 (.pointer (some ⟨B,0,none⟩)) rfl ?_
     simp only [uP]
     refine tkk 10 (.pointer (some ⟨B,6,none⟩)) rfl ?_
     simp only [uP]
     refine rdy 11 rfl (fun K hK=>?_)
     have y6:w6.cell? ⟨B,6,none⟩ = some (.slice ep E.length ecap):=a6.cell 6 rfl
     have y7:w6.frozen? ⟨B,6,none⟩ = false:=a6.free 6 rfl
     go_simp
     have x7:At (w6.setCell ⟨B,6,none⟩ (.slice (some ⟨g',0,none⟩) (E.length+1) cap')) w.heap.size (evl e):=At.other x6 (c:=B) (by omega) 6 _
     refine hK.out _ _ x7 (fun _=>?_)
     have kS:Keep (fun b=>b = B) w6 (w6.setCell ⟨B,6,none⟩ (.slice (some ⟨g',0,none⟩) (E.length+1) cap')):=(Keep.refl _ _).set (S:=fun b=>b = B) rfl 6 _
     have HPost:Hid (AdPost w B P t E g day (.slice ep E.length ecap) e 0 (.returned (.int .i64 0)) (w6.setCell ⟨B,6,none⟩ (.slice (some ⟨g',0,none⟩) (E.length+1) cap'))):=by
      refine ⟨rfl,.inr ⟨rfl,i,_,HBel.out,a6.set 6 (show 6 < 16 by decide) _,own_keep ho6 kS (fun b hb=>hvB b hb),?_,?_⟩⟩
      ·rcases hon6 with h | ⟨c,h1,h2⟩
       ·exact .inl h
       ·exact .inr ⟨c,h1,Nat.le_trans HB5.out.size h2⟩
      ·exact ((Keep.below (S:=fun b=>b = B∨(Value.slice ep E.length ecap).ownBlock = some b) HB5.out).trans (hk6.mono (fun _ _ h=>.inr h))).trans (kS.mono (fun _ _ h=>.inl h))
     clear hK K x6 a6 x7 kS y6 y7 ho6 hon6 hk6 hvB HB5 HR5 HN5 HX5 HA5 HBel
     generalize w6.setCell ⟨B,6,none⟩ (.slice (some ⟨g',0,none⟩) (E.length+1) cap') = w9 at *
     refine wpAnyH_done (by kernel_rfl) ?_ _
     obtain rfl:=HE.out
     go_wp2
     go_ret
     exact HPost.out
 ·have hfb:(fa != 0) = true:=by simp [hfa]
  have HE:Hid (code = fa):=by show code = fa; rw [HC.out,if_pos hfa]
  have HB:Hid (Below w.heap.size w w2):=H2.out.2
  have HN:=hid hfa
  clear HC HPl HSe HIn HNe HPo H2 HLn hfa
  obtain rfl:=HE.out
  go_wp2
  go_ret
  exact AdPost.err HN.out HB.out
end Go.Proofs.YtanndhoimpnhpaaGreatDoor
namespace Go.Proofs.YtanndhoimpnhpaaGreatDoor
theorem ah_all {E:List Ln.Ev} {e:Ln.Ev} (hE:E.Pairwise So.Ah) (h:∀ x,E.getLast? = some x→So.Ah x e):(E ++ [e]).Pairwise So.Ah:=by
 rw [List.pairwise_append]
 refine ⟨hE,List.pairwise_singleton _ _,fun x hx y hy=>?_⟩
 rw [List.mem_singleton] at hy
 subst hy
 cases hl:E.getLast? with
 | none =>
  rw [List.getLast?_eq_none_iff] at hl
  subst hl
  exact absurd hx List.not_mem_nil
 | some z =>
  have hz:=h z hl
  obtain ⟨init,rfl⟩:=List.getLast?_eq_some_iff.1 hl
  rcases List.mem_append.1 hx with h1 | h1
  ·exact So.ah_trans ((List.pairwise_append.1 hE).2.2 x h1 z (by simp)) hz
  ·rw [List.mem_singleton] at h1
   subst h1
   exact hz
theorem last_iff {E E':List Ln.Ev} {e:Ln.Ev} (hp:E'.Perm (e :: E)) (hs:E'.Pairwise So.Ah) (hE:E.Pairwise So.Ah) :
  (E'.getLast? = some e∧E' = E ++ [e]∧∀ x,E.getLast? = some x→So.Ah x e)∨(¬ E'.getLast? = some e∧¬ ∀ x,E.getLast? = some x→So.Ah x e):=by
 have hp2:E'.Perm (E ++ [e]):=hp.trans (List.perm_append_singleton e E).symm
 by_cases h:∀ x,E.getLast? = some x→So.Ah x e
 ·have e1:E' = E ++ [e]:=So.sorted_one hp2 hs (ah_all hE h)
  exact .inl ⟨by rw [e1]; simp,e1,h⟩
 ·refine .inr ⟨fun hl=>h ?_,h⟩
  obtain ⟨init,rfl⟩:=List.getLast?_eq_some_iff.1 hl
  have h1:init.Perm E:=(List.perm_append_right_iff [e]).1 hp2
  have h2:=List.pairwise_append.1 hs
  have h3:init = E:=So.sorted_one h1 h2.1 hE
  subst h3
  intro x hx
  exact h2.2.2 x (List.mem_of_getLast? hx) e (by simp)
end Go.Proofs.YtanndhoimpnhpaaGreatDoor
namespace Go.Proofs.YtanndhoimpnhpaaGreatDoor
open Go.RowKit Cal
def EnOk (st day:Int) (e:En):Prop:=st≤e.d∧e.d < day∧1≤e.k∧e.k≤12∧¬ e.a = 0∧I64 e.a
theorem wrap_neg0 {n:Int} (h:I64 n) (h0:¬ n = 0):¬ wrap64 (-n) = 0:=by
 unfold wrap64
 unfold I64 at h
 omega
theorem kindsW_ok {n:Int} {h am:Nat→Int} {e:En} (hh:∀ i,I64 (h i)) (ha:∀ i,1≤i→i≤12→I64 (am i)):∀ j,j≤12→e∈kindsW n h am j→¬ e.a = 0∧I64 e.a
 | 0,_,he=>by simp [kindsW] at he
 | j+1,hj,he=>by
  rw [kindsW] at he
  rcases List.mem_append.1 he with he | he
  ·exact kindsW_ok hh ha j (by omega) he
  ·unfold kindW at he
   split at he
   ·simp at he
   ·rcases List.mem_append.1 he with he | he
    ·split at he
     ·simp at he
     ·rename_i h0
      rw [List.mem_singleton.1 he]
      exact ⟨wrap_neg0 (hh _) h0,wrap64_i64 _⟩
    ·split at he
     ·simp at he
     ·rename_i h0
      rw [List.mem_singleton.1 he]
      exact ⟨h0,ha _ (by omega) hj⟩
theorem bkP_ok {st:Int} {am:Nat→Nat→Int} {L:List En} {e:En}:∀ m:Nat,(∀ k j,k < m→1≤j→j≤12→I64 (am k j))→e∈bkP st am L m→e∈L∨EnOk st (st+m) e
 | 0,_,he=>.inl he
 | m+1,ha,he=>by
  rw [bkP] at he
  rcases List.mem_append.1 he with h | h
  ·rcases bkP_ok m (fun k j hk=>ha k j (by omega)) h with h1 | h1
   ·exact .inl h1
   ·obtain ⟨h2,h3,h4⟩:=h1
    exact .inr ⟨h2,by omega,h4⟩
  ·have h1:=kindsW_mem h
   have h2:=kindsW_ok (fun i=>sumOf_i64 _ _ _) (fun j h1 h2=>ha m j (by omega) h1 h2) 12 (Nat.le_refl _) h
   exact .inr ⟨by omega,by omega,by omega,by omega,h2⟩
theorem run_in {t:Ln.Terms} {E:List Ln.Ev} (hE:∀ e∈E,Ln.OkE t e) (hl:E.length≤40) (ht:Ln.OkT t) (m:Nat) (hm:m≤3700):∀ n∈nwN (Ln.run t cdOf (wtOf t.ba) E m),InR n:=by
 have hI:=Ln.run_inv ht cdOf (wtOf t.ba) (wsOf t.ba t.st) (wsOf_le _ _) (wsOf_eq _ _) E hE m
 have hs:=sw_bd t.ba t.st ht.st0 ht.st1 m hm
 have hb:=Ln.tot_bound ht E hE hl m
 have h1:=hI.bound hs hb
 have h2:=Ln.run_fn_bd ht E hE hl m hm
 have q0:=hI.pr
 have q1:=hI.it
 have q2:=hI.du
 have q3:=hI.la
 have q4:=hI.fi
 have q5:=hI.cr
 have q6:=hI.rt0
 have q7:=hI.rt1
 have q8:=hI.cr1
 have q9:=hI.fi1
 intro n hn
 simp only [nwN,List.mem_cons,List.not_mem_nil,or_false] at hn
 unfold InR
 rcases hn with rfl | rfl | rfl | rfl | rfl | rfl | rfl <;> omega
structure Sav (t:Ln.Terms) (E:List Ln.Ev) (g:Ln.St) (day:Int) (L:List En):Prop where
 rt:rtB t = true
 so:E.Pairwise So.Ah
 ds:E.Pairwise (fun a b=>¬ a.s = b.s)
 f0:∀ e∈E,evF t e = 0∧InR e.s
 le:E.length≤40
 d0:t.st≤day
 d1:day≤t.st+3700
 nw:∀ n∈nwN g,InR n
 en:∀ e∈L,EnOk t.st day e
theorem evF_in {t:Ln.Terms} {e:Ln.Ev} (ht:Ln.OkT t) (h:evF t e = 0):InR e.d∧InR e.k∧InR e.a:=by
 unfold evF at h
 have h1:=ht.st0
 have h2:=ht.st1
 split at h
 ·omega
 ·split at h
  ·omega
  ·split at h
   ·omega
   ·rename_i a b c
    have hf:fitsB e.k e.a = true:=by
     cases hx:fitsB e.k e.a with
     | true=>rfl
     | false=>exact absurd hx c
    unfold fitsB at hf
    unfold InR
    refine ⟨by omega,by omega,?_⟩
    split at hf
    ·simp at hf; omega
    ·split at hf
     ·simp at hf; omega
     ·split at hf
      ·simp at hf; omega
      ·simp at hf; omega
theorem Sav.rg {t:Ln.Terms} {E:List Ln.Ev} {g:Ln.St} {day:Int} {L:List En} (h:Sav t E g day L):Rg t E g day L:=by
 have ht:=rt_ok h.rt
 have h0:=ht.st0
 have h1:=ht.st1
 have hd0:=h.d0
 have hd1:=h.d1
 refine ⟨fun n hn=>?_,fun e he n hn=>?_,h.nw,by unfold InR; omega,fun e he n hn=>?_⟩
 ·have a1:=ht.pr0
  have a2:=ht.pr1
  have a3:=ht.rt0
  have a4:=ht.rt1
  have a5:=ht.fi0
  have a6:=ht.fi1
  have hrt:=h.rt
  unfold rtB at hrt
  simp at hrt
  simp only [tmN,List.mem_cons,List.not_mem_nil,or_false] at hn
  unfold InR
  rcases hn with rfl | rfl | rfl | rfl | rfl | rfl <;> omega
 ·obtain ⟨a1,a2⟩:=h.f0 e he
  obtain ⟨b1,b2,b3⟩:=evF_in ht a1
  simp only [evN,List.mem_cons,List.not_mem_nil,or_false] at hn
  rcases hn with rfl | rfl | rfl | rfl
  ·exact b1
  ·exact b2
  ·exact a2
  ·exact b3
 ·obtain ⟨a1,a2,a3,a4,_,a5⟩:=h.en e he
  simp only [enN,List.mem_cons,List.not_mem_nil,or_false] at hn
  rcases hn with rfl | rfl | rfl
  ·unfold InR; omega
  ·unfold InR; omega
  ·exact a5
theorem Sav.run {t:Ln.Terms} {E:List Ln.Ev} {g:Ln.St} {day:Int} {L:List En} (h:Sav t E g day L) (hE:∀ e∈E,Ln.OkE t e) (m:Nat) (h0:day≤t.st+m) (hm:m≤3700) :
  Sav t E (Ln.run t cdOf (wtOf t.ba) E m) (t.st+m) (bkP t.st (fun k=>(yOf t E k).am) L m):=by
 refine ⟨h.rt,h.so,h.ds,h.f0,h.le,by omega,by omega,run_in hE h.le (rt_ok h.rt) m hm,fun e he=>?_⟩
 rcases bkP_ok m (fun k j hk h1 h2=>by have:=am_bd (rt_ok h.rt) E hE h.le k (by omega) j h1 h2; exact ⟨by omega,by omega⟩) he with h1 | h1
 ·obtain ⟨a1,a2,a3⟩:=h.en e h1
  exact ⟨a1,by omega,a3⟩
 ·exact h1
theorem Sav.start {t:Ln.Terms} (h:rtB t = true):Sav t [] (Ln.start t) t.st []:=by
 have ht:=rt_ok h
 refine ⟨h,List.Pairwise.nil,List.Pairwise.nil,fun e he=>by simp at he,by simp,by omega,by omega,run_in (E:=[]) (fun e he=>by simp at he) (by simp) ht 0 (by omega),fun e he=>by simp at he⟩
theorem Sav.evs {t:Ln.Terms} {E E':List Ln.Ev} {g:Ln.St} {day:Int} {L:List En} (h:Sav t E g day L) (so:E'.Pairwise So.Ah) (ds:E'.Pairwise (fun a b=>¬ a.s = b.s)) (f0:∀ e∈E',evF t e = 0∧InR e.s) (le:E'.length≤40):Sav t E' g day L :=
 ⟨h.rt,so,ds,f0,le,h.d0,h.d1,h.nw,h.en⟩
theorem addC_zero {t:Ln.Terms} {E:List Ln.Ev} {e:Ln.Ev} (h:addC t E e = 0):evF t e = 0∧∀ x∈E,¬ e.s = x.s:=by
 rw [addC_eq] at h
 split at h
 ·rename_i hx; exact absurd h hx
 ·rename_i hx
  split at h
  ·omega
  ·split at h
   ·omega
   ·rename_i hs
    refine ⟨by omega,fun x hx he=>hs ?_⟩
    unfold hasS
    rw [List.any_eq_true]
    exact ⟨x,hx,by simp [he]⟩
theorem Sav.perm {t:Ln.Terms} {E E':List Ln.Ev} {g:Ln.St} {day:Int} {L:List En} (h:Sav t E g day L) (p:E'.Perm E) (so:E'.Pairwise So.Ah):Sav t E' g day L :=
 h.evs so ((p.symm.pairwise_iff (fun x=>fun y=>x y.symm)).1 h.ds) (fun x hx=>h.f0 x (p.mem_iff.1 hx)) (by rw [p.length_eq]; exact h.le)
theorem Sav.told1 {t:Ln.Terms} {E E' l:List Ln.Ev} {g:Ln.St} {day:Int} {L:List En} {e:Ln.Ev} (h:Sav t E g day L) (pm:E.Perm l) (hp:(¬ addC t l e = 0∧E'.Perm l)∨(addC t l e = 0∧E'.Perm (l ++ [e]))) (so:E'.Pairwise So.Ah) (le:E'.length≤40) (hs:InR e.s):Sav t E' g day L:=by
 rcases hp with ⟨_,p⟩ | ⟨a,p⟩
 ·exact h.perm (p.trans pm.symm) so
 ·obtain ⟨z1,z2⟩:=addC_zero a
  have p2:E'.Perm (e :: E):=p.trans ((List.perm_append_singleton e l).trans (List.Perm.cons e pm.symm))
  refine h.evs so ?_ (fun x hx=>?_) le
  ·refine (p2.symm.pairwise_iff (fun x=>fun y=>x y.symm)).1 ?_
   exact List.pairwise_cons.2 ⟨fun x hx=>z2 x (pm.mem_iff.1 hx),h.ds⟩
  ·rcases List.mem_cons.1 (p2.mem_iff.1 hx) with rfl | hx
   ·exact ⟨z1,hs⟩
   ·exact h.f0 x hx
theorem Sav.less {t:Ln.Terms} {E E' l l':List Ln.Ev} {g:Ln.St} {day:Int} {L:List En} (h:Sav t E g day L) (pm:E.Perm l) (hl:l'.Sublist l) (hp:E'.Perm l') (so:E'.Pairwise So.Ah):Sav t E' g day L:=by
 have d1:l.Pairwise (fun a b=>¬ a.s = b.s):=(pm.pairwise_iff (fun x=>fun y=>x y.symm)).1 h.ds
 refine h.evs so ((hp.symm.pairwise_iff (fun x=>fun y=>x y.symm)).1 (d1.sublist hl)) (fun x hx=>h.f0 x (pm.mem_iff.2 (hl.mem (hp.mem_iff.1 hx)))) ?_
 have:=h.le
 rw [pm.length_eq] at this
 rw [hp.length_eq]
 exact Nat.le_trans hl.length_le this
end Go.Proofs.YtanndhoimpnhpaaGreatDoor
namespace Go.Proofs.YtanndhoimpnhpaaGreatDoor
def joinL:List (List UInt8)→List UInt8
 | []=>[]
 | l :: r=>l ++ 10 :: joinL r
theorem cutL_join:∀ s:List UInt8,joinL (cutL s).1 ++ (cutL s).2 = s
 | []=>rfl
 | c :: r=>by
  have ih:=cutL_join r
  rw [cutL]
  by_cases hc:c = 10
  ·rw [if_pos hc]
   subst hc
   simp only [joinL,List.nil_append,List.cons_append,ih]
  ·rw [if_neg hc]
   cases h:(cutL r).1 with
   | nil =>
    rw [h] at ih
    simp only [joinL,List.nil_append] at ih ⊢
    rw [ih]
   | cons x y =>
    rw [h] at ih
    simp only [joinL,List.append_assoc,List.cons_append] at ih ⊢
    rw [ih]
def txtP (sv:Sv):Nat→List UInt8
 | 0=>lineB wLoan (tmN sv.t)
 | 1=>lineB wLoan (tmN sv.t) ++ evT sv.l
 | 2=>lineB wLoan (tmN sv.t) ++ evT sv.l ++ lineB wAt [sv.day]
 | 3=>lineB wLoan (tmN sv.t) ++ evT sv.l ++ lineB wAt [sv.day] ++ lineB wNow (nwN sv.g)
 | 4=>lineB wLoan (tmN sv.t) ++ evT sv.l ++ lineB wAt [sv.day] ++ lineB wNow (nwN sv.g) ++ enT sv.L
 | _=>txtB sv.t sv.l sv.g sv.day sv.L
structure Pfx (j:Nat) (sv:Sv) (p:List UInt8):Prop where
 tx:p = txtP sv j
 sa:Sav sv.t sv.l sv.g sv.day sv.L
 l0:j < 1→sv.l = []
 L0:j < 4→sv.L = []
def Pfs (j:Int) (σ:Option Sv) (p:List UInt8):Prop:=(j = -1∧p = [])∨∃ (k:Nat) (sv:Sv),j = k∧σ = some sv∧Pfx k sv p
theorem addC_len {t:Ln.Terms} {l:List Ln.Ev} {e:Ln.Ev} (h:addC t l e = 0):l.length < 40:=by
 rw [addC_eq] at h
 split at h
 ·rename_i hx; exact absurd h hx
 ·split at h
  ·omega
  ·omega
theorem lineB_eq (word:List UInt8) (ns:List Int):lineB word ns = (word ++ lnum ns) ++ [10]:=rfl
theorem pfs_step {j:Int} {σ:Option Sv} {p line:List UInt8} {k:Nat} {ns:List Int} {s':Sv} (h:Pfs j σ p) (hl:Lnk k ns line) (hn:nextOk j k = true) (hs:stepK σ k ns = some s'):Pfs k (some s') (p ++ (line ++ [10])):=by
 obtain ⟨hr,word,hw,hc,rfl⟩:=hl
 obtain ⟨hk,hw⟩:=wds_wdk hw
 rw [cnk_cnt hk] at hc
 have hc:=Option.some.inj hc
 subst hw
 have hn:((k = 1∨k = 4)∧(k:Int) = j)∨(k:Int) = j+1∨((k:Int) = j+2∧(k = 2∨k = 5)):=of_decide_eq_true hn
 refine .inr ⟨k,s',rfl,rfl,?_⟩
 have hx:∀ {i:Nat} {sv:Sv},j = i→σ = some sv→Pfx i sv p→sv.read k ns = some s'→¬ k = 0→Pfx k s' (p ++ (wdk k ++ lnum ns ++ [10])):=by
  rintro i sv rfl rfl ⟨rfl,hg,h0,h4⟩ hs hk0
  match k,ns,hs,hc,hn,hr with
  | 1,[d,kd,q,a],hs,_,hn,hr =>
   simp only [Sv.read] at hs
   split at hs
   ·rename_i hcn
    injection hs with hs
    subst hs
    refine ⟨?_,hg.told1 (List.Perm.refl _) (.inr ⟨hcn.2,List.Perm.refl _⟩) (ah_all hg.so hcn.1) (by have:=addC_len hcn.2; simp; omega) (hr q (by simp)),fun h=>absurd h (by decide),fun _=>h4 (by omega)⟩
    have hi:i = 0∨i = 1:=by omega
    have e1:txtP sv i = lineB wLoan (tmN sv.t) ++ evT sv.l:=by
     rcases hi with rfl | rfl
     ·rw [h0 (by decide)]; simp [txtP,evT]
     ·rfl
    rw [e1]
    show _ = lineB wLoan (tmN sv.t) ++ evT (sv.l ++ [⟨d,kd,q,a⟩])
    rw [evT_app]
    simp [evT,evN,lineB,wdk,wds]
   ·cases hs
  | 2,[n],hs,_,hn,hr =>
   simp only [Sv.read] at hs
   split at hs
   ·rename_i hcn
    injection hs with hs
    subst hs
    refine ⟨?_,⟨hg.rt,hg.so,hg.ds,hg.f0,hg.le,hcn.1,hcn.2,hg.nw,fun e he=>by rw [show sv.L = [] from h4 (by omega)] at he; simp at he⟩,fun h=>absurd h (by decide),fun _=>h4 (by omega)⟩
    have hi:i = 0∨i = 1:=by omega
    have e1:txtP sv i = lineB wLoan (tmN sv.t) ++ evT sv.l:=by
     rcases hi with rfl | rfl
     ·rw [h0 (by decide)]; simp [txtP,evT]
     ·rfl
    rw [e1]
    rfl
   ·cases hs
  | 3,[a,b,c,d,e,f,r],hs,_,hn,hr =>
   simp only [Sv.read] at hs
   injection hs with hs
   subst hs
   refine ⟨?_,⟨hg.rt,hg.so,hg.ds,hg.f0,hg.le,hg.d0,hg.d1,hr,hg.en⟩,fun h=>absurd h (by decide),fun _=>h4 (by omega)⟩
   obtain rfl:i = 2:=by omega
   rfl
  | 4,[d,kd,a],hs,_,hn,hr =>
   simp only [Sv.read] at hs
   split at hs
   ·rename_i hcn
    injection hs with hs
    subst hs
    refine ⟨?_,⟨hg.rt,hg.so,hg.ds,hg.f0,hg.le,hg.d0,hg.d1,hg.nw,fun e he=>?_⟩,fun h=>absurd h (by decide),fun h=>absurd h (by decide)⟩
    ·have hi:i = 3∨i = 4:=by omega
     have e1:txtP sv i = txtP sv 3 ++ enT sv.L:=by
      rcases hi with rfl | rfl
      ·rw [h4 (by decide)]; simp [enT]
      ·rfl
     rw [e1]
     show _ = txtP sv 3 ++ enT (sv.L ++ [⟨d,kd,a⟩])
     rw [enT_app]
     simp [enT,enN,lineB,wdk,wds]
    ·rcases List.mem_append.1 he with he | he
     ·exact hg.en e he
     ·obtain rfl:=List.mem_singleton.1 he
      exact ⟨hcn.1,hcn.2.1,hcn.2.2.1,hcn.2.2.2.1,hcn.2.2.2.2,hr a (by simp)⟩
   ·cases hs
  | 5,[],hs,_,hn,hr =>
   simp only [Sv.read] at hs
   injection hs with hs
   subst hs
   refine ⟨?_,hg,fun h=>absurd h (by decide),fun h=>absurd h (by decide)⟩
   have hi:i = 3∨i = 4:=by omega
   have e1:txtP sv i = txtP sv 4:=by
    rcases hi with rfl | rfl
    ·show _ = txtP sv 3 ++ enT sv.L
     rw [h4 (by decide)]; simp [enT]
    ·rfl
   rw [e1]
   rfl
 rcases h with ⟨hj,rfl⟩ | ⟨i,sv,hj,hσ,hp⟩
 ·obtain rfl:k = 0:=by omega
  unfold stepK at hs
  rw [if_pos rfl] at hs
  match ns,hs,hr with
  | [a,b,c,d,e,f],hs,hr =>
   simp only [Sv.first] at hs
   split at hs
   ·rename_i ht
    injection hs with hs
    subst hs
    exact ⟨rfl,Sav.start ht,fun _=>rfl,fun _=>rfl⟩
   ·cases hs
 ·have hk0:¬ k = 0:=by omega
  unfold stepK at hs
  rw [if_neg hk0] at hs
  subst hσ
  exact hx hj rfl hp hs hk0
theorem fin_txt:∀ (ls:List (List UInt8)) (j:Int) (σ:Option Sv) (p:List UInt8) (sv:Sv),Pfs j σ p→fin j σ ls = some sv→p ++ joinL ls = txtB sv.t sv.l sv.g sv.day sv.L∧Sav sv.t sv.l sv.g sv.day sv.L
 | [],j,σ,p,sv,h,hf=>by
  rw [fin] at hf
  split at hf
  ·rename_i hj
   rcases h with ⟨h1,_⟩ | ⟨k,s1,h1,rfl,h2⟩
   ·omega
   ·injection hf with hf
    subst hf
    obtain rfl:k = 5:=by omega
    refine ⟨?_,h2.sa⟩
    rw [h2.tx]
    simp [joinL,txtP]
  ·cases hf
 | line :: r,j,σ,p,sv,h,hf=>by
  rw [fin] at hf
  cases hc:cls line with
  | none=>rw [hc] at hf; cases hf
  | some q =>
   obtain ⟨k,ns⟩:=q
   rw [hc] at hf
   simp only at hf
   split at hf
   ·rename_i hn
    cases hs:stepK σ k ns with
    | none=>rw [hs] at hf; cases hf
    | some s' =>
     rw [hs] at hf
     simp only at hf
     have ih:=fin_txt r k (some s') _ sv (pfs_step h (cls_some hc) hn hs) hf
     refine ⟨?_,ih.2⟩
     rw [← ih.1]
     simp [joinL]
   ·cases hf
theorem told_sav {s:List UInt8} {sv:Sv} (h:told s = some sv):s = txtB sv.t sv.l sv.g sv.day sv.L∧Sav sv.t sv.l sv.g sv.day sv.L:=by
 unfold told at h
 split at h
 ·rename_i hc
  have h1:=fin_txt _ (-1) none [] sv (.inl ⟨rfl,rfl⟩) h
  refine ⟨?_,h1.2⟩
  rw [← h1.1,List.nil_append]
  have:=cutL_join s
  rw [hc,List.append_nil] at this
  exact this.symm
 ·cases h
theorem told_txt {s:List UInt8} {sv:Sv} (h:told s = some sv):s = txtB sv.t sv.l sv.g sv.day sv.L∧Rg sv.t sv.l sv.g sv.day sv.L:=⟨(told_sav h).1,(told_sav h).2.rg⟩
theorem itoa_some (n:Int):1≤(Lib.itoa n).length:=by
 have hd:∀ u:Nat,1≤(Lib.decDigits u).length:=fun u=>by
  rw [Lib.decDigits_length]
  exact Lib.nDigits_pos u
 unfold Lib.itoa
 split
 ·simp
 ·exact hd _
theorem enT_more:∀ L:List En,10*L.length≤(enT L).length
 | []=>by simp
 | e :: r=>by
  have:=enT_more r
  have h1:=itoa_some e.d
  have h2:=itoa_some e.k
  have h3:=itoa_some e.a
  have h4:wEntry.length = 5:=rfl
  simp only [enT,enN,lnum,List.length_append,List.length_cons,lineB_eq,List.length_nil]
  omega
theorem txtB_more (t:Ln.Terms) (E:List Ln.Ev) (g:Ln.St) (day:Int) (L:List En):10*L.length≤(txtB t E g day L).length:=by
 have:=enT_more L
 unfold txtB
 simp only [List.length_append]
 omega
def cents (g:Ln.St):Ln.St:=⟨g.pr,g.it,g.du,g.la,g.fi,g.cr,g.rt,0,0,0⟩
structure Tel (t:Ln.Terms) (E:List Ln.Ev) (day:Int) (L:List En):Prop where
 rt:rtB t = true
 ev:∀ i (hi:i < E.length),(∀ x,(E.take i).getLast? = some x→aheadB x E[i] = true)∧addC t (E.take i) E[i] = 0
 d0:t.st≤day
 d1:day≤t.st+3700
 en:∀ e∈L,t.st≤e.d∧e.d < day∧1≤e.k∧e.k≤12∧¬ e.a = 0
theorem nx_lineB {word:List UInt8} {ns:List Int} (r:List UInt8) (h:∀ m∈ns,InR m):Nx (lineB word ns ++ r) word ns.length ns r :=
 ⟨by simp [lineB],rfl,h⟩
theorem tl_events (t:Ln.Terms) (g:Ln.St) (day:Int) (E:List Ln.Ev) (hr:∀ e∈E,∀ n∈evN e,InR n) (h:∀ i (hi:i < E.length),(∀ x,(E.take i).getLast? = some x→aheadB x E[i] = true)∧addC t (E.take i) E[i] = 0) (r:List UInt8) :
  ∀ n,n≤E.length→tl 1 (some ⟨t,[],g,day,[]⟩) (evT E ++ r) = tl 1 (some ⟨t,E.take n,g,day,[]⟩) (evT (E.drop n) ++ r)
 | 0,_=>by simp
 | n+1,hn=>by
  rw [tl_events t g day E hr h r n (by omega)]
  have hd:E.drop n = E[n] :: E.drop (n+1):=List.drop_eq_getElem_cons (by omega)
  rw [hd]
  simp only [evT,List.append_assoc]
  refine tl_go (j:=1) (k:=1) (ns:=evN E[n]) (by omega) (nx_lineB _ (hr _ (List.getElem_mem _))) (by decide) ?_
  have h1:=h n (by omega)
  unfold stepK
  rw [if_neg (by decide)]
  show (if (∀ x,(E.take n).getLast? = some x→aheadB x ⟨E[n].d,E[n].k,E[n].s,E[n].a⟩ = true)∧addC t (E.take n) ⟨E[n].d,E[n].k,E[n].s,E[n].a⟩ = 0 then some (⟨t,E.take n ++ [⟨E[n].d,E[n].k,E[n].s,E[n].a⟩],g,day,[]⟩:Sv) else none) = _
  rw [if_pos h1,List.take_succ_eq_append_getElem (by omega)]
theorem tl_entries (t:Ln.Terms) (E:List Ln.Ev) (g:Ln.St) (day:Int) (L:List En) (hr:∀ e∈L,∀ n∈enN e,InR n) (h:∀ e∈L,t.st≤e.d∧e.d < day∧1≤e.k∧e.k≤12∧¬ e.a = 0) (r:List UInt8) :
  ∀ n,n≤L.length→tl 4 (some ⟨t,E,g,day,[]⟩) (enT L ++ r) = tl 4 (some ⟨t,E,g,day,L.take n⟩) (enT (L.drop n) ++ r)
 | 0,_=>by simp
 | n+1,hn=>by
  rw [tl_entries t E g day L hr h r n (by omega)]
  have hd:L.drop n = L[n] :: L.drop (n+1):=List.drop_eq_getElem_cons (by omega)
  rw [hd]
  simp only [enT,List.append_assoc]
  refine tl_go (j:=4) (k:=4) (ns:=enN L[n]) (by omega) (nx_lineB _ (hr _ (List.getElem_mem _))) (by decide) ?_
  have h1:=h L[n] (List.getElem_mem _)
  unfold stepK
  rw [if_neg (by decide)]
  show (if t.st≤L[n].d∧L[n].d < day∧1≤L[n].k∧L[n].k≤12∧¬ L[n].a = 0 then some (⟨t,E,g,day,L.take n ++ [⟨L[n].d,L[n].k,L[n].a⟩]⟩:Sv) else none) = _
  rw [if_pos h1,List.take_succ_eq_append_getElem (by omega)]
theorem txt_told {t:Ln.Terms} {E:List Ln.Ev} {g:Ln.St} {day:Int} {L:List En} (h:Tel t E day L) (hr:Rg t E g day L):told (txtB t E g day L) = some ⟨t,E,cents g,day,L⟩:=by
 have e1:txtB t E g day L = lineB wLoan (tmN t) ++ (evT E ++ (lineB wAt [day] ++ (lineB wNow (nwN g) ++ (enT L ++ (lineB wEnd [] ++ []))))):=by
  unfold txtB
  simp only [List.append_assoc,List.append_nil]
 rw [told_tl,e1]
 have s0:=tl_go (j:=-1) (σ:=none) (k:=0) (ns:=tmN t) (s':=⟨t,[],Ln.start t,t.st,[]⟩) (by omega) (nx_lineB (evT E ++ (lineB wAt [day] ++ (lineB wNow (nwN g) ++ (enT L ++ (lineB wEnd [] ++ []))))) hr.tm) (by decide) (by
  show Sv.first [t.st,t.pr,t.rt,t.fi,t.ba,t.du] = _
  simp only [Sv.first]
  rw [if_pos h.rt])
 rw [show lineB wLoan (tmN t) = lineB (wdk 0) (tmN t) from rfl,s0]
 show tl 0 _ _ = _
 rw [tl_01,tl_events t (Ln.start t) t.st E hr.ev h.ev _ E.length (Nat.le_refl _),List.take_length,List.drop_length]
 have s2:=tl_go (j:=1) (σ:=some ⟨t,E,Ln.start t,t.st,[]⟩) (k:=2) (ns:=[day]) (s':=⟨t,E,Ln.start t,day,[]⟩) (by omega) (nx_lineB (lineB wNow (nwN g) ++ (enT L ++ (lineB wEnd [] ++ []))) (fun m hm=>by rw [List.mem_singleton.1 hm]; exact hr.dy)) (by decide) (by
  show (if t.st≤day∧day≤t.st+3700 then some (⟨t,E,Ln.start t,day,[]⟩:Sv) else none) = _
  rw [if_pos ⟨h.d0,h.d1⟩])
 show tl 1 _ (lineB (wdk 2) [day] ++ _) = _
 rw [s2]
 have s3:=tl_go (j:=2) (σ:=some ⟨t,E,Ln.start t,day,[]⟩) (k:=3) (ns:=nwN g) (s':=⟨t,E,cents g,day,[]⟩) (by omega) (nx_lineB (enT L ++ (lineB wEnd [] ++ [])) hr.nw) (by decide) rfl
 show tl 2 _ (lineB (wdk 3) (nwN g) ++ _) = _
 rw [s3]
 show tl 3 _ _ = _
 rw [tl_34,tl_entries t E (cents g) day L hr.en h.en _ L.length (Nat.le_refl _),List.take_length,List.drop_length]
 have s5:=tl_go (j:=4) (σ:=some ⟨t,E,cents g,day,L⟩) (k:=5) (ns:=[]) (s':=⟨t,E,cents g,day,L⟩) (by omega) (nx_lineB [] (fun m hm=>by simp at hm)) (by decide) rfl
 show tl 4 _ (lineB (wdk 5) [] ++ []) = _
 rw [s5]
 show tl 5 _ _ = _
 rw [tl_end,if_pos rfl]
def Shl (s:List UInt8):Prop:=(∀ l∈(cutL s).1,l.length < 4294967281)∧(cutL s).2.length < 4294967281
def Sh (s:List UInt8):Prop:=Shl s∧s.length≤1000000000000
theorem cutL_len:∀ s:List UInt8,(∀ l∈(cutL s).1,l.length≤s.length)∧(cutL s).2.length≤s.length
 | []=>⟨fun l hl=>by simp [cutL] at hl,by simp [cutL]⟩
 | c :: r=>by
  have ih:=cutL_len r
  rw [cutL]
  split
  ·refine ⟨fun l hl=>?_,by simp; omega⟩
   rcases List.mem_cons.1 hl with rfl | hl
   ·simp
   ·have:=ih.1 l hl; simp; omega
  ·cases h:(cutL r).1 with
   | nil=>exact ⟨fun l hl=>by simp at hl,by simp; omega⟩
   | cons x y =>
    rw [h] at ih
    refine ⟨fun l hl=>?_,by simp; omega⟩
    rcases List.mem_cons.1 hl with rfl | hl
    ·have:=ih.1 x (by simp); simp; omega
    ·have:=ih.1 l (by simp [hl]); simp; omega
theorem Sh.short {s:List UInt8} (h:s.length < 4294967281):Sh s :=
 ⟨⟨fun l hl=>by have:=(cutL_len s).1 l hl; omega,by have:=(cutL_len s).2; omega⟩,by omega⟩
theorem Shl.line {line r:List UInt8} (hn:NoL line) (h:Shl (line ++ 10 :: r)):line.length < 4294967281∧Shl r:=by
 unfold Shl at h
 rw [cutL_line _ _ hn] at h
 exact ⟨h.1 line (by simp),fun l hl=>h.1 l (by simp [hl]),h.2⟩
theorem Shl.more {line r:List UInt8} (hn:NoL line) (h1:line.length < 4294967281) (h:Shl r):Shl (line ++ 10 :: r):=by
 unfold Shl
 rw [cutL_line _ _ hn]
 refine ⟨fun l hl=>?_,h.2⟩
 rcases List.mem_cons.1 hl with rfl | hl
 ·exact h1
 ·exact h.1 l hl
theorem Sh.line {line r:List UInt8} (hn:NoL line) (h:Sh (line ++ 10 :: r)):line.length < 4294967281∧Sh r:=by
 obtain ⟨h1,h2⟩:=h.1.line hn
 refine ⟨h1,h2,?_⟩
 have:=h.2
 simp at this
 omega
theorem Sh.tail {s:List UInt8} (hn:NoL s) (h:Sh s):s.length < 4294967281:=by
 have:=h.1.2
 rw [cutL_tail s hn] at this
 exact this
def Lq (s' s:List UInt8):Prop:=s'.length≤s.length∧(Sh s→Sh s')
theorem Lq.refl (s:List UInt8):Lq s s:=⟨Nat.le_refl _,fun h=>h⟩
theorem Lq.trans {a b c:List UInt8} (h:Lq a b) (h':Lq b c):Lq a c:=⟨Nat.le_trans h.1 h'.1,fun x=>h.2 (h'.2 x)⟩
theorem Lq.nx {s word:List UInt8} {n:Nat} {ns:List Int} {r:List UInt8} (hw:NoL word) (h:Nx s word n ns r):Lq r s:=by
 obtain ⟨rfl,_,_⟩:=h
 exact ⟨by simp; omega,fun h=>(h.line (hw.app (lnum_noL ns))).2⟩
end Go.Proofs.YtanndhoimpnhpaaGreatDoor
