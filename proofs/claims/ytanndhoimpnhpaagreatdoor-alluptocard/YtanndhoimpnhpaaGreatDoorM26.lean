/- Joined by program: BsN, BsO, BsP, LwG0. -/
import Derived.Test.YtanndhoimpnhpaaGreatDoorM25
namespace Go.Proofs.YtanndhoimpnhpaaGreatDoor
open Go.ChangeShapes Go.WideShapes Go.ChangeAt Go.RowKit Go.WideMaps Go.Maps Cal
theorem env_drop {w:World} {base:Nat} {p:Option Addr} {cap:Nat} {L:List En} (h:w.ownsRow base 114 3 (.slice p L.length cap) L.length (ens L)) (k:Nat) (hk:k≤L.length):EnV w (.slice (if cap = k then p else p.map (·.add (k*3))) (L.length - k) (cap - k)) (L.drop k):=by
 have hll:(L.drop k).length = L.length - k:=by simp
 obtain ⟨p2,cap2,e,hc,hr⟩:=own_en h
 injection e with e1 _ e3
 subst e1 e3
 refine ⟨_,cap - k,by rw [hll],by omega,fun i hi=>?_⟩
 obtain ⟨b,o,rfl,hb,hx⟩:=hr (k+i) (by omega)
 rw [if_neg (by omega)]
 refine ⟨b,o+k*3,by simp only [Option.map_some,Addr.add_lit],hb,fun j u hu=>?_⟩
 rw [List.getElem_drop] at hu
 have:=hx j u hu
 rw [show o+k*3+i*3+j = o+(k+i)*3+j by omega]
 exact this
set_option maxRecDepth 10000 in
theorem reffrom_any (w:World) (D:Nat) (t:Ln.Terms) (l:List Ln.Ev) (g:Ln.St) (day:Int) (L:List En) (evv bkv:Value) (h:DcX w D t l g day L evv bkv) (x:Int) :
  Calls Tryz.prog 66 #[.pointer (some ⟨D,0,none⟩),.int .i64 x] w fun e w'=>∃ v,e = .returned v∧EnV w v (L.drop (kf x L.length))∧w' = w:=by
 obtain ⟨p,cap,rfl⟩:=own_slice h.bk
 have c15:w.cell? ⟨D,15,none⟩ = some (.slice p L.length cap):=h.ln.cell 15 rfl
 have HB:=(show Hid _ from h.bk)
 clear h
 by_cases h1:x < 0
 ·obtain ⟨q,hs,hq⟩:=bslice_from p L.length cap 0 (Nat.zero_le _) w
  have hkf:kf x L.length = 0:=by unfold kf; omega
  have HE:Hid (EnV w (.slice q (L.length - 0) (cap - 0)) (L.drop (kf x L.length))):=by rw [hkf,hq]; exact env_drop HB.out 0 (Nat.zero_le _)
  have zz:¬ (L.length:Int) < 0:=by omega
  have hs0:(Instr.sliceAt 54 (.slice p L.length cap) (some (.int .i64 0)) none none).run Tryz.prog w = .ok (.slice q (L.length - 0) (cap - 0)) w:=hs
  clear hs hq hkf HB
  generalize Value.slice q (L.length - 0) (cap - 0) = vv at *
  go_enter Tryz.func66,Tryz.ntmps66
  go_wp2
  go_ret
  exact ⟨_,rfl,HE.out,rfl⟩
 ·obtain ⟨m,rfl⟩:=Int.eq_ofNat_of_zero_le (show 0≤x by omega)
  by_cases h2:L.length < m
  ·obtain ⟨q,hs,hq⟩:=bslice_from p L.length cap L.length (Nat.le_refl _) w
   have hkf:kf (m:Int) L.length = L.length:=by unfold kf; omega
   have HE:Hid (EnV w (.slice q (L.length - L.length) (cap - L.length)) (L.drop (kf (m:Int) L.length))):=by rw [hkf,hq]; exact env_drop HB.out L.length (Nat.le_refl _)
   have zz:(L.length:Int) < (m:Int):=by omega
   have zm:¬ (m:Int) < 0:=by omega
   clear hq hkf HB
   generalize Value.slice q (L.length - L.length) (cap - L.length) = vv at *
   go_enter Tryz.func66,Tryz.ntmps66
   go_wp2
   go_ret
   exact ⟨_,rfl,HE.out,rfl⟩
  ·obtain ⟨q,hs,hq⟩:=bslice_from p L.length cap m (by omega) w
   have hkf:kf (m:Int) L.length = m:=by unfold kf; omega
   have HE:Hid (EnV w (.slice q (L.length - m) (cap - m)) (L.drop (kf (m:Int) L.length))):=by rw [hkf,hq]; exact env_drop HB.out m (by omega)
   have zz:¬ (L.length:Int) < (m:Int):=by omega
   have zm:¬ (m:Int) < 0:=by omega
   clear hq hkf HB
   generalize Value.slice q (L.length - m) (cap - m) = vv at *
   go_enter Tryz.func66,Tryz.ntmps66
   go_wp2
   go_ret
   exact ⟨_,rfl,HE.out,rfl⟩
def kFr0 (i:Nat):Int:=if i = 0 then 0 else kFrom i
theorem kTo_rng (k:Int):0≤kTo k∧kTo k < 9:=by
 unfold kTo
 split <;> (try split) <;> (try split) <;> (try split) <;> (try split) <;> omega
theorem kFrom_rng (k:Int):0≤kFrom k∧kFrom k < 9:=by
 unfold kFrom
 split <;> (try split) <;> (try split) <;> (try split) <;> (try split) <;> (try split) <;> (try split) <;> (try split) <;> omega
structure DcA (w:World) (f:Nat→Int) (wx:World):Prop where
 ac:At wx w.heap.size (hc 9 f)
 ta:At wx (w.heap.size+1) (hc 13 (fun i=>kTo i))
 fa:At wx (w.heap.size+2) (hc 13 kFr0)
 bl:Below w.heap.size w wx
 sz:w.heap.size+3≤wx.heap.size
set_option maxRecDepth 10000 in
set_option maxHeartbeats 4000000 in
theorem refacc_any (w:World) (D:Nat) (t:Ln.Terms) (l:List Ln.Ev) (g:Ln.St) (day:Int) (L:List En) (evv bkv:Value) (h:DcX w D t l g day L evv bkv) (hL:L.length≤4000000000000) :
  Calls Tryz.prog 69 #[.pointer (some ⟨D,0,none⟩)] w (AccPost w (wacc L)):=by
 obtain ⟨bp,bcap,rfl⟩:=own_slice h.bk
 have hDl:D < w.heap.size:=At.lt (v:=.int .i64 t.st) h.ln
 have HCell:Hid (∀ k (hk:k < L.length),∃ b o,bp = some ⟨b,o,none⟩∧b < w.heap.size∧w.rangeAt b (o+k*3) (enl L[k])):=by
  obtain ⟨p2,cap2,e,_,hr⟩:=own_en h.bk
  injection e with e1 _ _
  subst e1
  exact hr
 have HK:Hid (∀ e∈L,1≤e.k∧e.k≤12):=fun e he=>(h.inl e he).2.2
 have HC15:Hid (∀ wx,Below w.heap.size w wx→wx.cell? ⟨D,15,none⟩ = some (.slice bp L.length bcap)):=fun wx hx=>(World.cell?_of_block (w:=w) (a:=⟨D,15,none⟩) (hx.block D hDl)).trans (h.ln.cell 15 rfl)
 obtain ⟨i0,hi0,hz0,hz1,hz2⟩:=info_parts bsI
 have hmk:∀ u:World,(Instr.makeSlice 38 (.int .i64 9) (.int .i64 9)).run Tryz.prog u = .ok (.slice (some ⟨u.heap.size,0,none⟩) 9 9) (u.alloc (.cells (hc 9 (fun _=>0)).toArray 3)):=fun u=>by
  have h:=run_make (P:=Tryz.prog) u 38 3 i0 (.int .i64 0) Tryz.underlying38 hi0 hz0 .i64 .i64 9 9 (by omega) (Int.le_refl _) (by rw [hz2]; omega) (by omega)
  rw [hz1,show madeCells (Value.int .i64 0).cells (Int.toNat 9*1) = (hc 9 (fun _=>0)).toArray by kernel_rfl] at h
  exact h
 have b1:Below w.heap.size w (w.alloc (.cells (hc 9 (fun _=>0)).toArray 3)):=(Below.refl _ _).alloc (Nat.le_refl _) _
 have z1:(w.alloc (.cells (hc 9 (fun _=>0)).toArray 3)).heap.size = w.heap.size+1:=by simp
 have b2:Below w.heap.size w ((w.alloc (.cells (hc 9 (fun _=>0)).toArray 3)).alloc (.cells (hc 13 (fun i=>kTo i)).toArray 3)):=b1.alloc b1.size _
 have z2:((w.alloc (.cells (hc 9 (fun _=>0)).toArray 3)).alloc (.cells (hc 13 (fun i=>kTo i)).toArray 3)).heap.size = w.heap.size+2:=by simp
 have HD:Hid (DcA w (wacc (L.take 0)) (((w.alloc (.cells (hc 9 (fun _=>0)).toArray 3)).alloc (.cells (hc 13 (fun i=>kTo i)).toArray 3)).alloc (.cells (hc 13 kFr0).toArray 3))):=by
  refine ⟨At.over (v:=.int .i64 0) (At.over (v:=.int .i64 0) (At.alloc w (hc 9 (fun _=>0)) _) _) _,At.over (v:=.int .i64 0) (At.allocs _ (hc 13 (fun i=>kTo i)) _ z1) _,At.allocs _ (hc 13 kFr0) _ z2,b2.alloc b2.size _,by simp⟩
 clear h b1 z1 b2 z2
 go_enter Tryz.func69,Tryz.ntmps69
 go_upto_region 4 with fail
 change Code.wp _ _ _ _ (((w.alloc (.cells (hc 9 (fun _=>0)).toArray 3)).alloc (.cells (hc 13 (fun i=>kTo i)).toArray 3)).alloc (.cells (hc 13 kFr0).toArray 3))
 generalize ((w.alloc (.cells (hc 9 (fun _=>0)).toArray 3)).alloc (.cells (hc 13 (fun i=>kTo i)).toArray 3)).alloc (.cells (hc 13 kFr0).toArray 3) = V0 at *
 obtain ⟨N0,hN0⟩:∃ N0,N0 = w.heap.size:=⟨_,rfl⟩
 obtain ⟨N1,hN1⟩:∃ N1,N1 = w.heap.size+1:=⟨_,rfl⟩
 obtain ⟨N2,hN2⟩:∃ N2,N2 = w.heap.size+2:=⟨_,rfl⟩
 rw [show w.heap.size+1+1 = N2 by omega,← hN1,← hN0]
 have HN0:=hid hN0
 have HN1:=hid hN1
 have HN2:=hid hN2
 have n01:N0 < N1:=by omega
 have n12:N1 < N2:=by omega
 clear hN0 hN1 hN2
 go_wp2
 go_loopw [6,7] (fun s6 _ wr=>∃ k:Nat,k≤L.length∧s6 = .int .i64 k∧DcA w (wacc (L.take k)) wr) (fun s6 _ _=>(L.length - intOf s6).toNat)
 case atStart=>exact ⟨0,Nat.zero_le _,rfl,HD.out⟩
 case round =>
  obtain ⟨k,hk,rfl,hS⟩:=hrel
  have HS:=hid hS
  have c15:=HC15.out wr hS.bl
  clear hS HD
  by_cases hlt:k < L.length
  ·obtain ⟨b,o,rfl,hbl,hr⟩:=HCell.out k hlt
   have hrW:wr.rangeAt b (o+k*3) (enl L[k]):=fun j u hu=>(World.cell?_of_block (w:=w) (a:=⟨b,o+k*3+j,none⟩) (HS.out.bl.block b hbl)).trans (hr j u hu)
   obtain ⟨k1,k12⟩:=HK.out L[k] (List.getElem_mem hlt)
   have HT:Hid (wacc (L.take (k+1)) = mv1 (wacc (L.take k)) L[k].k L[k].a):=wacc_take L k hlt
   clear hr
   generalize L[k] = en at *
   obtain ⟨ed,ek,ea⟩:=en
   obtain ⟨kd,rfl⟩:=Int.eq_ofNat_of_zero_le (show 0≤ek by have:1≤ek:=k1; omega)
   have k1':(1:Int)≤(kd:Int):=k1
   have k12':(kd:Int)≤12:=k12
   have zk:(k:Int) < (L.length:Int):=by omega
   have hb2:Below wr.heap.size wr (wr.alloc (.cells #[.int .i64 ed,.int .i64 (kd:Int),.int .i64 ea] 114)):=(Below.refl _ _).alloc (Nat.le_refl _) _
   have aE:At (wr.alloc (.cells #[.int .i64 ed,.int .i64 (kd:Int),.int .i64 ea] 114)) wr.heap.size [.int .i64 ed,.int .i64 (kd:Int),.int .i64 ea]:=At.alloc wr [.int .i64 ed,.int .i64 (kd:Int),.int .i64 ea] _
   have aO:At (wr.alloc (.cells #[.int .i64 ed,.int .i64 (kd:Int),.int .i64 ea] 114)) N0 (hc 9 (wacc (L.take k))):=by rw [HN0.out]; exact At.over (v:=.int .i64 (wacc (L.take k) 0)) HS.out.ac _
   have aT:At (wr.alloc (.cells #[.int .i64 ed,.int .i64 (kd:Int),.int .i64 ea] 114)) N1 (hc 13 (fun i=>kTo i)):=by rw [HN1.out]; exact At.over (v:=.int .i64 0) HS.out.ta _
   have aF:At (wr.alloc (.cells #[.int .i64 ed,.int .i64 (kd:Int),.int .i64 ea] 114)) N2 (hc 13 kFr0):=by rw [HN2.out]; exact At.over (v:=.int .i64 0) HS.out.fa _
   have hbW:Below w.heap.size w (wr.alloc (.cells #[.int .i64 ed,.int .i64 (kd:Int),.int .i64 ea] 114)):=HS.out.bl.trans (hb2.mono HS.out.bl.size)
   have n2e:N2 < wr.heap.size:=by have:=HS.out.sz; have:=HN2.out; omega
   have hrW2:wr.rangeAt b (o+k*3) [.int .i64 ed,.int .i64 (kd:Int),.int .i64 ea]:=hrW
   go_upto_region 7 with fail
   refine wp_region_lit ?_
   refine wpList_val (.pointer (some ⟨D,0,none⟩)) wr rfl rfl ?_
   simp only [uP]
   refine wpList_val (.pointer (some ⟨D,0,none⟩)) wr rfl (by go_simp) ?_
   simp only [uP]
   refine wpList_val (.pointer (some ⟨D,15,none⟩)) wr rfl (by go_simp) ?_
   simp only [uP]
   refine wpList_val (.slice (some ⟨b,o,none⟩) L.length bcap) wr rfl (by go_simp) ?_
   simp only [uP]
   refine wpList_val (.int .i64 k) wr rfl rfl ?_
   simp only [uP]
   refine wpList_val (.pointer (some ⟨b,o+k*3,none⟩)) wr rfl (by go_simp) ?_
   simp only [uP]
   refine wpList_load_mid rfl 114 (.tmp 25) rfl _ _ rfl [.int .i64 ed,.int .i64 (kd:Int),.int .i64 ea] _ hrW2 Tryz.underlying114 rfl (by kernel_rfl) ?_
   simp only [uP]
   clear hrW hrW2 c15
   go_upto_region 8 with (first | (refine wpList_store_new rfl 114 (.tmp 7) (.tmp 26) rfl #[.int .i64 ed,.int .i64 (kd:Int),.int .i64 ea] _ rfl rfl (by kernel_rfl) rfl (by kernel_rfl) ?_) | fail)
   generalize wr.alloc (.cells #[.int .i64 ed,.int .i64 (kd:Int),.int .i64 ea] 114) = V1 at *
   generalize hE0:wr.heap.size = E0 at *
   obtain ⟨tr1,tr2⟩:=kTo_rng kd
   obtain ⟨fr1,fr2⟩:=kFrom_rng kd
   have hne:=kTo_ne kd k1 k12
   obtain ⟨ti,hti⟩:=Int.eq_ofNat_of_zero_le tr1
   obtain ⟨fi,hfi⟩:=Int.eq_ofNat_of_zero_le fr1
   have ti9:(ti:Int) < 9:=by omega
   have fi9:(fi:Int) < 9:=by omega
   have K13:(kd:Int) < 13:=by omega
   have hnf:¬ fi = ti:=by omega
   generalize hf:wacc (L.take k) = f at *
   have tc:V1.cell? ⟨N1,kd,none⟩ = some (.int .i64 (ti:Int)):=by
    have:=aT.cell _ (hc_at 13 (fun i=>kTo i) kd (by omega))
    rwa [hti] at this
   have fc:V1.cell? ⟨N2,kd,none⟩ = some (.int .i64 (fi:Int)):=by
    have:=aF.cell _ (hc_at 13 kFr0 kd (by omega))
    unfold kFr0 at this
    rwa [if_neg (by omega),hfi] at this
   have HMv:Hid (∀ j,mv1 f kd ea j = if j = fi then wrap64 (f fi - ea) else if j = ti then wrap64 (f ti+ea) else f j):=fun j=>mv1_is f kd ea ti fi hti hfi j
   clear hti hfi hne tr1 tr2 fr1 fr2 k1 k12 k1' k12'

   simp only [uP]
   refine wp_region_held_drew (S:=fun wx=>wx.cell? ⟨N1,kd,none⟩ = some (.int .i64 (ti:Nat))∧wx.cell? ⟨E0,1,none⟩ = some (.int .i64 (kd:Nat))∧wx.cell? ⟨E0,2,none⟩ = some (.int .i64 ea)) (by kernel_rfl) ⟨tc,aE.cell 1 rfl,aE.cell 2 rfl⟩ (fun hHeld=>?_)
   have hOd:At V1.drew N0 (hc 9 f):=aO.drew
   have hxc:V1.drew.cell? ⟨N0,ti,none⟩ = some (.int .i64 (f ti)):=hOd.cell _ (hc_at 9 _ _ (by omega))
   have hxf:V1.drew.frozen? ⟨N0,ti,none⟩ = false:=hOd.free _ (hc_at 9 _ _ (by omega))
   generalize hV8:V1.drew = V8 at *
   refine tkk 0 (.slice (some ⟨N0,0,none⟩) 9 9) rfl ?_
   simp only [uP]
   refine tkk 1 (.slice (some ⟨N1,0,none⟩) 13 13) rfl ?_
   simp only [uP]
   refine tka 2 (.pointer (some ⟨E0,1,none⟩)) rfl ?_
   simp only [uP]
   refine tkh 3 (.int .i64 (kd:Nat)) rfl (fun wx hSw=>by (have hc:=hSw.2.1; go_simp)) ?_
   simp only [uP]
   refine tka 4 (.pointer (some ⟨N1,kd,none⟩)) rfl ?_
   simp only [uP]
   refine tkh 5 (.int .i64 (ti:Nat)) rfl (fun wx hSw=>by (have hc:=hSw.1; go_simp)) ?_
   simp only [uP]
   refine tkk 6 (.slice (some ⟨N0,0,none⟩) 9 9) rfl ?_
   simp only [uP]
   refine tkk 7 (.slice (some ⟨N1,0,none⟩) 13 13) rfl ?_
   simp only [uP]
   refine tka 8 (.pointer (some ⟨E0,1,none⟩)) rfl ?_
   simp only [uP]
   refine tkh 9 (.int .i64 (kd:Nat)) rfl (fun wx hSw=>by (have hc:=hSw.2.1; go_simp)) ?_
   simp only [uP]
   refine tka 10 (.pointer (some ⟨N1,kd,none⟩)) rfl ?_
   simp only [uP]
   refine tkh 11 (.int .i64 (ti:Nat)) rfl (fun wx hSw=>by (have hc:=hSw.1; go_simp)) ?_
   simp only [uP]
   refine tka 12 (.pointer (some ⟨N0,ti,none⟩)) rfl ?_
   simp only [uP]
   refine tka 14 (.pointer (some ⟨E0,2,none⟩)) rfl ?_
   simp only [uP]
   refine tkh 15 (.int .i64 ea) rfl (fun wx hSw=>by (have hc:=hSw.2.2; go_simp)) ?_
   simp only [uP]
   refine wpAnyH_ready (rs:=[13]) (by kernel_rfl) (by simp) ?_
   refine AllReadyH.cons rfl (fun KK hK=>?_) AllReadyH.nil
   rw [if_pos (by rfl)]
   refine wp_valD (.int .i64 (f ti)) V8 (by go_simp) ?_
   refine hK.out _ _ hHeld (fun _=>?_)
   clear hK KK
   try simp only [uP]
   refine tkg 16 (.int .i64 (IntKind.i64.wrap (f ti+ea))) rfl ?_
   simp only [uP]
   refine tka 17 (.pointer (some ⟨N0,ti,none⟩)) rfl ?_
   simp only [uP]
   refine wpAnyH_ready (rs:=[18]) (by kernel_rfl) (by simp) ?_
   refine AllReadyH.cons rfl (fun KK hK=>?_) AllReadyH.nil
   rw [if_pos (by rfl)]
   refine wp_skipD (V8.setCell ⟨N0,ti,none⟩ (.int .i64 (IntKind.i64.wrap (f ti+ea)))) (by go_simp) ?_
   have hS9:(V8.setCell ⟨N0,ti,none⟩ (.int .i64 (IntKind.i64.wrap (f ti+ea)))).cell? ⟨N1,kd,none⟩ = some (.int .i64 (ti:Nat))∧(V8.setCell ⟨N0,ti,none⟩ (.int .i64 (IntKind.i64.wrap (f ti+ea)))).cell? ⟨E0,1,none⟩ = some (.int .i64 (kd:Nat))∧(V8.setCell ⟨N0,ti,none⟩ (.int .i64 (IntKind.i64.wrap (f ti+ea)))).cell? ⟨E0,2,none⟩ = some (.int .i64 ea) :=
    ⟨(World.cell?_setCell_far _ _ _ _ (show N0 ≠ N1 by omega)).trans hHeld.1,(World.cell?_setCell_far _ _ _ _ (show N0 ≠ E0 by omega)).trans hHeld.2.1,(World.cell?_setCell_far _ _ _ _ (show N0 ≠ E0 by omega)).trans hHeld.2.2⟩
   refine hK.out _ _ hS9 (fun _=>?_)
   clear hK KK hHeld hS9 hxc hxf
   refine wpAnyH_done (by kernel_rfl) ?_ _
   have bO:At (V8.setCell ⟨N0,ti,none⟩ (.int .i64 (IntKind.i64.wrap (f ti+ea)))) N0 (hc 9 (fun i=>if i = ti then wrap64 (f ti+ea) else f i)):=by
    have h8:=hOd.set ti (by rw [hc_len]; omega) (.int .i64 (wrap64 (f ti+ea)))
    rw [hc_set 9 f (fun i=>if i = ti then wrap64 (f ti+ea) else f i) ti _ (fun j _=>rfl)] at h8
    rw [IntWalk.i64_left]
    exact h8
   have bF:(V8.setCell ⟨N0,ti,none⟩ (.int .i64 (IntKind.i64.wrap (f ti+ea)))).drew.cell? ⟨N2,kd,none⟩ = some (.int .i64 (fi:Int)):=(World.cell?_setCell_far _ _ _ _ (show N0 ≠ N2 by omega)).trans (by rw [← hV8]; exact fc)
   have bE1:(V8.setCell ⟨N0,ti,none⟩ (.int .i64 (IntKind.i64.wrap (f ti+ea)))).drew.cell? ⟨E0,1,none⟩ = some (.int .i64 (kd:Int)):=(World.cell?_setCell_far _ _ _ _ (show N0 ≠ E0 by omega)).trans (by rw [← hV8]; exact aE.cell 1 rfl)
   have bE2:(V8.setCell ⟨N0,ti,none⟩ (.int .i64 (IntKind.i64.wrap (f ti+ea)))).drew.cell? ⟨E0,2,none⟩ = some (.int .i64 ea):=(World.cell?_setCell_far _ _ _ _ (show N0 ≠ E0 by omega)).trans (by rw [← hV8]; exact aE.cell 2 rfl)
   have hk8:Keep (fun b=>b = N0) V1 (V8.setCell ⟨N0,ti,none⟩ (.int .i64 (IntKind.i64.wrap (f ti+ea)))):=by rw [← hV8]; exact ((Keep.refl _ _).drew).set (S:=fun b=>b = N0) rfl _ _
   generalize V8.setCell ⟨N0,ti,none⟩ (.int .i64 (IntKind.i64.wrap (f ti+ea))) = V9 at *
   clear hV8 hOd tc
   generalize hf1:(fun i=>if i = ti then wrap64 (f ti+ea) else f i) = f1 at *
   go_upto_region 9 with fail
   refine wp_region_held_drew (S:=fun wx=>wx.cell? ⟨N2,kd,none⟩ = some (.int .i64 (fi:Nat))∧wx.cell? ⟨E0,1,none⟩ = some (.int .i64 (kd:Nat))∧wx.cell? ⟨E0,2,none⟩ = some (.int .i64 ea)) (by kernel_rfl) ⟨bF,bE1,bE2⟩ (fun hHeld=>?_)
   have hOd:At V9.drew N0 (hc 9 f1):=bO.drew
   have hxc:V9.drew.cell? ⟨N0,fi,none⟩ = some (.int .i64 (f1 fi)):=hOd.cell _ (hc_at 9 _ _ (by omega))
   have hxf:V9.drew.frozen? ⟨N0,fi,none⟩ = false:=hOd.free _ (hc_at 9 _ _ (by omega))
   generalize hV9:V9.drew = V9x at *
   refine tkk 0 (.slice (some ⟨N0,0,none⟩) 9 9) rfl ?_
   simp only [uP]
   refine tkk 1 (.slice (some ⟨N2,0,none⟩) 13 13) rfl ?_
   simp only [uP]
   refine tka 2 (.pointer (some ⟨E0,1,none⟩)) rfl ?_
   simp only [uP]
   refine tkh 3 (.int .i64 (kd:Nat)) rfl (fun wx hSw=>by (have hc:=hSw.2.1; go_simp)) ?_
   simp only [uP]
   refine tka 4 (.pointer (some ⟨N2,kd,none⟩)) rfl ?_
   simp only [uP]
   refine tkh 5 (.int .i64 (fi:Nat)) rfl (fun wx hSw=>by (have hc:=hSw.1; go_simp)) ?_
   simp only [uP]
   refine tkk 6 (.slice (some ⟨N0,0,none⟩) 9 9) rfl ?_
   simp only [uP]
   refine tkk 7 (.slice (some ⟨N2,0,none⟩) 13 13) rfl ?_
   simp only [uP]
   refine tka 8 (.pointer (some ⟨E0,1,none⟩)) rfl ?_
   simp only [uP]
   refine tkh 9 (.int .i64 (kd:Nat)) rfl (fun wx hSw=>by (have hc:=hSw.2.1; go_simp)) ?_
   simp only [uP]
   refine tka 10 (.pointer (some ⟨N2,kd,none⟩)) rfl ?_
   simp only [uP]
   refine tkh 11 (.int .i64 (fi:Nat)) rfl (fun wx hSw=>by (have hc:=hSw.1; go_simp)) ?_
   simp only [uP]
   refine tka 12 (.pointer (some ⟨N0,fi,none⟩)) rfl ?_
   simp only [uP]
   refine tka 14 (.pointer (some ⟨E0,2,none⟩)) rfl ?_
   simp only [uP]
   refine tkh 15 (.int .i64 ea) rfl (fun wx hSw=>by (have hc:=hSw.2.2; go_simp)) ?_
   simp only [uP]
   refine wpAnyH_ready (rs:=[13]) (by kernel_rfl) (by simp) ?_
   refine AllReadyH.cons rfl (fun KK hK=>?_) AllReadyH.nil
   rw [if_pos (by rfl)]
   refine wp_valD (.int .i64 (f1 fi)) V9x (by go_simp) ?_
   refine hK.out _ _ hHeld (fun _=>?_)
   clear hK KK
   try simp only [uP]
   refine tkg 16 (.int .i64 (IntKind.i64.wrap (f1 fi - ea))) rfl ?_
   simp only [uP]
   refine tka 17 (.pointer (some ⟨N0,fi,none⟩)) rfl ?_
   simp only [uP]
   refine wpAnyH_ready (rs:=[18]) (by kernel_rfl) (by simp) ?_
   refine AllReadyH.cons rfl (fun KK hK=>?_) AllReadyH.nil
   rw [if_pos (by rfl)]
   refine wp_skipD (V9x.setCell ⟨N0,fi,none⟩ (.int .i64 (IntKind.i64.wrap (f1 fi - ea)))) (by go_simp) ?_
   have hS9:(V9x.setCell ⟨N0,fi,none⟩ (.int .i64 (IntKind.i64.wrap (f1 fi - ea)))).cell? ⟨N2,kd,none⟩ = some (.int .i64 (fi:Nat))∧(V9x.setCell ⟨N0,fi,none⟩ (.int .i64 (IntKind.i64.wrap (f1 fi - ea)))).cell? ⟨E0,1,none⟩ = some (.int .i64 (kd:Nat))∧(V9x.setCell ⟨N0,fi,none⟩ (.int .i64 (IntKind.i64.wrap (f1 fi - ea)))).cell? ⟨E0,2,none⟩ = some (.int .i64 ea) :=
    ⟨(World.cell?_setCell_far _ _ _ _ (show N0 ≠ N2 by omega)).trans hHeld.1,(World.cell?_setCell_far _ _ _ _ (show N0 ≠ E0 by omega)).trans hHeld.2.1,(World.cell?_setCell_far _ _ _ _ (show N0 ≠ E0 by omega)).trans hHeld.2.2⟩
   refine hK.out _ _ hS9 (fun _=>?_)
   clear hK KK hHeld hS9 hxc hxf
   refine wpAnyH_done (by kernel_rfl) ?_ _
   have hk9:Keep (fun b=>b = N0) V1 (V9x.setCell ⟨N0,fi,none⟩ (.int .i64 (IntKind.i64.wrap (f1 fi - ea)))):=by rw [← hV9]; exact (hk8.drew).set (S:=fun b=>b = N0) rfl _ _
   have HN:Hid (DcA w (wacc (L.take (k+1))) (V9x.setCell ⟨N0,fi,none⟩ (.int .i64 (IntKind.i64.wrap (f1 fi - ea))))):=by
    have h9:=hOd.set fi (by rw [hc_len]; omega) (.int .i64 (wrap64 (f1 fi - ea)))
    rw [hc_set 9 f1 (mv1 f kd ea) fi _ (fun j _=>?_)] at h9
    ·rw [HT.out]
     refine ⟨by rw [← HN0.out,IntWalk.i64_left]; exact h9,?_,?_,?_,?_⟩
     ·rw [← HN1.out]; exact At.keep (v:=.int .i64 0) aT hk9 (by omega)
     ·rw [← HN2.out]; exact At.keep (v:=.int .i64 0) aF hk9 (by omega)
     ·exact Keep.fresh hbW hk9 (fun b hb=>by have:=HN0.out; omega)
     ·have:=hk9.size; have:=hb2.size; have:=HN2.out; omega
    ·rw [HMv.out j,← hf1]
     simp only [hnf,if_false]
   generalize V9x.setCell ⟨N0,fi,none⟩ (.int .i64 (IntKind.i64.wrap (f1 fi - ea))) = V10 at *
   clear hk9 hk8 hOd bO bF bE1 bE2 aE aO aT aF fc HT HS hbW hb2
   go_wp2
   exact ⟨⟨k+1,hlt,rfl,HN.out⟩,by simp [intOf]; omega⟩
  ·obtain rfl:k = L.length:=by omega
   have zk:¬ (L.length:Int) < (L.length:Int):=by omega
   have HE:Hid (AccPost w (wacc L) (.returned (.slice (some ⟨N0,0,none⟩) 9 9)) wr):=by
    have h1:=HS.out
    rw [List.take_length] at h1
    exact ⟨N0,rfl,by have:=HN0.out; omega,by rw [HN0.out]; exact h1.ac,h1.bl⟩
   clear HS
   go_wp2
   go_ret
   exact HE.out
theorem okI_one {n:Nat} {xs:List Value} (h:okI n xs):∀ u∈xs,u.oneCell' = true:=by
 obtain ⟨_,zs,_,rfl⟩:=h
 intro u hu
 obtain ⟨z,_,rfl⟩:=List.mem_map.1 hu
 rfl
theorem okE_one {n:Nat} {xs:List Value} (h:okE n xs):∀ u∈xs,u.oneCell' = true:=by
 obtain ⟨_,L,_,rfl⟩:=h
 exact ens_cell1 L
def TookPost (w:World) (W:Nat) (p0 d0 p1 d1:Value) (c:Nat) (Q:Nat→Prop) (v:Value) (e:Ending) (w':World):Prop :=
 e = .returned (.tuple #[])∧∃ B',At w' W (wlb B' p0 d0 p1 d1)∧Bok w' B' (c+1) (fun b=>Wd Q w w' b∨v.ownBlock = some b)∧Keep (fun b=>b = W∨Q b) w w'
theorem tau_zero {τ:Nat→Nat} {Q:Nat→Prop} (ht:∀ b,τ b ≠ 0→Q b) {b:Nat} (hb:¬ Q b):τ b = 0:=by
 rcases Nat.eq_zero_or_pos (τ b) with e | e
 ·exact e
 ·exact absurd (ht b (by omega)) hb
theorem came_any (w:World) (W:Nat) (B:Bv) (p0 d0 p1 d1:Value) (c:Nat) (Q:Nat→Prop) (hA:At w W (wlb B p0 d0 p1 d1)) (hB:Bok w B c Q) (hc:c≤200000000) (hq:∀ b,Q b→b < w.heap.size) (hqw:¬ Q W) (v:Value) (n:Nat) (xs:List Value) (hok:okI n xs) (hv:OwT w 1 v n xs) (hvq:∀ b,v.ownBlock = some b→¬ Q b∧¬ b = W) :
  Calls Tryz.prog 70 #[.pointer (some ⟨W,0,none⟩),v] w (TookPost w W p0 d0 p1 d1 c Q v):=by
 obtain ⟨τ,L1,W1,R1,L2,W2,R2,h1,h2,ht,hn1,hn2⟩:=hB
 have h0:∀ b,τ b ≠ 0→b < w.heap.size:=fun b hb=>hq b (ht b hb)
 have hW:=tau_zero ht hqw
 have hv0:∀ b,v.ownBlock = some b→τ b = 0:=fun b hb=>tau_zero ht (hvq b hb).1
 have aw:∀ b x,τ b = x→x ≠ 0→¬ b = W:=fun b x hb hx e=>by subst e; omega
 refine (came_core w W _ B.l1 B.l2 B.w1 B.r1 v W1 R1 n xs hA h1.ow h1.or hv (okI_one hok) (by omega) hok.1 (fun b hb=>⟨aw b _ (h1.tw b hb) (by omega),fun e=>by have:=h1.tw b hb; have:=h1.tr b e; omega⟩) (fun b hb=>aw b _ (h1.tr b hb) (by omega)) (fun b hb=>⟨(hvq b hb).2,fun e=>by have:=h1.tw b e; have:=hv0 b hb; omega⟩)).mono ?_
 rintro e w' ⟨rfl,wv',rv',r,hA',hC⟩
 refine ⟨rfl,⟨B.l1,B.l2,wv',rv',B.w2,B.r2⟩,hA',⟨tauC τ 0 W1.length wv' rv' v r,L1,W1 ++ [v],R1 ++ [r],L2,W2,R2,h1.came (by omega) hC h0 hv0 (fun b hb=>⟨hv.lt hb,(hvq b hb).2⟩) hok hv hW,h2.came_other (by omega) (by omega) (by omega) h1.tw h1.tr hC h0 hv0 hW _,fun b hb=>?_,?_,?_⟩,?_⟩
 ·obtain ⟨h3,h4⟩:=hC.tags h1.tw h1.tr h0 (fun b hb=>hv.lt hb) _ b hb
  rcases h3 with h3 | h3 | h3
  ·exact .inl (.inl (ht b h3))
  ·exact .inr h3
  ·exact .inl (.inr ⟨h3,h4⟩)
 ·rw [List.length_append,List.length_singleton]; omega
 ·omega
 ·refine hC.kp.mono (fun b _ hb=>?_)
  rcases hb with hb | hb | hb
  ·exact .inl hb
  ·exact .inr (ht b (by rw [h1.tw b hb]; omega))
  ·exact .inr (ht b (by rw [h1.tr b hb]; omega))
theorem told_any2 (w:World) (W:Nat) (B:Bv) (p0 d0 p1 d1:Value) (c:Nat) (Q:Nat→Prop) (hA:At w W (wlb B p0 d0 p1 d1)) (hB:Bok w B c Q) (hc:c≤200000000) (hq:∀ b,Q b→b < w.heap.size) (hqw:¬ Q W) (v:Value) (n:Nat) (xs:List Value) (hok:okE n xs) (hv:OwT w 3 v n xs) (hvq:∀ b,v.ownBlock = some b→¬ Q b∧¬ b = W) :
  Calls Tryz.prog 67 #[.pointer (some ⟨W,0,none⟩),v] w (TookPost w W p0 d0 p1 d1 c Q v):=by
 obtain ⟨τ,L1,W1,R1,L2,W2,R2,h1,h2,ht,hn1,hn2⟩:=hB
 have h0:∀ b,τ b ≠ 0→b < w.heap.size:=fun b hb=>hq b (ht b hb)
 have hW:=tau_zero ht hqw
 have hv0:∀ b,v.ownBlock = some b→τ b = 0:=fun b hb=>tau_zero ht (hvq b hb).1
 have aw:∀ b x,τ b = x→x ≠ 0→¬ b = W:=fun b x hb hx e=>by subst e; omega
 refine (told_core w W _ B.l1 B.l2 B.w1 B.r1 B.w2 B.r2 v W2 R2 n xs hA h2.ow h2.or hv (okE_one hok) (by omega) hok.1 (fun b hb=>⟨aw b _ (h2.tw b hb) (by omega),fun e=>by have:=h2.tw b hb; have:=h2.tr b e; omega⟩) (fun b hb=>aw b _ (h2.tr b hb) (by omega)) (fun b hb=>⟨(hvq b hb).2,fun e=>by have:=h2.tw b e; have:=hv0 b hb; omega⟩)).mono ?_
 rintro e w' ⟨rfl,wv',rv',r,hA',hC⟩
 refine ⟨rfl,⟨B.l1,B.l2,B.w1,B.r1,wv',rv'⟩,hA',⟨tauC τ 1 W2.length wv' rv' v r,L1,W1,R1,L2,W2 ++ [v],R2 ++ [r],h1.came_other (by omega) (by omega) (by omega) h2.tw h2.tr hC h0 hv0 hW _,h2.came (by omega) hC h0 hv0 (fun b hb=>⟨hv.lt hb,(hvq b hb).2⟩) hok hv hW,fun b hb=>?_,?_,?_⟩,?_⟩
 ·obtain ⟨h3,h4⟩:=hC.tags h2.tw h2.tr h0 (fun b hb=>hv.lt hb) _ b hb
  rcases h3 with h3 | h3 | h3
  ·exact .inl (.inl (ht b h3))
  ·exact .inr h3
  ·exact .inl (.inr ⟨h3,h4⟩)
 ·omega
 ·rw [List.length_append,List.length_singleton]; omega
 ·refine hC.kp.mono (fun b _ hb=>?_)
  rcases hb with hb | hb | hb
  ·exact .inl hb
  ·exact .inr (ht b (by rw [h2.tw b hb]; omega))
  ·exact .inr (ht b (by rw [h2.tr b hb]; omega))
def AskPost (w:World) (W:Nat) (p0 d0 p1 d1:Value) (c:Nat) (Q:Nat→Prop) (e:Ending) (w':World):Prop :=
 e = .returned (.bool true)∧∃ B',At w' W (wlb B' p0 d0 p1 d1)∧Bok w' B' (c+2) (Wd Q w w')∧Keep (fun b=>b = W∨Q b) w w'
theorem took_two {w w1 w2 w3:World} {W:Nat} {p0 d0 p1 d1:Value} {c:Nat} {Q:Nat→Prop} {v u:Value} {B2:Bv} (hb:Below w.heap.size w w1) (hv:∀ b,v.ownBlock = some b→w.heap.size≤b∧b < w1.heap.size) (hu:∀ b,u.ownBlock = some b→w.heap.size≤b∧b < w1.heap.size)
  (k1:Keep (fun b=>b = W∨Q b) w1 w2) (k2:Keep (fun b=>b = W∨(fun b=>Wd Q w1 w2 b∨v.ownBlock = some b) b) w2 w3) (hA:At w3 W (wlb B2 p0 d0 p1 d1)) (hB:Bok w3 B2 (c+1+1) (fun b=>Wd (fun b=>Wd Q w1 w2 b∨v.ownBlock = some b) w2 w3 b∨u.ownBlock = some b)):AskPost w W p0 d0 p1 d1 c Q (.returned (.bool true)) w3:=by
 have z0:=hb.size
 have z1:=k1.size
 have z2:=k2.size
 refine ⟨rfl,B2,hA,hB.mono (fun b hx=>?_) (Nat.le_refl _),?_⟩
 ·rcases hx with ((hx | hx) | hx) | hx
  ·rcases hx with hx | hx
   ·exact .inl hx
   ·exact .inr ⟨by omega,by omega⟩
  ·have:=hv b hx
   exact .inr ⟨by omega,by omega⟩
  ·exact .inr ⟨by omega,by omega⟩
  ·have:=hu b hx
   exact .inr ⟨by omega,by omega⟩
 ·refine ⟨k2.os.trans (k1.os.trans hb.os),k2.tape.trans (k1.tape.trans hb.tape),k2.output.trans (k1.output.trans hb.output),by omega,fun b hx hn=>?_⟩
  have e1:=hb.block b hx
  have e2:=k1.block b (by omega) hn
  refine (k2.block b (by omega) (fun hy=>?_)).trans (e2.trans e1)
  rcases hy with hy | ((hy | hy) | hy)
  ·exact hn (.inl hy)
  ·exact hn (.inr hy)
  ·omega
  ·have:=hv b hy; omega
def accl (L:List En):List Int:=(List.range 9).map (wacc L)
theorem accl_len (L:List En):(accl L).length = 9:=by simp [accl]
theorem accl_hc (L:List En):isl (accl L) = hc 9 (wacc L):=by
 unfold isl accl hc
 rw [List.map_map]
 rfl
theorem kindsOf {w:World} {B D:Nat} {t:Ln.Terms} {E l:List Ln.Ev} {g:Ln.St} {day:Int} {L:List En} {F1 F2:Nat→Prop} (h:TwX w B D t E l g day L F1 F2):∀ e∈L,1≤e.k∧e.k≤12:=by
 obtain ⟨_,_,h1,_⟩:=h.dc
 exact fun e he=>(h1.inl e he).2.2
theorem bookX (w:World) (B:Nat) (t:Ln.Terms) (E:List Ln.Ev) (g:Ln.St) (day:Int) (L:List En) (F:Nat→Prop) (h:Lo w B t E g day L F) (hL:L.length≤4000000000000) (x:Int) :
  Calls Tryz.prog 21 #[.pointer (some ⟨B,0,none⟩),.int .i64 x] w fun r w'=>∃ v,r = .returned v∧OwT w' 3 v (L.drop (kf x L.length)).length (ens (L.drop (kf x L.length)))∧(∀ b,v.ownBlock = some b→w.heap.size≤b)∧Below w.heap.size w w':=by
 refine (bookL w B t E g day L F h hL x).mono ?_
 rintro e w' ⟨v,rfl,ho,hb⟩
 exact ⟨v,rfl,⟨_,by rw [List.length_drop]; exact own_low ho⟩,fun b hb=>(own_base ho hb).1,hb⟩
set_option maxRecDepth 10000 in
set_option maxHeartbeats 2000000 in
theorem accX (w:World) (B:Nat) (t:Ln.Terms) (E:List Ln.Ev) (g:Ln.St) (day:Int) (L:List En) (F:Nat→Prop) (h:Lo w B t E g day L F) (hL:L.length≤4000000000000) (hk:∀ e∈L,1≤e.k∧e.k≤12) (hm:Mv w) :
  Calls Tryz.prog 68 #[.pointer (some ⟨B,0,none⟩)] w fun r w'=>∃ v,r = .returned v∧OwT w' 1 v 9 (isl (accl L))∧(∀ b,v.ownBlock = some b→w.heap.size≤b)∧Below w.heap.size w w':=by
 obtain ⟨P,Mb,evv,bkv,h1,_⟩:=h
 have c15:w.cell? ⟨B,15,none⟩ = some (.pointer (some ⟨P,0,none⟩)):=h1.ln.cell 15 rfl
 have hA:=ledgerAcc_any w P bkv Mb L h1.bk hL hk hm
 clear h1 hk hm
 rw [accl_hc]
 generalize wacc L = f at *
 go_enter Tryz.func68,Tryz.ntmps68
 go_wp2_with fail
 refine hA.mono ?_
 rintro e w1 ⟨rfl,hb1⟩
 have HP:Hid (OwT (w1.alloc (.cells (hc 9 f).toArray 89)) 1 (.slice (some ⟨w1.heap.size,0,none⟩) 9 9) 9 (hc 9 f)∧(∀ b,(Value.slice (some ⟨w1.heap.size,0,none⟩) 9 9).ownBlock = some b→w.heap.size≤b)∧Below w.heap.size w (w1.alloc (.cells (hc 9 f).toArray 89))):=by
  refine ⟨⟨89,by rw [hc_len],.inr ⟨w1.heap.size,9,(hc 9 f).toArray,rfl,Nat.zero_le _,heap_alloc_new w1 _,Nat.le_refl _,by decide,by simp [hc_len],?_⟩⟩,fun b hb=>?_,hb1.alloc hb1.size _⟩
  ·rw [List.toList_toArray,List.take_of_length_le (by rw [hc_len]; omega)]
  ·have e:w1.heap.size = b:=by simpa [Value.ownBlock] using hb
   have:=hb1.size
   omega
 clear hA c15 hb1
 go_wp2_with (first | (refine wpList_store_new rfl 89 (.tmp 3) (.tmp 8) rfl (hc 9 f).toArray _ rfl rfl (by kernel_rfl) rfl (by kernel_rfl) ?_) | fail)
 go_ret
 exact ⟨_,rfl,HP.out⟩
theorem refaccX (w:World) (D:Nat) (t:Ln.Terms) (l:List Ln.Ev) (g:Ln.St) (day:Int) (L:List En) (evv bkv:Value) (h:DcX w D t l g day L evv bkv) (hL:L.length≤4000000000000) :
  Calls Tryz.prog 69 #[.pointer (some ⟨D,0,none⟩)] w fun r w'=>∃ v,r = .returned v∧IsV w' v (accl L)∧Below w.heap.size w w':=by
 refine (refacc_any w D t l g day L evv bkv h hL).mono ?_
 rintro e w' ⟨N,rfl,hN,hAt,hb⟩
 refine ⟨_,rfl,⟨some ⟨N,0,none⟩,9,by rw [accl_len],by rw [accl_len]; omega,fun k hk=>⟨N,0,rfl,At.lt (v:=.int .i64 (wacc L 0)) hAt,?_⟩⟩,hb⟩
 rw [accl_len] at hk
 have:=hAt.cell k (hc_at 9 (wacc L) k hk)
 rw [Nat.zero_add,this]
 simp [accl]
set_option maxRecDepth 10000 in
set_option maxHeartbeats 4000000 in
theorem booked_any (w:World) (W:Nat) (B:Bv) (p0 d0 p1 d1:Value) (c:Nat) (Q:Nat→Prop) (hA:At w W (wlb B p0 d0 p1 d1)) (hB:Bok w B c Q) (hc:c≤199999990) (hq:∀ b,Q b→b < w.heap.size) (hqw:¬ Q W) (Bl D:Nat) (t:Ln.Terms) (E l:List Ln.Ev) (g:Ln.St) (day:Int) (L:List En) (F1 F2:Nat→Prop) (hT:TwX w Bl D t E l g day L F1 F2) (hL:L.length≤4000000000000) (x:Int) :
  Calls Tryz.prog 29 #[.pointer (some ⟨W,0,none⟩),.agg #[.pointer (some ⟨Bl,0,none⟩),.pointer (some ⟨D,0,none⟩)],.int .i64 x] w (AskPost w W p0 d0 p1 d1 c Q):=by
 have hWl:W < w.heap.size:=At.lt (v:=B.l1) hA
 have b0:Below w.heap.size w (w.alloc (.cells #[.pointer (some ⟨Bl,0,none⟩),.pointer (some ⟨D,0,none⟩)] 31)):=(Below.refl _ _).alloc (Nat.le_refl _) _
 have a0:At (w.alloc (.cells #[.pointer (some ⟨Bl,0,none⟩),.pointer (some ⟨D,0,none⟩)] 31)) w.heap.size [.pointer (some ⟨Bl,0,none⟩),.pointer (some ⟨D,0,none⟩)]:=At.alloc w [.pointer (some ⟨Bl,0,none⟩),.pointer (some ⟨D,0,none⟩)] _
 have HT:=hid hT
 have HA:=hid hA
 have HBk:=hid hB
 have HQ:=hid hq
 have HQW:=hid hqw
 clear hT hA hB hq hqw
 go_enter Tryz.func29,Tryz.ntmps29
 go_upto_region 1 with fail
 change Code.wp _ _ _ _ (w.alloc (.cells #[.pointer (some ⟨Bl,0,none⟩),.pointer (some ⟨D,0,none⟩)] 31))
 have y0:w.heap.size < (w.alloc (.cells #[.pointer (some ⟨Bl,0,none⟩),.pointer (some ⟨D,0,none⟩)] 31)).heap.size:=by simp
 generalize w.alloc (.cells #[.pointer (some ⟨Bl,0,none⟩),.pointer (some ⟨D,0,none⟩)] 31) = V0 at *
 have q0:V0.cell? ⟨w.heap.size,0,none⟩ = some (.pointer (some ⟨Bl,0,none⟩)):=a0.cell 0 rfl
 have hP:=(bookX V0 Bl t E g day L F1 (HT.out.below b0).pr hL x)
 go_wp2_with fail
 refine hP.mono ?_
 rintro e w1 ⟨v1,rfl,o1,v1b,hb1⟩
 clear hP q0
 have b1:Below w.heap.size w w1:=b0.trans (hb1.mono b0.size)
 have a1:At w1 w.heap.size [.pointer (some ⟨Bl,0,none⟩),.pointer (some ⟨D,0,none⟩)]:=At.keep (S:=fun _=>False) (v:=.pointer (some ⟨Bl,0,none⟩)) a0 (Keep.below hb1) (fun x=>x)
 have q0:w1.cell? ⟨w.heap.size,0,none⟩ = some (.pointer (some ⟨Bl,0,none⟩)):=a1.cell 0 rfl
 have hP:=(bookX w1 Bl t E g day L F1 (HT.out.below b1).pr hL x)
 go_wp2_with fail
 refine hP.mono ?_
 rintro e w2 ⟨v2,rfl,o2,v2b,hb2⟩
 clear hP q0
 have b2:Below w.heap.size w w2:=b1.trans (hb2.mono b1.size)
 have a2:At w2 w.heap.size [.pointer (some ⟨Bl,0,none⟩),.pointer (some ⟨D,0,none⟩)]:=At.keep (S:=fun _=>False) (v:=.pointer (some ⟨Bl,0,none⟩)) a1 (Keep.below hb2) (fun x=>x)
 have q1:w2.cell? ⟨w.heap.size,1,none⟩ = some (.pointer (some ⟨D,0,none⟩)):=a2.cell 1 rfl
 obtain ⟨evv,bkv,hDc,_⟩:=(HT.out.below b2).dc
 have hR:=(reffrom_any w2 D t l g day L evv bkv hDc x)
 go_wp2_with fail
 refine hR.mono ?_
 rintro e w2y ⟨mv,rfl,hm,hw⟩
 obtain rfl:=hw.symm
 clear hw
 have hbx:Below w2.heap.size w2 w2:=Below.refl _ _
 clear hR q1 hDc
 have o12:OwT w2 3 v1 (L.drop (kf x L.length)).length (ens (L.drop (kf x L.length))):=(o1.below hb2).below hbx
 have o22:OwT w2 3 v2 (L.drop (kf x L.length)).length (ens (L.drop (kf x L.length))):=o2.below hbx
 have b2x:Below w.heap.size w w2:=b2.trans (hbx.mono b2.size)
 have hS:=lawEntries_true w2 v1 mv (L.drop (kf x L.length)) (OwT.env o12) hm (by rw [List.length_drop]; omega)
 go_wp2_with fail
 refine hS.mono ?_
 rintro e w3 ⟨rfl,hb3⟩
 clear hS
 have hS:=lawEntries_true w3 v2 mv (L.drop (kf x L.length)) (OwT.env (o22.below hb3)) (hm.below hb3) (by rw [List.length_drop]; omega)
 go_wp2_with fail
 refine hS.mono ?_
 rintro e w4 ⟨rfl,hb4⟩
 clear hS
 have hb24:Below w2.heap.size w2 w4:=hb3.trans (hb4.mono hb3.size)
 have b4:Below w.heap.size w w4:=b2x.trans (hb24.mono b2x.size)
 have hok:okE (L.drop (kf x L.length)).length (ens (L.drop (kf x L.length))):=⟨by rw [List.length_drop]; omega,_,rfl,rfl⟩
 have z1:=hb1.size
 have z2:=hb2.size
 have zx:=hbx.size
 have z4:=hb24.size
 have w1v:∀ b,v1.ownBlock = some b→w.heap.size≤b∧b < w4.heap.size:=fun b hb=>⟨by have:=v1b b hb; omega,(o12.below hb24).lt hb⟩
 have w2v:∀ b,v2.ownBlock = some b→w.heap.size≤b∧b < w4.heap.size:=fun b hb=>⟨by have:=v2b b hb; omega,(o22.below hb24).lt hb⟩
 have v12:∀ b,v2.ownBlock = some b→¬ v1.ownBlock = some b:=fun b hb hx=>by have:=v2b b hb; have:=o1.lt hx; omega
 have hTk:=told_any2 w4 W B p0 d0 p1 d1 c Q (At.keep (S:=fun _=>False) (v:=B.l1) HA.out (Keep.below b4) (fun x=>x)) (HBk.out.keep (S:=fun _=>False) (Keep.below b4) (fun _ _ x=>x)) (by omega) (fun b hb=>Nat.lt_of_lt_of_le (HQ.out b hb) b4.size) HQW.out v1 (L.drop (kf x L.length)).length (ens (L.drop (kf x L.length))) hok (o12.below hb24) (fun b hb=>⟨fun hx=>by have:=HQ.out b hx; have:=w1v b hb; omega,by have:=w1v b hb; omega⟩)
 have HO2:Hid (OwT w4 3 v2 (L.drop (kf x L.length)).length (ens (L.drop (kf x L.length)))):=o22.below hb24
 have HW1:=hid w1v
 have HW2:=hid w2v
 have HV12:=hid v12
 have HB4:=hid b4
 clear o12 o22 o1 o2 hb3 hb4 hb24 hm hbx b2x b2 b1 hb1 hb2 a0 a1 a2 b0 v1b v2b w1v w2v v12 b4 y0 z1 z2 zx z4 HT HA HBk
 go_wp2_with fail
 refine hTk.mono ?_
 rintro e w5 ⟨rfl,B1,hA1,hB1,hk1⟩
 clear hTk
 have hTk:=told_any2 w5 W B1 p0 d0 p1 d1 (c+1) (fun b=>Wd Q w4 w5 b∨v1.ownBlock = some b) hA1 hB1 (by omega) (fun b hb=>by
   have:=hk1.size
   have:=HB4.out.size
   rcases hb with (hb | hb) | hb
   ·have:=HQ.out b hb; omega
   ·exact hb.2
   ·have:=HW1.out b hb; omega) (fun hx=>by
   have:=HB4.out.size
   rcases hx with (hx | hx) | hx
   ·exact HQW.out hx
   ·omega
   ·have:=HW1.out W hx; omega) v2 (L.drop (kf x L.length)).length (ens (L.drop (kf x L.length))) hok (HO2.out.keep hk1 (fun b hb hx=>by
   have:=HW2.out b hb
   rcases hx with hx | hx
   ·omega
   ·have:=HQ.out b hx; omega)) (fun b hb=>⟨fun hx=>by
   have:=HW2.out b hb
   rcases hx with (hx | hx) | hx
   ·have:=HQ.out b hx; omega
   ·omega
   ·exact HV12.out b hb hx,by have:=HW2.out b hb; omega⟩)
 have HK1:=hid hk1
 clear hA1 hB1 hk1 HO2 HV12
 go_wp2_with fail
 refine hTk.mono ?_
 rintro e w6 ⟨rfl,B2,hA2,hB2,hk2⟩
 have HE:Hid (AskPost w W p0 d0 p1 d1 c Q (.returned (.bool true)) w6):=took_two HB4.out HW1.out HW2.out HK1.out hk2 hA2 hB2
 clear hTk hA2 hB2 hk2 HK1 HW1 HW2 HB4 HQ HQW hok
 go_wp2
 go_ret
 exact HE.out
set_option maxRecDepth 10000 in
set_option maxHeartbeats 4000000 in
theorem accounts_any (w:World) (W:Nat) (B:Bv) (p0 d0 p1 d1:Value) (c:Nat) (Q:Nat→Prop) (hA:At w W (wlb B p0 d0 p1 d1)) (hB:Bok w B c Q) (hc:c≤199999990) (hq:∀ b,Q b→b < w.heap.size) (hqw:¬ Q W) (Bl D:Nat) (t:Ln.Terms) (E l:List Ln.Ev) (g:Ln.St) (day:Int) (L:List En) (F1 F2:Nat→Prop) (hT:TwX w Bl D t E l g day L F1 F2) (hL:L.length≤4000000000000) (hmv:Mv w) :
  Calls Tryz.prog 30 #[.pointer (some ⟨W,0,none⟩),.agg #[.pointer (some ⟨Bl,0,none⟩),.pointer (some ⟨D,0,none⟩)]] w (AskPost w W p0 d0 p1 d1 c Q):=by
 have hWl:W < w.heap.size:=At.lt (v:=B.l1) hA
 have b0:Below w.heap.size w (w.alloc (.cells #[.pointer (some ⟨Bl,0,none⟩),.pointer (some ⟨D,0,none⟩)] 31)):=(Below.refl _ _).alloc (Nat.le_refl _) _
 have a0:At (w.alloc (.cells #[.pointer (some ⟨Bl,0,none⟩),.pointer (some ⟨D,0,none⟩)] 31)) w.heap.size [.pointer (some ⟨Bl,0,none⟩),.pointer (some ⟨D,0,none⟩)]:=At.alloc w [.pointer (some ⟨Bl,0,none⟩),.pointer (some ⟨D,0,none⟩)] _
 have HT:=hid hT
 have HA:=hid hA
 have HBk:=hid hB
 have HQ:=hid hq
 have HQW:=hid hqw
 have HMv:=hid hmv
 clear hT hA hB hq hqw hmv
 go_enter Tryz.func30,Tryz.ntmps30
 go_upto_region 1 with fail
 change Code.wp _ _ _ _ (w.alloc (.cells #[.pointer (some ⟨Bl,0,none⟩),.pointer (some ⟨D,0,none⟩)] 31))
 have y0:w.heap.size < (w.alloc (.cells #[.pointer (some ⟨Bl,0,none⟩),.pointer (some ⟨D,0,none⟩)] 31)).heap.size:=by simp
 generalize w.alloc (.cells #[.pointer (some ⟨Bl,0,none⟩),.pointer (some ⟨D,0,none⟩)] 31) = V0 at *
 have q0:V0.cell? ⟨w.heap.size,0,none⟩ = some (.pointer (some ⟨Bl,0,none⟩)):=a0.cell 0 rfl
 have hP:=(accX V0 Bl t E g day L F1 (HT.out.below b0).pr hL (kindsOf HT.out) (HMv.out.keep (S:=fun _=>False) (Keep.below b0) (fun x=>x)))
 go_wp2_with fail
 refine hP.mono ?_
 rintro e w1 ⟨v1,rfl,o1,v1b,hb1⟩
 clear hP q0
 have b1:Below w.heap.size w w1:=b0.trans (hb1.mono b0.size)
 have a1:At w1 w.heap.size [.pointer (some ⟨Bl,0,none⟩),.pointer (some ⟨D,0,none⟩)]:=At.keep (S:=fun _=>False) (v:=.pointer (some ⟨Bl,0,none⟩)) a0 (Keep.below hb1) (fun x=>x)
 have q0:w1.cell? ⟨w.heap.size,0,none⟩ = some (.pointer (some ⟨Bl,0,none⟩)):=a1.cell 0 rfl
 have hP:=(accX w1 Bl t E g day L F1 (HT.out.below b1).pr hL (kindsOf HT.out) (HMv.out.keep (S:=fun _=>False) (Keep.below b1) (fun x=>x)))
 go_wp2_with fail
 refine hP.mono ?_
 rintro e w2 ⟨v2,rfl,o2,v2b,hb2⟩
 clear hP q0
 have b2:Below w.heap.size w w2:=b1.trans (hb2.mono b1.size)
 have a2:At w2 w.heap.size [.pointer (some ⟨Bl,0,none⟩),.pointer (some ⟨D,0,none⟩)]:=At.keep (S:=fun _=>False) (v:=.pointer (some ⟨Bl,0,none⟩)) a1 (Keep.below hb2) (fun x=>x)
 have q1:w2.cell? ⟨w.heap.size,1,none⟩ = some (.pointer (some ⟨D,0,none⟩)):=a2.cell 1 rfl
 obtain ⟨evv,bkv,hDc,_⟩:=(HT.out.below b2).dc
 have hR:=(refaccX w2 D t l g day L evv bkv hDc hL)
 go_wp2_with fail
 refine hR.mono ?_
 rintro e w2x ⟨mv,rfl,hm,hbx⟩
 clear hR q1 hDc
 have o12:OwT w2x 1 v1 9 (isl (accl L)):=(o1.below hb2).below hbx
 have o22:OwT w2x 1 v2 9 (isl (accl L)):=o2.below hbx
 have b2x:Below w.heap.size w w2x:=b2.trans (hbx.mono b2.size)
 have hS:=lawInts_true w2x v1 mv (accl L) (OwT.isv (by rw [accl_len]; exact o12)) hm (by rw [accl_len]; omega)
 go_wp2_with fail
 refine hS.mono ?_
 rintro e w3 ⟨rfl,hb3⟩
 clear hS
 have hS:=lawInts_true w3 v2 mv (accl L) (OwT.isv (by rw [accl_len]; exact o22.below hb3)) (hm.below hb3) (by rw [accl_len]; omega)
 go_wp2_with fail
 refine hS.mono ?_
 rintro e w4 ⟨rfl,hb4⟩
 clear hS
 have hb24:Below w2x.heap.size w2x w4:=hb3.trans (hb4.mono hb3.size)
 have b4:Below w.heap.size w w4:=b2x.trans (hb24.mono b2x.size)
 have hok:okI 9 (isl (accl L)):=⟨by omega,_,accl_len L,rfl⟩
 have z1:=hb1.size
 have z2:=hb2.size
 have zx:=hbx.size
 have z4:=hb24.size
 have w1v:∀ b,v1.ownBlock = some b→w.heap.size≤b∧b < w4.heap.size:=fun b hb=>⟨by have:=v1b b hb; omega,(o12.below hb24).lt hb⟩
 have w2v:∀ b,v2.ownBlock = some b→w.heap.size≤b∧b < w4.heap.size:=fun b hb=>⟨by have:=v2b b hb; omega,(o22.below hb24).lt hb⟩
 have v12:∀ b,v2.ownBlock = some b→¬ v1.ownBlock = some b:=fun b hb hx=>by have:=v2b b hb; have:=o1.lt hx; omega
 have hTk:=came_any w4 W B p0 d0 p1 d1 c Q (At.keep (S:=fun _=>False) (v:=B.l1) HA.out (Keep.below b4) (fun x=>x)) (HBk.out.keep (S:=fun _=>False) (Keep.below b4) (fun _ _ x=>x)) (by omega) (fun b hb=>Nat.lt_of_lt_of_le (HQ.out b hb) b4.size) HQW.out v1 9 (isl (accl L)) hok (o12.below hb24) (fun b hb=>⟨fun hx=>by have:=HQ.out b hx; have:=w1v b hb; omega,by have:=w1v b hb; omega⟩)
 have HO2:Hid (OwT w4 1 v2 9 (isl (accl L))):=o22.below hb24
 have HW1:=hid w1v
 have HW2:=hid w2v
 have HV12:=hid v12
 have HB4:=hid b4
 clear o12 o22 o1 o2 hb3 hb4 hb24 hm hbx b2x b2 b1 hb1 hb2 a0 a1 a2 b0 v1b v2b w1v w2v v12 b4 y0 z1 z2 zx z4 HT HA HBk
 go_wp2_with fail
 refine hTk.mono ?_
 rintro e w5 ⟨rfl,B1,hA1,hB1,hk1⟩
 clear hTk
 have hTk:=came_any w5 W B1 p0 d0 p1 d1 (c+1) (fun b=>Wd Q w4 w5 b∨v1.ownBlock = some b) hA1 hB1 (by omega) (fun b hb=>by
   have:=hk1.size
   have:=HB4.out.size
   rcases hb with (hb | hb) | hb
   ·have:=HQ.out b hb; omega
   ·exact hb.2
   ·have:=HW1.out b hb; omega) (fun hx=>by
   have:=HB4.out.size
   rcases hx with (hx | hx) | hx
   ·exact HQW.out hx
   ·omega
   ·have:=HW1.out W hx; omega) v2 9 (isl (accl L)) hok (HO2.out.keep hk1 (fun b hb hx=>by
   have:=HW2.out b hb
   rcases hx with hx | hx
   ·omega
   ·have:=HQ.out b hx; omega)) (fun b hb=>⟨fun hx=>by
   have:=HW2.out b hb
   rcases hx with (hx | hx) | hx
   ·have:=HQ.out b hx; omega
   ·omega
   ·exact HV12.out b hb hx,by have:=HW2.out b hb; omega⟩)
 have HK1:=hid hk1
 clear hA1 hB1 hk1 HO2 HV12
 go_wp2_with fail
 refine hTk.mono ?_
 rintro e w6 ⟨rfl,B2,hA2,hB2,hk2⟩
 have HE:Hid (AskPost w W p0 d0 p1 d1 c Q (.returned (.bool true)) w6):=took_two HB4.out HW1.out HW2.out HK1.out hk2 hA2 hB2
 clear hTk hA2 hB2 hk2 HK1 HW1 HW2 HB4 HQ HQW hok
 go_wp2
 go_ret
 exact HE.out
end Go.Proofs.YtanndhoimpnhpaaGreatDoor
namespace Go.Proofs.YtanndhoimpnhpaaGreatDoor
open Go.ChangeShapes Go.WideShapes Go.ChangeAt Go.RowKit Go.WideMaps Go.Maps Lg Cal
def opl (kind on:Int) (e:Ln.Ev) (m:Int) (sv:Value):List Value:=[.int .i64 kind,.int .i64 on,.int .i64 e.d,.int .i64 e.k,.int .i64 e.s,.int .i64 e.a,.int .i64 m,sv]
theorem opl_ev (kind on:Int) (e:Ln.Ev) (m:Int) (sv:Value):∀ j u,(evl e)[j]? = some u→(opl kind on e m sv)[2+j]? = some u:=by
 intro j u h
 match j,h with
 | 0,h=>exact h
 | 1,h=>exact h
 | 2,h=>exact h
 | 3,h=>exact h
theorem two_mod (x:Int):-1≤x.tmod 2∧x.tmod 2≤1:=by
 by_cases h:0≤x
 ·rw [Int.tmod_eq_emod_of_nonneg h]; omega
 ·have:x.tmod 2 = -((-x).tmod 2):=by rw [Int.neg_tmod]; omega
  rw [this,Int.tmod_eq_emod_of_nonneg (by omega)]
  omega
end Go.Proofs.YtanndhoimpnhpaaGreatDoor
