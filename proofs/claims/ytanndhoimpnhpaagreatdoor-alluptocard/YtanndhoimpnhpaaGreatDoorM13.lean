/- Joined by program: PvA, PvB, PrK, AdA, PvC, PvD. -/
import Derived.Test.YtanndhoimpnhpaaGreatDoorM12
namespace Go.Proofs.YtanndhoimpnhpaaGreatDoor
open Go.RowKit
def EvAt (w:World) (E:Nat) (p:Option Addr) (l:List Ln.Ev):Prop :=
 ∀ k (hk:k < l.length),∃ o,p = some ⟨E,o,none⟩∧E < w.heap.size∧w.cell? ⟨E,o+k*4,none⟩ = some (.int .i64 l[k].d)∧w.cell? ⟨E,o+k*4+1,none⟩ = some (.int .i64 l[k].k)∧w.cell? ⟨E,o+k*4+2,none⟩ = some (.int .i64 l[k].s)∧w.cell? ⟨E,o+k*4+3,none⟩ = some (.int .i64 l[k].a)
def EvV (w:World) (E:Nat) (v:Value) (l:List Ln.Ev):Prop:=∃ p cap,v = .slice p l.length cap∧l.length≤cap∧EvAt w E p l
theorem EvAt.keep {S:Nat→Prop} {w w':World} {E:Nat} {p:Option Addr} {l:List Ln.Ev} (h:EvAt w E p l) (hk:Keep S w w') (hs:l ≠ []→¬ S E):EvAt w' E p l:=by
 intro k hkl
 obtain ⟨o,rfl,hl,c0,c1,c2,c3⟩:=h k hkl
 have hb:=hk.block E hl (hs (fun e=>by subst e; exact absurd hkl (Nat.not_lt_zero k)))
 exact ⟨o,rfl,Nat.lt_of_lt_of_le hl hk.size,(World.cell?_of_block (w:=w) (a:=⟨E,o+k*4,none⟩) hb).trans c0,(World.cell?_of_block (w:=w) (a:=⟨E,o+k*4+1,none⟩) hb).trans c1,(World.cell?_of_block (w:=w) (a:=⟨E,o+k*4+2,none⟩) hb).trans c2,(World.cell?_of_block (w:=w) (a:=⟨E,o+k*4+3,none⟩) hb).trans c3⟩
theorem EvV.keep {S:Nat→Prop} {w w':World} {E:Nat} {v:Value} {l:List Ln.Ev} (h:EvV w E v l) (hk:Keep S w w') (hs:l ≠ []→¬ S E):EvV w' E v l:=by
 obtain ⟨p,cap,h1,h2,h3⟩:=h
 exact ⟨p,cap,h1,h2,h3.keep hk hs⟩
theorem EvAt.take {w:World} {E:Nat} {p:Option Addr} {l m:List Ln.Ev} (h:EvAt w E p (l ++ m)):EvAt w E p l:=by
 intro k hk
 obtain ⟨o,h1⟩:=h k (by rw [List.length_append]; omega)
 rw [List.getElem_append_left hk] at h1
 exact ⟨o,h1⟩
theorem EvAt.drop {w:World} {E o:Nat} {l m:List Ln.Ev} (h:EvAt w E (some ⟨E,o,none⟩) (l ++ m)):EvAt w E (some ⟨E,o+l.length*4,none⟩) m:=by
 intro k hk
 obtain ⟨o',h0,h1⟩:=h (l.length+k) (by rw [List.length_append]; omega)
 injection h0 with h0
 injection h0 with e1 e2
 subst e2
 rw [List.getElem_append_right (by omega)] at h1
 simp only [Nat.add_sub_cancel_left] at h1
 have e:o+(l.length+k)*4 = o+l.length*4+k*4:=by omega
 rw [e] at h1
 exact ⟨o+l.length*4,rfl,h1⟩
theorem EvV.cut {w:World} {E:Nat} {v:Value} {l m:List Ln.Ev} (h:EvV w E v (l ++ m)) :
  ∃ v1 v2,(∀ W:World,(Instr.sliceAt 42 v none (some (.int .i64 l.length)) none).run Tryz.prog W = .ok v1 W)∧EvV w E v1 l∧(∀ W:World,(Instr.sliceAt 42 v (some (.int .i64 l.length)) none none).run Tryz.prog W = .ok v2 W)∧EvV w E v2 m:=by
 obtain ⟨p,cap,rfl,hc,hat⟩:=h
 have hl:(l ++ m).length = l.length+m.length:=List.length_append
 rw [hl] at hc
 refine ⟨.slice p l.length cap,.slice (if cap = l.length then p else p.map (·.add (l.length*4))) m.length (cap - l.length),?_,⟨p,cap,rfl,by omega,hat.take⟩,?_,_,_,rfl,by omega,?_⟩
 ·intro W
  have hp:(if cap = 0 then p else Option.map (fun x=>x.add 0) p) = p:=by
   split
   ·rfl
   ·cases p <;> simp [Addr.add]
  simp [Instr.sliceAt,run_underlying Tryz.underlying42,Instr.slice,Instr.sliceBounds,Instr.sliceBound,asIntOf,Result.andThen,show l.length≤cap by omega,hp]
 ·intro W
  have hx:(0:Int)≤l.length∧(l.length:Int)≤l.length+m.length:=by omega
  simp [Instr.sliceAt,run_underlying Tryz.underlying42,Instr.slice,Instr.sliceBounds,Instr.sliceBound,asIntOf,Result.andThen,hx,hl]
 ·by_cases hm:m = []
  ·subst hm
   intro k hk
   exact absurd hk (Nat.not_lt_zero k)
  ·have hml:0 < m.length:=List.length_pos_iff.2 hm
   rw [if_neg (by omega)]
   obtain ⟨o,rfl,_⟩:=hat 0 (by omega)
   have:=hat.drop
   by_cases hz:l.length = 0
   ·simpa [Addr.add,hz] using this
   ·have h4:¬ l.length*4 = 0:=by omega
    simpa [Addr.add,h4] using this
def cnt (d:Int):List Ln.Ev→Nat
 | []=>0
 | e :: r=>if e.d = d then cnt d r+1 else 0
theorem cnt_le (d:Int):∀ l:List Ln.Ev,cnt d l≤l.length
 | []=>Nat.le_refl _
 | e :: r=>by
  have:=cnt_le d r
  simp only [cnt,List.length_cons]
  split <;> omega
theorem cnt_lt (d:Int):∀ (l:List Ln.Ev) (k:Nat),k < cnt d l→∃ h:k < l.length,l[k].d = d
 | [],k,h=>absurd h (Nat.not_lt_zero k)
 | e :: r,k,h=>by
  simp only [cnt] at h
  by_cases he:e.d = d
  ·rw [if_pos he] at h
   match k,h with
   | 0,_=>exact ⟨by simp,he⟩
   | k+1,h =>
    obtain ⟨h1,h2⟩:=cnt_lt d r k (by omega)
    exact ⟨by simp; omega,h2⟩
  ·rw [if_neg he] at h
   exact absurd h (Nat.not_lt_zero k)
theorem cnt_end (d:Int):∀ (l:List Ln.Ev) (h:cnt d l < l.length),¬ l[cnt d l].d = d
 | [],h=>absurd h (Nat.not_lt_zero _)
 | e :: r,h=>by
  by_cases he:e.d = d
  ·have e1:cnt d (e :: r) = cnt d r+1:=by simp only [cnt]; rw [if_pos he]
   have h2:cnt d r < r.length:=by rw [e1] at h; simpa using h
   have:=cnt_end d r h2
   simp only [e1,List.getElem_cons_succ]
   exact this
  ·have e1:cnt d (e :: r) = 0:=by simp only [cnt]; rw [if_neg he]
   simp only [e1,List.getElem_cons_zero]
   exact he
theorem cnt_is (d:Int) (l:List Ln.Ev) (k:Nat) (hk:k≤l.length) (h1:∀ j (hj:j < l.length),j < k→l[j].d = d) (h2:∀ h:k < l.length,¬ l[k].d = d):cnt d l = k:=by
 have hle:=cnt_le d l
 rcases Nat.lt_trichotomy (cnt d l) k with h | h | h
 ·exact absurd (h1 _ (by omega) h) (cnt_end d l (by omega))
 ·exact h
 ·obtain ⟨h3,h4⟩:=cnt_lt d l k h
  exact absurd h4 (h2 h3)
set_option maxHeartbeats 1000000 in
theorem countOfDay_any (w:World) (E:Nat) (v:Value) (l:List Ln.Ev) (h:EvV w E v l) (hl:l.length≤1000000) (d:Int) :
  Calls Tryz.prog 38 #[v,.int .i64 d] w fun e w'=>e = .returned (.int .i64 (cnt d l))∧w' = w:=by
 obtain ⟨p,cap,rfl,hc,hat⟩:=h
 have HAt:=hid hat
 clear hat
 go_enter Tryz.func38,Tryz.ntmps38
 go_wp2
 go_loop [5] (fun i=>∃ k:Nat,k≤l.length∧i = .int .i64 k∧∀ j (hj:j < l.length),j < k→l[j].d = d) (fun i=>(l.length - intOf i).toNat)
 case atStart=>exact ⟨0,Nat.zero_le _,rfl,fun j _ h=>absurd h (Nat.not_lt_zero j)⟩
 case round =>
  obtain ⟨k,hk,rfl,hlow⟩:=hrel
  have HL:=hid hlow
  clear hlow
  by_cases hlt:k < l.length
  ·obtain ⟨o,rfl,_,c0,_,_,_⟩:=HAt.out k hlt
   have HC:Hid (¬ l[k].d = d→cnt d l = k):=fun hne=>cnt_is d l k hk HL.out (fun _=>hne)
   have HD:Hid (l[k].d = d→∀ j (hj:j < l.length),j < k+1→l[j].d = d):=fun he j hj hjk=>by
    by_cases e:j = k
    ·subst e; exact he
    ·exact HL.out j hj (by omega)
   clear HL
   generalize l[k].d = x at *
   by_cases hx:x = d
   ·have hxb:(x == d) = true:=by simp [hx]
    have HX:=HD.out hx
    go_wp2
    exact ⟨⟨k+1,hlt,rfl,HX⟩,by simp [intOf]; omega⟩
   ·have hxb:(x == d) = false:=by simp [hx]
    have HX:Hid (cnt d l = k):=HC.out hx
    go_wp2
    go_ret
    exact ⟨by rw [HX.out]; rfl,rfl⟩
  ·obtain rfl:k = l.length:=by omega
   have HX:Hid (cnt d l = l.length):=cnt_is d l l.length (Nat.le_refl _) HL.out (fun h=>absurd h hlt)
   go_wp2
   go_ret
   exact ⟨by rw [HX.out]; rfl,rfl⟩
end Go.Proofs.YtanndhoimpnhpaaGreatDoor
namespace Go.Proofs.YtanndhoimpnhpaaGreatDoor
open Go.ChangeShapes Go.WideShapes Go.RowKit Go.WideMaps Go.Maps Cal
def ll (t:Ln.Terms) (v:Value) (g:Ln.St) (day:Int) (bk:Value):List Value :=
 [.int .i64 t.st,.int .i64 t.pr,.int .i64 t.rt,.int .i64 t.fi,.int .i64 t.ba,.int .i64 t.du,v,.int .i64 g.pr,.int .i64 g.it,.int .i64 g.du,.int .i64 g.la,.int .i64 g.fi,.int .i64 g.cr,.int .i64 g.rt,.int .i64 day,bk]
theorem keepO {w W W':World} {B:Nat} {l:List Value} {v:Value} (hb:Below W.heap.size W W') (h:At W B (v :: l)∧Below w.heap.size w W):At W' B (v :: l)∧Below w.heap.size w W' :=
 ⟨h.1.keep (S:=fun _=>False) (Keep.below hb) (fun x=>x),h.2.trans (hb.mono h.2.size)⟩
theorem new_any (w:World) :
  Calls Tryz.prog 55 #[] w fun e w'=>(∃ P Mb,e = .returned (.pointer (some ⟨P,0,none⟩))∧w.heap.size≤Mb∧BkIs w' P (.slice none 0 0) Mb [])∧Below w.heap.size w w':=by
 have hmm:=@run_makeMap Tryz.prog
 go_enter Tryz.func55,Tryz.ntmps55
 go_wp2
 go_ret
 have e1:(w.alloc (.map #[] 0)).heap.size = w.heap.size+1:=by simp
 have b1:Below w.heap.size w (w.alloc (.map #[] 0)):=(Below.refl _ _).alloc (Nat.le_refl _) _
 have m1:MapIs (w.alloc (.map #[] 0)) w.heap.size 0 (fun _ _=>0):=MapIs.made w
 have a2:At ((w.alloc (.map #[] 0)).alloc (.cells #[.slice none 0 0,.map (some w.heap.size)] 148)) (w.alloc (.map #[] 0)).heap.size [.slice none 0 0,.map (some w.heap.size)]:=At.alloc _ _ _
 have b2:Below (w.alloc (.map #[] 0)).heap.size (w.alloc (.map #[] 0)) ((w.alloc (.map #[] 0)).alloc (.cells #[.slice none 0 0,.map (some w.heap.size)] 148)):=(Below.refl _ _).alloc (Nat.le_refl _) _
 rw [e1] at a2
 refine ⟨⟨w.heap.size+1,w.heap.size,rfl,Nat.le_refl _,a2,⟨rfl,.inl ⟨rfl,rfl⟩⟩,m1.block (b2.block _ (by omega)),Nat.lt_succ_self _⟩,b1.trans (b2.mono (by omega))⟩
theorem open_bad (t:Ln.Terms) (w:World) (h:rtB t = false) :
  Calls Tryz.prog 23 #[tmV t] w fun e w'=>e = .returned (.tuple #[.pointer none,.int .i64 3])∧Below w.heap.size w w':=by
 have hR:=fun W=>right_any t W
 rw [h] at hR
 unfold tmV at *
 have b0:Below w.heap.size w (w.alloc (.cells (tml t).toArray 23)):=(Below.refl _ _).alloc (Nat.le_refl _) _
 go_enter Tryz.func23,Tryz.ntmps23
 go_wp2_with fail
 refine (hR _).mono ?_
 rintro e w1 ⟨rfl,hb1⟩
 have b1:=b0.trans (hb1.mono b0.size)
 clear hR hb1 b0
 go_wp2
 go_ret2
 exact ⟨rfl,b1⟩
set_option maxRecDepth 10000 in
set_option maxHeartbeats 2000000 in
theorem open_good (t:Ln.Terms) (w:World) (h:rtB t = true) :
  Calls Tryz.prog 23 #[tmV t] w fun e w'=>(∃ B P Mb,e = .returned (.tuple #[.pointer (some ⟨B,0,none⟩),.int .i64 0])∧w.heap.size≤B∧w.heap.size≤Mb∧P < B∧At w' B (ll t (.slice none 0 0) (Ln.start t) t.st (.pointer (some ⟨P,0,none⟩)))∧BkIs w' P (.slice none 0 0) Mb [])∧Below w.heap.size w w':=by
 have hR:=fun W=>right_any t W
 rw [h] at hR
 have hF:=fun W=>first_any t W
 have hB:=fun W=>balance_any t (Ln.start t) 0 0 0 t.st W (Int.le_refl _) (by show (0:Int)≤_; decide)
 have a0:At (w.alloc (.cells (tml t).toArray 23)) w.heap.size (tml t):=At.alloc w (tml t) _
 have b0:Below w.heap.size w (w.alloc (.cells (tml t).toArray 23)):=(Below.refl _ _).alloc (Nat.le_refl _) _
 unfold tmV at *
 go_enter Tryz.func23,Tryz.ntmps23
 go_wp2_with fail
 refine (hR _).mono ?_
 rintro e w1 ⟨rfl,hb1⟩
 obtain ⟨a1,b1⟩:=keepO (v:=.int .i64 t.st) hb1 ⟨a0,b0⟩
 clear hR hb1 b0 a0
 go_wp2_with fail
 refine wp_region_held_drew (S:=fun wx=>At wx w.heap.size (tml t)∧Below w.heap.size w wx) (by kernel_rfl) ⟨a1.drew,b1.drew⟩ (fun hHeld=>?_)
 refine wpAnyH_take (i:=0) (v:=(.agg (tml t).toArray)) rfl (by kernel_rfl) (by kernel_rfl) (by kernel_rfl) (fun _ _ _ h=>h) (yieldsIf_load_mid (by rfl) 23 (.tmp 1) rfl _ _ rfl _ _ (fun _ h=>h.1.range) Tryz.underlying23 rfl (by kernel_rfl)) (by assumption) ?_
 simp only [uP]
 refine wpAnyH_take (i:=1) (v:=(.agg (tml t).toArray)) rfl (by kernel_rfl) (by kernel_rfl) (by kernel_rfl) (fun _ _ _ h=>h) (yieldsIf_load_mid (by rfl) 23 (.tmp 1) rfl _ _ rfl _ _ (fun _ h=>h.1.range) Tryz.underlying23 rfl (by kernel_rfl)) (by assumption) ?_
 simp only [uP]
 refine tka 3 (.pointer (some ⟨w.heap.size,0,none⟩)) rfl ?_
 simp only [uP]
 refine tkh 4 (.int .i64 t.st) rfl (fun wx hSw=>by (have hc:wx.cell? ⟨w.heap.size,0,none⟩ = some (.int .i64 t.st):=hSw.1.cell 0 rfl; go_simp)) ?_
 simp only [uP]
 clear a1 b1
 refine rdy 2 rfl (fun K hK=>?_)
 go_simp
 refine (hF _).mono ?_
 rintro e w2 ⟨rfl,hb2⟩
 go_wp2_with fail
 refine hK.out _ _ (keepO (v:=.int .i64 t.st) hb2 hHeld) (fun hHeld'=>?_)
 clear hK K hHeld hb2
 refine rdy 5 rfl (fun K hK=>?_)
 go_simp
 refine (hB _).mono ?_
 rintro e w3 ⟨rfl,hb3⟩
 go_wp2_with fail
 refine hK.out _ _ (keepO (v:=.int .i64 t.st) hb3 hHeld') (fun hHeld''=>?_)
 clear hK K hHeld' hb3
 refine rdy 6 rfl (fun K hK=>?_)
 have hsz:=hHeld''.2.size
 go_simp
 refine (new_any _).mono ?_
 rintro e w5 ⟨⟨P,Mb,rfl,hMw,hbk⟩,hb4⟩
 go_wp2_with fail
 refine hK.out _ _ (keepO (v:=.int .i64 t.st) hb4 hHeld'') (fun hHeld'''=>?_)
 clear hK K hHeld'' hb4
 have hMw:w.heap.size≤Mb:=Nat.le_trans hsz hMw
 refine tkk 7 (.agg (ll t (.slice none 0 0) (Ln.start t) t.st (.pointer (some ⟨P,0,none⟩))).toArray) rfl ?_
 simp only [uP]
 refine rdy 8 rfl (fun K hK=>?_)
 have a4:At (w5.alloc (.cells (ll t (.slice none 0 0) (Ln.start t) t.st (.pointer (some ⟨P,0,none⟩))).toArray 84)) w5.heap.size (ll t (.slice none 0 0) (Ln.start t) t.st (.pointer (some ⟨P,0,none⟩))):=At.alloc w5 _ _
 have b4:=hHeld'''.2.size
 have hbk4:=hbk.keep (S:=fun _=>False) (Keep.below (S:=fun _=>False) ((Below.refl _ _).alloc (Nat.le_refl _) (.cells (ll t (.slice none 0 0) (Ln.start t) t.st (.pointer (some ⟨P,0,none⟩))).toArray 84))) (fun _ _ h=>h)
 have hPB:P < w5.heap.size:=At.lt hbk.pl
 rw [if_pos (by rfl)]
 refine wp_valD (.pointer (some ⟨w5.heap.size,0,none⟩)) (w5.alloc (.cells (ll t (.slice none 0 0) (Ln.start t) t.st (.pointer (some ⟨P,0,none⟩))).toArray 84)) (by kernel_rfl) ?_
 refine hK.out _ _ (keepO (v:=.int .i64 t.st) ((Below.refl _ _).alloc (Nat.le_refl _) _) hHeld''') (fun hHeld4=>?_)
 clear hK K hHeld''' hbk
 generalize w5.alloc (.cells (ll t (.slice none 0 0) (Ln.start t) t.st (.pointer (some ⟨P,0,none⟩))).toArray 84) = w4 at *
 generalize w5.heap.size = B at *
 simp only [uP]
 refine tka 9 (.pointer (some ⟨B,0,none⟩)) rfl ?_
 simp only [uP]
 refine tka 10 (.int .i64 0) rfl ?_
 simp only [uP]
 refine wpAnyH_done (by kernel_rfl) ?_ _
 have b5:=hHeld4.2
 clear hHeld4
 go_wp2
 go_ret2
 exact ⟨⟨B,P,Mb,rfl,b4,hMw,hPB,a4,hbk4⟩,b5⟩
end Go.Proofs.YtanndhoimpnhpaaGreatDoor
namespace Go.Proofs.YtanndhoimpnhpaaGreatDoor
open Go.RowKit Cal
theorem pass_any (w:World) (t:Ln.Terms) (n:Int) (g:Ln.St) (c i f:Int) (l:List Ln.Ev) (p:Option Addr) (cap:Nat)
  (hev:∀ k (hk:k < l.length),∃ E o,p = some ⟨E,o,none⟩∧E < w.heap.size∧w.cell? ⟨E,o+k*4,none⟩ = some (.int .i64 l[k].d)∧w.cell? ⟨E,o+k*4+1,none⟩ = some (.int .i64 l[k].k)∧w.cell? ⟨E,o+k*4+2,none⟩ = some (.int .i64 l[k].s)∧w.cell? ⟨E,o+k*4+3,none⟩ = some (.int .i64 l[k].a))
  (hll:l.length≤1000000) (hm:Mv w) (hg:1 < w.heap.size) (n0:0≤n) (n1:n≤109572) (L:Int) (s:Nat) (hI:Ln.Inv t L s g) (ht:Ln.OkT t) (hl:∀ e∈l,Ln.OkE t e) (hn:∀ e∈l,e.d = n)
  (wt:Nat) (hwt:wtOf t.ba n = wt) (hw3:wt≤3) (hs:s+wt≤4320) (hL:L+(if n = t.st then t.pr else 0)+Ln.lents n l≤4100000000000) (hfn:(Ln.day t n (cdOf n) wt l g).g.fn / Ln.den t≤8000000000000000000) :
  Calls Tryz.prog 39 #[stV t g c i f,tmV t,.int .i64 n,.slice p l.length cap] w fun e w'=>(∃ c' i' f',e = .returned (.tuple #[stV t (Ln.day t n (cdOf n) wt l g).g c' i' f',amV (Ln.day t n (cdOf n) wt l g).am]))∧Below w.heap.size w w':=by
 have hd:=Ln.den_bd t
 have hlen:=Ln.lents_nn n l hl
 have hpr:=ht.pr0
 have hL0:=hI.L0
 have hif:0≤(if n = t.st then t.pr else 0):=by split <;> omega
 have I0:=hI.early n (cdOf n) ht
 have A0:=Ln.Am.early (n:=n) hI (by omega) (by omega) ht (cdOf n)
 have If:=Ln.Inv.events n l I0 hl
 have fe:=Ln.events_fn n l (Ln.early t n (cdOf n) g)
 rw [Ln.early_fn] at fe
 have hfn':((l.foldl (Ln.event n) (Ln.early t n (cdOf n) g)).g.fn+(l.foldl (Ln.event n) (Ln.early t n (cdOf n) g)).g.la*(t.fi*wt)) / Ln.den t≤8000000000000000000:=hfn
 have hw0:(0:Int)≤wt:=by omega
 have m2:0≤(l.foldl (Ln.event n) (Ln.early t n (cdOf n) g)).g.la*(t.fi*wt):=Int.mul_nonneg If.la (Int.mul_nonneg ht.fi0 hw0)
 have hg0:g.fn / Ln.den t≤8000000000000000000:=Int.le_trans (Int.ediv_le_ediv (by omega) (by omega)) hfn'
 have Af:=Ln.Am.events n l A0 I0 (by omega) (by rw [Ln.early_fn]; exact hg0) hL hl
 refine pass_core w t n g c i f l p cap (Ln.early t n (cdOf n) g) _ hev hll ?_ ?_ ?_
 ·intro W P kW hP hp
  exact pbegin_any W P t n g n0 (by omega) hp (hm.keep kW (fun x=>x)) (by omega) L s hI (by omega) (by omega) hg0 ht
 ·intro W P k hk kW hP hp
  have hlk:∀ e∈l.take k,Ln.OkE t e:=fun e he=>hl e (List.mem_of_mem_take he)
  have hmem:l[k]∈l:=List.getElem_mem hk
  have e1:Ln.lents n l = Ln.lents n (l.take k)+(Ln.lent n l[k]+Ln.lents n (l.drop (k+1))):=by
   have:l = l.take k ++ (l[k] :: l.drop (k+1)):=by rw [List.getElem_cons_drop,List.take_append_drop]
   conv=>lhs; rw [this]
   rw [Ln.lents_append]
   rfl
  have e2:Ln.lent n l[k] = l[k].a:=by
   unfold Ln.lent
   rw [if_pos (hn _ hmem)]
  have e3:=Ln.lents_nn n (l.drop (k+1)) (fun e he=>hl e (List.mem_of_mem_drop he))
  have e4:=(hl _ hmem).a0
  have Ik:=Ln.Inv.events n (l.take k) I0 hlk
  have fk:=Ln.events_fn n (l.take k) (Ln.early t n (cdOf n) g)
  rw [Ln.early_fn] at fk
  have Ak:=Ln.Am.events n (l.take k) A0 I0 (by omega) (by rw [Ln.early_fn]; exact hg0) (by omega) hlk
  rw [foldl_take n _ l k hk]
  exact happen_any W P t n _ hp (hm.keep kW (by omega)) (by omega) n0 (by omega) _ s l[k] Ik (by omega) (by omega) (by rw [fk]; exact hg0) Ak (hl _ hmem) (hn _ hmem)
 ·intro W P kW hP hp
  exact pend_any W P t n _ hp (hm.keep kW (by omega)) (by omega) n0 n1 _ s If wt hwt hw3 hs hL hfn' ht Af
def evl (e:Ln.Ev):List Value:=[.int .i64 e.d,.int .i64 e.k,.int .i64 e.s,.int .i64 e.a]
def evV (e:Ln.Ev):Value:=.agg (evl e).toArray
def liml:List Value:=[.int .i64 0,.int .i64 0,.int .i64 1,.int .i64 100000000000,.int .i64 0,.int .i64 1000000,.int .i64 1,.int .i64 400,.int .i64 0,.int .i64 0,.int .i64 1,.int .i64 100000000000]
def Lim (w:World):Prop:=∀ i v,liml[i]? = some v→w.cell? ⟨0,i,none⟩ = some v
theorem Lim.keep {S:Nat→Prop} {w w':World} (h:Lim w) (k:Keep S w w') (hs:¬ S 0):Lim w':=by
 intro i v hv
 have h1:=h i v hv
 exact (World.cell?_of_block (w:=w) (a:=⟨0,i,none⟩) (k.block _ (World.block_lt_of_cell? _ _ h1) hs)).trans h1
theorem Lim.lt {w:World} (h:Lim w):0 < w.heap.size:=World.block_lt_of_cell? _ _ (h 0 _ rfl)
set_option maxHeartbeats 1000000 in
theorem span_any (t:Ln.Terms) (w:World) (h0:0≤t.st) (h1:t.st≤105872) :
  Calls Tryz.prog 35 #[tmV t] w fun e w'=>e = .returned (.agg #[.int .i64 t.st,.int .i64 (t.st+3700)])∧Below w.heap.size w w':=by
 unfold tmV
 go_enter Tryz.func35,Tryz.ntmps35
 go_wp2
 exact bodyPost_ret (v:=.agg #[.int .i64 t.st,.int .i64 (t.st+3700)]) (by simp [results,Tryz.results35,go_sem]) rfl ⟨rfl,((Below.refl _ _).alloc (Nat.le_refl _) _).alloc (by simp) _⟩
def evF (t:Ln.Terms) (e:Ln.Ev):Int :=
 if e.k < 1∨5 < e.k then 4
 else if e.d < t.st∨t.st+3700 < e.d then 5
 else if fitsB e.k e.a = false then 6
 else 0
theorem fits_lim (k a:Int) (n:Nat) (hn:k = n) (h1:1≤n) (h5:n≤5):∃ lo hi:Int,liml[2*n]? = some (.int .i64 lo)∧liml[2*n+1]? = some (.int .i64 hi)∧fitsB k a = decide (lo≤a∧a≤hi):=by
 subst hn
 rcases (show n = 1∨n = 2∨n = 3∨n = 4∨n = 5 by omega) with rfl | rfl | rfl | rfl | rfl
 ·exact ⟨1,100000000000,rfl,rfl,by simp [fitsB]⟩
 ·exact ⟨0,1000000,rfl,rfl,by simp [fitsB]⟩
 ·exact ⟨1,400,rfl,rfl,by simp [fitsB]⟩
 ·refine ⟨0,0,rfl,rfl,?_⟩
  show decide (a = 0) = _
  by_cases h:a = 0
  ·simp [h]
  ·rw [decide_eq_false h,decide_eq_false (by omega)]
 ·exact ⟨1,100000000000,rfl,rfl,by simp [fitsB]⟩
def EfS (w:World) (t:Ln.Terms) (e:Ln.Ev) (wx:World):Prop:=At wx w.heap.size (tml t)∧At wx (w.heap.size+1) (evl e)∧Below w.heap.size w wx
theorem EfS.below {w W W':World} {t:Ln.Terms} {e:Ln.Ev} (h:EfS w t e W) (hb:Below W.heap.size W W'):EfS w t e W' :=
 ⟨At.keep (S:=fun _=>False) (v:=.int .i64 t.st) h.1 (Keep.below hb) (fun x=>x),At.keep (S:=fun _=>False) (v:=.int .i64 e.d) h.2.1 (Keep.below hb) (fun x=>x),h.2.2.trans (hb.mono h.2.2.size)⟩
theorem EfS.drew {w W:World} {t:Ln.Terms} {e:Ln.Ev} (h:EfS w t e W):EfS w t e W.drew:=⟨h.1.drew,h.2.1.drew,h.2.2.drew⟩
set_option maxRecDepth 10000 in
set_option maxHeartbeats 4000000 in
theorem eventFault_any (t:Ln.Terms) (e:Ln.Ev) (w:World) (h0:0≤t.st) (h1:t.st≤105872) (hlim:Lim w) :
  Calls Tryz.prog 49 #[tmV t,evV e] w fun x w'=>x = .returned (.int .i64 (evF t e))∧Below w.heap.size w w':=by
 have hsp:=fun W=>span_any t W h0 h1
 have hal:=fun W=>allow_any t.st (t.st+3700) e.d W
 obtain ⟨xb,hxb⟩:∃ xb,xb = decide (t.st≤e.d∧e.d≤t.st+3700):=⟨_,rfl⟩
 rw [← hxb] at hal
 have HXB:=hid hxb
 clear hxb
 have hgl:=hlim.lt
 have HC:Hid (evF t e = if e.k < 1∨5 < e.k then 4 else if e.d < t.st∨t.st+3700 < e.d then 5 else if fitsB e.k e.a = false then 6 else 0):=rfl
 have HF:Hid (∀ n:Nat,e.k = n→1≤n→n≤5→∃ lo hi:Int,liml[2*n]? = some (.int .i64 lo)∧liml[2*n+1]? = some (.int .i64 hi)∧fitsB e.k e.a = decide (lo≤e.a∧e.a≤hi)):=fun n=>fits_lim e.k e.a n
 have HL:=hid hlim
 have HS0:Hid (EfS w t e ((w.alloc (.cells (tml t).toArray 23)).alloc (.cells (evl e).toArray 50))):=by
  have b1:Below w.heap.size w (w.alloc (.cells (tml t).toArray 23)):=(Below.refl _ _).alloc (Nat.le_refl _) _
  have z1:(w.alloc (.cells (tml t).toArray 23)).heap.size = w.heap.size+1:=by simp
  refine ⟨At.over (v:=.int .i64 t.st) (At.alloc w (tml t) _) _,?_,b1.alloc (by omega) _⟩
  have:=At.alloc (w.alloc (.cells (tml t).toArray 23)) (evl e) 50
  rw [z1] at this
  exact this
 clear hlim
 generalize evF t e = code at *
 generalize fitsB e.k e.a = fb at *
 unfold tmV evV
 have k1:((w.alloc (.cells (tml t).toArray 23)).alloc (.cells (evl e).toArray 50)).cell? ⟨w.heap.size+1,1,none⟩ = some (.int .i64 e.k):=HS0.out.2.1.cell 1 rfl
 go_enter Tryz.func49,Tryz.ntmps49
 go_upto_region 1 with fail
 have HZ:Hid ((w.alloc (.cells (tml t).toArray 23)).heap.size = w.heap.size+1):=by show _ = _; simp
 change Code.wp _ _ _ _ ((w.alloc (.cells (tml t).toArray 23)).alloc (.cells (evl e).toArray 50))
 generalize (w.alloc (.cells (tml t).toArray 23)).alloc (.cells (evl e).toArray 50) = V at *
 try simp only [size_alloc]
 by_cases c1:e.k < 1
 ·have E:Hid (code = 4):=by show code = 4; rw [HC.out,if_pos (Or.inl c1)]
  have HB:Hid (Below w.heap.size w V):=HS0.out.2.2
  clear HC HS0 HF HL hsp hal
  obtain rfl:=E.out
  go_wp2
  go_ret
  exact ⟨rfl,HB.out⟩
 by_cases c2:5 < e.k
 ·have E:Hid (code = 4):=by show code = 4; rw [HC.out,if_pos (Or.inr c2)]
  have HB:Hid (Below w.heap.size w V):=HS0.out.2.2
  clear HC HS0 HF HL hsp hal
  obtain rfl:=E.out
  go_wp2
  go_ret
  exact ⟨rfl,HB.out⟩
 go_upto_region 3 with fail
 refine wp_region_held_drew (S:=EfS w t e) (by kernel_rfl) HS0.out.drew (fun hHeld=>?_)
 clear HS0 k1
 refine wpAnyH_take (i:=0) (v:=(.agg (tml t).toArray)) rfl (by kernel_rfl) (by kernel_rfl) (by kernel_rfl) (fun _ _ _ h=>h) (yieldsIf_load_mid (by rfl) 23 (.tmp 2) rfl _ _ rfl _ _ (fun _ h=>h.1.range) Tryz.underlying23 rfl (by kernel_rfl)) (by assumption) ?_
 simp only [uP]
 refine tka 2 (.pointer (some ⟨w.heap.size+1,0,none⟩)) rfl ?_
 simp only [uP]
 refine tkh 3 (.int .i64 e.d) rfl (fun wx hSw=>by (have hc:wx.cell? ⟨w.heap.size+1,0,none⟩ = some (.int .i64 e.d):=hSw.2.1.cell 0 rfl; go_simp)) ?_
 simp only [uP]
 generalize V.drew = V1 at *
 refine rdy 1 rfl (fun K hK=>?_)
 go_simp
 refine (hsp _).mono ?_
 rintro x w2 ⟨rfl,hb2⟩
 go_wp2_with fail
 refine hK.out _ _ (hHeld.below hb2) (fun hHeld2=>?_)
 clear hK K hHeld hb2 hsp
 refine rdy 4 rfl (fun K hK=>?_)
 go_simp
 refine (hal _).mono ?_
 rintro x w3 ⟨rfl,hb3⟩
 go_wp2_with fail
 refine hK.out _ _ (hHeld2.below hb3) (fun hHeld3=>?_)
 clear hK K hHeld2 hb3 hal
 try simp only [uP]
 cases xb with
 | true =>
  have c3:t.st≤e.d∧e.d≤t.st+3700:=of_decide_eq_true HXB.out.symm
  refine tka 5 (.bool false) rfl ?_
  simp only [uP]
  refine wpAnyH_done (by kernel_rfl) ?_ _
  obtain ⟨n,hn,n1,n5⟩:∃ n:Nat,e.k = n∧1≤n∧n≤5:=⟨e.k.toNat,by omega,by omega,by omega⟩
  obtain ⟨lo,hi,l1,l2,l3⟩:=HF.out n hn n1 n5
  have HLR:Hid (∀ wx,EfS w t e wx→wx.rangeAt 0 (n*2) [.int .i64 lo,.int .i64 hi]):=fun wx hx j v hv=>by
   have hb:=hx.2.2.block 0 hgl
   match j,hv with
   | 0,hv =>
    cases hv
    exact (World.cell?_of_block (w:=w) (a:=⟨0,n*2+0,none⟩) hb).trans (HL.out (n*2) _ (by rw [Nat.mul_comm]; exact l1))
   | 1,hv =>
    cases hv
    exact (World.cell?_of_block (w:=w) (a:=⟨0,n*2+1,none⟩) hb).trans (HL.out (n*2+1) _ (by rw [Nat.mul_comm]; exact l2))
  have HK:Hid (code = if fb = false then 6 else 0):=by show _ = _; rw [HC.out,if_neg (by omega),if_neg (by omega)]
  have hal2:=fun W=>allow_any lo hi e.a W
  rw [← l3] at hal2
  have HH:=hid hHeld3
  clear HC HF HL l1 l2 l3 c3 hHeld3
  go_upto_region 5 with fail
  refine wp_region_held_drew (S:=EfS w t e) (by kernel_rfl) HH.out.drew (fun hHeld4=>?_)
  clear HH
  refine tka 0 (.pointer (some ⟨w.heap.size+1,1,none⟩)) rfl ?_
  simp only [uP]
  refine tkh 1 (.int .i64 n) rfl (fun wx hSw=>by (have hc:wx.cell? ⟨w.heap.size+1,1,none⟩ = some (.int .i64 e.k):=hSw.2.1.cell 1 rfl; rw [hn] at hc; go_simp)) ?_
  simp only [uP]
  have hn6:(0:Int)≤n∧(n:Int) < 6:=by omega
  refine tka 2 (.pointer (some ⟨0,n*2,none⟩)) rfl ?_
  simp only [uP]
  refine wpAnyH_take (i:=3) (v:=(.agg #[.int .i64 lo,.int .i64 hi])) rfl (by kernel_rfl) (by kernel_rfl) (by kernel_rfl) (fun _ _ _ h=>h) (yieldsIf_load_mid (by rfl) 86 (.tmp 21) rfl _ _ rfl _ _ (fun _ h=>HLR.out _ h) Tryz.underlying86 rfl (by kernel_rfl)) (by assumption) ?_
  simp only [uP]
  refine tka 4 (.pointer (some ⟨w.heap.size+1,3,none⟩)) rfl ?_
  simp only [uP]
  refine tkh 5 (.int .i64 e.a) rfl (fun wx hSw=>by (have hc:wx.cell? ⟨w.heap.size+1,3,none⟩ = some (.int .i64 e.a):=hSw.2.1.cell 3 rfl; go_simp)) ?_
  simp only [uP]
  generalize w3.drew = V2 at *
  refine rdy 6 rfl (fun K hK=>?_)
  go_simp
  refine (hal2 _).mono ?_
  rintro x w5 ⟨rfl,hb5⟩
  go_wp2_with fail
  refine hK.out _ _ (hHeld4.below hb5) (fun hHeld5=>?_)
  clear hK K hHeld4 hb5 hal2
  have HB:Hid (Below w.heap.size w w5):=hHeld5.2.2
  try simp only [uP]
  refine tka 7 (.bool (!fb)) rfl ?_
  simp only [uP]
  refine wpAnyH_done (by kernel_rfl) ?_ _
  clear hHeld5 HLR
  cases fb with
  | true =>
   have E:Hid (code = 0):=by show code = 0; rw [HK.out]; rfl
   obtain rfl:=E.out
   go_wp2
   go_ret
   exact ⟨rfl,HB.out⟩
  | false =>
   have E:Hid (code = 6):=by show code = 6; rw [HK.out]; rfl
   obtain rfl:=E.out
   go_wp2
   go_ret
   exact ⟨rfl,HB.out⟩
 | false =>
  have c3:¬ (t.st≤e.d∧e.d≤t.st+3700):=of_decide_eq_false HXB.out.symm
  refine tka 5 (.bool true) rfl ?_
  simp only [uP]
  refine wpAnyH_done (by kernel_rfl) ?_ _
  have E:Hid (code = 5):=by show code = 5; rw [HC.out,if_neg (by omega),if_pos (by omega)]
  have HB:Hid (Below w.heap.size w w3):=hHeld3.2.2
  clear HC HF HL hHeld3
  obtain rfl:=E.out
  go_wp2
  go_ret
  exact ⟨rfl,HB.out⟩
end Go.Proofs.YtanndhoimpnhpaaGreatDoor
namespace Go.Proofs.YtanndhoimpnhpaaGreatDoor
open Go.ChangeShapes Go.WideShapes Go.RowKit Go.WideMaps Go.Maps Cal
theorem tml_mid (t:Ln.Terms) (v:Value) (g:Ln.St) (day:Int) (bk:Value):∀ j u,(tml t)[j]? = some u→(ll t v g day bk)[0+j]? = some u:=by
 intro j u h
 rw [Nat.zero_add]
 match j,h with
 | 0,h=>exact h
 | 1,h=>exact h
 | 2,h=>exact h
 | 3,h=>exact h
 | 4,h=>exact h
 | 5,h=>exact h
 | j+6,h=>exact absurd h (by simp [tml])
def bkP (st:Int) (am:Nat→Nat→Int) (L:List En):Nat→List En
 | 0=>L
 | k+1=>bkP st am L k ++ kindsW (st+k) (fun j=>sumOf (bkP st am L k) (st+k) j) (am k) 12
theorem bkP_len (st:Int) (am:Nat→Nat→Int) (L:List En):∀ k,(bkP st am L k).length≤L.length+24*k
 | 0=>Nat.le_refl _
 | k+1=>by
  have h1:=bkP_len st am L k
  have h2:=kindsW_len (st+k) (fun j=>sumOf (bkP st am L k) (st+k) j) (am k) 12
  simp only [bkP,List.length_append]
  omega
theorem keep3 {w V wq wx:World} {X A:Nat} {S:Nat→Prop} (hX:w.heap.size≤X) (hA:w.heap.size≤A) (k1:Keep (fun _=>False) w V) (k2:Keep (fun b=>S b∨b = X) V wq) (k3:Keep (fun b=>b = X∨b = A) wq wx):Keep S w wx:=by
 refine ⟨k3.os.trans (k2.os.trans k1.os),k3.tape.trans (k2.tape.trans k1.tape),k3.output.trans (k2.output.trans k1.output),Nat.le_trans k1.size (Nat.le_trans k2.size k3.size),fun b hb hs=>?_⟩
 have h1:=k1.size
 have h2:=k2.size
 exact (k3.block b (by omega) (fun h=>by omega)).trans ((k2.block b (by omega) (fun h=>h.elim hs (fun h=>by omega))).trans (k1.block b hb (fun h=>h)))
theorem BkS.new {V:World} {P Mb:Nat} {bkv bkvr:Value} (ho:OwnNew V bkv bkvr) {b:Nat} (hb:b < V.heap.size) (h:¬ BkS P Mb bkv b):¬ BkS P Mb bkvr b:=by
 rintro (h1 | h1 | h1)
 ·exact h (.inl h1)
 ·exact h (.inr (.inl h1))
 ·rcases ho with h2 | ⟨c,h2,h3⟩
  ·exact h (.inr (.inr (h2.symm.trans h1)))
  ·rw [h2] at h1
   cases h1
   omega
theorem stepKeep {V wq w4 w5:World} {X A P Mb:Nat} {bkv bkvr:Value} (hV:V.heap.size≤A) (ho:OwnNew V bkv bkvr) (k2:Keep (fun b=>BkS P Mb bkv b∨b = X) V wq) (k3:Keep (fun b=>b = X∨b = A) wq w4) (k4:Keep (BkS P Mb bkvr) w4 w5):Keep (fun b=>BkS P Mb bkv b∨b = X) V w5:=by
 refine ⟨k4.os.trans (k3.os.trans k2.os),k4.tape.trans (k3.tape.trans k2.tape),k4.output.trans (k3.output.trans k2.output),Nat.le_trans k2.size (Nat.le_trans k3.size k4.size),fun b hb hs=>?_⟩
 have h2:=k2.size
 have h3:=k3.size
 exact (k4.block b (by omega) (BkS.new ho hb (fun h=>hs (.inl h)))).trans ((k3.block b (by omega) (fun h=>h.elim (fun h=>hs (.inr h)) (fun h=>by omega))).trans (k2.block b hb hs))
theorem BkIs.fresh {w:World} {P:Nat} {bkv:Value} {Mb:Nat} {L:List En} (h:BkIs w P bkv Mb L):¬ BkS P Mb bkv w.heap.size:=by
 have h1:=At.lt h.pl
 have h2:=h.lt
 rintro (h3 | h3 | h3)
 ·omega
 ·omega
 ·have:=(h.own h3).2; omega
theorem Keep.undrew {S:Nat→Prop} {w w':World} (h:Keep S w.drew w'):Keep S w w':=⟨h.os,h.tape,h.output,h.size,h.block⟩
set_option maxRecDepth 10000 in
set_option maxHeartbeats 2000000 in
theorem prun_core (w0:World) (B P Mb Eb:Nat) (t:Ln.Terms) (evv:Value) (g0:Ln.St) (day0:Int) (m:Nat) (G:Nat→Ln.St) (am:Nat→Nat→Int) (bkv:Value) (L:List En) (E:List Ln.Ev) (rest pc:Nat→List Ln.Ev)
  (hA:At w0 B (ll t evv g0 day0 (.pointer (some ⟨P,0,none⟩)))) (hbk:BkIs w0 P bkv Mb L) (hev:EvV w0 Eb evv E) (hB:¬ BkS P Mb bkv B) (hE:E ≠ []→¬ BkS P Mb bkv Eb) (hel:E.length≤40) (hL:L.length≤4000000000000)
  (h0:day0≤t.st+m) (hm:m≤3700) (s0:0≤t.st) (s1:t.st≤105872) (hr0:rest 0 = E) (hr:∀ k,rest k = pc k ++ rest (k+1)) (hc:∀ k:Nat,cnt (t.st+k) (rest k) = (pc k).length) (hrE:∀ k,(rest k).length≤E.length) (ham:∀ k j,k < m→1≤j→j≤12→I64 (am k j))
  (hF:∀ W:World,Calls Tryz.prog 37 #[tmV t] W fun e w'=>e = .returned (stV t (G 0) 0 0 0)∧Below W.heap.size W w')
  (hP:∀ (k:Nat) (W:World) (v:Value) (c i f:Int),k < m→Keep (BkS P Mb bkv) w0 W→EvV W Eb v (pc k)→Calls Tryz.prog 39 #[stV t (G k) c i f,tmV t,.int .i64 (t.st+k),v] W fun e w'=>(∃ c' i' f',e = .returned (.tuple #[stV t (G (k+1)) c' i' f',amV (am k)]))∧Below W.heap.size W w')
  (hBl:∀ (W:World) (c i f:Int),Calls Tryz.prog 41 #[stV t (G m) c i f,.int .i64 (t.st+m)] W fun e w'=>e = .returned (blV (G m) (t.st+m))∧Below W.heap.size W w') :
  Calls Tryz.prog 17 #[.pointer (some ⟨B,0,none⟩),.int .i64 (t.st+m)] w0 fun e w'=>e = .returned (.int .i64 0)∧∃ bkv',At w' B (ll t evv (G m) (t.st+m) (.pointer (some ⟨P,0,none⟩)))∧BkIs w' P bkv' Mb (bkP t.st am L m)∧OwnNew w0 bkv bkv'∧Keep (fun b=>b = B∨BkS P Mb bkv b) w0 w':=by
 have hsp:=fun W=>span_any t W s0 s1
 have hal:=fun W=>allow_yes t.st (t.st+3700) (t.st+m) W (by omega) (by omega)
 have x1:¬ t.st+(m:Int) < day0:=by omega
 have q0:w0.cell? ⟨B,0,none⟩ = some (.int .i64 t.st):=hA.cell 0 rfl
 have q1:w0.cell? ⟨B,1,none⟩ = some (.int .i64 t.pr):=hA.cell 1 rfl
 have q2:w0.cell? ⟨B,2,none⟩ = some (.int .i64 t.rt):=hA.cell 2 rfl
 have q3:w0.cell? ⟨B,3,none⟩ = some (.int .i64 t.fi):=hA.cell 3 rfl
 have q4:w0.cell? ⟨B,4,none⟩ = some (.int .i64 t.ba):=hA.cell 4 rfl
 have q5:w0.cell? ⟨B,5,none⟩ = some (.int .i64 t.du):=hA.cell 5 rfl
 have q14:w0.cell? ⟨B,14,none⟩ = some (.int .i64 day0):=hA.cell 14 rfl
 have HA:=hid hA
 have HBK0:=hid hbk
 have HEV0:=hid hev
 have HP0:=hid hP
 clear hA hbk hev hP
 go_enter Tryz.func17,Tryz.ntmps17
 go_wp2_with fail
 refine (hsp _).mono ?_
 rintro e w1 ⟨rfl,b1⟩
 go_wp2_with fail
 refine (hal _).mono ?_
 rintro e w ⟨rfl,b2⟩
 clear q0 q1 q2 q3 q4 q5 q14 hsp hal x1
 have hb0:Below w0.heap.size w0 w:=b1.trans (b2.mono b1.size)
 have k0:Keep (fun _=>False) w0 w:=Keep.below hb0
 have hA:At w B (ll t evv g0 day0 (.pointer (some ⟨P,0,none⟩))):=At.keep (v:=.int .i64 t.st) HA.out k0 (fun h=>h)
 have hbk:BkIs w P bkv Mb L:=HBK0.out.keep k0 (fun _ _ h=>h)
 have hev:EvV w Eb evv E:=HEV0.out.keep k0 (fun _ h=>h)
 have hP:∀ (k:Nat) (W:World) (v:Value) (c i f:Int),k < m→Keep (BkS P Mb bkv) w W→EvV W Eb v (pc k)→Calls Tryz.prog 39 #[stV t (G k) c i f,tmV t,.int .i64 (t.st+k),v] W fun e w'=>(∃ c' i' f',e = .returned (.tuple #[stV t (G (k+1)) c' i' f',amV (am k)]))∧Below W.heap.size W w':=fun k W v c i f hk hW=>HP0.out k W v c i f hk ((k0.mono (fun _ _ h=>h.elim)).trans hW)
 have HFIN:Hid (∀ bkv',OwnNew w bkv bkv'→OwnNew w0 bkv bkv'):=fun bkv' h=>h.elim (fun h=>.inl h) (fun ⟨b,h1,h2⟩=>.inr ⟨b,h1,Nat.le_trans k0.size h2⟩)
 have HKF:Hid (∀ w',Keep (fun b=>b = B∨BkS P Mb bkv b) w w'→Keep (fun b=>b = B∨BkS P Mb bkv b) w0 w'):=fun w' h=>(k0.mono (fun _ _ h=>h.elim)).trans h
 clear HA HBK0 HEV0 HP0 k0 hb0 b1 b2 w1
 have c0:w.cell? ⟨B,0,none⟩ = some (.int .i64 t.st):=hA.cell 0 rfl
 have c14:w.cell? ⟨B,14,none⟩ = some (.int .i64 day0):=hA.cell 14 rfl
 have hBl0:B < w.heap.size:=At.lt (v:=.int .i64 t.st) hA
 have x1:¬ t.st+(m:Int) < day0:=by omega
 have x2:¬ t.st+3700 < t.st+(m:Int):=by omega
 have rtm:w.rangeAt B 0 (tml t):=hA.mid 0 _ (tml_mid t _ g0 day0 _)
 have HBK:=hid hbk
 have HEV:=hid hev
 have HB:=hid hB
 have HE:=hid hE
 have HR:Hid (rest 0 = E∧(∀ k,rest k = pc k ++ rest (k+1))∧(∀ k:Nat,cnt (t.st+k) (rest k) = (pc k).length)∧(∀ k,(rest k).length≤E.length)):=⟨hr0,hr,hc,hrE⟩
 have HAM:=hid ham
 have HP:=hid hP
 have HBl:=hid hBl
 clear hbk hev hB hE hr0 hr hc hrE ham hP hBl
 go_upto_region 3 with fail
 refine wp_region_lit ?_
 refine wpList_val (.pointer (some ⟨B,0,none⟩)) w rfl rfl ?_
 simp only [uP]
 refine wpList_val (.pointer (some ⟨B,0,none⟩)) w rfl (by kernel_rfl) ?_
 simp only [uP]
 refine wpList_val (.pointer (some ⟨B,0,none⟩)) w rfl (by kernel_rfl) ?_
 simp only [uP]
 refine wpList_load_mid rfl 23 (.tmp 29) rfl _ 0 rfl (tml t) _ rtm Tryz.underlying23 rfl (by kernel_rfl) ?_
 simp only [uP]
 clear rtm
 go_wp2_with fail
 refine (hF _).mono ?_
 rintro e w1 ⟨rfl,b1⟩
 clear hF
 have A1:At w1 B (ll t evv g0 day0 (.pointer (some ⟨P,0,none⟩))):=At.keep (S:=fun _=>False) (v:=.int .i64 t.st) hA (Keep.below b1) (fun x=>x)
 have hX:w.heap.size≤w1.heap.size:=b1.size
 have A2:At (w1.alloc (.cells (stl t (G 0) 0 0 0).toArray 92)) B (ll t evv g0 day0 (.pointer (some ⟨P,0,none⟩))):=At.over A1 _
 have A3:At (w1.alloc (.cells (stl t (G 0) 0 0 0).toArray 92)) w1.heap.size (stl t (G 0) 0 0 0):=At.alloc w1 _ _
 have K2:Keep (fun _=>False) w (w1.alloc (.cells (stl t (G 0) 0 0 0).toArray 92)):=Keep.below (b1.alloc hX _)
 have hXV:w1.heap.size < (w1.alloc (.cells (stl t (G 0) 0 0 0).toArray 92)).heap.size:=by simp
 have d0:(w1.alloc (.cells (stl t (G 0) 0 0 0).toArray 92)).cell? ⟨B,0,none⟩ = some (.int .i64 t.st):=A2.cell 0 rfl
 have d6:(w1.alloc (.cells (stl t (G 0) 0 0 0).toArray 92)).cell? ⟨B,6,none⟩ = some evv:=A2.cell 6 rfl
 clear c0 c14 x1 x2 A1 hA
 go_wp2_with (first | (refine wpList_store_new rfl 92 (.tmp 5) (.tmp 31) rfl (stl t (G 0) 0 0 0).toArray _ rfl rfl (by kernel_rfl) rfl (by kernel_rfl) ?_) | fail)
 generalize w1.alloc (.cells (stl t (G 0) 0 0 0).toArray 92) = V at *
 generalize w1.heap.size = X at *
 clear d0 d6 b1
 have HK2:=hid K2
 have hXS:¬ BkS P Mb bkv X:=by
  have h1:=At.lt HBK.out.pl
  have h2:=HBK.out.lt
  rintro (h | h | h)
  ·omega
  ·omega
  ·have:=(HBK.out.own h).2; omega
 have HXS:=hid hXS
 have HA3:=hid A3
 have HA2:=hid A2
 have hXB:¬ X = B:=by omega
 clear K2 A3 A2 hXS
 go_loopw [6,7] (fun ah d wr=>∃ k:Nat,k≤m∧d = .int .i64 (t.st+k)∧EvV wr Eb ah (rest k)∧(∃ c i f:Int,At wr X (stl t (G k) c i f))∧At wr B (ll t evv g0 day0 (.pointer (some ⟨P,0,none⟩)))∧(∃ bkvr,BkIs wr P bkvr Mb (bkP t.st am L k)∧OwnNew V bkv bkvr)∧Keep (fun b=>BkS P Mb bkv b∨b = X) V wr) (fun _ d _=>(t.st+m - intOf d).toNat)
 case atStart=>exact ⟨0,Nat.zero_le _,by simp,by rw [HR.out.1]; exact HEV.out.keep HK2.out (fun _ h=>h),⟨0,0,0,HA3.out⟩,HA2.out,⟨bkv,HBK.out.keep HK2.out (fun _ _ h=>h),.inl rfl⟩,Keep.refl _ _⟩
 case round =>
  obtain ⟨k,hk,rfl,hevk,⟨c,i,f,hst⟩,hln,⟨bkvr,hbr,hor⟩,hkk⟩:=hrel
  by_cases hlt:k < m
  ·obtain ⟨hr0,hr,hc,hrE⟩:=HR.out
   have hrk:=hrE k
   have hcount:=countOfDay_any wr Eb u6 (rest k) hevk (by omega) (t.st+k)
   rw [hc k] at hcount
   have hevk2:=hevk
   rw [hr k] at hevk2
   obtain ⟨v1,v2,hs1,he1,hs2,he2⟩:=hevk2.cut
   have HE1:=hid he1
   have HE2:=hid he2
   have HBR:=hid hbr
   have HOR:=hid hor
   have HKK:=hid hkk
   have HST:=hid hst
   have HLN:=hid hln
   have hpl:(pc k).length≤40:=by
    have:=congrArg List.length (hr k)
    rw [List.length_append] at this
    omega
   clear hr0 hr hc hrE hevk hevk2 he1 he2 hbr hor hkk hst hln hrk
   generalize hq:(pc k).length = q at *
   have hq:=hid hq
   go_wp2_with fail
   refine hcount.mono ?_
   rintro e wq ⟨rfl,rfl⟩
   clear hcount
   go_upto_region 10 with fail
   change Code.wp _ _ _ _ (wq.alloc (.cells (hc 13 (fun _=>0)).toArray 96))
   have aA:At (wq.alloc (.cells (hc 13 (fun _=>0)).toArray 96)) wq.heap.size (hc 13 (fun _=>0)):=At.alloc wq _ _
   have kA:Keep (fun _=>False) wq (wq.alloc (.cells (hc 13 (fun _=>0)).toArray 96)):=Keep.below ((Below.refl _ _).alloc (Nat.le_refl _) _)
   have hVq:V.heap.size≤wq.heap.size:=HKK.out.size
   have hAZ:wq.heap.size < (wq.alloc (.cells (hc 13 (fun _=>0)).toArray 96)).heap.size:=by simp
   have aX:At (wq.alloc (.cells (hc 13 (fun _=>0)).toArray 96)) X (stl t (G k) c i f):=At.keep (v:=.int .i64 c) HST.out kA (fun h=>h)
   have aB:At (wq.alloc (.cells (hc 13 (fun _=>0)).toArray 96)) B (ll t evv g0 day0 (.pointer (some ⟨P,0,none⟩))):=At.keep (v:=.int .i64 t.st) HLN.out kA (fun h=>h)
   refine wp_region_held_drew (S:=fun wx=>At wx B (ll t evv g0 day0 (.pointer (some ⟨P,0,none⟩)))∧Keep (fun b=>b = X∨b = wq.heap.size) wq wx) (by kernel_rfl) ⟨aB.drew,(kA.mono (fun _ _ h=>h.elim)).drew⟩ (fun hHeld=>?_)
   have aA:=aA.drew
   have aX:=aX.drew
   have hAZ:wq.heap.size < (wq.alloc (.cells (hc 13 (fun _=>0)).toArray 96)).drew.heap.size:=hAZ
   clear aB kA
   generalize (wq.alloc (.cells (hc 13 (fun _=>0)).toArray 96)).drew = Z at *
   generalize hAq:wq.heap.size = A at *
   have hAq:=hid hAq
   have hVA:V.heap.size≤A:=by have:=HKK.out.size; rw [hAq.out] at this; exact this
   have hwA:w.heap.size≤A:=Nat.le_trans HK2.out.size hVA
   have HW:Hid (∀ wx,Keep (fun b=>b = X∨b = A) wq wx→Keep (BkS P Mb bkv) w wx):=fun wx hx=>keep3 hX hwA HK2.out HKK.out hx
   have HEb:Hid (pc k ++ rest (k+1) ≠ []→¬ Eb = X∧¬ Eb = A∧¬ BkS P Mb bkvr Eb):=fun hne=>by
    have hEn:E ≠ []:=by
     intro e
     have h1:=HR.out.2.2.2 k
     rw [HR.out.2.1 k,e] at h1
     exact hne (List.length_eq_zero_iff.1 (by simpa using h1))
    obtain ⟨p,cap,_,_,hat⟩:=HEV.out
    obtain ⟨o,_,hEl,_⟩:=hat 0 (List.length_pos_iff.2 hEn)
    exact ⟨by omega,by omega,BkS.new HOR.out (Nat.lt_of_lt_of_le hEl HK2.out.size) (HE.out hEn)⟩
   have HXr:Hid (¬ BkS P Mb bkvr X):=BkS.new HOR.out hXV HXS.out
   have HBr:Hid (¬ BkS P Mb bkvr B):=BkS.new HOR.out (Nat.lt_of_lt_of_le hBl0 HK2.out.size) HB.out
   have HAr:Hid (¬ BkS P Mb bkvr A):=by have:=HBR.out.fresh; rw [hAq.out] at this; exact this
   have hEv1:EvV Z Eb v1 (pc k):=HE1.out.keep hHeld.2 (fun hne h=>by
    have:=HEb.out (fun e=>hne (List.append_eq_nil_iff.1 e).1)
    exact h.elim this.1 this.2.1)
   have hwZ:=HW.out Z hHeld.2
   refine tka 1 (.pointer (some ⟨B,0,none⟩)) rfl ?_
   simp only [uP]
   refine tka 2 (.pointer (some ⟨B,0,none⟩)) rfl ?_
   simp only [uP]
   refine tka 3 (.pointer (some ⟨B,0,none⟩)) rfl ?_
   simp only [uP]
   refine wpAnyH_take (i:=4) (v:=(.agg (tml t).toArray)) rfl (by kernel_rfl) (by kernel_rfl) (by kernel_rfl) (fun _ _ _ h=>h) (yieldsIf_load_mid (by rfl) 23 (.tmp 53) rfl _ _ rfl _ _ (fun _ h=>h.1.mid 0 _ (tml_mid t _ g0 day0 _)) Tryz.underlying23 rfl (by kernel_rfl)) (by assumption) ?_
   simp only [uP]
   refine tka 5 (.int .i64 (t.st+k)) rfl ?_
   simp only [uP]
   refine tka 6 u6 rfl ?_
   simp only [uP]
   refine tka 7 (.int .i64 q) rfl ?_
   simp only [uP]
   refine tkh 8 v1 rfl (fun wx hSw=>by (have hs:=hs1 wx; (try dsimp only at hSw); go_simp)) ?_
   simp only [uP]
   refine rdy 0 rfl (fun K hK=>?_)
   rw [if_pos (by rfl)]
   refine wp_load_mid 92 (.tmp 5) rfl _ 0 rfl (stl t (G k) c i f) _ aX.range Tryz.underlying92 rfl (by kernel_rfl) ?_
   refine hK.out _ _ hHeld (fun _=>?_)
   clear hK K
   simp only [uP]
   refine rdy 9 rfl (fun K hK=>?_)
   go_simp
   refine (HP.out k Z v1 c i f hlt hwZ hEv1).mono ?_
   rintro e w2 ⟨⟨c',i',f',rfl⟩,hb2⟩
   go_wp2_with fail
   have kb2:Keep (fun _=>False) Z w2:=Keep.below hb2
   have q1:At w2 X (stl t (G k) c i f):=At.keep (v:=.int .i64 c) aX kb2 (fun x=>x)
   have q2:At w2 B (ll t evv g0 day0 (.pointer (some ⟨P,0,none⟩))):=At.keep (v:=.int .i64 t.st) hHeld.1 kb2 (fun x=>x)
   have qA:At w2 A (hc 13 (fun _=>0)):=At.keep (v:=.int .i64 0) aA kb2 (fun x=>x)
   have q3:Keep (fun b=>b = X∨b = A) wq w2:=hHeld.2.trans (kb2.mono (fun _ _ h=>h.elim))
   refine hK.out _ _ ⟨q2,q3⟩ (fun hHeld2=>?_)
   clear hK K hHeld hb2 kb2 aX aA hwZ hEv1
   refine tka 10 (.tuple #[stV t (G (k+1)) c' i' f',amV (am k)]) rfl ?_
   simp only [uP]
   refine tkk 11 (.agg (stl t (G (k+1)) c' i' f').toArray) rfl ?_
   simp only [uP]
   refine tkk 12 (.agg (hc 13 (am k)).toArray) rfl ?_
   simp only [uP]
   refine rdy 13 rfl (fun K hK=>?_)
   rw [if_pos (by rfl)]
   refine wp_store_mid 92 (.tmp 5) (.tmp 60) rfl _ 0 _ rfl rfl (q1.there 13 rfl) (by kernel_rfl) (by kernel_rfl) ?_
   rw [List.toList_toArray]
   have r1:At (w2.setCells X 0 (stl t (G (k+1)) c' i' f')) X (stl t (G (k+1)) c' i' f'):=q1.setCells_same rfl
   have r2:At (w2.setCells X 0 (stl t (G (k+1)) c' i' f')) B (ll t evv g0 day0 (.pointer (some ⟨P,0,none⟩))):=q2.apart (fun e=>hXB e.symm) _ _
   have rA:At (w2.setCells X 0 (stl t (G (k+1)) c' i' f')) A (hc 13 (fun _=>0)):=qA.apart (by omega) _ _
   have r3:Keep (fun b=>b = X∨b = A) wq (w2.setCells X 0 (stl t (G (k+1)) c' i' f')):=Keep.setCells (S:=fun b=>b = X∨b = A) (.inl rfl) _ _ _ q3
   refine hK.out _ _ ⟨r2,r3⟩ (fun hHeld3=>?_)
   clear hK K hHeld2 q1 q2 q3 qA
   generalize w2.setCells X 0 (stl t (G (k+1)) c' i' f') = w3 at *
   simp only [uP]
   refine rdy 14 rfl (fun K hK=>?_)
   rw [if_pos (by rfl)]
   refine wp_store_mid 96 (.tmp 9) (.tmp 61) rfl _ 0 _ rfl rfl (rA.there 13 rfl) (by kernel_rfl) (by kernel_rfl) ?_
   rw [List.toList_toArray]
   have s1:At (w3.setCells A 0 (hc 13 (am k))) X (stl t (G (k+1)) c' i' f'):=r1.apart (by omega) _ _
   have s2:At (w3.setCells A 0 (hc 13 (am k))) B (ll t evv g0 day0 (.pointer (some ⟨P,0,none⟩))):=r2.apart (by omega) _ _
   have sA:At (w3.setCells A 0 (hc 13 (am k))) A (hc 13 (am k)):=rA.setCells_same rfl
   have s3:Keep (fun b=>b = X∨b = A) wq (w3.setCells A 0 (hc 13 (am k))):=Keep.setCells (S:=fun b=>b = X∨b = A) (.inr rfl) _ _ _ r3
   refine hK.out _ _ ⟨s2,s3⟩ (fun hHeld4=>?_)
   clear hK K hHeld3 r1 r2 r3 rA
   generalize w3.setCells A 0 (hc 13 (am k)) = w4 at *
   simp only [uP]
   refine wpAnyH_done (by kernel_rfl) ?_ _
   clear hHeld4
   have hbw:=HBR.out.keep s3 (fun b hb h=>h.elim (fun e=>HXr.out (e ▸ hb)) (fun e=>HAr.out (e ▸ hb)))
   have hlen:=bkP_len t.st am L k
   have HEND:Hid (∀ bkv5 w5,BkIs w5 P bkv5 Mb (bkP t.st am L (k+1))→OwnNew w4 bkvr bkv5→Keep (BkS P Mb bkvr) w4 w5→(At w5 B (ll t evv g0 day0 (.pointer (some ⟨P,0,none⟩)))∧At w5 A (hc 13 (am k)))∧EvV w5 Eb v2 (rest (k+1))∧(∃ c i f:Int,At w5 X (stl t (G (k+1)) c i f))∧At w5 B (ll t evv g0 day0 (.pointer (some ⟨P,0,none⟩)))∧(∃ bkvr,BkIs w5 P bkvr Mb (bkP t.st am L (k+1))∧OwnNew V bkv bkvr)∧Keep (fun b=>BkS P Mb bkv b∨b = X) V w5):=fun bkv5 w5 g1 g2 g3=>by
    have z2:At w5 B (ll t evv g0 day0 (.pointer (some ⟨P,0,none⟩))):=At.keep (v:=.int .i64 t.st) s2 g3 HBr.out
    refine ⟨⟨z2,At.keep (v:=.int .i64 (am k 0)) sA g3 HAr.out⟩,?_,⟨c',i',f',At.keep (v:=.int .i64 c') s1 g3 HXr.out⟩,z2,⟨bkv5,g1,HOR.out.comp g2 (Nat.le_trans HKK.out.size s3.size)⟩,stepKeep hVA HOR.out HKK.out s3 g3⟩
    have hEb':=fun hne:rest (k+1) ≠ []=>HEb.out (fun e=>hne (List.append_eq_nil_iff.1 e).2)
    exact (HE2.out.keep s3 (fun hne h=>h.elim (hEb' hne).1 (hEb' hne).2.1)).keep g3 (fun hne=>(hEb' hne).2.2)
   have hput:=putright_any w4.drew P bkvr Mb (bkP t.st am L k) hbw.drew (by omega) (t.st+k) (by unfold I64; omega) (am k) (fun j hj1 hj=>HAM.out k j hlt hj1 hj)
   have hS4:At w4.drew B (ll t evv g0 day0 (.pointer (some ⟨P,0,none⟩)))∧At w4.drew A (hc 13 (am k)):=⟨s2.drew,sA.drew⟩
   clear s1 s2 s3 sA hbw hlen hs1
   go_wp2_with fail
   refine wp_region_held_drew (S:=fun wx=>At wx B (ll t evv g0 day0 (.pointer (some ⟨P,0,none⟩)))∧At wx A (hc 13 (am k))) (by kernel_rfl) hS4 (fun hHeld=>?_)
   refine tka 0 (.pointer (some ⟨B,0,none⟩)) rfl ?_
   simp only [uP]
   refine tka 1 (.pointer (some ⟨B,0,none⟩)) rfl ?_
   simp only [uP]
   refine tka 2 (.pointer (some ⟨B,15,none⟩)) rfl ?_
   simp only [uP]
   refine tkh 3 (.pointer (some ⟨P,0,none⟩)) rfl (fun wx hSw=>by (have hc:=hSw.1.cell 15 rfl; go_simp)) ?_
   simp only [uP]
   refine tka 4 (.int .i64 (t.st+k)) rfl ?_
   simp only [uP]
   refine wpAnyH_take (i:=5) (v:=(.agg (hc 13 (am k)).toArray)) rfl (by kernel_rfl) (by kernel_rfl) (by kernel_rfl) (fun _ _ _ h=>h) (yieldsIf_load_mid (by rfl) 96 (.tmp 9) rfl _ _ rfl _ _ (fun _ h=>h.2.range) Tryz.underlying96 rfl (by kernel_rfl)) (by assumption) ?_
   simp only [uP]
   refine rdy 6 rfl (fun K hK=>?_)
   go_simp
   refine hput.mono ?_
   rintro e w5 ⟨rfl,bkv5,g1,g2,g3⟩
   go_wp2_with fail
   obtain ⟨g4,g5⟩:=HEND.out bkv5 w5 g1 g2 (Keep.undrew g3)
   refine hK.out _ _ g4 (fun _=>?_)
   clear hK K hHeld g1 g2 g3 g4 hS4 hput
   refine wpAnyH_done (by kernel_rfl) ?_ _
   have HG5:=hid g5
   clear g5
   have hs2w:=hs2 w5
   clear hs2
   go_wp2_with fail
   exact ⟨⟨k+1,hlt,by congr 1; omega,HG5.out⟩,by simp [intOf]; omega⟩
  ·obtain rfl:k = m:=by omega
   have hC:=fun W=>HBl.out W c i f
   go_upto_region 13 with fail
   refine wp_region_lit ?_
   refine wpList_val (.pointer (some ⟨B,0,none⟩)) wr rfl rfl ?_
   simp only [uP]
   refine wpList_load_mid rfl 92 (.tmp 5) rfl _ 0 rfl (stl t (G k) c i f) _ hst.range Tryz.underlying92 rfl (by kernel_rfl) ?_
   simp only [uP]
   have HBR:=hid hbr
   have HOR:=hid hor
   have HKK:=hid hkk
   clear hbr hor hkk hevk
   go_wp2_with fail
   refine (hC _).mono ?_
   rintro e w2 ⟨rfl,hb2⟩
   clear hC
   have kb2:Keep (fun _=>False) wr w2:=Keep.below hb2
   have q2:At w2 B (ll t evv g0 day0 (.pointer (some ⟨P,0,none⟩))):=At.keep (v:=.int .i64 t.st) hln kb2 (fun x=>x)
   have q4:w2.there B 7 8:=q2.there_mid 7 8 (by show 7+8≤16; omega)
   have q5:At (w2.setCells B 7 (bll (G k) (t.st+k))) B (ll t evv (G k) (t.st+k) (.pointer (some ⟨P,0,none⟩))):=At.setCells _ 7 _ _ q2 (by show 7+8≤16; omega)
   have k5:Keep (fun b=>b = B) w2 (w2.setCells B 7 (bll (G k) (t.st+k))):=Keep.setCells (S:=fun b=>b = B) rfl _ _ _ (Keep.refl _ _)
   have HEND:Hid (∃ bkv',At (w2.setCells B 7 (bll (G k) (t.st+k))) B (ll t evv (G k) (t.st+k) (.pointer (some ⟨P,0,none⟩)))∧BkIs (w2.setCells B 7 (bll (G k) (t.st+k))) P bkv' Mb (bkP t.st am L k)∧OwnNew w bkv bkv'∧Keep (fun b=>b = B∨BkS P Mb bkv b) w (w2.setCells B 7 (bll (G k) (t.st+k)))):=by
    have hBr:¬ BkS P Mb bkvr B:=BkS.new HOR.out (Nat.lt_of_lt_of_le hBl0 HK2.out.size) HB.out
    refine ⟨bkvr,q5,(HBR.out.keep kb2 (fun _ _ h=>h)).keep k5 (fun b hb e=>hBr (e ▸ hb)),?_,?_⟩
    ·rcases HOR.out with h | ⟨b,h1,h2⟩
     ·exact .inl h
     ·exact .inr ⟨b,h1,Nat.le_trans HK2.out.size h2⟩
    ·have ka:Keep (BkS P Mb bkv) w wr:=⟨HKK.out.os.trans HK2.out.os,HKK.out.tape.trans HK2.out.tape,HKK.out.output.trans HK2.out.output,Nat.le_trans HK2.out.size HKK.out.size,fun b hb hs=>(HKK.out.block b (Nat.lt_of_lt_of_le hb HK2.out.size) (fun h=>h.elim hs (fun h=>by omega))).trans (HK2.out.block b hb (fun h=>h))⟩
     exact ((ka.mono (fun _ _ h=>.inr h)).trans (kb2.mono (fun _ _ h=>h.elim))).trans (k5.mono (fun _ _ h=>.inl h))
   clear hst hln hb2 q2 q5 k5 kb2
   go_wp2_with (first | (refine wpList_store_mid rfl 52 (.tmp 77) (.tmp 75) rfl B 7 (bll (G k) (t.st+k)).toArray rfl rfl q4 (by kernel_rfl) (by kernel_rfl) ?_; rw [List.toList_toArray]) | fail)
   go_ret
   obtain ⟨bkv',z1,z2,z3,z4⟩:=HEND.out
   exact ⟨rfl,bkv',z1,z2,HFIN.out _ z3,HKF.out _ z4⟩
def dayOf (n:Int) (l:List Ln.Ev):List Ln.Ev:=l.filter (fun e=>decide (e.d = n))
def fromDay (n:Int) (l:List Ln.Ev):List Ln.Ev:=l.filter (fun e=>decide (n≤e.d))
theorem day_cut (n:Int):∀ l:List Ln.Ev,l.Pairwise So.Ah→fromDay n l = dayOf n l ++ fromDay (n+1) l
 | [],_=>rfl
 | e :: r,h=>by
  obtain ⟨h1,h2⟩:=List.pairwise_cons.1 h
  have ih:=day_cut n r h2
  unfold fromDay dayOf at *
  by_cases hn:e.d = n
  ·rw [List.filter_cons_of_pos (by simp; omega),List.filter_cons_of_pos (by simp [hn]),List.filter_cons_of_neg (by simp; omega),ih]
   rfl
  ·by_cases hlt:n≤e.d
   ·have hz:r.filter (fun e=>decide (e.d = n)) = []:=by
     rw [List.filter_eq_nil_iff]
     intro x hx
     have:=(So.ah_iff e x).1 (h1 x hx)
     simp
     omega
    have hz2:r.filter (fun e=>decide (n≤e.d)) = r.filter (fun e=>decide (n+1≤e.d)):=by
     rw [ih,hz]
     rfl
    rw [List.filter_cons_of_pos (by simp; omega),List.filter_cons_of_neg (by simp; omega),List.filter_cons_of_pos (by simp; omega),hz,hz2]
    rfl
   ·rw [List.filter_cons_of_neg (by simp; omega),List.filter_cons_of_neg (by simp; omega),List.filter_cons_of_neg (by simp; omega),ih]
theorem cnt_day (n:Int) (l m:List Ln.Ev) (h1:∀ e∈l,e.d = n) (h2:∀ e∈m,¬ e.d = n):cnt n (l ++ m) = l.length:=by
 refine cnt_is n (l ++ m) l.length (by simp) ?_ ?_
 ·intro j hj hjl
  rw [List.getElem_append_left hjl]
  exact h1 _ (List.getElem_mem _)
 ·intro h
  rw [List.getElem_append_right (Nat.le_refl _)]
  exact h2 _ (List.getElem_mem _)
theorem fold_day (n:Int):∀ (l:List Ln.Ev) (y:Ln.Dy),l.foldl (Ln.event n) y = (dayOf n l).foldl (Ln.event n) y
 | [],_=>rfl
 | e :: r,y=>by
  unfold dayOf
  by_cases h:e.d = n
  ·rw [List.filter_cons_of_pos (by simp [h]),List.foldl_cons,List.foldl_cons]
   exact fold_day n r _
  ·rw [List.filter_cons_of_neg (by simp [h]),List.foldl_cons]
   have:Ln.event n y e = y:=by unfold Ln.event; rw [if_pos h]
   rw [this]
   exact fold_day n r y
theorem lents_day (n:Int):∀ l:List Ln.Ev,Ln.lents n (dayOf n l) = Ln.lents n l
 | []=>rfl
 | e :: r=>by
  have ih:=lents_day n r
  unfold dayOf at *
  by_cases h:e.d = n
  ·rw [List.filter_cons_of_pos (by simp [h])]
   show Ln.lent n e+_ = Ln.lent n e+_
   rw [ih]
  ·rw [List.filter_cons_of_neg (by simp [h]),ih]
   show _ = Ln.lent n e+_
   unfold Ln.lent
   rw [if_neg h]
   omega
theorem day_day (t:Ln.Terms) (n cd w:Int) (l:List Ln.Ev) (g:Ln.St):Ln.day t n cd w (dayOf n l) g = Ln.day t n cd w l g:=by
 unfold Ln.day
 rw [fold_day n l]
noncomputable def yOf (t:Ln.Terms) (l:List Ln.Ev) (k:Nat):Ln.Dy:=Ln.day t (t.st+k) (cdOf (t.st+k)) (wtOf t.ba (t.st+k)) l (Ln.run t cdOf (wtOf t.ba) l k)
theorem day_bd {t:Ln.Terms} (ht:Ln.OkT t) (l:List Ln.Ev) (hl:∀ e∈l,Ln.OkE t e) (hn:l.length≤40) (k:Nat) (hk:k < 3700) :
  Ln.sw (wsOf t.ba t.st) k+wsOf t.ba t.st k≤4320∧(if 0 < k then t.pr else 0)+Ln.tot t k l+(if t.st+(k:Int) = t.st then t.pr else 0)+Ln.lents (t.st+k) l≤4100000000000∧(yOf t l k).g.fn / Ln.den t≤8000000000000000000:=by
 have hs:=sw_bd t.ba t.st ht.st0 ht.st1 (k+1) (by omega)
 have hs':Ln.sw (wsOf t.ba t.st) k+wsOf t.ba t.st k≤4320:=hs
 have hb:=Ln.tot_bound ht l hl hn (k+1)
 have ts:=Ln.tot_succ t k l
 refine ⟨hs',?_,Ln.run_fn_bd ht l hl hn (k+1) (by omega)⟩
 rw [if_pos (Nat.succ_pos k)] at hb
 have hp:=ht.pr0
 by_cases hz:0 < k
 ·rw [if_pos hz,if_neg (by omega)]; omega
 ·rw [if_neg hz,if_pos (by omega)]; omega
theorem am_bd {t:Ln.Terms} (ht:Ln.OkT t) (l:List Ln.Ev) (hl:∀ e∈l,Ln.OkE t e) (hn:l.length≤40) (k:Nat) (hk:k < 3700) (j:Nat) (h1:1≤j) (h12:j≤12):0≤(yOf t l k).am j∧(yOf t l k).am j≤8000000000000000000:=by
 obtain ⟨hs,hL,hfn⟩:=day_bd ht l hl hn k hk
 have hI:=Ln.run_inv ht cdOf (wtOf t.ba) (wsOf t.ba t.st) (wsOf_le _ _) (wsOf_eq _ _) l hl k
 have hlen:=Ln.lents_nn (t.st+k) l hl
 have hpr:=ht.pr0
 have hL0:=hI.L0
 have hif:0≤(if t.st+(k:Int) = t.st then t.pr else 0):=by split <;> omega
 have I0:=hI.early (t.st+k) (cdOf (t.st+k)) ht
 have A0:=Ln.Am.early (n:=t.st+k) hI (by omega) (by omega) ht (cdOf (t.st+k))
 have If:=Ln.Inv.events (t.st+k) l I0 hl
 have fe:=Ln.events_fn (t.st+k) l (Ln.early t (t.st+k) (cdOf (t.st+k)) (Ln.run t cdOf (wtOf t.ba) l k))
 rw [Ln.early_fn] at fe
 have hd:=Ln.den_bd t
 have hw:=wtOf_bd t.ba (t.st+k)
 have m2:0≤(l.foldl (Ln.event (t.st+k)) (Ln.early t (t.st+k) (cdOf (t.st+k)) (Ln.run t cdOf (wtOf t.ba) l k))).g.la*(t.fi*wtOf t.ba (t.st+k)):=Int.mul_nonneg If.la (Int.mul_nonneg ht.fi0 hw.1)
 have hg0:(Ln.run t cdOf (wtOf t.ba) l k).fn / Ln.den t≤8000000000000000000:=by
  refine Int.le_trans (Int.ediv_le_ediv (by omega) ?_) hfn
  show (Ln.run t cdOf (wtOf t.ba) l k).fn≤(l.foldl (Ln.event (t.st+k)) (Ln.early t (t.st+k) (cdOf (t.st+k)) (Ln.run t cdOf (wtOf t.ba) l k))).g.fn+_
  omega
 have Af:=Ln.Am.events (t.st+k) l A0 I0 (by omega) (by rw [Ln.early_fn]; exact hg0) hL hl
 have Il:=If.late ht (wsOf t.ba t.st k) (wsOf_le _ _ _)
 have Bl:=Il.bound hs hL
 rw [← wsOf_eq] at Il Bl
 have ey:yOf t l k = Ln.late t (wtOf t.ba (t.st+k)) (l.foldl (Ln.event (t.st+k)) (Ln.early t (t.st+k) (cdOf (t.st+k)) (Ln.run t cdOf (wtOf t.ba) l k))):=rfl
 rw [ey] at hfn ⊢
 generalize l.foldl (Ln.event (t.st+k)) (Ln.early t (t.st+k) (cdOf (t.st+k)) (Ln.run t cdOf (wtOf t.ba) l k)) = y at *
 generalize wtOf t.ba (t.st+k) = wt at *
 have m1:0≤y.g.pr*(y.g.rt*wt):=Int.mul_nonneg If.pr (Int.mul_nonneg If.rt0 hw.1)
 have q1:y.g.ea / Ln.den t≤(y.g.ea+y.g.pr*(y.g.rt*wt)) / Ln.den t:=Int.ediv_le_ediv (by omega) (by omega)
 have q2:y.g.fn / Ln.den t≤(y.g.fn+y.g.la*(t.fi*wt)) / Ln.den t:=Int.ediv_le_ediv (by omega) (by omega)
 have hit:=If.it
 have hfi:=If.fi
 have hpr':=Il.pr
 have hdu':=Il.du
 have hla':=Il.la
 have hf1:=Il.fi1
 have e11:(Ln.late t wt y).am 11 = y.am 11+(Ln.part t (y.g.ea+y.g.pr*(y.g.rt*wt)) - Ln.part t y.g.ea):=rfl
 have e12:(Ln.late t wt y).am 12 = y.am 12+(Ln.part t (y.g.fn+y.g.la*(t.fi*wt)) - Ln.part t y.g.fn):=rfl
 have g11:(Ln.late t wt y).g.it = y.g.it+(Ln.part t (y.g.ea+y.g.pr*(y.g.rt*wt)) - Ln.part t y.g.ea):=rfl
 have g12:(Ln.late t wt y).g.fi = y.g.fi+(Ln.part t (y.g.fn+y.g.la*(t.fi*wt)) - Ln.part t y.g.fn):=rfl
 rw [Ln.part_den,Ln.part_den] at e11 e12 g11 g12
 have ao:∀ i,i≤10→(Ln.late t wt y).am i = y.am i:=by
  intro i hi
  show (if i = 12 then (if i = 11 then _ else _)+_ else (if i = 11 then _ else _)) = _
  rw [if_neg (by omega),if_neg (by omega)]
 by_cases h11:j = 11
 ·subst h11
  rw [e11,Af.a11]
  constructor <;> omega
 ·by_cases h12':j = 12
  ·subst h12'
   rw [e12,Af.a12]
   constructor <;> omega
  ·rw [ao j (by omega)]
   refine ⟨Af.nn j,?_⟩
   have a1:=Af.a1
   have a2:=Af.a2
   have a3:=Af.a3
   have a4:=Af.a4
   have pd:=Af.pd j
   rcases (show j = 1∨j = 2∨j = 3∨j = 4∨5≤j by omega) with h | h | h | h | h
   ·subst h; omega
   ·subst h; omega
   ·subst h; omega
   ·subst h; omega
   ·have:=pd h (by omega); omega
structure LoanIs (w:World) (B P Mb Eb:Nat) (t:Ln.Terms) (E:List Ln.Ev) (g:Ln.St) (day:Int) (L:List En) (evv bkv:Value):Prop where
 ln:At w B (ll t evv g day (.pointer (some ⟨P,0,none⟩)))
 bk:BkIs w P bkv Mb L
 ev:EvV w Eb evv E
 nb:¬ BkS P Mb bkv B
 ne:E ≠ []→¬ BkS P Mb bkv Eb
 so:E.Pairwise So.Ah
 ok:∀ e∈E,Ln.OkE t e
 le:E.length≤40
 ot:Ln.OkT t
theorem run_any (w:World) (B P Mb Eb:Nat) (t:Ln.Terms) (E:List Ln.Ev) (g0:Ln.St) (day0:Int) (L:List En) (evv bkv:Value) (h:LoanIs w B P Mb Eb t E g0 day0 L evv bkv) (hL:L.length≤4000000000000) (m:Nat) (h0:day0≤t.st+m) (hm:m≤3700) (hmv:Mv w) (hgm:¬ BkS P Mb bkv 1) :
  Calls Tryz.prog 17 #[.pointer (some ⟨B,0,none⟩),.int .i64 (t.st+m)] w fun e w'=>e = .returned (.int .i64 0)∧∃ bkv',At w' B (ll t evv (Ln.run t cdOf (wtOf t.ba) E m) (t.st+m) (.pointer (some ⟨P,0,none⟩)))∧BkIs w' P bkv' Mb (bkP t.st (fun k=>(yOf t E k).am) L m)∧OwnNew w bkv bkv'∧Keep (fun b=>b = B∨BkS P Mb bkv b) w w':=by
 obtain ⟨hA,hbk,hev,hB,hE,hso,hok,hle,ht⟩:=h
 have s0:=ht.st0
 have s1:=ht.st1
 have hinv:=Ln.run_inv ht cdOf (wtOf t.ba) (wsOf t.ba t.st) (wsOf_le _ _) (wsOf_eq _ _) E hok
 have hcut:∀ k:Nat,fromDay (t.st+k) E = dayOf (t.st+k) E ++ fromDay (t.st+(k+1:Nat)) E:=fun k=>by
  rw [day_cut (t.st+k) E hso,show t.st+(k:Int)+1 = t.st+((k+1:Nat):Int) by omega]
 have hgl:1 < w.heap.size:=World.block_lt_of_cell? _ _ (hmv 0 _ rfl)
 refine prun_core w B P Mb Eb t evv g0 day0 m (Ln.run t cdOf (wtOf t.ba) E) (fun k=>(yOf t E k).am) bkv L E (fun k=>fromDay (t.st+k) E) (fun k=>dayOf (t.st+k) E) hA hbk hev hB hE hle hL h0 hm s0 s1 ?_ hcut ?_ ?_ ?_ (fun W=>first_any t W) ?_ ?_
 ·exact List.filter_eq_self.2 (fun e he=>by have:=(hok e he).d0; simp; omega)
 ·intro k
  show cnt (t.st+k) (fromDay (t.st+k) E) = (dayOf (t.st+k) E).length
  rw [hcut k]
  refine cnt_day _ _ _ (fun e he=>?_) (fun e he=>?_)
  ·have:=(List.mem_filter.1 he).2
   simpa using this
  ·have:=(List.mem_filter.1 he).2
   simp at this
   omega
 ·intro k
  exact List.length_filter_le _ _
 ·intro k j hk h1 h12
  have:=am_bd ht E hok hle k (by omega) j h1 h12
  show -9223372036854775808≤(yOf t E k).am j∧(yOf t E k).am j≤9223372036854775807
  omega
 ·intro k W v c i f hk kW hv
  obtain ⟨p,cap,rfl,_,hat⟩:=hv
  obtain ⟨hs,hL',hfn⟩:=day_bd ht E hok hle k (by omega)
  have hpass:=pass_any W t (t.st+k) (Ln.run t cdOf (wtOf t.ba) E k) c i f (dayOf (t.st+k) E) p cap (fun j hj=>by
    obtain ⟨o,h1,h2⟩:=hat j hj
    exact ⟨Eb,o,h1,h2⟩) (Nat.le_trans (List.length_filter_le _ _) (by omega)) (hmv.keep kW hgm) (Nat.lt_of_lt_of_le hgl kW.size) (by omega) (by omega) _ _ (hinv k) ht (fun e he=>hok e (List.mem_filter.1 he).1) (fun e he=>by simpa using (List.mem_filter.1 he).2)
   (wsOf t.ba t.st k) (wsOf_eq t.ba t.st k) (wsOf_le t.ba t.st k) hs (by rw [lents_day]; exact hL') (by rw [day_day,← wsOf_eq]; exact hfn)
  rw [day_day,← wsOf_eq] at hpass
  exact hpass
 ·intro W c i f
  have hI:=hinv m
  have hc:=hI.cr
  have hc1:=hI.cr1
  have hb:=Ln.tot_bound ht E hok hle m
  exact balance_any t _ c i f (t.st+m) W hc (by omega)
end Go.Proofs.YtanndhoimpnhpaaGreatDoor
