/- Joined by program: Lo, AdB, AdC0, AdC, AdD, Cr, AdE. -/
import Derived.Test.YtanndhoimpnhpaaGreatDoorM13
import Derived.Laws.CopyRow
import Derived.Laws.IdiomCopy
import Derived.Lib.Overlaps
import Derived.Lib.AppendZerosOnto
namespace Go.Proofs.YtanndhoimpnhpaaGreatDoor
open Go.ChangeShapes Go.WideShapes Go.RowKit Go.WideMaps Go.Maps Cal
structure LoX (w:World) (B P Mb:Nat) (t:Ln.Terms) (E:List Ln.Ev) (g:Ln.St) (day:Int) (L:List En) (evv bkv:Value):Prop where
 ln:At w B (ll t evv g day (.pointer (some ⟨P,0,none⟩)))
 bk:BkIs w P bkv Mb L
 ev:w.ownsRow 0 50 4 evv E.length (evs E)
 nb:¬ BkS P Mb bkv B
 ne:∀ b,evv.ownBlock = some b→¬ b = B∧¬ BkS P Mb bkv b
 so:E.Pairwise So.Ah
 ok:∀ e∈E,Ln.OkE t e
 le:E.length≤40
 ot:Ln.OkT t
def Fo (B P Mb:Nat) (evv bkv:Value) (b:Nat):Prop:=b = B∨BkS P Mb bkv b∨evv.ownBlock = some b
def Lo (w:World) (B:Nat) (t:Ln.Terms) (E:List Ln.Ev) (g:Ln.St) (day:Int) (L:List En) (F:Nat→Prop):Prop :=
 ∃ P Mb evv bkv,LoX w B P Mb t E g day L evv bkv∧∀ b,Fo B P Mb evv bkv b→F b
def Wd (F:Nat→Prop) (w w':World) (b:Nat):Prop:=F b∨(w.heap.size≤b∧b < w'.heap.size)
theorem evs_evv {w:World} {evv:Value} {E:List Ln.Ev} (h:w.ownsRow 0 50 4 evv E.length (evs E)):∃ Eb,EvV w Eb evv E∧(E ≠ []→evv.ownBlock = some Eb):=by
 obtain ⟨hl,hn | ⟨g,cap,cur,rfl,hg⟩⟩:=id h
 ·obtain ⟨rfl,hz⟩:=hn
  have hE:E = []:=List.length_eq_zero_iff.1 hz
  subst hE
  exact ⟨0,⟨none,0,rfl,Nat.le_refl _,fun k hk=>absurd hk (Nat.not_lt_zero k)⟩,fun h=>absurd rfl h⟩
 ·have hlt:=(own_base h (b:=g) rfl).2
  refine ⟨g,⟨some ⟨g,0,none⟩,cap,rfl,hg.2.2.1,fun k hk=>⟨0,rfl,hlt,?_⟩⟩,fun _=>rfl⟩
  obtain ⟨q0,q1,q2,q3⟩:=evs_at E k hk
  rw [Nat.zero_add]
  exact ⟨(h.cellAt _ (by omega)).trans q0,(h.cellAt _ (by omega)).trans q1,(h.cellAt _ (by omega)).trans q2,(h.cellAt _ (by omega)).trans q3⟩
theorem LoX.is {w:World} {B P Mb:Nat} {t:Ln.Terms} {E:List Ln.Ev} {g:Ln.St} {day:Int} {L:List En} {evv bkv:Value} (h:LoX w B P Mb t E g day L evv bkv):∃ Eb,LoanIs w B P Mb Eb t E g day L evv bkv∧(E ≠ []→evv.ownBlock = some Eb):=by
 obtain ⟨Eb,h1,h2⟩:=evs_evv h.ev
 exact ⟨Eb,⟨h.ln,h.bk,h1,h.nb,fun hE=>(h.ne Eb (h2 hE)).2,h.so,h.ok,h.le,h.ot⟩,h2⟩
theorem LoX.foLt {w:World} {B P Mb:Nat} {t:Ln.Terms} {E:List Ln.Ev} {g:Ln.St} {day:Int} {L:List En} {evv bkv:Value} (h:LoX w B P Mb t E g day L evv bkv) (b:Nat) (hb:Fo B P Mb evv bkv b):b < w.heap.size:=by
 rcases hb with rfl | hb | hb
 ·exact At.lt (v:=.int .i64 t.st) h.ln
 ·have h1:=At.lt h.bk.pl
  have h2:=h.bk.lt
  rcases hb with rfl | rfl | hb
  ·exact h1
  ·omega
  ·exact (h.bk.own hb).2
 ·exact (own_base h.ev hb).2
theorem LoX.keep {S:Nat→Prop} {w w':World} {B P Mb:Nat} {t:Ln.Terms} {E:List Ln.Ev} {g:Ln.St} {day:Int} {L:List En} {evv bkv:Value} (h:LoX w B P Mb t E g day L evv bkv) (hk:Keep S w w') (hs:∀ b,Fo B P Mb evv bkv b→¬ S b):LoX w' B P Mb t E g day L evv bkv :=
 ⟨At.keep (v:=.int .i64 t.st) h.ln hk (hs B (.inl rfl)),h.bk.keep hk (fun b hb=>hs b (.inr (.inl hb))),own_keep h.ev hk (fun b hb=>hs b (.inr (.inr hb))),h.nb,h.ne,h.so,h.ok,h.le,h.ot⟩
theorem Lo.keep {S F:Nat→Prop} {w w':World} {B:Nat} {t:Ln.Terms} {E:List Ln.Ev} {g:Ln.St} {day:Int} {L:List En} (h:Lo w B t E g day L F) (hk:Keep S w w') (hs:∀ b,b < w.heap.size→F b→¬ S b):Lo w' B t E g day L F:=by
 obtain ⟨P,Mb,evv,bkv,h1,h2⟩:=h
 exact ⟨P,Mb,evv,bkv,h1.keep hk (fun b hb=>hs b (h1.foLt b hb) (h2 b hb)),h2⟩
theorem Lo.below {F:Nat→Prop} {w w':World} {B:Nat} {t:Ln.Terms} {E:List Ln.Ev} {g:Ln.St} {day:Int} {L:List En} (h:Lo w B t E g day L F) (hb:Below w.heap.size w w'):Lo w' B t E g day L F :=
 h.keep (S:=fun _=>False) (Keep.below hb) (fun _ _ _ x=>x)
theorem Lo.mono {F G:Nat→Prop} {w:World} {B:Nat} {t:Ln.Terms} {E:List Ln.Ev} {g:Ln.St} {day:Int} {L:List En} (h:Lo w B t E g day L F) (hs:∀ b,b < w.heap.size→F b→G b):Lo w B t E g day L G:=by
 obtain ⟨P,Mb,evv,bkv,h1,h2⟩:=h
 exact ⟨P,Mb,evv,bkv,h1,fun b hb=>hs b (h1.foLt b hb) (h2 b hb)⟩
theorem Lo.drew {F:Nat→Prop} {w:World} {B:Nat} {t:Ln.Terms} {E:List Ln.Ev} {g:Ln.St} {day:Int} {L:List En} (h:Lo w B t E g day L F):Lo w.drew B t E g day L F :=
 h.keep (S:=fun _=>False) ((Keep.refl _ _).drew) (fun _ _ _ x=>x)
theorem rt_ok {t:Ln.Terms} (h:rtB t = true):Ln.OkT t:=by
 unfold rtB at h
 simp at h
 obtain ⟨⟨⟨⟨⟨h1,h2⟩,h3⟩,h4⟩,h5⟩,h6⟩:=h
 exact ⟨h1.1,h1.2,h2.1,h2.2,h3.1,h3.2,h4.1,h4.2,h5.1,h5.2⟩
theorem openL (t:Ln.Terms) (w:World) (h:rtB t = true) :
  Calls Tryz.prog 23 #[tmV t] w fun e w'=>∃ B,e = .returned (.tuple #[.pointer (some ⟨B,0,none⟩),.int .i64 0])∧Lo w' B t [] (Ln.start t) t.st [] (Wd (fun _=>False) w w')∧Below w.heap.size w w':=by
 refine (open_good t w h).mono ?_
 rintro e w' ⟨⟨B,P,Mb,rfl,hB,hM,hPB,hA,hbk⟩,hb⟩
 have hMP:=hbk.lt
 refine ⟨B,rfl,⟨P,Mb,.slice none 0 0,.slice none 0 0,⟨hA,hbk,World.ownsRow_nil _ _ _ _,?_,fun b hb=>(by cases hb),List.Pairwise.nil,fun e he=>(by simp at he),(by simp),rt_ok h⟩,?_⟩,hb⟩
 ·rintro (h1 | h1 | h1)
  ·omega
  ·omega
  ·cases h1
 ·have hBl:=At.lt (v:=.int .i64 t.st) hA
  rintro b (rfl | (rfl | rfl | h1) | h1)
  ·exact .inr ⟨hB,hBl⟩
  ·exact .inr ⟨by omega,by omega⟩
  ·exact .inr ⟨hM,by omega⟩
  ·cases h1
  ·cases h1
theorem runL (w:World) (B:Nat) (t:Ln.Terms) (E:List Ln.Ev) (g0:Ln.St) (day0:Int) (L:List En) (F:Nat→Prop) (h:Lo w B t E g0 day0 L F) (hL:L.length≤4000000000000) (m:Nat) (h0:day0≤t.st+m) (hm:m≤3700) (hmv:Mv w) (hgm:¬ F 1) :
  Calls Tryz.prog 17 #[.pointer (some ⟨B,0,none⟩),.int .i64 (t.st+m)] w fun e w'=>e = .returned (.int .i64 0)∧Lo w' B t E (Ln.run t cdOf (wtOf t.ba) E m) (t.st+m) (bkP t.st (fun k=>(yOf t E k).am) L m) (Wd F w w')∧Keep F w w':=by
 obtain ⟨P,Mb,evv,bkv,h1,h2⟩:=h
 obtain ⟨Eb,h3,h4⟩:=h1.is
 refine (run_any w B P Mb Eb t E g0 day0 L evv bkv h3 hL m h0 hm hmv (fun x=>hgm (h2 _ (.inr (.inl x))))).mono ?_
 rintro e w' ⟨rfl,bkv',hA,hbk,hon,hk⟩
 have hBl:=h1.foLt B (.inl rfl)
 refine ⟨rfl,⟨P,Mb,evv,bkv',⟨hA,hbk,own_keep h1.ev hk (fun b hb x=>?_),BkS.new hon hBl h1.nb,fun b hb=>⟨(h1.ne b hb).1,BkS.new hon (own_base h1.ev hb).2 (h1.ne b hb).2⟩,h1.so,h1.ok,h1.le,h1.ot⟩,?_⟩,hk.mono (fun b _ hb=>hb.elim (fun e=>h2 b (.inl e)) (fun e=>h2 b (.inr (.inl e))))⟩
 ·have:=h1.ne b hb
  exact x.elim this.1 this.2
 ·rintro b (rfl | (rfl | rfl | hb) | hb)
  ·exact .inl (h2 _ (.inl rfl))
  ·exact .inl (h2 _ (.inr (.inl (.inl rfl))))
  ·exact .inl (h2 _ (.inr (.inl (.inr (.inl rfl)))))
  ·rcases hon with e | ⟨c,e1,e2⟩
   ·exact .inl (h2 _ (.inr (.inl (.inr (.inr (e.symm.trans hb))))))
   ·have:c = b:=by rw [e1] at hb; exact Option.some.inj hb
    subst this
    exact .inr ⟨e2,(hbk.own hb).2⟩
  ·exact .inl (h2 _ (.inr (.inr hb)))
end Go.Proofs.YtanndhoimpnhpaaGreatDoor
namespace Go.Proofs.YtanndhoimpnhpaaGreatDoor
open Go.RowKit Cal
def posOf (q:Int) (l:List Ln.Ev):Int:=match l.findIdx? (fun e=>e.s == q) with
 | some i=>i
 | none=>-1
theorem pos_none (q:Int) (l:List Ln.Ev) (h:∀ j (hj:j < l.length),¬ l[j].s = q):posOf q l = -1:=by
 have:l.findIdx? (fun e=>e.s == q) = none:=by
  rw [List.findIdx?_eq_none_iff]
  intro x hx
  obtain ⟨j,hj,rfl⟩:=List.getElem_of_mem hx
  simpa using h j hj
 unfold posOf
 rw [this]
theorem pos_some (q:Int) (l:List Ln.Ev) (k:Nat) (hk:k < l.length) (h1:l[k].s = q) (h:∀ j (hj:j < l.length),j < k→¬ l[j].s = q):posOf q l = k:=by
 have:l.findIdx? (fun e=>e.s == q) = some k:=by
  rw [List.findIdx?_eq_some_iff_getElem]
  exact ⟨hk,by simp [h1],fun j hj=>by simpa using h j (by omega) hj⟩
 unfold posOf
 rw [this]
theorem EvAt.range {w:World} {E:Nat} {p:Option Addr} {l:List Ln.Ev} (h:EvAt w E p l) (k:Nat) (hk:k < l.length):∃ o,p = some ⟨E,o,none⟩∧E < w.heap.size∧w.rangeAt E (o+k*4) (evl l[k]):=by
 obtain ⟨o,h1,h2,c0,c1,c2,c3⟩:=h k hk
 refine ⟨o,h1,h2,fun j v hv=>?_⟩
 match j,hv with
 | 0,hv=>cases hv; exact c0
 | 1,hv=>cases hv; exact c1
 | 2,hv=>cases hv; exact c2
 | 3,hv=>cases hv; exact c3
theorem seqPred (W:World) (N:Nat) (q:Int) (hN:N < W.heap.size) (hc:W.cell? ⟨N,0,none⟩ = some (.int .i64 q)) (x:Ln.Ev) :
  Calls Tryz.prog 84 #[evV x,.pointer (some ⟨N,0,none⟩)] W fun e w'=>e = .returned (.bool (x.s == q))∧Below W.heap.size W w':=by
 have hne:N ≠ W.heap.size:=by omega
 unfold evV evl
 go_enter Tryz.func84,Tryz.ntmps84
 go_wp2
 go_ret
 exact ⟨rfl,(Below.refl _ _).alloc (Nat.le_refl _) _⟩
set_option maxRecDepth 10000 in
set_option maxHeartbeats 4000000 in
theorem indexFunc_any (w:World) (E:Nat) (v:Value) (l:List Ln.Ev) (h:EvV w E v l) (hl:l.length≤1000000) (N:Nat) (q:Int) (hN:N < w.heap.size) (hc:w.cell? ⟨N,0,none⟩ = some (.int .i64 q)) :
  Calls Tryz.prog 83 #[v,.func (.func 84) #[] #[.pointer (some ⟨N,0,none⟩)]] w fun e w'=>e = .returned (.int .i64 (posOf q l))∧Below w.heap.size w w':=by
 obtain ⟨p,cap,rfl,hcap,hat⟩:=h
 have HAt:=hid hat
 have HC:=hid hc
 clear hat hc
 go_enter Tryz.func83,Tryz.ntmps83
 go_wp2
 go_loopw [5,8] (fun _ i wr=>∃ k:Nat,k≤l.length∧i = .int .i64 k∧Below w.heap.size w wr∧∀ j (hj:j < l.length),j < k→¬ l[j].s = q) (fun _ i _=>(l.length - intOf i).toNat)
 case atStart=>exact ⟨0,Nat.zero_le _,rfl,Below.refl _ _,fun j _ h=>absurd h (Nat.not_lt_zero j)⟩
 case round =>
  obtain ⟨k,hk,rfl,hbw,hlow⟩:=hrel
  have HB:=hid hbw
  have HL:=hid hlow
  clear hlow hbw
  by_cases hlt:k < l.length
  ·obtain ⟨o,rfl,hEl,hr⟩:=HAt.out.range k hlt
   have hbk:=HB.out.block E hEl
   have hr2:wr.rangeAt E (o+k*4) (evl l[k]):=fun j u hu=>(World.cell?_of_block (w:=w) (a:=⟨E,o+k*4+j,none⟩) hbk).trans (hr j u hu)
   have hcW:wr.cell? ⟨N,0,none⟩ = some (.int .i64 q):=(HB.out.cell (p:=⟨N,0,none⟩) hN).trans HC.out
   have hp:=seqPred wr N q (Nat.lt_of_lt_of_le hN HB.out.size) hcW l[k]
   have HC1:Hid (l[k].s = q→posOf q l = k):=fun he=>pos_some q l k hlt he HL.out
   have HD:Hid (¬ l[k].s = q→∀ j (hj:j < l.length),j < k+1→¬ l[j].s = q):=fun he j hj hjk=>by
    by_cases e:j = k
    ·subst e; exact he
    ·exact HL.out j hj (by omega)
   clear HL hr hcW
   unfold evV at hp
   generalize l[k] = x at *
   have hlt2:(k:Int) < (l.length:Int):=by omega
   go_upto_region 4 with fail
   refine wp_region_lit ?_
   refine wpList_val (.func (.func 84) #[] #[.pointer (some ⟨N,0,none⟩)]) wr rfl rfl ?_
   simp only [uP]
   refine wpList_val (.slice (some ⟨E,o,none⟩) l.length cap) wr rfl rfl ?_
   simp only [uP]
   refine wpList_val (.int .i64 k) wr rfl rfl ?_
   simp only [uP]
   refine wpList_val (.pointer (some ⟨E,o+k*4,none⟩)) wr rfl (by go_simp) ?_
   simp only [uP]
   refine wpList_load_mid rfl 50 (.tmp 14) rfl _ _ rfl (evl x) _ hr2 Tryz.underlying50 rfl (by kernel_rfl) ?_
   simp only [uP]
   clear hr2 hbk
   cases hq:(x.s == q) with
   | true =>
    have hq2:x.s = q:=by simpa using hq
    rw [hq] at hp
    have HX:Hid (posOf q l = k):=HC1.out hq2
    clear HC1 HD hq hq2
    go_wp2_with fail
    refine hp.mono ?_
    rintro e w' ⟨rfl,hb'⟩
    go_wp2
    go_ret
    exact ⟨by rw [HX.out]; rfl,HB.out.trans (hb'.mono HB.out.size)⟩
   | false =>
    have hq2:¬ x.s = q:=by simpa using hq
    rw [hq] at hp
    have HX:=HD.out hq2
    have HX:=hid HX
    clear HC1 HD hq hq2
    go_wp2_with fail
    refine hp.mono ?_
    rintro e w' ⟨rfl,hb'⟩
    go_wp2
    exact ⟨⟨k+1,hlt,rfl,HB.out.trans (hb'.mono HB.out.size),HX.out⟩,by simp [intOf]; omega⟩
  ·obtain rfl:k = l.length:=by omega
   have HX:Hid (posOf q l = -1):=pos_none q l (fun j hj=>HL.out j hj hj)
   go_wp2
   go_ret
   exact ⟨by rw [HX.out]; rfl,HB.out⟩
set_option maxHeartbeats 1000000 in
theorem placeOfSeq_any (w:World) (E:Nat) (v:Value) (l:List Ln.Ev) (h:EvV w E v l) (hl:l.length≤1000000) (q:Int) :
  Calls Tryz.prog 50 #[v,.int .i64 q] w fun e w'=>e = .returned (.int .i64 (posOf q l))∧Below w.heap.size w w':=by
 have b0:Below w.heap.size w (w.alloc (.cells #[.int .i64 q] 3)):=(Below.refl _ _).alloc (Nat.le_refl _) _
 have hI:=indexFunc_any (w.alloc (.cells #[.int .i64 q] 3)) E v l (h.keep (S:=fun _=>False) (Keep.below b0) (fun _ x=>x)) hl w.heap.size q (by simp) (by simp)
 obtain ⟨p,cap,rfl,_⟩:=h
 go_enter Tryz.func50,Tryz.ntmps50
 go_wp2_with fail
 refine hI.mono ?_
 rintro e w1 ⟨rfl,hb1⟩
 clear hI
 go_wp2
 go_ret
 exact ⟨rfl,b0.trans (hb1.mono b0.size)⟩
def cmpI (x y:Int):Int:=if x < y then -1 else if y < x then 1 else 0
def orI (a b c:Int):Int:=if ¬ a = 0 then a else if ¬ b = 0 then b else c
def cmpE (a b:Ln.Ev):Int:=orI (cmpI a.d b.d) (cmpI a.k b.k) (cmpI a.s b.s)
theorem cmpE_lt (a b:Ln.Ev):cmpE a b < 0 ↔ So.Ah a b:=by
 rw [So.ah_iff]
 unfold cmpE orI cmpI
 by_cases h1:a.d < b.d
 ·simp [h1]
 ·by_cases h2:b.d < a.d
  ·simp [h1,h2]
   omega
  ·have h3:a.d = b.d:=by omega
   simp [h3]
   by_cases h4:a.k < b.k
   ·simp [h4]
   ·by_cases h5:b.k < a.k
    ·simp [h4,h5]
     omega
    ·have h6:a.k = b.k:=by omega
     simp [h6]
     by_cases h7:a.s < b.s
     ·simp [h7]
     ·simp [h7]
      split <;> omega
theorem cmp_any (x y:Int) (w:World) :
  Calls Tryz.prog 86 #[.int .i64 x,.int .i64 y] w fun e w'=>e = .returned (.int .i64 (cmpI x y))∧w' = w:=by
 unfold cmpI
 by_cases h1:x < y
 ·rw [if_pos h1]
  go_enter Tryz.func86,Tryz.ntmps86
  go_wp2
  go_ret
  exact ⟨rfl,rfl⟩
 ·by_cases h2:y < x
  ·rw [if_neg h1,if_pos h2]
   go_enter Tryz.func86,Tryz.ntmps86
   go_wp2
   go_ret
   exact ⟨rfl,rfl⟩
  ·rw [if_neg h1,if_neg h2]
   go_enter Tryz.func86,Tryz.ntmps86
   go_wp2
   go_ret
   exact ⟨rfl,rfl⟩
set_option maxHeartbeats 1000000 in
theorem or_any (a b c:Int) (N cap:Nat) (w:World) (h0:w.cell? ⟨N,0,none⟩ = some (.int .i64 a)) (h1:w.cell? ⟨N,1,none⟩ = some (.int .i64 b)) (h2:w.cell? ⟨N,2,none⟩ = some (.int .i64 c)) :
  Calls Tryz.prog 85 #[.slice (some ⟨N,0,none⟩) 3 cap] w fun e w'=>e = .returned (.int .i64 (orI a b c))∧w' = w:=by
 have HR:Hid (orI a b c = if ¬ a = 0 then a else if ¬ b = 0 then b else c):=rfl
 generalize orI a b c = r at *
 go_enter Tryz.func85,Tryz.ntmps85
 go_wp2
 go_loop [5,8] (fun _ i=>∃ k:Nat,k≤3∧i = .int .i64 k∧(1≤k→a = 0)∧(2≤k→b = 0)∧(3≤k→c = 0)) (fun _ i=>(3 - intOf i).toNat)
 case atStart=>exact ⟨0,Nat.zero_le _,rfl,fun h=>by omega,fun h=>by omega,fun h=>by omega⟩
 case round =>
  obtain ⟨k,hk,rfl,ha,hb,hc⟩:=hrel
  rcases (show k = 0∨k = 1∨k = 2∨k = 3 by omega) with rfl | rfl | rfl | rfl
  ·clear ha hb hc
   by_cases z:a = 0
   ·have hz:(a != 0) = false:=by simp [z]
    go_wp2
    exact ⟨⟨1,by omega,rfl,fun _=>z,fun h=>by omega,fun h=>by omega⟩,by simp [intOf]⟩
   ·have hz:(a != 0) = true:=by simp [z]
    go_wp2
    go_ret
    exact ⟨by rw [HR.out,if_pos z]; rfl,rfl⟩
  ·have za:=ha (by omega)
   have ZA:=hid za
   clear ha hb hc za
   by_cases z:b = 0
   ·have hz:(b != 0) = false:=by simp [z]
    go_wp2
    exact ⟨⟨2,by omega,rfl,fun _=>ZA.out,fun _=>z,fun h=>by omega⟩,by simp [intOf]⟩
   ·have hz:(b != 0) = true:=by simp [z]
    go_wp2
    go_ret
    exact ⟨by rw [HR.out,if_neg (by simp [ZA.out]),if_pos z]; rfl,rfl⟩
  ·have ZA:Hid (a = 0):=ha (by omega)
   have ZB:Hid (b = 0):=hb (by omega)
   clear ha hb hc
   by_cases z:c = 0
   ·have hz:(c != 0) = false:=by simp [z]
    go_wp2
    exact ⟨⟨3,by omega,rfl,fun _=>ZA.out,fun _=>ZB.out,fun _=>z⟩,by simp [intOf]⟩
   ·have hz:(c != 0) = true:=by simp [z]
    go_wp2
    go_ret
    exact ⟨by rw [HR.out,if_neg (by simp [ZA.out]),if_neg (by simp [ZB.out])]; rfl,rfl⟩
  ·have ZA:Hid (a = 0):=ha (by omega)
   have ZB:Hid (b = 0):=hb (by omega)
   have ZC:Hid (c = 0):=hc (by omega)
   clear ha hb hc
   go_wp2
   go_ret
   exact ⟨by rw [HR.out,if_neg (by simp [ZA.out]),if_neg (by simp [ZB.out]),ZC.out]; rfl,rfl⟩
def CeS (w:World) (a b:Ln.Ev) (wx:World):Prop:=At wx w.heap.size (evl a)∧At wx (w.heap.size+1) (evl b)∧Below w.heap.size w wx
theorem CeS.below {w W W':World} {a b:Ln.Ev} (h:CeS w a b W) (hb:Below W.heap.size W W'):CeS w a b W' :=
 ⟨At.keep (S:=fun _=>False) (v:=.int .i64 a.d) h.1 (Keep.below hb) (fun x=>x),At.keep (S:=fun _=>False) (v:=.int .i64 b.d) h.2.1 (Keep.below hb) (fun x=>x),h.2.2.trans (hb.mono h.2.2.size)⟩
theorem CeS.drew {w W:World} {a b:Ln.Ev} (h:CeS w a b W):CeS w a b W.drew:=⟨h.1.drew,h.2.1.drew,h.2.2.drew⟩
theorem or_alloc (a b c:Int) (W:World) :
  Calls Tryz.prog 85 #[.slice (some ⟨W.heap.size,0,none⟩) 3 3] (W.alloc (.cells #[.int .i64 a,.int .i64 b,.int .i64 c] 3)) fun e w'=>e = .returned (.int .i64 (orI a b c))∧w' = W.alloc (.cells #[.int .i64 a,.int .i64 b,.int .i64 c] 3) :=
 or_any a b c W.heap.size 3 _ (by simp) (by simp) (by simp)
set_option maxRecDepth 10000 in
set_option maxHeartbeats 8000000 in
theorem compareEvents_any (a b:Ln.Ev) (w:World) :
  Calls Tryz.prog 52 #[evV a,evV b] w fun x w'=>x = .returned (.int .i64 (cmpE a b))∧Below w.heap.size w w':=by
 have hD:=fun W=>cmp_any a.d b.d W
 have hK:=fun W=>cmp_any a.k b.k W
 have hS:=fun W=>cmp_any a.s b.s W
 have hO:=fun W=>or_alloc (cmpI a.d b.d) (cmpI a.k b.k) (cmpI a.s b.s) W
 have HE:Hid (orI (cmpI a.d b.d) (cmpI a.k b.k) (cmpI a.s b.s) = cmpE a b):=rfl
 have HS0:Hid (CeS w a b ((w.alloc (.cells (evl a).toArray 50)).alloc (.cells (evl b).toArray 50))):=by
  have b1:Below w.heap.size w (w.alloc (.cells (evl a).toArray 50)):=(Below.refl _ _).alloc (Nat.le_refl _) _
  have z1:(w.alloc (.cells (evl a).toArray 50)).heap.size = w.heap.size+1:=by simp
  refine ⟨At.over (v:=.int .i64 a.d) (At.alloc w (evl a) _) _,?_,b1.alloc (by omega) _⟩
  have:=At.alloc (w.alloc (.cells (evl a).toArray 50)) (evl b) 50
  rw [z1] at this
  exact this
 generalize cmpI a.d b.d = x1 at *
 generalize cmpI a.k b.k = x2 at *
 generalize cmpI a.s b.s = x3 at *
 generalize cmpE a b = code at *
 generalize orI x1 x2 x3 = orr at *
 unfold evV
 go_enter Tryz.func52,Tryz.ntmps52
 go_upto_region 1 with fail
 change Code.wp _ _ _ _ ((w.alloc (.cells (evl a).toArray 50)).alloc (.cells (evl b).toArray 50))
 generalize (w.alloc (.cells (evl a).toArray 50)).alloc (.cells (evl b).toArray 50) = V at *
 try simp only [size_alloc]
 refine wp_region_held_drew (S:=CeS w a b) (by kernel_rfl) HS0.out.drew (fun hHeld=>?_)
 clear HS0
 generalize V.drew = V1 at *
 refine tka 0 (.pointer (some ⟨w.heap.size,0,none⟩)) rfl ?_
 simp only [uP]
 refine tkh 1 (.int .i64 a.d) rfl (fun wx hSw=>by (have hc:wx.cell? ⟨w.heap.size,0,none⟩ = some (.int .i64 a.d):=hSw.1.cell 0 rfl; go_simp)) ?_
 simp only [uP]
 refine tka 2 (.pointer (some ⟨w.heap.size+1,0,none⟩)) rfl ?_
 simp only [uP]
 refine tkh 3 (.int .i64 b.d) rfl (fun wx hSw=>by (have hc:wx.cell? ⟨w.heap.size+1,0,none⟩ = some (.int .i64 b.d):=hSw.2.1.cell 0 rfl; go_simp)) ?_
 simp only [uP]
 refine tka 5 (.pointer (some ⟨w.heap.size,1,none⟩)) rfl ?_
 simp only [uP]
 refine tkh 6 (.int .i64 a.k) rfl (fun wx hSw=>by (have hc:wx.cell? ⟨w.heap.size,1,none⟩ = some (.int .i64 a.k):=hSw.1.cell 1 rfl; go_simp)) ?_
 simp only [uP]
 refine tka 7 (.pointer (some ⟨w.heap.size+1,1,none⟩)) rfl ?_
 simp only [uP]
 refine tkh 8 (.int .i64 b.k) rfl (fun wx hSw=>by (have hc:wx.cell? ⟨w.heap.size+1,1,none⟩ = some (.int .i64 b.k):=hSw.2.1.cell 1 rfl; go_simp)) ?_
 simp only [uP]
 refine tka 10 (.pointer (some ⟨w.heap.size,2,none⟩)) rfl ?_
 simp only [uP]
 refine tkh 11 (.int .i64 a.s) rfl (fun wx hSw=>by (have hc:wx.cell? ⟨w.heap.size,2,none⟩ = some (.int .i64 a.s):=hSw.1.cell 2 rfl; go_simp)) ?_
 simp only [uP]
 refine tka 12 (.pointer (some ⟨w.heap.size+1,2,none⟩)) rfl ?_
 simp only [uP]
 refine tkh 13 (.int .i64 b.s) rfl (fun wx hSw=>by (have hc:wx.cell? ⟨w.heap.size+1,2,none⟩ = some (.int .i64 b.s):=hSw.2.1.cell 2 rfl; go_simp)) ?_
 simp only [uP]
 refine wpAnyH_ready (rs:=[4]) (by kernel_rfl) (by simp) ?_
 refine AllReadyH.cons rfl (fun K hK'=>?_) AllReadyH.nil
 go_simp
 refine (hD _).mono ?_
 rintro x w' ⟨rfl,hw'⟩
 obtain rfl:=hw'.symm
 go_wp2_with fail
 refine hK'.out _ _ hHeld (fun hHeld=>?_)
 clear hK' K
 try simp only [uP]
 refine wpAnyH_ready (rs:=[9]) (by kernel_rfl) (by simp) ?_
 refine AllReadyH.cons rfl (fun K hK'=>?_) AllReadyH.nil
 go_simp
 refine (hK _).mono ?_
 rintro x w' ⟨rfl,hw'⟩
 obtain rfl:=hw'.symm
 go_wp2_with fail
 refine hK'.out _ _ hHeld (fun hHeld=>?_)
 clear hK' K
 try simp only [uP]
 refine wpAnyH_ready (rs:=[14]) (by kernel_rfl) (by simp) ?_
 refine AllReadyH.cons rfl (fun K hK'=>?_) AllReadyH.nil
 go_simp
 refine (hS _).mono ?_
 rintro x w' ⟨rfl,hw'⟩
 obtain rfl:=hw'.symm
 go_wp2_with fail
 refine hK'.out _ _ hHeld (fun hHeld=>?_)
 clear hK' K
 try simp only [uP]
 refine wpAnyH_ready (rs:=[15]) (by kernel_rfl) (by simp) ?_
 refine AllReadyH.cons rfl (fun K hK'=>?_) AllReadyH.nil
 have hO1:=hO V1
 have b1:Below V1.heap.size V1 (V1.alloc (.cells #[.int .i64 x1,.int .i64 x2,.int .i64 x3] 3)):=(Below.refl _ _).alloc (Nat.le_refl _) _
 rw [if_pos (by rfl)]
 refine wp_valD (.slice (some ⟨V1.heap.size,0,none⟩) 3 3) (V1.alloc (.cells #[.int .i64 x1,.int .i64 x2,.int .i64 x3] 3)) (by kernel_rfl) ?_
 refine hK'.out _ _ (hHeld.below b1) (fun hHeld9=>?_)
 clear hK' K b1
 try simp only [uP]
 generalize V1.alloc (.cells #[.int .i64 x1,.int .i64 x2,.int .i64 x3] 3) = V2 at *
 generalize V1.heap.size = N2 at *
 refine wpAnyH_ready (rs:=[16]) (by kernel_rfl) (by simp) ?_
 refine AllReadyH.cons rfl (fun K hK'=>?_) AllReadyH.nil
 go_simp
 refine hO1.mono ?_
 rintro x w5 ⟨rfl,hw'⟩
 obtain rfl:=hw'.symm
 clear hw'
 go_wp2_with fail
 refine hK'.out _ _ hHeld9 (fun hHeld10=>?_)
 clear hK' K hO1
 have HB:Hid (Below w.heap.size w V2):=hHeld10.2.2
 try simp only [uP]
 refine tka 17 (.int .i64 orr) rfl ?_
 simp only [uP]
 refine wpAnyH_done (by kernel_rfl) ?_ _
 clear hHeld9 hHeld10 hO
 obtain rfl:=HE.out
 go_wp2
 go_ret
 exact ⟨rfl,HB.out⟩
structure Bel (e:Ln.Ev) (l:List Ln.Ev) (i:Nat):Prop where
 le:i≤l.length
 lo:∀ j (hj:j < l.length),j < i→So.Ah l[j] e
 hi:∀ j (hj:j < l.length),i≤j→¬ So.Ah l[j] e
def BsS (w:World) (e:Ln.Ev) (wx:World):Prop:=At wx w.heap.size (evl e)∧Below w.heap.size w wx
theorem BsS.below {w W W':World} {e:Ln.Ev} (h:BsS w e W) (hb:Below W.heap.size W W'):BsS w e W' :=
 ⟨At.keep (S:=fun _=>False) (v:=.int .i64 e.d) h.1 (Keep.below hb) (fun x=>x),h.2.trans (hb.mono h.2.size)⟩
theorem BsS.drew {w W:World} {e:Ln.Ev} (h:BsS w e W):BsS w e W.drew:=⟨h.1.drew,h.2.drew⟩
set_option maxRecDepth 10000 in
set_option maxHeartbeats 4000000 in
theorem search_any (w:World) (E:Nat) (v:Value) (l:List Ln.Ev) (e:Ln.Ev) (h:EvV w E v l) (hl:l.length≤1000000) (hso:l.Pairwise So.Ah) :
  Calls Tryz.prog 51 #[v,evV e,.func (.func 52) #[] #[]] w fun x w'=>(∃ (i:Nat) (b:Bool),x = .returned (.tuple #[.int .i64 i,.bool b])∧Bel e l i)∧Below w.heap.size w w':=by
 obtain ⟨p,cap,rfl,hcap,hat⟩:=h
 have HAt:=hid hat
 have HSo:Hid (∀ i j (hi:i < l.length) (hj:j < l.length),i < j→So.Ah l[i] l[j]):=List.pairwise_iff_getElem.1 hso
 have HC:Hid (∀ (a:Ln.Ev) (W:World),Calls Tryz.prog 52 #[evV a,evV e] W fun x w'=>x = .returned (.int .i64 (cmpE a e))∧Below W.heap.size W w'):=fun a W=>compareEvents_any a e W
 have HV0:Hid (BsS w e (w.alloc (.cells (evl e).toArray 50))):=⟨At.alloc w (evl e) _,(Below.refl _ _).alloc (Nat.le_refl _) _⟩
 have HLt:Hid (∀ a:Ln.Ev,cmpE a e < 0 ↔ So.Ah a e):=fun a=>cmpE_lt a e
 clear hat hso
 unfold evV
 go_enter Tryz.func51,Tryz.ntmps51
 go_upto_region 1 with fail
 change Code.wp _ _ _ _ (w.alloc (.cells (evl e).toArray 50))
 generalize w.alloc (.cells (evl e).toArray 50) = V at *
 go_wp2
 go_loopw [9,10,11] (fun s9 s10 _ wr=>∃ i j:Nat,i≤j∧j≤l.length∧s9 = .int .i64 i∧s10 = .int .i64 j∧BsS w e wr∧(∀ q (hq:q < l.length),q < i→So.Ah l[q] e)∧(∀ q (hq:q < l.length),j≤q→¬ So.Ah l[q] e)) (fun s9 s10 _ _=>(intOf s10 - intOf s9).toNat)
 case atStart=>exact ⟨0,l.length,Nat.zero_le _,Nat.le_refl _,rfl,rfl,HV0.out,fun q _ h=>absurd h (Nat.not_lt_zero q),fun q hq h=>by omega⟩
 case round =>
  obtain ⟨i,j,hij,hjn,rfl,rfl,hS,hlo,hhi⟩:=hrel
  have HS:=hid hS
  have HLo:=hid hlo
  have HHi:=hid hhi
  clear hS hlo hhi
  by_cases hlt:i < j
  ·obtain ⟨m,hm⟩:∃ m,m = (i+j) / 2:=⟨_,rfl⟩
   have hm1:i≤m:=by omega
   have hm2:m < j:=by omega
   have hml:m < l.length:=by omega
   obtain ⟨o,rfl,hEl,hr⟩:=HAt.out.range m hml
   have HR:Hid (∀ wx,BsS w e wx→wx.rangeAt E (o+m*4) (evl l[m])):=fun wx hx j u hu=>(World.cell?_of_block (w:=w) (a:=⟨E,o+m*4+j,none⟩) (hx.2.block E hEl)).trans (hr j u hu)
   have hC:=HC.out l[m]
   have HUp:Hid (cmpE l[m] e < 0→∀ q (hq:q < l.length),q < m+1→So.Ah l[q] e):=fun hc q hq hqm=>by
    have h1:=(HLt.out l[m]).1 hc
    by_cases z:q = m
    ·subst z; exact h1
    ·exact So.ah_trans (HSo.out q m hq hml (by omega)) h1
   have HDn:Hid (¬ cmpE l[m] e < 0→∀ q (hq:q < l.length),m≤q→¬ So.Ah l[q] e):=fun hc q hq hqm ha=>by
    refine hc ((HLt.out l[m]).2 ?_)
    by_cases z:q = m
    ·subst z; exact ha
    ·exact So.ah_trans (HSo.out m q hml hq (by omega)) ha
   clear hr
   unfold evV at hC
   generalize l[m] = x at *
   have z1:(i:Int) < (j:Int):=by omega
   have z2:((i:Int)+(j:Int)) / 2 = (m:Int):=by omega
   have HM:=hid hm
   clear hm
   generalize cmpE x e = c at *
   go_upto_region 5 with fail
   refine wp_region_held_drew (S:=BsS w e) (by kernel_rfl) HS.out.drew (fun hHeld=>?_)
   clear HS
   generalize wr.drew = V1 at *
   refine tkk 0 (.func (.func 52) #[] #[]) rfl ?_
   simp only [uP]
   refine tkk 1 (.slice (some ⟨E,o,none⟩) l.length cap) rfl ?_
   simp only [uP]
   refine tkk 2 (.int .i64 m) rfl ?_
   simp only [uP]
   refine tka 3 (.pointer (some ⟨E,o+m*4,none⟩)) rfl ?_
   simp only [uP]
   refine wpAnyH_take (i:=4) (v:=(.agg (evl x).toArray)) rfl (by kernel_rfl) (by kernel_rfl) (by kernel_rfl) (fun _ _ _ h=>h) (yieldsIf_load_mid (by rfl) 50 (.tmp 27) rfl _ _ rfl _ _ (fun _ h=>HR.out _ h) Tryz.underlying50 rfl (by kernel_rfl)) (by assumption) ?_
   simp only [uP]
   refine wpAnyH_take (i:=5) (v:=(.agg (evl e).toArray)) rfl (by kernel_rfl) (by kernel_rfl) (by kernel_rfl) (fun _ _ _ h=>h) (yieldsIf_load_mid (by rfl) 50 (.tmp 4) rfl _ _ rfl _ _ (fun _ h=>h.1.range) Tryz.underlying50 rfl (by kernel_rfl)) (by assumption) ?_
   simp only [uP]
   refine rdy 6 rfl (fun K hK=>?_)
   go_simp
   refine (hC _).mono ?_
   rintro y w2 ⟨rfl,hb2⟩
   go_wp2_with fail
   refine hK.out _ _ (hHeld.below hb2) (fun hHeld2=>?_)
   clear hK K hHeld hb2 hC
   try simp only [uP]
   have HS2:=hid hHeld2
   by_cases hc:c < 0
   ·have hcb:decide (c < 0) = true:=by simp [hc]
    have HU:=HUp.out hc
    have HU:=hid HU
    clear HUp HDn
    refine tka 7 (.bool true) rfl ?_
    simp only [uP]
    refine wpAnyH_done (by kernel_rfl) ?_ _
    clear hHeld2 HR
    go_wp2
    exact ⟨⟨m+1,j,by omega,hjn,rfl,rfl,HS2.out,HU.out,HHi.out⟩,by simp [intOf]; omega⟩
   ·have hcb:decide (c < 0) = false:=by simp [hc]
    have HU:=HDn.out (by omega)
    have HU:=hid HU
    clear HUp HDn
    refine tka 7 (.bool false) rfl ?_
    simp only [uP]
    refine wpAnyH_done (by kernel_rfl) ?_ _
    clear hHeld2 HR
    go_wp2
    exact ⟨⟨i,m,hm1,by omega,rfl,rfl,HS2.out,HLo.out,HU.out⟩,by simp [intOf]; omega⟩
  ·obtain rfl:i = j:=by omega
   have HF:Hid (Bel e l i):=⟨hjn,HLo.out,HHi.out⟩
   clear HLo HHi
   by_cases hn:i < l.length
   ·obtain ⟨o,rfl,hEl,hr⟩:=HAt.out.range i hn
    have HR:Hid (∀ wx,BsS w e wx→wx.rangeAt E (o+i*4) (evl l[i])):=fun wx hx j u hu=>(World.cell?_of_block (w:=w) (a:=⟨E,o+i*4+j,none⟩) (hx.2.block E hEl)).trans (hr j u hu)
    have hC:=HC.out l[i]
    clear hr
    unfold evV at hC
    generalize l[i] = x at *
    have z1:(i:Int) < (l.length:Int):=by omega
    have z2:decide ((i:Int) < (l.length:Int)) = true:=by simp [z1]
    generalize cmpE x e = c at *
    go_upto_region 8 with fail
    refine wp_region_held_drew (S:=BsS w e) (by kernel_rfl) HS.out.drew (fun hHeld=>?_)
    clear HS
    generalize wr.drew = V1 at *
    refine tkk 0 (.int .i64 i) rfl ?_
    simp only [uP]
    refine tkk 1 (.int .i64 i) rfl ?_
    simp only [uP]
    refine tkk 2 (.int .i64 l.length) rfl ?_
    simp only [uP]
    refine tka 3 (.bool true) rfl ?_
    simp only [uP]
    refine tkk 4 (.bool true) rfl ?_
    simp only [uP]
    refine tkk 5 (.func (.func 52) #[] #[]) rfl ?_
    simp only [uP]
    refine tkk 6 (.slice (some ⟨E,o,none⟩) l.length cap) rfl ?_
    simp only [uP]
    refine tkk 7 (.int .i64 i) rfl ?_
    simp only [uP]
    refine tka 8 (.pointer (some ⟨E,o+i*4,none⟩)) rfl ?_
    simp only [uP]
    refine wpAnyH_take (i:=9) (v:=(.agg (evl x).toArray)) rfl (by kernel_rfl) (by kernel_rfl) (by kernel_rfl) (fun _ _ _ h=>h) (yieldsIf_load_mid (by rfl) 50 (.tmp 43) rfl _ _ rfl _ _ (fun _ h=>HR.out _ h) Tryz.underlying50 rfl (by kernel_rfl)) (by assumption) ?_
    simp only [uP]
    refine wpAnyH_take (i:=10) (v:=(.agg (evl e).toArray)) rfl (by kernel_rfl) (by kernel_rfl) (by kernel_rfl) (fun _ _ _ h=>h) (yieldsIf_load_mid (by rfl) 50 (.tmp 4) rfl _ _ rfl _ _ (fun _ h=>h.1.range) Tryz.underlying50 rfl (by kernel_rfl)) (by assumption) ?_
    simp only [uP]
    refine rdy 11 rfl (fun K hK=>?_)
    go_simp
    refine (hC _).mono ?_
    rintro y w2 ⟨rfl,hb2⟩
    go_wp2_with fail
    refine hK.out _ _ (hHeld.below hb2) (fun hHeld2=>?_)
    clear hK K hHeld hb2 hC
    try simp only [uP]
    have HB2:Hid (Below w.heap.size w w2):=hHeld2.2
    refine tka 12 (.bool (c == 0)) rfl ?_
    simp only [uP]
    refine tka 13 (.bool (c == 0)) rfl ?_
    simp only [uP]
    refine tkk 14 (.int .i64 i) rfl ?_
    simp only [uP]
    refine tka 15 (.bool (c == 0)) rfl ?_
    simp only [uP]
    refine wpAnyH_done (by kernel_rfl) ?_ _
    clear hHeld2 HR
    go_wp2
    go_ret2
    exact ⟨⟨i,c == 0,rfl,HF.out⟩,HB2.out⟩
   ·have z2:decide ((i:Int) < (l.length:Int)) = false:=by simp; omega
    go_upto_region 8 with fail
    refine wp_region_held_drew (S:=BsS w e) (by kernel_rfl) HS.out.drew (fun hHeld=>?_)
    clear HS
    generalize wr.drew = V1 at *
    refine tkk 0 (.int .i64 i) rfl ?_
    simp only [uP]
    refine tkk 1 (.int .i64 i) rfl ?_
    simp only [uP]
    refine tkk 2 (.int .i64 l.length) rfl ?_
    simp only [uP]
    refine tka 3 (.bool false) rfl ?_
    simp only [uP]
    refine tkk 4 (.bool false) rfl ?_
    simp only [uP]
    refine tku 5 rfl ?_
    simp only [uP]
    refine tku 6 rfl ?_
    simp only [uP]
    refine tku 7 rfl ?_
    simp only [uP]
    refine tku 8 rfl ?_
    simp only [uP]
    refine tku 9 rfl ?_
    simp only [uP]
    refine tku 10 rfl ?_
    simp only [uP]
    refine tku 11 rfl ?_
    simp only [uP]
    refine tku 12 rfl ?_
    simp only [uP]
    refine tka 13 (.bool false) rfl ?_
    simp only [uP]
    refine tkk 14 (.int .i64 i) rfl ?_
    simp only [uP]
    refine tka 15 (.bool false) rfl ?_
    simp only [uP]
    have HB2:Hid (Below w.heap.size w V1):=hHeld.2
    refine wpAnyH_done (by kernel_rfl) ?_ _
    clear hHeld
    go_wp2
    go_ret2
    exact ⟨⟨i,false,rfl,HF.out⟩,HB2.out⟩
end Go.Proofs.YtanndhoimpnhpaaGreatDoor
namespace Go.Proofs.YtanndhoimpnhpaaGreatDoor
open Go.RowKit
theorem run_copy_rowK {P:Program} (w:World) (dT sT ty elem:TypeId) (k g o dLen dCap:Nat) (a:Addr) (sLen sCap:Nat) (cur:Array Value) (t:TypeId) (cs:List Value)
  (hu:P.underlying dT = some (.slice elem)) (hs:(P.info? elem).map (·.size) = some k)
  (hg:w.heap[g]? = some (.cells cur t (0,0))) (hn:cs.length = Nat.min sLen dLen*k)
  (hsrc:∀ j v,cs[j]? = some v→w.cell? (a.add j) = some v) (hfit:o+cs.length≤cur.size) (h1:∀ v∈cs,v.oneCell' = true) :
  (Builtin.copy_ #[dT,sT] ty #[.slice (some ⟨g,o,none⟩) dLen dCap,.slice (some a) sLen sCap]).run P w =
   .ok (goInt (Nat.min sLen dLen)) (w.setRow g (cur.toList.take o ++ cs ++ cur.toList.drop (o+cs.length)).toArray):=by
 have hl:=run_loadCells_list (P:=P) w a cs hsrc
 have hst:=run_storeCells_at P g o t cs 0 cur w hg (by simpa using hfit) h1
 cases hq:P.info? elem with
 | none=>simp [hq] at hs
 | some i =>
  have hi:i.size = k:=by simpa [hq] using hs
  simp [Builtin.copy_,run_underlying hu,Builtin.lenOf,Builtin.firstCells,sizeOf,typeInfo,hq,hi,← hn,hl,hst]
theorem run_copy_noneK {P:Program} (w:World) (dT sT ty elem:TypeId) (k:Nat) (d a:Option Addr) (dLen dCap sLen sCap:Nat) (hu:P.underlying dT = some (.slice elem)) (hs:(P.info? elem).map (·.size) = some k) (hn:Nat.min sLen dLen = 0) :
  (Builtin.copy_ #[dT,sT] ty #[.slice d dLen dCap,.slice a sLen sCap]).run P w = .ok (goInt 0) w:=by
 cases hq:P.info? elem with
 | none=>simp [hq] at hs
 | some i =>
  have hl:∀ (x:Addr),(loadCells x 0).run P w = .ok #[] w:=fun x=>by simpa using run_loadCells_list (P:=P) w x [] (by simp)
  cases d <;> cases a <;> simp [Builtin.copy_,run_underlying hu,Builtin.lenOf,Builtin.firstCells,sizeOf,typeInfo,hq,hn,storeCells,hl]
theorem run_clear_rowK {P:Program} (w:World) (t e ty:TypeId) (z:Value) (ht:P.underlying t = some (.slice e)) (hv:∀ w,(zeroValue e).run P w = .ok z w) (g o n c:Nat) (hn:0 < n) (cur:Array Value) (T:TypeId) (hg:w.heap[g]? = some (.cells cur T (0,0)))
  (hfit:o+(Builtin.zeroCells z.cells n).toList.length≤cur.size) (h1:∀ v∈(Builtin.zeroCells z.cells n).toList,v.oneCell' = true) :
  (Builtin.clear_ #[t] ty #[.slice (some ⟨g,o,none⟩) n c]).run P w = .ok (.tuple #[]) (w.setRow g (cur.toList.take o ++ (Builtin.zeroCells z.cells n).toList ++ cur.toList.drop (o+(Builtin.zeroCells z.cells n).toList.length)).toArray):=by
 have hst:=run_storeCells_at P g o T (Builtin.zeroCells z.cells n).toList 0 cur w hg (by simpa using hfit) h1
 obtain ⟨m,rfl⟩:∃ m,n = m+1:=⟨n - 1,by omega⟩
 simp only [Nat.add_zero] at hst
 simp [Builtin.clear_,run_underlying ht,hv,hst]
theorem wp_copy_at {P:Program} (w:World) {o:Oper} {a:Act} {K:Act→World→Prop} {Q:Exit→Act→World→Prop} (d s:Operand) (t t':TypeId)
  (ho:o.op = .call { callee:=.builtin .copy,args:=#[d,s],argTypes:=#[t,t'] }) (v u:Value) (hd:a.eval d = v) (hs:a.eval s = u) {v':Value} {w':World}
  (hr:(Builtin.copy_ #[t,t'] o.type #[v,u]).run P w = .ok v' w') (h:K (a.put o.dst v') w'):o.wp P a w K Q:=by
 unfold Oper.wp execOp
 simp only [ho,resolve,invoke,builtin,Sem.run_bind,Sem.run_pure,Result.andThen_ok,List.map_toArray,List.map_cons,List.map_nil,hd,hs,hr]
 exact h
theorem wpList_copy_at {P:Program} (w:World) {ops:Array Oper} {rest:List Oper} {o:Oper} {a:Act} {Q:Exit→Act→World→Prop} (hgd:o.guard = none) (d s:Operand) (t t':TypeId)
  (ho:o.op = .call { callee:=.builtin .copy,args:=#[d,s],argTypes:=#[t,t'] }) (v u:Value) (hd:a.eval d = v) (hs:a.eval s = u) {v':Value} {w':World}
  (hr:(Builtin.copy_ #[t,t'] o.type #[v,u]).run P w = .ok v' w') (h:wpList P ops Q rest (a.put o.dst v') w'):wpList P ops Q (o :: rest) a w :=
 wpList_plain hgd fun _ hK=>wp_copy_at w d s t t' ho v u hd hs hr (hK _ _ h)
theorem wpList_clear_at {P:Program} (w:World) {ops:Array Oper} {rest:List Oper} {o:Oper} {a:Act} {Q:Exit→Act→World→Prop} (hgd:o.guard = none) (s:Operand) (t:TypeId)
  (ho:o.op = .call { callee:=.builtin .clear,args:=#[s],argTypes:=#[t] }) (u:Value) (hs:a.eval s = u) {v':Value} {w':World}
  (hr:(Builtin.clear_ #[t] o.type #[u]).run P w = .ok v' w') (h:wpList P ops Q rest (a.put o.dst v') w'):wpList P ops Q (o :: rest) a w :=
 wpList_plain hgd fun _ hK=>by
  unfold Oper.wp execOp
  simp only [ho,resolve,invoke,builtin,Sem.run_bind,Sem.run_pure,Result.andThen_ok,List.map_toArray,List.map_cons,List.map_nil,hs,hr]
  exact hK _ _ h
theorem wpList_append_to {P:Program} (w:World) {ops:Array Oper} {rest:List Oper} {o:Oper} {a:Act} {Q:Exit→Act→World→Prop} (hgd:o.guard = none) (s x:Operand) (t t':TypeId)
  (ho:o.op = .call { callee:=.builtin .append,args:=#[s,x],argTypes:=#[t,t'] }) (v u:Value) (hs:a.eval s = v) (hx:a.eval x = u) {v':Value} {w':World}
  (hr:(Builtin.append_ #[t,t'] o.type #[v,u]).run P w = .ok v' w') (h:wpList P ops Q rest (a.put o.dst v') w'):wpList P ops Q (o :: rest) a w :=
 wpList_plain hgd fun _ hK=>by
  unfold Oper.wp execOp
  simp only [ho,resolve,invoke,builtin,Sem.run_bind,Sem.run_pure,Result.andThen_ok,List.map_toArray,List.map_cons,List.map_nil,hs,hx,hr]
  exact hK _ _ h
theorem keep_setRow (w:World) (g:Nat) (x:Array Value):Keep (fun b=>b = g) w (w.setRow g x):=by
 refine ⟨rfl,rfl,rfl,?_,fun b _ hb=>?_⟩
 ·unfold World.setRow; simp
 ·unfold World.setRow
  simp only
  rw [Array.getElem?_modify,if_neg (fun e=>hb e.symm)]
theorem setRow_row {w:World} {g:Nat} {cur:Array Value} {t:TypeId} (hg:w.heap[g]? = some (.cells cur t (0,0))) (x:Array Value):(w.setRow g x).heap[g]? = some (.cells x t (0,0)):=setRow_heap w g cur x t _ hg
theorem evs_cell1:∀ (l:List Ln.Ev) (v:Value),v∈evs l→v.oneCell' = true
 | [],_,h=>by simp [evs] at h
 | e :: r,v,h=>by
  simp only [evs,List.mem_cons] at h
  rcases h with rfl | rfl | rfl | rfl | h
  ·rfl
  ·rfl
  ·rfl
  ·rfl
  ·exact evs_cell1 r v h
theorem evs_take (l:List Ln.Ev) (i:Nat):(evs l).take (i*4) = evs (l.take i):=by
 by_cases h:i≤l.length
 ·have e:l = l.take i ++ l.drop i:=(List.take_append_drop i l).symm
  have:evs l = evs (l.take i) ++ evs (l.drop i):=by rw [← So.evs_append,List.take_append_drop]
  rw [this,List.take_append_of_le_length (by rw [So.evs_len,List.length_take]; omega),List.take_of_length_le (by rw [So.evs_len,List.length_take]; omega)]
 ·rw [List.take_of_length_le (by rw [So.evs_len]; omega),List.take_of_length_le (by omega)]
theorem evs_drop (l:List Ln.Ev) (i:Nat):(evs l).drop (i*4) = evs (l.drop i):=by
 by_cases h:i≤l.length
 ·have:evs l = evs (l.take i) ++ evs (l.drop i):=by rw [← So.evs_append,List.take_append_drop]
  have hl:(evs (l.take i)).length = i*4:=by rw [So.evs_len,List.length_take]; omega
  rw [this,← hl,List.drop_left]
 ·rw [List.drop_eq_nil_of_le (by rw [So.evs_len]; omega),List.drop_eq_nil_of_le (by omega)]
  rfl
def laid (cur:List Value) (o:Nat) (cs:List Value):List Value:=cur.take o ++ cs ++ cur.drop (o+cs.length)
theorem laid_len (cur:List Value) (o:Nat) (cs:List Value) (h:o+cs.length≤cur.length):(laid cur o cs).length = cur.length:=by
 unfold laid
 simp
 omega
end Go.Proofs.YtanndhoimpnhpaaGreatDoor
namespace Go.Proofs.YtanndhoimpnhpaaGreatDoor
open Go.RowKit Cal
theorem infoEvp:(Tryz.prog.info? 50).map (fun i=>(i.zero,i.size,i.bytes)) = some (some (.agg #[.int .i64 0,.int .i64 0,.int .i64 0,.int .i64 0]),4,32):=by kernel_rfl
theorem sizeEvp:(Tryz.prog.info? 50).map (·.size) = some 4:=by kernel_rfl
theorem insAt_evs (e:Ln.Ev) (l:List Ln.Ev) (i:Nat):evs (So.insAt e l i) = evs (l.take i) ++ evl e ++ evs (l.drop i):=by
 unfold So.insAt
 rw [So.evs_append,List.append_assoc]
 rfl
def InsPost (w:World) (v:Value) (n:Nat) (xs:List Value) (x:Ending) (w':World):Prop :=
 ∃ v',x = .returned v'∧w'.ownsRow 0 50 4 v' n xs∧OwnNew w v v'∧Keep (fun b=>v.ownBlock = some b) w w'
set_option maxRecDepth 10000 in
set_option maxHeartbeats 2000000 in
theorem insert_end (w:World) (v:Value) (l:List Ln.Ev) (e:Ln.Ev) (N:Nat) (hown:w.ownsRow 0 50 4 v l.length (evs l)) (hv:At w N (evl e)) (hl:l.length≤1000000) :
  Calls Tryz.prog 53 #[v,.int .i64 l.length,.slice (some ⟨N,0,none⟩) 1 1] w (InsPost w v (l.length+1) (evs (l ++ [e]))):=by
 obtain ⟨i0,hi,hz0,hz1,hz2⟩:=info_parts infoEvp
 obtain ⟨p,cap,rfl⟩:=own_slice hown
 have hcap:l.length≤cap:=by
  obtain ⟨_,⟨h1,h2⟩ | ⟨g,c,cur,h1,_,_,h4,_⟩⟩:=hown
  ·injection h1 with _ h1 h3
   omega
  ·injection h1 with _ _ h3
   omega
 have HO:=hid hown
 have HV:=hid hv
 clear hown hv
 have q1:((l.length:Int) == (l.length:Int)) = true:=by simp
 obtain ⟨vx,s0⟩:∃ vx,∀ W:World,(Instr.sliceAt 42 (.slice p l.length cap) (some (.int .i64 (l.length:Int))) none none).run Tryz.prog W = .ok vx W:=by
  refine ⟨.slice (if cap = l.length then p else p.map (·.add (l.length*4))) 0 (cap - l.length),fun W=>?_⟩
  simp [Instr.sliceAt,run_underlying Tryz.underlying42,Instr.slice,Instr.sliceBounds,Instr.sliceBound,asIntOf,Result.andThen]
 go_enter Tryz.func53,Tryz.ntmps53
 go_upto_region 7 with fail
 refine wp_region_lit ?_
 refine wpList_val (.slice p l.length cap) w rfl rfl ?_
 simp only [uP]
 refine wpList_val (.slice (some ⟨N,0,none⟩) 1 1) w rfl rfl ?_
 simp only [uP]
 refine wpList_plain rfl fun K hK=>?_
 refine wp_append_at w (.tmp 23) (.tmp 24) 42 rfl 0 50 i0 _ 4 32 Tryz.underlying42 hi hz0 hz1 hz2 (by rfl) (by omega) (.slice p l.length cap) l.length (evs l) rfl HO.out ⟨N,0,none⟩ 1 1 (evl e) rfl rfl (fun j u hu=>?_) (fun u hu=>evs_cell1 [e] u hu) (by unfold maxLen; omega) (by omega) (Nat.zero_le _) ?_
 ·have:=(HV.out j u hu).1
  rw [Addr.add_lit,Nat.zero_add]
  exact this
 ·intro v' w' h1 h2 h3
  refine hK _ _ ?_
  have HE:Hid (InsPost w (.slice p l.length cap) (l.length+1) (evs (l ++ [e])) (.returned v') w'):=by
   refine ⟨v',rfl,?_,?_,?_⟩
   ·rw [So.evs_append]
    exact h1
   ·rcases h3 with h3 | h3
    ·exact .inl h3
    ·exact .inr ⟨_,h3,Nat.le_refl _⟩
   ·refine ⟨h2.os,h2.tape,h2.output,h2.size,fun b hb hs=>h2.block b hb (fun x=>hs x.symm)⟩
  clear h1 h2 h3 HO HV
  simp only [uP]
  go_wp2
  go_ret
  exact HE.out
theorem slice_from (g n cap:Nat) (x:Int) (i:Nat) (hx:x = i) (hi:i≤n) (hne:¬ cap = i) (W:World) :
  (Instr.sliceAt 42 (.slice (some ⟨g,0,none⟩) n cap) (some (.int .i64 x)) none none).run Tryz.prog W = .ok (.slice (some ⟨g,i*4,none⟩) (n - i) (cap - i)) W:=by
 subst hx
 have e1:(if cap = i then some (⟨g,0,none⟩:Addr) else some (if i*4 = 0 then ⟨g,0,none⟩ else ⟨g,i*4,none⟩)) = some ⟨g,i*4,none⟩:=by
  rw [if_neg hne]
  split
  ·rename_i h
   rw [h]
  ·rfl
 simp [Instr.sliceAt,run_underlying Tryz.underlying42,Instr.slice,Instr.sliceBounds,Instr.sliceBound,asIntOf,Result.andThen,hi,Addr.add]
 exact e1
theorem slice_to (p:Option Addr) (n cap:Nat) (x:Int) (j:Nat) (hx:x = j) (hc:j≤cap) (W:World) :
  (Instr.sliceAt 42 (.slice p n cap) none (some (.int .i64 x)) none).run Tryz.prog W = .ok (.slice p j cap) W:=by
 subst hx
 have hp:(if cap = 0 then p else Option.map (fun x=>x.add 0) p) = p:=by
  split
  ·rfl
  ·cases p <;> simp [Addr.add]
 simp [Instr.sliceAt,run_underlying Tryz.underlying42,Instr.slice,Instr.sliceBounds,Instr.sliceBound,asIntOf,Result.andThen,hc,hp]
theorem shift_list (cur:List Value) (l:List Ln.Ev) (e:Ln.Ev) (i:Nat) (hi:i < l.length) (hx:cur.take (l.length*4) = evs l) (hc:(l.length+1)*4≤cur.length) :
  (laid (laid cur ((i+1)*4) (evs (l.drop i))) (i*4) (evl e)).take ((l.length+1)*4) = evs (So.insAt e l i):=by
 have hd:(evs (l.drop i)).length = (l.length - i)*4:=by rw [So.evs_len,List.length_drop]
 have e0:cur.take (i*4) = evs (l.take i):=by
  have:=congrArg (List.take (i*4)) hx
  rw [List.take_take,Nat.min_eq_left (by omega),evs_take] at this
  exact this
 have hle:(evl e).length = 4:=rfl
 have h1:(laid cur ((i+1)*4) (evs (l.drop i))).take (i*4) = evs (l.take i):=by
  unfold laid
  rw [List.append_assoc,List.take_append_of_le_length (by rw [List.length_take]; omega),List.take_take,Nat.min_eq_left (by omega),e0]
 have h2:(laid cur ((i+1)*4) (evs (l.drop i))).drop (i*4+4) = evs (l.drop i) ++ cur.drop ((l.length+1)*4):=by
  unfold laid
  have hl:(cur.take ((i+1)*4)).length = i*4+4:=by rw [List.length_take]; omega
  rw [List.append_assoc,← hl,List.drop_left]
  congr 2
  omega
 rw [insAt_evs]
 unfold laid at h1 h2 ⊢
 rw [h1,hle,h2,← List.append_assoc]
 have hl:(evs (l.take i) ++ evl e ++ evs (l.drop i)).length = (l.length+1)*4:=by
  rw [List.length_append,List.length_append,hd,So.evs_len,List.length_take,hle]
  omega
 rw [← hl,List.take_left]
set_option maxRecDepth 10000 in
set_option maxHeartbeats 4000000 in
theorem insert_shift (w:World) (g cap:Nat) (cur:Array Value) (l:List Ln.Ev) (e:Ln.Ev) (i N:Nat) (hg:w.heap[g]? = some (.cells cur 50 (0,0))) (hsz:cur.size = cap*4) (hxs:cur.toList.take (l.length*4) = evs l) (hroom:l.length+1≤cap) (hm:cap≤maxLen) (hi:i < l.length) (hl:l.length≤1000000)
  (hN:w.heap[N]? = some (.cells (evl e).toArray 50 (0,0))) (hne:¬ N = g) :
  Calls Tryz.prog 53 #[.slice (some ⟨g,0,none⟩) l.length cap,.int .i64 i,.slice (some ⟨N,0,none⟩) 1 1] w (InsPost w (.slice (some ⟨g,0,none⟩) l.length cap) (l.length+1) (evs (So.insAt e l i))):=by
 have hcl:cur.toList.length = cap*4:=by rw [Array.length_toList]; exact hsz
 obtain ⟨R1,hR1⟩:∃ R1,R1 = (laid cur.toList ((i+1)*4) (evs (l.drop i))).toArray:=⟨_,rfl⟩
 obtain ⟨R2,hR2⟩:∃ R2,R2 = (laid R1.toList (i*4) (evl e)).toArray:=⟨_,rfl⟩
 have hdl:(evs (l.drop i)).length = (l.length - i)*4:=by rw [So.evs_len,List.length_drop]
 have l1:R1.toList.length = cap*4:=by rw [hR1]; show (laid _ _ _).length = _; rw [laid_len _ _ _ (by omega),hcl]
 have l2:R2.size = cap*4:=by rw [← Array.length_toList,hR2]; show (laid _ _ _).length = _; rw [laid_len _ _ _ (by rw [l1]; show i*4+4≤_; omega),l1]
 have hfin:R2.toList.take ((l.length+1)*4) = evs (So.insAt e l i):=by
  rw [hR2,hR1]
  exact shift_list cur.toList l e i hi hxs (by omega)
 have hcell:∀ j v,(evs (l.drop i))[j]? = some v→w.cell? ⟨g,i*4+j,none⟩ = some v:=fun j v hj=>by
  rw [← evs_drop,List.getElem?_drop] at hj
  have hj2:(evs l)[i*4+j]? = cur.toList[i*4+j]?:=by
   rw [← hxs,List.getElem?_take_of_lt]
   have:=(List.getElem?_eq_some_iff.1 hj).1
   rw [So.evs_len] at this
   omega
  rw [hj2,Array.getElem?_toList] at hj
  simp [World.cell?,hg,hj]
 have hcp1:∀ ty dc sc,(Builtin.copy_ #[42,42] ty #[.slice (some ⟨g,(i+1)*4,none⟩) (l.length+1 - (i+1)) dc,.slice (some ⟨g,i*4,none⟩) (l.length+1 - i) sc]).run Tryz.prog w.drew = .ok (goInt (Nat.min (l.length+1 - i) (l.length+1 - (i+1)))) (w.drew.setRow g R1):=fun ty dc sc=>by
  have hmin:Nat.min (l.length+1 - i) (l.length+1 - (i+1)) = l.length - i:=by simp only [Nat.min_def]; split <;> omega
  rw [hR1]
  exact run_copy_rowK w.drew _ _ ty 50 4 g ((i+1)*4) _ dc ⟨g,i*4,none⟩ _ sc cur 50 (evs (l.drop i)) Tryz.underlying42 sizeEvp hg (by rw [hdl,hmin]) (fun j v hj=>by rw [Addr.add_lit]; exact hcell j v hj) (by rw [hdl]; omega) (fun v hv=>evs_cell1 _ v hv)
 have hrow1:(w.drew.setRow g R1).heap[g]? = some (.cells R1 50 (0,0)):=setRow_row (w:=w.drew) hg R1
 have hN1:∀ j v,(evl e)[j]? = some v→(w.drew.setRow g R1).cell? ⟨N,0+j,none⟩ = some v:=fun j v hj=>by
  rw [cell_setRow_other _ _ _ _ hne,Nat.zero_add]
  have:(evl e).toArray[j]? = some v:=by simpa using hj
  show w.cell? _ = _
  simp [World.cell?,hN,this]
 have hcp2:∀ W:World,W.heap = (w.drew.setRow g R1).heap→∀ ty dc,(Builtin.copy_ #[42,42] ty #[.slice (some ⟨g,i*4,none⟩) (l.length+1 - i) dc,.slice (some ⟨N,0,none⟩) 1 1]).run Tryz.prog W = .ok (goInt (Nat.min 1 (l.length+1 - i))) (W.setRow g R2):=fun W hW ty dc=>by
  have hmin:Nat.min 1 (l.length+1 - i) = 1:=by simp only [Nat.min_def]; split <;> omega
  rw [hR2]
  refine run_copy_rowK W _ _ ty 50 4 g (i*4) _ dc ⟨N,0,none⟩ _ 1 R1 50 (evl e) Tryz.underlying42 sizeEvp (by rw [hW]; exact hrow1) (by rw [hmin]; rfl) (fun j v hj=>?_) ?_ (fun v hv=>evs_cell1 [e] v hv)
  ·rw [Addr.add_lit]
   have:=hN1 j v hj
   unfold World.cell? at this ⊢
   rw [hW]
   exact this
  ·rw [← Array.length_toList,l1]
   show i*4+4≤_
   omega
 have hov:∀ lb cb,(callFunc 87 #[.slice (some ⟨N,0,none⟩) 1 1,.slice (some ⟨g,(i+1)*4,none⟩) lb cb]).run Tryz.prog w = .ok (.value (.bool false)) w:=fun lb cb=>by
  rw [run_callFunc_extern Tryz.func87 (by kernel_rfl) (by kernel_rfl) (by kernel_rfl) (e:=Extern.SlicesOverlaps.overlaps #[42,42] #[4]) (by kernel_rfl),
   Lib.run_overlaps_apart w 42 4 50 Tryz.underlying42 4 Tryz.sizeOf50 ⟨N,0,none⟩ ⟨g,(i+1)*4,none⟩ 1 1 lb cb hne 50 50 4 (cap*4) (by simp [World.shape?,hN,evl]) (by simp [World.shape?,hg,hsz]) (by omega) (by simp [World.frozen?,hN]) (by simp [World.frozen?,hN])]
  rfl
 have s1:=fun W=>slice_to (some ⟨g,0,none⟩) l.length cap ((l.length:Int)+1) (l.length+1) (by omega) hroom W
 have s2:=fun W=>slice_from g (l.length+1) cap ((i:Int)+1) (i+1) (by omega) (by omega) (by omega) W
 have s3:=fun W=>slice_from g (l.length+1) cap (i:Int) i rfl (by omega) (by omega) W
 have s0:=fun W=>slice_from g l.length cap (i:Int) i rfl (by omega) (by omega) W
 have HFin:Hid (∀ W:World,W.heap = ((w.drew.setRow g R1).setRow g R2).heap→W.os = w.os→W.tape = w.tape→W.output = w.output→InsPost w (.slice (some ⟨g,0,none⟩) l.length cap) (l.length+1) (evs (So.insAt e l i)) (.returned (.slice (some ⟨g,0,none⟩) (l.length+1) cap)) W):=fun W hW h1 h2 h3=>by
  have hrow2:=setRow_row (w:=w.drew.setRow g R1) hrow1 R2
  refine ⟨_,rfl,⟨by rw [So.evs_len,So.insAt_len _ _ _ (by omega)],.inr ⟨g,cap,R2,rfl,Nat.zero_le _,by rw [hW]; exact hrow2,hroom,hm,l2,hfin⟩⟩,.inl rfl,?_⟩
  have k1:=keep_setRow w.drew g R1
  have k2:=keep_setRow (w.drew.setRow g R1) g R2
  refine ⟨h1,h2,h3,by rw [hW]; exact Nat.le_trans k1.size k2.size,fun b hb hs=>?_⟩
  have hbg:¬ b = g:=fun e=>hs (by rw [e]; rfl)
  rw [hW,k2.block b (Nat.lt_of_lt_of_le hb k1.size) hbg,k1.block b hb hbg]
  rfl
 have f1:((i:Int) == (l.length:Int)) = false:=by simp; omega
 have f2:decide ((l.length:Int)+1 > (cap:Int)) = false:=by simp; omega
 have f3:¬ (cap:Int) < (l.length:Int)+1:=by omega
 have hmx:cap≤9223372036854775807:=hm
 have hw1:IntKind.i64.wrap ((i:Int)+1) = (i:Int)+1:=by rw [IntKind.wrap_i64]; omega
 have HC1:=hid hcp1
 have HC2:=hid hcp2
 clear hcp1 hcp2 hg hsz hxs hm hN hcl hR1 hR2 hdl l1 l2 hfin hcell hrow1 hN1
 go_enter Tryz.func53,Tryz.ntmps53
 go_upto_region 15 with (simp only [hov])
 refine wp_region_held_drew (S:=fun _=>True) (by kernel_rfl) trivial (fun hHeld=>?_)
 clear s0 s1 hov
 refine tkk 0 (.slice (some ⟨g,0,none⟩) (l.length+1) cap) rfl ?_
 simp only [uP]
 refine tkk 1 (.int .i64 i) rfl ?_
 simp only [uP]
 refine tkk 2 (.int .i64 1) rfl ?_
 simp only [uP]
 refine tka 3 (.int .i64 ((i:Int)+1)) rfl ?_
 simp only [uP]
 refine tka 4 (.slice (some ⟨g,(i+1)*4,none⟩) (l.length+1 - (i+1)) (cap - (i+1))) rfl ?_
 simp only [uP]
 refine tkk 5 (.slice (some ⟨g,0,none⟩) (l.length+1) cap) rfl ?_
 simp only [uP]
 refine tkk 6 (.int .i64 i) rfl ?_
 simp only [uP]
 refine tka 7 (.slice (some ⟨g,i*4,none⟩) (l.length+1 - i) (cap - i)) rfl ?_
 simp only [uP]
 refine rdy 8 rfl (fun K hK=>?_)
 rw [if_pos (by rfl)]
 refine wp_copy_at _ (.tmp 73) (.tmp 76) 42 42 rfl _ _ rfl rfl (HC1.out _ _ _) ?_
 refine hK.out _ _ trivial (fun _=>?_)
 clear hK K
 try simp only [uP]
 refine wpAnyH_done (by kernel_rfl) ?_ _
 generalize hwd:w.drew.setRow g R1 = V at *
 have HV:Hid (V.os = w.os∧V.tape = w.tape∧V.output = w.output):=by subst hwd; exact ⟨rfl,rfl,rfl⟩
 clear hwd hHeld
 go_upto_region 16 with fail
 refine wp_region_lit ?_
 refine wpList_val (.slice (some ⟨g,0,none⟩) (l.length+1) cap) V rfl rfl ?_
 simp only [uP]
 refine wpList_val (.int .i64 i) V rfl rfl ?_
 simp only [uP]
 refine wpList_val (.slice (some ⟨g,i*4,none⟩) (l.length+1 - i) (cap - i)) V rfl (by go_simp) ?_
 simp only [uP]
 refine wpList_val (.slice (some ⟨N,0,none⟩) 1 1) V rfl rfl ?_
 simp only [uP]
 refine wpList_copy_at V rfl (.tmp 80) (.tmp 81) 42 42 rfl _ _ rfl rfl (HC2.out V rfl _ _) ?_
 simp only [uP]
 have HW:Hid (InsPost w (.slice (some ⟨g,0,none⟩) l.length cap) (l.length+1) (evs (So.insAt e l i)) (.returned (.slice (some ⟨g,0,none⟩) (l.length+1) cap)) (V.setRow g R2)):=by
  exact HFin.out _ rfl HV.out.1 HV.out.2.1 HV.out.2.2
 clear HFin HC1 HC2 s2 s3
 go_wp2
 go_ret
 exact HW.out
end Go.Proofs.YtanndhoimpnhpaaGreatDoor
