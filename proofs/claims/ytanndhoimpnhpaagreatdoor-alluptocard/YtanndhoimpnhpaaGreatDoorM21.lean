/- Joined by program: AdK, RnG, Bo, Env, TxK, TxL. -/
import Derived.Test.YtanndhoimpnhpaaGreatDoorM20
import Derived.Laws.MakeOwn
namespace Go.Proofs.YtanndhoimpnhpaaGreatDoor
open Go.ChangeShapes Go.WideShapes Go.RowKit Go.WideMaps Go.Maps Cal
theorem pos_get (q:Int) (l:List Ln.Ev) (h:hasS q l = true):∃ (i:Nat) (hi:i < l.length),posOf q l = i∧l[i].s = q:=by
 unfold posOf
 unfold hasS at h
 cases hf:l.findIdx? (fun e=>e.s == q) with
 | none =>
  rw [List.findIdx?_eq_none_iff] at hf
  obtain ⟨x,hx,hq⟩:=List.any_eq_true.1 h
  rw [hf x hx] at hq
  cases hq
 | some i =>
  obtain ⟨hi,hq,_⟩:=List.findIdx?_eq_some_iff_getElem.1 hf
  exact ⟨i,hi,rfl,by simpa using hq⟩
def CanPost (w:World) (B:Nat) (t:Ln.Terms) (E:List Ln.Ev) (g:Ln.St) (day:Int) (L:List En) (F:Nat→Prop) (q:Int) (x:Ending) (w':World):Prop :=
 Keep F w w'∧((hasS q E = false∧x = .returned (.int .i64 9)∧Lo w' B t E g day L (Wd F w w')) ∨
  (x = .returned (.int .i64 0)∧∃ (i:Nat) (hi:i < E.length),posOf q E = i∧E[i].s = q∧Lo w' B t (E.eraseIdx i) g day L (Wd F w w')))
set_option maxRecDepth 10000 in
set_option maxHeartbeats 1000000 in
theorem cancelL (w:World) (B:Nat) (t:Ln.Terms) (E:List Ln.Ev) (g:Ln.St) (day:Int) (L:List En) (F:Nat→Prop) (h:Lo w B t E g day L F) (q:Int) :
  Calls Tryz.prog 58 #[.pointer (some ⟨B,0,none⟩),.int .i64 q] w (CanPost w B t E g day L F q):=by
 obtain ⟨P,Mb,evv,bkv,h1,h2⟩:=h
 obtain ⟨Eb,hev,_⟩:=evs_evv h1.ev
 have hEl:=h1.le
 have hPl:=placeOfSeq_any w Eb evv E hev (by omega) q
 have c6:w.cell? ⟨B,6,none⟩ = some evv:=h1.ln.cell 6 rfl
 clear hev
 cases hs:hasS q E with
 | false =>
  have hpos:posOf q E < 0:=by
   have:=(pos_has q E).1
   rw [hs] at this
   simp at this
   exact this
  have HP:Hid (∀ w',Below w.heap.size w w'→CanPost w B t E g day L F q (.returned (.int .i64 9)) w'):=fun w' hb=>⟨Keep.below hb,.inl ⟨hs,rfl,P,Mb,evv,bkv,h1.keep (S:=fun _=>False) (Keep.below hb) (fun _ _ x=>x),fun b hb=>.inl (h2 b hb)⟩⟩
  obtain ⟨ep,ecap,rfl⟩:=own_slice h1.ev
  clear h1 h2 hs
  generalize posOf q E = pos at *
  go_enter Tryz.func58,Tryz.ntmps58
  go_wp2_with fail
  refine hPl.mono ?_
  rintro e w2 ⟨rfl,hb2⟩
  clear hPl c6
  have HP2:=HP.out w2 hb2
  clear HP hb2
  go_wp2
  go_ret
  exact HP2
 | true =>
  obtain ⟨i,hi,hpi,hsi⟩:=pos_get q E hs
  rw [hpi] at hPl
  have hBl:B < w.heap.size:=At.lt (v:=.int .i64 t.st) h1.ln
  obtain ⟨hl,hn | ⟨ge,cap,cur,rfl,hg1,hg2,hg3,hg4,hg5,hg6⟩⟩:=id h1.ev
  ·exact absurd hn.2 (by omega)
  have hneB:¬ ge = B:=(h1.ne ge rfl).1
  have hgl:ge < w.heap.size:=(own_base h1.ev (b:=ge) rfl).2
  have hle:(E.eraseIdx i).length = E.length - 1:=List.length_eraseIdx_of_lt hi
  have HDel:Hid (∀ W,Below w.heap.size w W→Calls Tryz.prog 92 #[.slice (some ⟨ge,0,none⟩) E.length cap,.int .i64 i,.int .i64 ((i:Int)+1)] W fun e w'=>e = .returned (.slice (some ⟨ge,0,none⟩) (E.length - 1) cap)∧w'.ownsRow 0 50 4 (.slice (some ⟨ge,0,none⟩) (E.length - 1) cap) (E.length - 1) (evs (E.eraseIdx i))∧Keep (fun b=>b = ge) W w'):=fun W hW =>
   delete_any W ge cap cur E i ((hW.block ge hgl).trans hg2) hg5 hg6 hg3 hg4 hi (by omega)
  have HLn:Hid (∀ W,Keep (fun b=>b = ge) w W→At W B (ll t (.slice (some ⟨ge,0,none⟩) E.length cap) g day (.pointer (some ⟨P,0,none⟩)))):=fun W hW=>At.keep (v:=.int .i64 t.st) h1.ln hW (fun x=>hneB x.symm)
  have HP:Hid (∀ W W',Keep (fun b=>b = ge) w W→W.ownsRow 0 50 4 (.slice (some ⟨ge,0,none⟩) (E.length - 1) cap) (E.length - 1) (evs (E.eraseIdx i))→W' = W.setCell ⟨B,6,none⟩ (.slice (some ⟨ge,0,none⟩) (E.length - 1) cap)→CanPost w B t E g day L F q (.returned (.int .i64 0)) W'):=by
   rintro W W' hk ho rfl
   have kS:Keep (fun b=>b = B) W (W.setCell ⟨B,6,none⟩ (.slice (some ⟨ge,0,none⟩) (E.length - 1) cap)):=(Keep.refl _ _).set (S:=fun b=>b = B) rfl 6 _
   have hkk:Keep (fun b=>b = ge∨b = B) w (W.setCell ⟨B,6,none⟩ (.slice (some ⟨ge,0,none⟩) (E.length - 1) cap)):=(hk.mono (fun _ _ h=>.inl h)).trans (kS.mono (fun _ _ h=>.inr h))
   refine ⟨hkk.mono (fun b _ hb=>hb.elim (fun e=>h2 b (.inr (.inr (by rw [e]; rfl)))) (fun e=>h2 b (.inl e))),.inr ⟨rfl,i,hi,hpi,hsi,P,Mb,.slice (some ⟨ge,0,none⟩) (E.length - 1) cap,bkv,⟨(HLn.out W hk).set 6 (show 6 < 16 by decide) _,h1.bk.keep hkk (fun b hb hx=>?_),?_,h1.nb,h1.ne,h1.so.sublist (List.eraseIdx_sublist E i),fun e he=>h1.ok e ((List.eraseIdx_sublist E i).subset he),by omega,h1.ot⟩,?_⟩⟩
   ·rcases hx with rfl | rfl
    ·exact (h1.ne b rfl).2 hb
    ·exact h1.nb hb
   ·rw [hle]
    exact own_keep ho kS (fun b hb=>by cases hb; exact hneB)
   ·rintro b (hb | hb | hb)
    ·exact .inl (h2 _ (.inl hb))
    ·exact .inl (h2 _ (.inr (.inl hb)))
    ·exact .inl (h2 _ (.inr (.inr hb)))
  clear h1 h2 hs hl hg1 hg2 hg3 hg4 hg5 hg6 hpi hsi hle
  have yw:IntKind.i64.wrap ((i:Int)+1) = (i:Int)+1:=by rw [IntKind.wrap_i64]; omega
  go_enter Tryz.func58,Tryz.ntmps58
  go_wp2_with fail
  refine hPl.mono ?_
  rintro e w2 ⟨rfl,hb2⟩
  clear hPl c6
  have hD:=HDel.out w2 hb2
  have c62:w2.cell? ⟨B,6,none⟩ = some (.slice (some ⟨ge,0,none⟩) E.length cap):=(HLn.out w2 (Keep.below hb2)).cell 6 rfl
  have zi:¬ (i:Int) < 0:=by omega
  clear HDel
  go_wp2_with fail
  refine hD.mono ?_
  rintro e w3 ⟨rfl,ho3,hk3⟩
  clear hD c62
  have hkw:Keep (fun b=>b = ge) w w3:=(Keep.below hb2).trans hk3
  have y6:w3.cell? ⟨B,6,none⟩ = some (.slice (some ⟨ge,0,none⟩) E.length cap):=(HLn.out w3 hkw).cell 6 rfl
  have y7:w3.frozen? ⟨B,6,none⟩ = false:=(HLn.out w3 hkw).free 6 rfl
  have HP3:Hid (∀ W',W' = w3.setCell ⟨B,6,none⟩ (.slice (some ⟨ge,0,none⟩) (E.length - 1) cap)→CanPost w B t E g day L F q (.returned (.int .i64 0)) W'):=fun W' hW'=>HP.out w3 W' hkw ho3 hW'
  clear HP HLn hkw ho3 hk3 hb2
  go_wp2
  go_ret
  exact HP3.out _ rfl
end Go.Proofs.YtanndhoimpnhpaaGreatDoor
namespace Go.Proofs.YtanndhoimpnhpaaGreatDoor
open Go.ChangeShapes Go.WideShapes Go.ChangeAt Go.RowKit Lg Cal
theorem own_less {w:World} {base:Nat} {T:TypeId} {size:Nat} {v:Value} {n:Nat} {xs:List Value} (h:w.ownsRow base T size v n xs) (b:Nat) (hb:b≤base):w.ownsRow b T size v n xs:=by
 obtain ⟨h1,h2 | ⟨g,cap,cur,h3,h4,h5⟩⟩:=h
 ·exact ⟨h1,.inl h2⟩
 ·exact ⟨h1,.inr ⟨g,cap,cur,h3,Nat.le_trans hb h4,h5⟩⟩
theorem own_new {w w':World} {F:Nat→Prop} {v v':Value} {base:Nat} {T:TypeId} {size n:Nat} {xs:List Value} (h:OwnNew w v v') (hF:∀ b,v.ownBlock = some b→F b) (ho:w'.ownsRow base T size v' n xs):∀ b,v'.ownBlock = some b→Wd F w w' b :=
 h.mine hF (own_less ho 0 (Nat.zero_le _))
def Dc (w:World) (B:Nat) (t:Ln.Terms) (l:List Ln.Ev) (g:Ln.St) (day:Int) (L:List En) (F:Nat→Prop):Prop :=
 ∃ evv bkv,DcX w B t l g day L evv bkv∧F B∧(∀ b,evv.ownBlock = some b→F b)∧(∀ b,bkv.ownBlock = some b→F b)
theorem DcX.keep {S:Nat→Prop} {w w':World} {B:Nat} {t:Ln.Terms} {l:List Ln.Ev} {g:Ln.St} {day:Int} {L:List En} {evv bkv:Value} (h:DcX w B t l g day L evv bkv) (hk:Keep S w w') (h0:¬ S B) (h1:∀ b,evv.ownBlock = some b→¬ S b) (h2:∀ b,bkv.ownBlock = some b→¬ S b):DcX w' B t l g day L evv bkv :=
 ⟨At.keep (v:=.int .i64 t.st) h.ln hk h0,own_keep h.ev hk h1,own_keep h.bk hk h2,h.ap,h.ds,h.ok,h.le,h.ot,h.inl,h.d0,h.d1⟩
theorem Dc.keep {S F:Nat→Prop} {w w':World} {B:Nat} {t:Ln.Terms} {l:List Ln.Ev} {g:Ln.St} {day:Int} {L:List En} (h:Dc w B t l g day L F) (hk:Keep S w w') (hs:∀ b,F b→¬ S b):Dc w' B t l g day L F:=by
 obtain ⟨evv,bkv,h1,h2,h3,h4⟩:=h
 exact ⟨evv,bkv,h1.keep hk (hs B h2) (fun b hb=>hs b (h3 b hb)) (fun b hb=>hs b (h4 b hb)),h2,h3,h4⟩
theorem Dc.mono {F G:Nat→Prop} {w:World} {B:Nat} {t:Ln.Terms} {l:List Ln.Ev} {g:Ln.St} {day:Int} {L:List En} (h:Dc w B t l g day L F) (hs:∀ b,F b→G b):Dc w B t l g day L G:=by
 obtain ⟨evv,bkv,h1,h2,h3,h4⟩:=h
 exact ⟨evv,bkv,h1,hs B h2,fun b hb=>hs b (h3 b hb),fun b hb=>hs b (h4 b hb)⟩
theorem refopenD (t:Ln.Terms) (w:World) (h:rtB t = true) :
  Calls Tryz.prog 56 #[tmV t] w fun e w'=>∃ B,e = .returned (.tuple #[.pointer (some ⟨B,0,none⟩),.int .i64 0])∧Dc w' B t [] (Ln.start t) t.st [] (Wd (fun _=>False) w w')∧Below w.heap.size w w':=by
 refine (refopen_good t w h).mono ?_
 rintro e w' ⟨⟨B,rfl,hB,hA⟩,hb⟩
 have hBl:=At.lt (v:=.int .i64 t.st) hA
 have ho:=rt_ok h
 exact ⟨B,rfl,⟨.slice none 0 0,.slice none 0 0,⟨hA,World.ownsRow_nil _ _ _ _,World.ownsRow_nil _ _ _ _,fun b hb=>(by cases hb),List.Pairwise.nil,fun e he=>(by simp at he),(by simp),ho,fun e he=>(by simp at he),Int.le_refl _,by omega⟩,.inr ⟨hB,hBl⟩,fun b hb=>(by cases hb),fun b hb=>(by cases hb)⟩,hb⟩
theorem addC_ok {t:Ln.Terms} {l:List Ln.Ev} {e:Ln.Ev} (h:addC t l e = 0):Ln.OkE t e∧l.length < 40∧hasS e.s l = false:=by
 rw [addC_eq] at h
 have hf:evF t e = 0:=by
  by_cases hz:evF t e = 0
  ·exact hz
  ·rw [if_pos hz] at h; exact absurd h hz
 rw [if_neg (by simp [hf])] at h
 have h40:¬ 40≤l.length:=fun hz=>by rw [if_pos hz] at h; cases h
 rw [if_neg h40] at h
 refine ⟨evF_ok hf,by omega,?_⟩
 cases hz:hasS e.s l with
 | false=>rfl
 | true=>rw [hz] at h; cases h
theorem hasS_none {q:Int} {l:List Ln.Ev} (h:hasS q l = false):∀ x∈l,¬ x.s = q:=fun x hx he=>by
 have:hasS q l = true:=List.any_eq_true.2 ⟨x,hx,by simp [he]⟩
 rw [h] at this
 cases this
def DcAdd (w:World) (B:Nat) (t:Ln.Terms) (l:List Ln.Ev) (g:Ln.St) (day:Int) (L:List En) (F:Nat→Prop) (e:Ln.Ev) (x:Ending) (w':World):Prop :=
 x = .returned (.int .i64 (addC t l e))∧Keep F w w'∧((¬ addC t l e = 0∧Dc w' B t l g day L (Wd F w w'))∨(addC t l e = 0∧Dc w' B t (l ++ [e]) g day L (Wd F w w')))
theorem refaddD (w:World) (B:Nat) (t:Ln.Terms) (l:List Ln.Ev) (g:Ln.St) (day:Int) (L:List En) (F:Nat→Prop) (h:Dc w B t l g day L F) (e:Ln.Ev) :
  Calls Tryz.prog 57 #[.pointer (some ⟨B,0,none⟩),evc e] w (DcAdd w B t l g day L F e):=by
 obtain ⟨evv,bkv,h1,h2,h3,h4⟩:=h
 obtain ⟨pa,ecap,rfl⟩:=own_slice h1.ev
 refine (refadd_core w B t g day bkv pa ecap l e h1.le h1.ot.st0 h1.ot.st1 h1.ln h1.ev).mono ?_
 rintro x w' ⟨rfl,⟨hc,hb⟩ | ⟨hc,v,ho,hon,hA,hk⟩⟩
 ·exact ⟨rfl,Keep.below hb,.inl ⟨hc,(Dc.keep (S:=fun _=>False) ⟨_,bkv,h1,h2,h3,h4⟩ (Keep.below hb) (fun _ _ x=>x)).mono (fun b hb=>.inl hb)⟩⟩
 ·have hpa:∀ b,pa.map (·.block) = some b→(Value.slice pa l.length ecap).ownBlock = some b:=fun b hb=>by
   cases pa with
   | none=>cases hb
   | some a=>exact hb
  obtain ⟨hok,h40,hns⟩:=addC_ok hc
  refine ⟨rfl,hk.mono (fun b _ hb=>hb.elim (fun x=>by rw [x]; exact h2) (fun x=>h3 b (hpa b x))),.inr ⟨hc,v,bkv,⟨hA,?_,own_keep h1.bk hk ?_,?_,?_,?_,?_,h1.ot,h1.inl,h1.d0,h1.d1⟩,.inl h2,own_new hon h3 ho,fun b hb=>.inl (h4 b hb)⟩⟩
  ·rw [List.length_append]
   exact ho
  ·rintro b hb (x | x)
   ·have:=(own_base h1.bk hb).1
    omega
   ·exact h1.ap b (hpa b x) hb
  ·intro b hb hx
   rcases hon with y | ⟨c,y1,y2⟩
   ·exact h1.ap b (y.symm.trans hb) hx
   ·have:c = b:=by rw [y1] at hb; exact Option.some.inj hb
    have:=(own_base h1.bk hx).2
    omega
  ·refine List.pairwise_append.2 ⟨h1.ds,by simp,fun a ha b hb=>?_⟩
   rw [List.mem_singleton.1 hb]
   exact hasS_none hns a ha
  ·intro x hx
   rcases List.mem_append.1 hx with hx | hx
   ·exact h1.ok x hx
   ·rw [List.mem_singleton.1 hx]; exact hok
  ·rw [List.length_append]
   show l.length+1≤40
   omega
theorem wo_len {q:Int} {l:List Ln.Ev}:(wo q l).length = l.length ↔ hasS q l = false:=by
 unfold wo
 rw [List.length_filter_eq_length_iff]
 constructor
 ·intro h
  cases hz:hasS q l with
  | false=>rfl
  | true =>
   obtain ⟨x,hx,hq⟩:=List.any_eq_true.1 hz
   have:=h x hx
   rw [hq] at this
   cases this
 ·intro h x hx
  have:=hasS_none h x hx
  simp [this]
def DcCan (w:World) (B:Nat) (t:Ln.Terms) (l:List Ln.Ev) (g:Ln.St) (day:Int) (L:List En) (F:Nat→Prop) (q:Int) (x:Ending) (w':World):Prop :=
 Keep F w w'∧((hasS q l = false∧x = .returned (.int .i64 9)∧Dc w' B t l g day L (Wd F w w'))∨(hasS q l = true∧x = .returned (.int .i64 0)∧Dc w' B t (wo q l) g day L (Wd F w w')))
theorem refcancelD (w:World) (B:Nat) (t:Ln.Terms) (l:List Ln.Ev) (g:Ln.St) (day:Int) (L:List En) (F:Nat→Prop) (h:Dc w B t l g day L F) (q:Int) :
  Calls Tryz.prog 59 #[.pointer (some ⟨B,0,none⟩),.int .i64 q] w (DcCan w B t l g day L F q):=by
 obtain ⟨evv,bkv,h1,h2,h3,h4⟩:=h
 obtain ⟨pa,ecap,rfl⟩:=own_slice h1.ev
 obtain ⟨E0,hE0⟩:∃ E0,l ≠ []→pa = some ⟨E0,0,none⟩∧At w E0 (evs l):=by
  by_cases hne:l = []
  ·exact ⟨0,fun x=>absurd hne x⟩
  ·obtain ⟨x,r,hxr⟩:=List.exists_cons_of_ne_nil hne
   obtain ⟨ge,cape,he,_,_⟩:=h1.ev.form (by rw [hxr]; simp)
   injection he with e1 _ _
   subst e1
   exact ⟨ge,fun _=>⟨rfl,own_at h1.ev⟩⟩
 have hBl:=At.lt (v:=.int .i64 t.st) h1.ln
 refine (refcancel_core w B t g day q bkv pa ecap E0 l h1.le h1.ln hE0).mono ?_
 rintro x w' (⟨hw,rfl,hb⟩ | ⟨hw,rfl,v,ho,hA,hk⟩)
 ·exact ⟨Keep.below hb,.inl ⟨wo_len.1 hw,rfl,(Dc.keep (S:=fun _=>False) ⟨_,bkv,h1,h2,h3,h4⟩ (Keep.below hb) (fun _ _ x=>x)).mono (fun b hb=>.inl hb)⟩⟩
 ·have hs:hasS q l = true:=by
   cases hz:hasS q l with
   | false=>exact absurd (wo_len.2 hz) hw
   | true=>rfl
  have hsub:(wo q l).Sublist l:=List.filter_sublist
  refine ⟨hk.mono (fun b _ hb=>by rw [hb]; exact h2),.inr ⟨hs,rfl,v,bkv,⟨hA,own_less ho (B+1) (by omega),own_keep h1.bk hk (fun b hb hx=>?_),?_,h1.ds.sublist hsub,fun e he=>h1.ok e (hsub.subset he),Nat.le_trans hsub.length_le h1.le,h1.ot,h1.inl,h1.d0,h1.d1⟩,.inl h2,?_,fun b hb=>.inl (h4 b hb)⟩⟩
  ·have:=(own_base h1.bk hb).1
   omega
  ·intro b hb hx
   have:=(own_base ho hb).1
   have:=(own_base h1.bk hx).2
   omega
  ·intro b hb
   exact .inr (own_base ho hb)
def DcRunD (w:World) (B:Nat) (t:Ln.Terms) (l:List Ln.Ev) (L:List En) (m:Nat) (F:Nat→Prop) (e:Ending) (w':World):Prop :=
 e = .returned (.int .i64 0)∧Keep F w w'∧∃ R,R.Perm l∧R.Pairwise So.Ah∧Dc w' B t l (Ln.run t cdOf (wtOf t.ba) R m) (t.st+m) (bkP t.st (fun k=>(yOf t R k).am) L m) (Wd F w w')
theorem refrunD (w:World) (B:Nat) (t:Ln.Terms) (l:List Ln.Ev) (g:Ln.St) (day:Int) (L:List En) (F:Nat→Prop) (h:Dc w B t l g day L F) (hL:L.length≤4000000000000) (m:Nat) (hd:day≤t.st+m) (hm:m≤3700) :
  Calls Tryz.prog 60 #[.pointer (some ⟨B,0,none⟩),.int .i64 (t.st+m)] w (DcRunD w B t l L m F):=by
 obtain ⟨evv,bkv,h1,h2,h3,h4⟩:=h
 refine (refrun_any w B t l g day L evv bkv h1 hL m hd hm).mono ?_
 rintro e w' ⟨rfl,R,bkv',hp,hs,hD,hon,hk⟩
 exact ⟨rfl,hk.mono (fun b _ hb=>hb.elim (fun x=>by rw [x]; exact h2) (fun x=>h4 b x)),R,hp,hs,evv,bkv',hD,.inl h2,fun b hb=>.inl (h3 b hb),own_new hon h4 hD.bk⟩
end Go.Proofs.YtanndhoimpnhpaaGreatDoor
namespace Go.Proofs.YtanndhoimpnhpaaGreatDoor
open Go.ChangeShapes Go.WideShapes Go.RowKit Go.WideMaps Go.Maps Cal
theorem sizeEnp:(Tryz.prog.info? 114).map (·.size) = some 3:=by kernel_rfl
theorem ens_cell1:∀ (l:List En) (v:Value),v∈ens l→v.oneCell' = true
 | [],_,h=>by simp [ens] at h
 | e :: r,v,h=>by
  simp only [ens,List.mem_cons] at h
  rcases h with rfl | rfl | rfl | h
  ·rfl
  ·rfl
  ·rfl
  ·exact ens_cell1 r v h
theorem ens_drop (l:List En) (i:Nat) (h:i≤l.length):(ens l).drop (i*3) = ens (l.drop i):=by
 have:ens l = ens (l.take i) ++ ens (l.drop i):=by rw [← ens_append,List.take_append_drop]
 have hl:(ens (l.take i)).length = i*3:=by rw [ens_len,List.length_take]; omega
 rw [this,← hl,List.drop_left]
def kf (x:Int) (n:Nat):Nat:=min (max x 0).toNat n
theorem kf_le (x:Int) (n:Nat):kf x n≤n:=Nat.min_le_right _ _
theorem bslice_from (p:Option Addr) (n cap k:Nat) (hk:k≤n) (W:World) :
  ∃ q,(Instr.sliceAt 54 (.slice p n cap) (some (.int .i64 (k:Int))) none none).run Tryz.prog W = .ok (.slice q (n - k) (cap - k)) W∧q = (if cap = k then p else p.map (·.add (k*3))):=by
 refine ⟨_,?_,rfl⟩
 simp [Instr.sliceAt,run_underlying Tryz.underlying54,Instr.slice,Instr.sliceBounds,Instr.sliceBound,asIntOf,Result.andThen,hk]
set_option maxRecDepth 10000 in
set_option maxHeartbeats 4000000 in
theorem from_any (w:World) (P:Nat) (bkv:Value) (Mb:Nat) (L:List En) (h:BkIs w P bkv Mb L) (hL:L.length≤4000000000000) (x:Int) :
  Calls Tryz.prog 46 #[.pointer (some ⟨P,0,none⟩),.int .i64 x] w fun r w'=>∃ v,r = .returned v∧w'.ownsRow w.heap.size 114 3 v (L.length - kf x L.length) (ens (L.drop (kf x L.length)))∧Below w.heap.size w w':=by
 obtain ⟨bp,bcap,rfl⟩:=own_slice h.ow
 obtain ⟨i0,hi0,hz0,hz1,hz2⟩:=info_parts infoEntry
 have hk:=kf_le x L.length
 obtain ⟨x1,hx1⟩:∃ x1,x1 = max x 0:=⟨_,rfl⟩
 obtain ⟨k,hkk⟩:∃ k,k = kf x L.length:=⟨_,rfl⟩
 rw [← hkk] at hk ⊢
 obtain ⟨m,hm⟩:∃ m,m = L.length - k:=⟨_,rfl⟩
 rw [← hm]
 have hk2:(k:Int) = min x1 L.length:=by
  rw [hkk,hx1]
  unfold kf
  omega
 have HK2:=hid hk2
 have HX1:=hid hx1
 have HS:Hid (∀ W:World,∃ q,(Instr.sliceAt 54 (.slice bp L.length bcap) (some (.int .i64 (k:Int))) none none).run Tryz.prog W = .ok (.slice q m (bcap - k)) W∧q = (if bcap = k then bp else bp.map (·.add (k*3)))):=fun W=>by rw [hm]; exact bslice_from bp L.length bcap k hk W
 have c0:w.drew.cell? ⟨P,0,none⟩ = some (.slice bp L.length bcap):=h.pl.cell 0 rfl
 have hcells:∀ j u,(ens (L.drop k))[j]? = some u→∀ a,(if bcap = k then bp else bp.map (·.add (k*3))) = some a→w.cell? (a.add j) = some u:=fun j u hj a ha=>by
  obtain ⟨hl,⟨hn,hz⟩ | ⟨gg,cap,cur,hv,hg1,hg2,hg3,hg4,hg5,hg6⟩⟩:=id h.ow
  ·have:L = []:=List.length_eq_zero_iff.1 hz
   subst this
   simp [ens] at hj
  ·injection hv with e1 e2 e3
   subst e1 e3
   have hjl:=(List.getElem?_eq_some_iff.1 hj).1
   rw [ens_len,List.length_drop] at hjl
   rw [← ens_drop L k hk,List.getElem?_drop] at hj
   rw [if_neg (by omega)] at ha
   have hc:=h.ow.cellAt (k*3+j) (by omega)
   rw [hj] at hc
   simp only [Option.map_some,Option.some.injEq] at ha
   subst ha
   rw [Addr.add_lit,Addr.add_lit,Nat.zero_add]
   exact hc
 have HN:Hid (∀ a,(if bcap = k then bp else bp.map (·.add (k*3))) = some a→∀ j u,(ens (L.drop k))[j]? = some u→w.cell? (a.add j) = some u):=fun a ha j u hj=>hcells j u hj a ha
 have HE:Hid ((if bcap = k then bp else bp.map (·.add (k*3))) = none→m = 0):=fun hn=>by
  obtain ⟨hl,⟨hn',hz⟩ | ⟨gg,cap,cur,hv,hg⟩⟩:=h.ow
  ·omega
  ·injection hv with e1 e2 e3
   subst e1
   split at hn <;> simp at hn
 generalize hq0:(if bcap = k then bp else bp.map (·.add (k*3))) = q at *
 clear hq0 hcells hx1 hkk hk2
 have HC:=hid c0
 clear h c0
 have hmk:=run_make (P:=Tryz.prog) w.drew 54 114 i0 _ Tryz.underlying54 hi0 hz0 .i64 .i64 (m:Int) (m:Int) (by omega) (Int.le_refl _) (by rw [hz2]; omega) (by omega)
 obtain ⟨ROW,hROW⟩:∃ ROW,ROW = madeCells (Value.agg #[.int .i64 0,.int .i64 0,.int .i64 0]).cells ((m:Int).toNat*i0.size):=⟨_,rfl⟩
 have hRs:ROW.size = m*3:=by rw [hROW,hz1]; simp [madeCells]
 rw [← hROW] at hmk
 simp only [Int.toNat_natCast] at hmk
 obtain ⟨W1,hW1⟩:∃ W1,W1 = w.drew.alloc (.cells ROW 114):=⟨_,rfl⟩
 have hb1:Below w.heap.size w W1:=by rw [hW1]; exact (Below.refl _ _).drew.alloc (Nat.le_refl _) _
 have hrow:W1.heap[w.heap.size]? = some (.cells ROW 114 (0,0)):=by
  rw [hW1]
  show (w.heap.push (.cells ROW 114))[w.heap.size]? = _
  simp
 have hdl:(ens (L.drop k)).length = m*3:=by rw [ens_len,List.length_drop,hm]
 have hmx:m≤maxLen:=by unfold maxLen; omega
 have hcp:∃ r W',(∀ ty,(Builtin.copy_ #[54,54] ty #[.slice (some ⟨w.heap.size,0,none⟩) m m,.slice q m (bcap - k)]).run Tryz.prog W1 = .ok r W')∧W'.ownsRow w.heap.size 114 3 (.slice (some ⟨w.heap.size,0,none⟩) m m) m (ens (L.drop k))∧Below w.heap.size w W':=by
  by_cases hm0:m = 0
  ·have hnil:L.drop k = []:=List.drop_eq_nil_of_le (by omega)
   refine ⟨_,_,fun ty=>run_copy_noneK W1 _ _ ty 114 3 _ _ _ _ _ _ Tryz.underlying54 sizeEnp (by rw [hm0]; rfl),⟨hdl,.inr ⟨w.heap.size,m,ROW,rfl,Nat.le_refl _,hrow,Nat.le_refl _,hmx,hRs,?_⟩⟩,hb1⟩
   rw [hm0,hnil]
   rfl
  ·cases q with
   | none=>exact absurd (HE.out rfl) hm0
   | some a =>
    have hmin:Nat.min m m = m:=Nat.min_self m
    refine ⟨_,_,fun ty=>run_copy_rowK W1 _ _ ty 114 3 w.heap.size 0 m m a m (bcap - k) ROW 114 (ens (L.drop k)) Tryz.underlying54 sizeEnp hrow (by rw [hdl,hmin]) (fun j u hj=>?_) (by rw [hdl,hRs]; omega) (fun v hv=>ens_cell1 _ v hv),⟨hdl,.inr ⟨w.heap.size,m,_,rfl,Nat.le_refl _,setRow_row hrow _,Nat.le_refl _,hmx,?_,?_⟩⟩,?_⟩
    ·have hc:=HN.out a rfl j u hj
     have hab:(a.add j).block < w.heap.size:=World.block_lt_of_cell? _ _ hc
     exact (World.cell?_of_block (w:=w) (a:=a.add j) (hb1.block _ hab)).trans hc
    ·simp [hdl,hRs]
    ·have:ROW.toList.drop (0+(ens (L.drop k)).length) = []:=List.drop_eq_nil_of_le (by rw [hdl,Array.length_toList,hRs]; omega)
     rw [this]
     simp
     exact List.take_of_length_le (by omega)
    ·have kk:=keep_setRow W1 w.heap.size (ROW.toList.take 0 ++ ens (L.drop k) ++ ROW.toList.drop (0+(ens (L.drop k)).length)).toArray
     exact ⟨kk.os.trans hb1.os,kk.tape.trans hb1.tape,kk.output.trans hb1.output,Nat.le_trans hb1.size kk.size,fun b hb=>(kk.block b (Nat.lt_of_lt_of_le hb hb1.size) (by omega)).trans (hb1.block b hb)⟩
 obtain ⟨r,W',hr,ho,hbW⟩:=hcp
 have HR:=hid hr
 have HEnd:Hid (∃ v,Ending.returned (.slice (some ⟨w.heap.size,0,none⟩) m m) = .returned v∧W'.ownsRow w.heap.size 114 3 v m (ens (L.drop k))∧Below w.heap.size w W'):=⟨_,rfl,ho,hbW⟩
 rw [← hW1] at hmk
 have HMK:=hid hmk
 clear hr ho hbW hmk hW1 hb1 hrow hdl hROW hRs hz1 hz2 hi0 hz0 HN HE hm hmx
 have z1:(0:Int)≤(L.length:Int):=by omega
 go_enter Tryz.func46,Tryz.ntmps46
 go_upto_region 1 with fail
 refine wp_region_held_drew (S:=fun wx=>wx.cell? ⟨P,0,none⟩ = some (.slice bp L.length bcap)) (by kernel_rfl) HC.out (fun hHeld=>?_)
 refine tkk 0 (.pointer (some ⟨P,0,none⟩)) rfl ?_
 simp only [uP]
 refine tkk 1 (.pointer (some ⟨P,0,none⟩)) rfl ?_
 simp only [uP]
 refine tkk 2 (.pointer (some ⟨P,0,none⟩)) rfl ?_
 simp only [uP]
 refine tka 3 (.slice bp L.length bcap) rfl ?_
 simp only [uP]
 refine tkk 4 (.int .i64 x) rfl ?_
 simp only [uP]
 refine tkh 5 (.int .i64 x1) rfl (fun wx hSw=>by (go_simp; have:=HX1.out; omega)) ?_
 simp only [uP]
 refine tkk 6 (.pointer (some ⟨P,0,none⟩)) rfl ?_
 simp only [uP]
 refine tkk 7 (.pointer (some ⟨P,0,none⟩)) rfl ?_
 simp only [uP]
 refine tkk 8 (.pointer (some ⟨P,0,none⟩)) rfl ?_
 simp only [uP]
 refine tka 9 (.slice bp L.length bcap) rfl ?_
 simp only [uP]
 refine tka 10 (.int .i64 L.length) rfl ?_
 simp only [uP]
 refine tkh 11 (.int .i64 k) rfl (fun wx hSw=>by (go_simp; have:=HK2.out; omega)) ?_
 simp only [uP]
 refine tkh 12 (.slice q m (bcap - k)) rfl (fun wx hSw=>by (obtain ⟨q',hq1,rfl⟩:=HS.out wx; go_simp)) ?_
 simp only [uP]
 refine tkk 13 (.slice q m (bcap - k)) rfl ?_
 simp only [uP]
 refine wpAnyH_done (by kernel_rfl) ?_ _
 clear hHeld HS HK2 HX1 HC
 go_upto_region 2 with fail
 refine wp_region_lit ?_
 refine wpList_val (.slice q m (bcap - k)) w.drew rfl rfl ?_
 simp only [uP]
 refine wpList_val (.int .i64 m) w.drew rfl (by go_simp) ?_
 simp only [uP]
 refine wpList_val (.slice (some ⟨w.heap.size,0,none⟩) m m) W1 rfl (by have h:=HMK.out; simp only [execOp,Act.eval]; simp [h,Result.andThen,go_sem]) ?_
 simp only [uP]
 clear HMK
 go_upto_region 3 with fail
 refine wp_region_lit ?_
 refine wpList_val (.slice (some ⟨w.heap.size,0,none⟩) m m) W1 rfl rfl ?_
 simp only [uP]
 refine wpList_val (.slice q m (bcap - k)) W1 rfl rfl ?_
 simp only [uP]
 refine wpList_copy_at W1 rfl (.tmp 23) (.tmp 24) 54 54 rfl _ _ rfl rfl (HR.out _) ?_
 simp only [uP]
 clear HR
 go_wp2
 go_ret
 exact HEnd.out
set_option maxHeartbeats 1000000 in
theorem bookL (w:World) (B:Nat) (t:Ln.Terms) (E:List Ln.Ev) (g:Ln.St) (day:Int) (L:List En) (F:Nat→Prop) (h:Lo w B t E g day L F) (hL:L.length≤4000000000000) (x:Int) :
  Calls Tryz.prog 21 #[.pointer (some ⟨B,0,none⟩),.int .i64 x] w fun r w'=>∃ v,r = .returned v∧w'.ownsRow w.heap.size 114 3 v (L.length - kf x L.length) (ens (L.drop (kf x L.length)))∧Below w.heap.size w w':=by
 obtain ⟨P,Mb,evv,bkv,h1,_⟩:=h
 have c15:w.cell? ⟨B,15,none⟩ = some (.pointer (some ⟨P,0,none⟩)):=h1.ln.cell 15 rfl
 have hF:=from_any w P bkv Mb L h1.bk hL x
 clear h1
 go_enter Tryz.func21,Tryz.ntmps21
 go_wp2_with fail
 refine hF.mono ?_
 rintro r w' ⟨v,rfl,ho,hb⟩
 obtain ⟨p,cap,rfl⟩:=own_slice ho
 clear hF
 have HE:Hid (∃ v,Ending.returned (.slice p (L.length - kf x L.length) cap) = .returned v∧w'.ownsRow w.heap.size 114 3 v (L.length - kf x L.length) (ens (L.drop (kf x L.length)))∧Below w.heap.size w w'):=⟨_,rfl,ho,hb⟩
 clear ho hb
 go_wp2
 go_ret
 exact HE.out
set_option maxRecDepth 10000 in
theorem loanBal_any (w:World) (B:Nat) (t:Ln.Terms) (v:Value) (g:Ln.St) (day:Int) (bk:Value) (h:At w B (ll t v g day bk)) :
  Calls Tryz.prog 20 #[.pointer (some ⟨B,0,none⟩)] w fun e w'=>e = .returned (blV g day)∧Below w.heap.size w w':=by
 have c7:w.cell? ⟨B,7,none⟩ = some (.int .i64 g.pr):=h.cell 7 rfl
 have c8:w.cell? ⟨B,8,none⟩ = some (.int .i64 g.it):=h.cell 8 rfl
 have c9:w.cell? ⟨B,9,none⟩ = some (.int .i64 g.du):=h.cell 9 rfl
 have c10:w.cell? ⟨B,10,none⟩ = some (.int .i64 g.la):=h.cell 10 rfl
 have c11:w.cell? ⟨B,11,none⟩ = some (.int .i64 g.fi):=h.cell 11 rfl
 have c12:w.cell? ⟨B,12,none⟩ = some (.int .i64 g.cr):=h.cell 12 rfl
 have c13:w.cell? ⟨B,13,none⟩ = some (.int .i64 g.rt):=h.cell 13 rfl
 have c14:w.cell? ⟨B,14,none⟩ = some (.int .i64 day):=h.cell 14 rfl
 have hl:B < w.heap.size:=At.lt (v:=.int .i64 t.st) h
 have hne:¬ w.heap.size = B:=by omega
 clear h
 unfold blV
 go_enter Tryz.func20,Tryz.ntmps20
 go_wp2
 exact bodyPost_ret (v:=.agg #[.int .i64 g.pr,.int .i64 g.it,.int .i64 g.du,.int .i64 g.la,.int .i64 g.fi,.int .i64 g.cr,.int .i64 g.rt,.int .i64 day]) (by simp [results,Tryz.results20,go_sem]) rfl ⟨rfl,(Below.refl _ _).alloc (Nat.le_refl _) _⟩
theorem balanceL (w:World) (B:Nat) (t:Ln.Terms) (E:List Ln.Ev) (g:Ln.St) (day:Int) (L:List En) (F:Nat→Prop) (h:Lo w B t E g day L F) :
  Calls Tryz.prog 20 #[.pointer (some ⟨B,0,none⟩)] w fun r w'=>r = .returned (blV g day)∧Below w.heap.size w w':=by
 obtain ⟨P,Mb,evv,bkv,h1,_⟩:=h
 exact loanBal_any w B t evv g day _ h1.ln
theorem own_low {w:World} {base:Nat} {T:TypeId} {size:Nat} {v:Value} {n:Nat} {xs:List Value} (h:w.ownsRow base T size v n xs):w.ownsRow 0 T size v n xs:=by
 obtain ⟨h1,h2 | ⟨g,cap,cur,h3,_,h5⟩⟩:=h
 ·exact ⟨h1,.inl h2⟩
 ·exact ⟨h1,.inr ⟨g,cap,cur,h3,Nat.zero_le _,h5⟩⟩
def enl (e:En):List Value:=[.int .i64 e.d,.int .i64 e.k,.int .i64 e.a]
def EnV (w:World) (v:Value) (L:List En):Prop :=
 ∃ p cap,v = .slice p L.length cap∧L.length≤cap∧∀ k (hk:k < L.length),∃ b o,p = some ⟨b,o,none⟩∧b < w.heap.size∧w.rangeAt b (o+k*3) (enl L[k])
theorem EnV.below {w w':World} {v:Value} {L:List En} (h:EnV w v L) (hb:Below w.heap.size w w'):EnV w' v L:=by
 obtain ⟨p,cap,h1,h2,h3⟩:=h
 refine ⟨p,cap,h1,h2,fun k hk=>?_⟩
 obtain ⟨b,o,h4,h5,h6⟩:=h3 k hk
 exact ⟨b,o,h4,Nat.lt_of_lt_of_le h5 hb.size,fun j u hu=>(World.cell?_of_block (w:=w) (a:=⟨b,o+k*3+j,none⟩) (hb.block b h5)).trans (h6 j u hu)⟩
theorem own_en {w:World} {base:Nat} {v:Value} {L:List En} (h:w.ownsRow base 114 3 v L.length (ens L)):EnV w v L:=by
 obtain ⟨hl,hn | ⟨g,cap,cur,rfl,hg⟩⟩:=id h
 ·obtain ⟨rfl,hz⟩:=hn
  have hE:L = []:=List.length_eq_zero_iff.1 hz
  subst hE
  exact ⟨none,0,rfl,Nat.le_refl _,fun k hk=>absurd hk (Nat.not_lt_zero k)⟩
 ·have hlt:=(own_base h (b:=g) rfl).2
  refine ⟨some ⟨g,0,none⟩,cap,rfl,hg.2.2.1,fun k hk=>⟨g,0,rfl,hlt,?_⟩⟩
  obtain ⟨q0,q1,q2⟩:=en_range h rfl k hk
  intro j u hu
  rw [Nat.zero_add]
  match j,hu with
  | 0,hu=>cases hu; exact q0
  | 1,hu=>cases hu; exact q1
  | 2,hu=>cases hu; exact q2
end Go.Proofs.YtanndhoimpnhpaaGreatDoor
namespace Go.Proofs.YtanndhoimpnhpaaGreatDoor
open Go.ChangeShapes Go.WideShapes Go.ChangeAt Go.RowKit Go.WideMaps Go.Maps Lg Cal
def ReadPost (w:World) (B:Nat) (s:Sv) (F:Nat→Prop) (k:Nat) (ns:List Int) (e:Ending) (w':World):Prop :=
 Keep F w w'∧((∃ s',s.read k ns = some s'∧e = .returned (.bool true)∧Dc w' B s'.t s'.l s'.g s'.day s'.L (Wd F w w'))∨(s.read k ns = none∧e = .returned (.bool false)))
def IsD (w:World) (B:Nat) (s:Sv) (F:Nat→Prop):Prop:=Dc w B s.t s.l s.g s.day s.L F
theorem IsV.first {w:World} {v:Value} {n:Int} {ns:List Int} (h:IsV w v (n :: ns)):∃ b o c,v = .slice (some ⟨b,o,none⟩) (n :: ns).length c∧b < w.heap.size∧∀ k (hk:k < (n :: ns).length),w.cell? ⟨b,o+k,none⟩ = some (.int .i64 (n :: ns)[k]):=by
 obtain ⟨p,c,rfl,_,h3⟩:=h
 obtain ⟨b,o,rfl,hb,_⟩:=h3 0 (by simp)
 refine ⟨b,o,c,rfl,hb,fun k hk=>?_⟩
 obtain ⟨b',o',e,_,hc⟩:=h3 k hk
 injection e with e
 injection e with e1 e2
 subst e1 e2
 exact hc
set_option maxRecDepth 10000 in
theorem refread5 (w:World) (B:Nat) (s:Sv) (v:Value) (F:Nat→Prop) (h:IsD w B s F) :
  Calls Tryz.prog 72 #[.pointer (some ⟨B,0,none⟩),.int .i64 5,v] w (ReadPost w B s F 5 []):=by
 have HE:Hid (ReadPost w B s F 5 [] (.returned (.bool true)) w):=⟨Keep.refl _ _,.inl ⟨s,rfl,rfl,h.mono (fun b hb=>.inl hb)⟩⟩
 clear h
 go_enter Tryz.func72,Tryz.ntmps72
 go_wp2
 go_ret
 exact HE.out
theorem Dc.day {w:World} {B:Nat} {t:Ln.Terms} {l:List Ln.Ev} {g:Ln.St} {day:Int} {F:Nat→Prop} (h:Dc w B t l g day [] F) (n:Int) (h0:t.st≤n) (h1:n≤t.st+3700) (q:Nat) :
  Dc ((w.setCell ⟨B,14,none⟩ (.int .i64 n)).drewN q) B t l g n [] F:=by
 obtain ⟨evv,bkv,h2,h3,h4,h5⟩:=h
 have hk:Keep (fun b=>b = B) w ((w.setCell ⟨B,14,none⟩ (.int .i64 n)).drewN q):=((Keep.refl (fun b=>b = B) w).set (S:=fun b=>b = B) rfl 14 _).drewN q
 have hn:∀ {T:TypeId} {sz k:Nat} {v:Value} {xs:List Value},w.ownsRow (B+1) T sz v k xs→∀ b,v.ownBlock = some b→¬ b = B:=fun ho b hb e=>by
  have:=(own_base ho hb).1
  omega
 exact ⟨evv,bkv,⟨(h2.ln.set 14 (show 14 < 16 by decide) _).drewN q,own_keep h2.ev hk (hn h2.ev),own_keep h2.bk hk (hn h2.bk),h2.ap,h2.ds,h2.ok,h2.le,h2.ot,fun e he=>absurd he (List.not_mem_nil),h0,h1⟩,h3,h4,h5⟩
set_option maxRecDepth 10000 in
set_option maxHeartbeats 2000000 in
theorem refread2 (w:World) (B:Nat) (s:Sv) (v:Value) (n:Int) (F:Nat→Prop) (h:IsD w B s F) (hL:s.L = []) (hv:IsV w v [n]) (hd:∀ b,v.ownBlock = some b→¬ b = B) :
  Calls Tryz.prog 72 #[.pointer (some ⟨B,0,none⟩),.int .i64 2,v] w (ReadPost w B s F 2 [n]):=by
 obtain ⟨b,o,c,rfl,_,hc⟩:=hv.first
 have hc0:w.cell? ⟨b,o,none⟩ = some (.int .i64 n):=hc 0 (by simp)
 have hne:¬ b = B:=hd b rfl
 obtain ⟨t,l,g,day,L⟩:=s
 obtain rfl:L = []:=hL
 have hD:Dc w B t l g day [] F:=h
 have hk:∀ q,Keep F w ((w.setCell ⟨B,14,none⟩ (.int .i64 n)).drewN q):=fun q=>((Keep.refl F w).set (by obtain ⟨_,_,_,h3,_⟩:=hD; exact h3) 14 _).drewN q
 obtain ⟨evv,bkv,hX,_⟩:=id hD
 have c14:w.cell? ⟨B,14,none⟩ = some (.int .i64 day):=hX.ln.cell 14 rfl
 have f14:w.frozen? ⟨B,14,none⟩ = false:=hX.ln.free 14 rfl
 have HW:Hid (∀ W,W = w.setCell ⟨B,14,none⟩ (.int .i64 n)→W.cell? ⟨b,o,none⟩ = some (.int .i64 n)∧W.cell? ⟨B,0,none⟩ = some (.int .i64 t.st)):=by
  rintro W rfl
  exact ⟨(World.cell?_setCell_far _ _ _ _ (show B ≠ b from fun e=>hne e.symm)).trans hc0,(hX.ln.set 14 (show 14 < 16 by decide) _).cell 0 rfl⟩
 have ho0:=hX.ot.st0
 have ho1:=hX.ot.st1
 have HG:Hid (∀ q,t.st≤n→n≤t.st+3700→ReadPost w B ⟨t,l,g,day,[]⟩ F 2 [n] (.returned (.bool true)) ((w.setCell ⟨B,14,none⟩ (.int .i64 n)).drewN q)):=fun q h0 h1 =>
  ⟨hk q,.inl ⟨⟨t,l,g,n,[]⟩,by simp [Sv.read,h0,h1],rfl,(hD.day n h0 h1 q).mono (fun b hb=>.inl hb)⟩⟩
 have HN:Hid (∀ q,¬ (t.st≤n∧n≤t.st+3700)→ReadPost w B ⟨t,l,g,day,[]⟩ F 2 [n] (.returned (.bool false)) ((w.setCell ⟨B,14,none⟩ (.int .i64 n)).drewN q)):=fun q h0 =>
  ⟨hk q,.inr ⟨by simp only [Sv.read]; rw [if_neg h0],rfl⟩⟩
 clear h hv hd hc hD hk hX hne
 go_enter Tryz.func72,Tryz.ntmps72
 go_upto_region 12 with fail
 obtain ⟨hw0,hw1⟩:=HW.out _ rfl
 have HU:Hid (∃ W,W = w.setCell ⟨B,14,none⟩ (.int .i64 n)):=⟨_,rfl⟩
 generalize w.setCell ⟨B,14,none⟩ (.int .i64 n) = W at *
 clear c14 f14 hc0 HW
 have z3:IntKind.i64.wrap (t.st+3700) = t.st+3700:=by rw [IntKind.wrap_i64]; omega
 by_cases h0:t.st≤n
 ·by_cases h1:n≤t.st+3700
  ·go_quiet (fail)
   go_wp2
   go_ret
   exact HG.out _ h0 h1
  ·go_quiet (fail)
   go_wp2
   go_ret
   exact HN.out _ (by omega)
 ·go_quiet (fail)
  go_wp2
  go_ret
  exact HN.out _ (by omega)
set_option maxRecDepth 10000 in
set_option maxHeartbeats 2000000 in
theorem refread3 (w:World) (B:Nat) (s:Sv) (v:Value) (a0 a1 a2 a3 a4 a5 a6:Int) (F:Nat→Prop) (h:IsD w B s F) (hv:IsV w v [a0,a1,a2,a3,a4,a5,a6]) (hd:∀ b,v.ownBlock = some b→¬ b = B) :
  Calls Tryz.prog 72 #[.pointer (some ⟨B,0,none⟩),.int .i64 3,v] w (ReadPost w B s F 3 [a0,a1,a2,a3,a4,a5,a6]):=by
 obtain ⟨b,o,c,rfl,hbl,hc⟩:=hv.first
 have hne:¬ b = B:=hd b rfl
 obtain ⟨t,l,g,day,L⟩:=s
 have hD:Dc w B t l g day L F:=h
 obtain ⟨evv,bkv,hX,hF,hF1,hF2⟩:=hD
 obtain ⟨m,hm⟩:∃ m:List Value,m = [.int .i64 a0,.int .i64 a1,.int .i64 a2,.int .i64 a3,.int .i64 a4,.int .i64 a5,.int .i64 a6,.int .i64 day]:=⟨_,rfl⟩
 have hkB:∀ W,W.heap = w.heap→Keep (fun b=>b = B) W (W.setCells B 7 m):=fun W _=>Keep.setCells (S:=fun b=>b = B) rfl m 7 W (Keep.refl _ _)
 have hn:∀ {T:TypeId} {sz k:Nat} {v:Value} {xs:List Value},w.ownsRow (B+1) T sz v k xs→∀ b,v.ownBlock = some b→¬ b = B:=fun ho b hb e=>by
  have:=(own_base ho hb).1
  omega
 have hA:At (w.drew.setCells B 7 m) B (dl t evv ⟨a0,a1,a2,a3,a4,a5,a6,0,0,0⟩ day bkv):=by
  have:=At.setCells m 7 _ _ hX.ln.drew (by rw [hm]; show 7+8≤16; decide)
  rw [hm] at this ⊢
  exact this
 have hk1:Keep (fun b=>b = B) w (w.drew.setCells B 7 m):=Keep.undrew (hkB w.drew rfl)
 have HE:Hid (ReadPost w B ⟨t,l,g,day,L⟩ F 3 [a0,a1,a2,a3,a4,a5,a6] (.returned (.bool true)) (w.drew.setCells B 7 m)) :=
  ⟨hk1.mono (fun k _ e=>by subst e; exact hF),.inl ⟨⟨t,l,⟨a0,a1,a2,a3,a4,a5,a6,0,0,0⟩,day,L⟩,rfl,rfl,evv,bkv,⟨hA,own_keep hX.ev hk1 (hn hX.ev),own_keep hX.bk hk1 (hn hX.bk),hX.ap,hX.ds,hX.ok,hX.le,hX.ot,hX.inl,hX.d0,hX.d1⟩,.inl hF,fun b hb=>.inl (hF1 b hb),fun b hb=>.inl (hF2 b hb)⟩⟩
 have HT:Hid (w.drew.there B 7 8):=hX.ln.drew.there_mid 7 8 (show 7+8≤16 by decide)
 have HS2:Hid ((∀ k (hk:k < [a0,a1,a2,a3,a4,a5,a6].length),(w.drew.setCells B 7 m).cell? ⟨b,o+k,none⟩ = some (.int .i64 [a0,a1,a2,a3,a4,a5,a6][k]))∧(w.drew.setCells B 7 m).cell? ⟨B,14,none⟩ = some (.int .i64 day)) :=
  ⟨fun k hk=>(World.cell?_of_block (w:=w) (a:=⟨b,o+k,none⟩) (hk1.block b hbl hne)).trans (hc k hk),hA.cell 14 rfl⟩
 have HS1:Hid ((∀ k (hk:k < [a0,a1,a2,a3,a4,a5,a6].length),w.drew.cell? ⟨b,o+k,none⟩ = some (.int .i64 [a0,a1,a2,a3,a4,a5,a6][k]))∧w.drew.cell? ⟨B,14,none⟩ = some (.int .i64 day)):=⟨hc,hX.ln.cell 14 rfl⟩
 have HM:=hid hm
 clear h hv hd hc hkB hn hA hk1 hX hm hF hF1 hF2 hbl hne
 go_enter Tryz.func72,Tryz.ntmps72
 go_upto_region 14 with fail
 refine wp_region_held_drew (S:=fun wx=>(∀ k (hk:k < [a0,a1,a2,a3,a4,a5,a6].length),wx.cell? ⟨b,o+k,none⟩ = some (.int .i64 [a0,a1,a2,a3,a4,a5,a6][k]))∧wx.cell? ⟨B,14,none⟩ = some (.int .i64 day)) (by kernel_rfl) HS1.out (fun hHeld=>?_)
 generalize w.drew = U0 at *
 refine tkk 0 (.pointer (some ⟨B,0,none⟩)) rfl ?_
 simp only [uP]
 refine tkk 1 (.slice (some ⟨b,o,none⟩) [a0,a1,a2,a3,a4,a5,a6].length c) rfl ?_
 simp only [uP]
 refine tka 2 (.pointer (some ⟨b,o,none⟩)) rfl ?_
 simp only [uP]
 refine tkh 3 (.int .i64 a0) rfl (fun wx hSw=>by (have hc:=(show wx.cell? ⟨b,o,none⟩ = some (.int .i64 a0) from hSw.1 0 (by simp)); go_simp)) ?_
 simp only [uP]
 refine tkk 4 (.slice (some ⟨b,o,none⟩) [a0,a1,a2,a3,a4,a5,a6].length c) rfl ?_
 simp only [uP]
 refine tka 5 (.pointer (some ⟨b,o+1,none⟩)) rfl ?_
 simp only [uP]
 refine tkh 6 (.int .i64 a1) rfl (fun wx hSw=>by (have hc:=(show wx.cell? ⟨b,o+1,none⟩ = some (.int .i64 a1) from hSw.1 1 (by simp)); go_simp)) ?_
 simp only [uP]
 refine tkk 7 (.slice (some ⟨b,o,none⟩) [a0,a1,a2,a3,a4,a5,a6].length c) rfl ?_
 simp only [uP]
 refine tka 8 (.pointer (some ⟨b,o+2,none⟩)) rfl ?_
 simp only [uP]
 refine tkh 9 (.int .i64 a2) rfl (fun wx hSw=>by (have hc:=(show wx.cell? ⟨b,o+2,none⟩ = some (.int .i64 a2) from hSw.1 2 (by simp)); go_simp)) ?_
 simp only [uP]
 refine tkk 10 (.slice (some ⟨b,o,none⟩) [a0,a1,a2,a3,a4,a5,a6].length c) rfl ?_
 simp only [uP]
 refine tka 11 (.pointer (some ⟨b,o+3,none⟩)) rfl ?_
 simp only [uP]
 refine tkh 12 (.int .i64 a3) rfl (fun wx hSw=>by (have hc:=(show wx.cell? ⟨b,o+3,none⟩ = some (.int .i64 a3) from hSw.1 3 (by simp)); go_simp)) ?_
 simp only [uP]
 refine tkk 13 (.slice (some ⟨b,o,none⟩) [a0,a1,a2,a3,a4,a5,a6].length c) rfl ?_
 simp only [uP]
 refine tka 14 (.pointer (some ⟨b,o+4,none⟩)) rfl ?_
 simp only [uP]
 refine tkh 15 (.int .i64 a4) rfl (fun wx hSw=>by (have hc:=(show wx.cell? ⟨b,o+4,none⟩ = some (.int .i64 a4) from hSw.1 4 (by simp)); go_simp)) ?_
 simp only [uP]
 refine tkk 16 (.slice (some ⟨b,o,none⟩) [a0,a1,a2,a3,a4,a5,a6].length c) rfl ?_
 simp only [uP]
 refine tka 17 (.pointer (some ⟨b,o+5,none⟩)) rfl ?_
 simp only [uP]
 refine tkh 18 (.int .i64 a5) rfl (fun wx hSw=>by (have hc:=(show wx.cell? ⟨b,o+5,none⟩ = some (.int .i64 a5) from hSw.1 5 (by simp)); go_simp)) ?_
 simp only [uP]
 refine tkk 19 (.slice (some ⟨b,o,none⟩) [a0,a1,a2,a3,a4,a5,a6].length c) rfl ?_
 simp only [uP]
 refine tka 20 (.pointer (some ⟨b,o+6,none⟩)) rfl ?_
 simp only [uP]
 refine tkh 21 (.int .i64 a6) rfl (fun wx hSw=>by (have hc:=(show wx.cell? ⟨b,o+6,none⟩ = some (.int .i64 a6) from hSw.1 6 (by simp)); go_simp)) ?_
 simp only [uP]
 refine tkk 22 (.pointer (some ⟨B,0,none⟩)) rfl ?_
 simp only [uP]
 refine tka 23 (.pointer (some ⟨B,0,none⟩)) rfl ?_
 simp only [uP]
 refine tka 24 (.pointer (some ⟨B,7,none⟩)) rfl ?_
 simp only [uP]
 refine tka 25 (.pointer (some ⟨B,14,none⟩)) rfl ?_
 simp only [uP]
 refine tkh 26 (.int .i64 day) rfl (fun wx hSw=>by (have hc:=(show wx.cell? ⟨B,14,none⟩ = some (.int .i64 day) from hSw.2); go_simp)) ?_
 simp only [uP]
 refine tkg 27 (.agg #[.int .i64 a0,.int .i64 a1,.int .i64 a2,.int .i64 a3,.int .i64 a4,.int .i64 a5,.int .i64 a6,.int .i64 day]) rfl ?_
 simp only [uP]
 refine tka 28 (.pointer (some ⟨B,0,none⟩)) rfl ?_
 simp only [uP]
 refine tka 29 (.pointer (some ⟨B,7,none⟩)) rfl ?_
 simp only [uP]
 refine rdy 30 rfl (fun K hK=>?_)
 rw [if_pos (by rfl)]
 refine wp_store_mid 52 (.tmp 110) (.tmp 108) rfl B 7 #[.int .i64 a0,.int .i64 a1,.int .i64 a2,.int .i64 a3,.int .i64 a4,.int .i64 a5,.int .i64 a6,.int .i64 day] rfl rfl HT.out (by kernel_rfl) (by kernel_rfl) ?_
 rw [show (#[.int .i64 a0,.int .i64 a1,.int .i64 a2,.int .i64 a3,.int .i64 a4,.int .i64 a5,.int .i64 a6,.int .i64 day]:Array Value).toList = m from HM.out.symm]
 refine hK.out _ _ HS2.out (fun _=>?_)
 clear hK K hHeld HS1 HT HS2
 generalize U0.setCells B 7 m = U1 at *
 refine wpAnyH_done (by kernel_rfl) ?_ _
 go_wp2
 go_ret
 exact HE.out
set_option maxRecDepth 10000 in
set_option maxHeartbeats 4000000 in
theorem refread4 (w:World) (B:Nat) (s:Sv) (v:Value) (d k a:Int) (F:Nat→Prop) (h:IsD w B s F) (hL:s.L.length≤4000000000000) (hv:IsV w v [d,k,a]) (hd:∀ b,v.ownBlock = some b→¬ F b) :
  Calls Tryz.prog 72 #[.pointer (some ⟨B,0,none⟩),.int .i64 4,v] w (ReadPost w B s F 4 [d,k,a]):=by
 obtain ⟨b,o,c,rfl,hbl,hc⟩:=hv.first
 have hnF:¬ F b:=hd b rfl
 obtain ⟨t,l,g,day,L⟩:=s
 have hD:Dc w B t l g day L F:=h
 obtain ⟨evv,bkv,hX,hF,hF1,hF2⟩:=hD
 have hL:L.length≤4000000000000:=hL
 have HN:Hid (∀ q,¬ (t.st≤d∧d < day∧1≤k∧k≤12∧¬ a = 0)→ReadPost w B ⟨t,l,g,day,L⟩ F 4 [d,k,a] (.returned (.bool false)) (w.drewN q)):=fun q h0 =>
  ⟨(Keep.refl F w).drewN q,.inr ⟨by simp only [Sv.read]; rw [if_neg h0],rfl⟩⟩
 have HX:=hid hX
 have HF:Hid (F B∧(∀ b,evv.ownBlock = some b→F b)∧(∀ b,bkv.ownBlock = some b→F b)):=⟨hF,hF1,hF2⟩
 have HSU0:=hid hc
 have c0:w.cell? ⟨b,o,none⟩ = some (.int .i64 d):=hc 0 (by simp)
 have c1:w.cell? ⟨b,o+1,none⟩ = some (.int .i64 k):=hc 1 (by simp)
 have c2:w.cell? ⟨b,o+2,none⟩ = some (.int .i64 a):=hc 2 (by simp)
 have c3:w.cell? ⟨B,0,none⟩ = some (.int .i64 t.st):=hX.ln.cell 0 rfl
 have c4:w.cell? ⟨B,14,none⟩ = some (.int .i64 day):=hX.ln.cell 14 rfl
 obtain ⟨p0,cap0,rfl⟩:=own_slice hX.bk
 obtain ⟨i0,hi,hz0,hz1,hz2⟩:=info_parts infoEn
 clear h hv hd hc hX hF hF1 hF2
 go_enter Tryz.func72,Tryz.ntmps72
 go_upto_region 16 with fail
 by_cases b0:d < t.st
 ·go_quiet (fail)
  go_wp2
  go_ret
  exact HN.out _ (by omega)
 by_cases b1:day≤d
 ·go_quiet (fail)
  go_wp2
  go_ret
  exact HN.out _ (by omega)
 by_cases b2:k < 1
 ·go_quiet (fail)
  go_wp2
  go_ret
  exact HN.out _ (by omega)
 by_cases b3:12 < k
 ·go_quiet (fail)
  go_wp2
  go_ret
  exact HN.out _ (by omega)
 by_cases b4:a = 0
 ·subst b4
  go_quiet (fail)
  go_wp2
  go_ret
  exact HN.out _ (by simp)
 have b5:(a == (0:Int)) = false:=by simp [b4]
 have HR:Hid (t.st≤d∧d < day∧1≤k∧k≤12∧¬ a = 0):=⟨by omega,by omega,by omega,by omega,b4⟩
 go_quiet (fail)
 clear c0 c1 c2 c3 c4 b0 b1 b2 b3 b4 b5 HN
 go_upto_region 18 with fail
 have hkU:Below w.heap.size w (w.drewN nq).drew:=⟨rfl,rfl,rfl,Nat.le_refl _,fun _ _=>rfl⟩
 generalize hU:(w.drewN nq).drew = U0 at hkU
 have HSU:Hid (∀ j (hj:j < [d,k,a].length),U0.cell? ⟨b,o+j,none⟩ = some (.int .i64 [d,k,a][j])):=fun j hj=>(World.cell?_of_block (w:=w) (a:=⟨b,o+j,none⟩) (hkU.block b hbl)).trans (HSU0.out j hj)
 have hk1:Below w.heap.size w (U0.alloc (.cells #[.int .i64 d,.int .i64 k,.int .i64 a] 114)):=hkU.alloc hkU.size _
 have HS2:Hid (∀ j (hj:j < [d,k,a].length),(U0.alloc (.cells #[.int .i64 d,.int .i64 k,.int .i64 a] 114)).cell? ⟨b,o+j,none⟩ = some (.int .i64 [d,k,a][j])):=fun j hj=>(World.cell?_of_block (w:=w) (a:=⟨b,o+j,none⟩) (hk1.block b hbl)).trans (HSU0.out j hj)
 have HA0:Hid (At U0 B (dl t evv g day (.slice p0 L.length cap0))):=At.keep (S:=fun _=>False) (v:=.int .i64 t.st) HX.out.ln (Keep.below hkU) (fun x=>x)
 have HA1:Hid (At (U0.alloc (.cells #[.int .i64 d,.int .i64 k,.int .i64 a] 114)) B (dl t evv g day (.slice p0 L.length cap0))):=At.keep (S:=fun _=>False) (v:=.int .i64 t.st) HX.out.ln (Keep.below hk1) (fun x=>x)
 have HC1:Hid (U0.cell? ⟨B,15,none⟩ = some (.slice p0 L.length cap0)):=HA0.out.cell 15 rfl
 have HC2:Hid ((U0.alloc (.cells #[.int .i64 d,.int .i64 k,.int .i64 a] 114)).cell? ⟨B,15,none⟩ = some (.slice p0 L.length cap0)):=HA1.out.cell 15 rfl
 have HO:Hid ((U0.alloc (.cells #[.int .i64 d,.int .i64 k,.int .i64 a] 114)).ownsRow (B+1) 114 3 (.slice p0 L.length cap0) L.length (ens L)):=own_keep (S:=fun _=>False) HX.out.bk (Keep.below hk1) (fun _ _ x=>x)
 have HNe:Hid (∀ j u,[Value.int .i64 d,.int .i64 k,.int .i64 a][j]? = some u→(U0.alloc (.cells #[.int .i64 d,.int .i64 k,.int .i64 a] 114)).cell? ((⟨U0.heap.size,0,none⟩:Addr).add j) = some u):=fun j u hu=>by
  have:=(At.alloc U0 [.int .i64 d,.int .i64 k,.int .i64 a] 114 j u hu).1
  rw [Addr.add_lit,Nat.zero_add]
  exact this
 have hBU:B+1≤U0.heap.size:=Nat.le_trans (At.lt (v:=.int .i64 t.st) HX.out.ln) hkU.size
 have HP:Hid (∀ v' w4,w4.ownsRow (B+1) 114 3 v' (L.length+1) (ens L ++ [.int .i64 d,.int .i64 k,.int .i64 a])→(U0.alloc (.cells #[.int .i64 d,.int .i64 k,.int .i64 a] 114)).grownBy w4 (Value.slice p0 L.length cap0).ownBlock→(v'.ownBlock = (Value.slice p0 L.length cap0).ownBlock∨v'.ownBlock = some (U0.alloc (.cells #[.int .i64 d,.int .i64 k,.int .i64 a] 114)).heap.size) →
   At w4 B (dl t evv g day (.slice p0 L.length cap0))∧(∀ j (hj:j < [d,k,a].length),w4.cell? ⟨b,o+j,none⟩ = some (.int .i64 [d,k,a][j]))∧Hid ((∀ j (hj:j < [d,k,a].length),(w4.setCell ⟨B,15,none⟩ v').cell? ⟨b,o+j,none⟩ = some (.int .i64 [d,k,a][j]))∧ReadPost w B ⟨t,l,g,day,L⟩ F 4 [d,k,a] (.returned (.bool true)) (w4.setCell ⟨B,15,none⟩ v'))):=by
  intro v' w4 ho4 hg4 hat4
  have hnb:∀ b,(Value.slice p0 L.length cap0).ownBlock = some b→¬ b = B:=fun b hb=>by have:=own_base HX.out.bk hb; omega
  obtain ⟨aw,kw,bkv',hA,hO,hON,hK⟩:=BkW.put (V:=w) (bk0:=.slice p0 L.length cap0) ⟨d,k,a⟩ HA1.out (Keep.below hk1) (.inl rfl) hnb ho4 hg4 hat4
  have hcell:∀ {W:World},Keep (fun b=>b = B∨(Value.slice p0 L.length cap0).ownBlock = some b) w W→∀ j (hj:j < [d,k,a].length),W.cell? ⟨b,o+j,none⟩ = some (.int .i64 [d,k,a][j]):=fun hk j hj =>
   (World.cell?_of_block (w:=w) (a:=⟨b,o+j,none⟩) (hk.block b hbl (fun h=>by
    rcases h with rfl | h
    ·exact hnF HF.out.1
    ·exact hnF (HF.out.2.2 b h)))).trans (HSU0.out j hj)
  refine ⟨aw,hcell kw,hcell hK,hK.mono (fun k _ h=>?_),.inl ⟨⟨t,l,g,day,L ++ [⟨d,k,a⟩]⟩,by simp only [Sv.read]; rw [if_pos HR.out],rfl,evv,bkv',⟨hA,?_,hO,?_,HX.out.ds,HX.out.ok,HX.out.le,HX.out.ot,?_,HX.out.d0,HX.out.d1⟩,.inl HF.out.1,fun b hb=>.inl (HF.out.2.1 b hb),own_new hON HF.out.2.2 hO⟩⟩
  ·rcases h with rfl | h
   ·exact HF.out.1
   ·exact HF.out.2.2 k h
  ·refine own_keep HX.out.ev hK (fun b hb h=>?_)
   rcases h with rfl | h
   ·have:=own_base HX.out.ev hb; omega
   ·exact HX.out.ap b hb h
  ·intro b hb h
   rcases hON with h4 | ⟨x,h5,h6⟩
   ·exact HX.out.ap b hb (h4.symm.trans h)
   ·rw [h5] at h
    injection h with h
    have:=(own_base HX.out.ev hb).2
    omega
  ·intro e he
   rcases List.mem_append.1 he with h | h
   ·exact HX.out.inl e h
   ·rw [List.mem_singleton] at h
    subst h
    exact ⟨HR.out.1,HR.out.2.1,HR.out.2.2.1,HR.out.2.2.2.1⟩
 refine wp_region_held_drew (S:=fun wx=>∀ j (hj:j < [d,k,a].length),wx.cell? ⟨b,o+j,none⟩ = some (.int .i64 [d,k,a][j])) (by kernel_rfl) (by rw [hU]; exact HSU.out) (fun hHeld=>?_)
 rw [hU]
 rw [hU] at hHeld
 clear hU HX HF HR HA0 HA1 hk1 hkU HSU0 hbl hnF
 refine tkk 0 (.pointer (some ⟨B,0,none⟩)) rfl ?_
 simp only [uP]
 refine tkk 1 (.pointer (some ⟨B,0,none⟩)) rfl ?_
 simp only [uP]
 refine tka 2 (.pointer (some ⟨B,0,none⟩)) rfl ?_
 simp only [uP]
 refine tka 3 (.pointer (some ⟨B,15,none⟩)) rfl ?_
 simp only [uP]
 refine tkk 5 (.slice (some ⟨b,o,none⟩) [d,k,a].length c) rfl ?_
 simp only [uP]
 refine tka 6 (.pointer (some ⟨b,o,none⟩)) rfl ?_
 simp only [uP]
 refine tkh 7 (.int .i64 d) rfl (fun wx hSw=>by (have hc:=(show wx.cell? ⟨b,o,none⟩ = some (.int .i64 d) from hSw 0 (by simp)); go_simp)) ?_
 simp only [uP]
 refine tkk 8 (.slice (some ⟨b,o,none⟩) [d,k,a].length c) rfl ?_
 simp only [uP]
 refine tka 9 (.pointer (some ⟨b,o+1,none⟩)) rfl ?_
 simp only [uP]
 refine tkh 10 (.int .i64 k) rfl (fun wx hSw=>by (have hc:=(show wx.cell? ⟨b,o+1,none⟩ = some (.int .i64 k) from hSw 1 (by simp)); go_simp)) ?_
 simp only [uP]
 refine tkk 11 (.slice (some ⟨b,o,none⟩) [d,k,a].length c) rfl ?_
 simp only [uP]
 refine tka 12 (.pointer (some ⟨b,o+2,none⟩)) rfl ?_
 simp only [uP]
 refine tkh 13 (.int .i64 a) rfl (fun wx hSw=>by (have hc:=(show wx.cell? ⟨b,o+2,none⟩ = some (.int .i64 a) from hSw 2 (by simp)); go_simp)) ?_
 simp only [uP]
 refine tkg 14 (.agg #[.int .i64 d,.int .i64 k,.int .i64 a]) rfl ?_
 simp only [uP]
 refine wpAnyH_ready (rs:=[4,15]) (by kernel_rfl) (by simp) ?_
 refine AllReadyH.cons rfl (fun K hK=>?_) (AllReadyH.cons rfl (fun K hK=>?_) AllReadyH.nil)
 ·rw [if_pos (by rfl)]
  refine wp_valD (.slice p0 L.length cap0) U0 (by (have hc:=HC1.out; go_simp)) ?_
  refine hK.out _ _ HSU.out (fun hHeld2=>?_)
  clear hK K
  try simp only [uP]
  refine rdy 15 rfl (fun K hK=>?_)
  rw [if_pos (by rfl)]
  refine wp_valD (.slice (some ⟨U0.heap.size,0,none⟩) 1 1) (U0.alloc (.cells #[.int .i64 d,.int .i64 k,.int .i64 a] 114)) (by kernel_rfl) ?_
  refine hK.out _ _ HS2.out (fun hHeld2=>?_)
  clear hK K
  try simp only [uP]
  refine rdy 16 rfl (fun K hK=>?_)
  rw [if_pos (by rfl)]
  refine wp_append_at (U0.alloc (.cells #[.int .i64 d,.int .i64 k,.int .i64 a] 114)) (.tmp 155) (.tmp 166) 54 rfl (B+1) 114 i0 (.agg #[.int .i64 0,.int .i64 0,.int .i64 0]) 3 24 Tryz.underlying54 hi hz0 hz1 hz2 rfl (by decide) (.slice p0 L.length cap0) L.length (ens L) rfl HO.out ⟨U0.heap.size,0,none⟩ 1 1 [.int .i64 d,.int .i64 k,.int .i64 a] rfl rfl HNe.out (fun u hu=>?_) (by unfold maxLen; omega) (by omega) (by simp; omega) ?_
  ·rcases List.mem_cons.1 hu with rfl | hu
   ·rfl
   ·rcases List.mem_cons.1 hu with rfl | hu
    ·rfl
    ·rw [List.mem_singleton] at hu
     subst hu
     rfl
  intro v' w4 ho4 hg4 hat4
  obtain ⟨aw,hsb,HE⟩:=HP.out v' w4 ho4 hg4 hat4
  refine hK.out _ _ hsb (fun hHeld3=>?_)
  clear hK K
  try simp only [uP]
  obtain ⟨g',cap',rfl,_,_⟩:=ho4.form (by omega)
  have c15:w4.cell? ⟨B,15,none⟩ = some (.slice p0 L.length cap0):=aw.cell 15 rfl
  have f15:w4.frozen? ⟨B,15,none⟩ = false:=aw.free 15 rfl
  clear ho4 hg4 hat4 aw
  refine tka 17 (.pointer (some ⟨B,0,none⟩)) rfl ?_
  simp only [uP]
  refine tka 18 (.pointer (some ⟨B,15,none⟩)) rfl ?_
  simp only [uP]
  refine rdy 19 rfl (fun K hK=>?_)
  rw [if_pos (by rfl)]
  refine wp_skipD (w4.setCell ⟨B,15,none⟩ (.slice (some ⟨g',0,none⟩) (L.length+1) cap')) (by go_simp) ?_
  refine hK.out _ _ HE.out.1 (fun _=>?_)
  clear hK K hHeld3 hHeld2 hsb c15 f15
  refine wpAnyH_done (by kernel_rfl) ?_ _
  generalize w4.setCell ⟨B,15,none⟩ (.slice (some ⟨g',0,none⟩) (L.length+1) cap') = w5 at *
  clear HP HS2 HNe HO HSU HC1 HC2
  go_wp2
  go_ret
  exact HE.out.2
 ·rw [if_pos (by rfl)]
  refine wp_valD (.slice (some ⟨U0.heap.size,0,none⟩) 1 1) (U0.alloc (.cells #[.int .i64 d,.int .i64 k,.int .i64 a] 114)) (by kernel_rfl) ?_
  refine hK.out _ _ HS2.out (fun hHeld2=>?_)
  clear hK K
  try simp only [uP]
  refine rdy 4 rfl (fun K hK=>?_)
  rw [if_pos (by rfl)]
  refine wp_valD (.slice p0 L.length cap0) (U0.alloc (.cells #[.int .i64 d,.int .i64 k,.int .i64 a] 114)) (by (have hc:=HC2.out; go_simp)) ?_
  refine hK.out _ _ HS2.out (fun hHeld2=>?_)
  clear hK K
  try simp only [uP]
  refine rdy 16 rfl (fun K hK=>?_)
  rw [if_pos (by rfl)]
  refine wp_append_at (U0.alloc (.cells #[.int .i64 d,.int .i64 k,.int .i64 a] 114)) (.tmp 155) (.tmp 166) 54 rfl (B+1) 114 i0 (.agg #[.int .i64 0,.int .i64 0,.int .i64 0]) 3 24 Tryz.underlying54 hi hz0 hz1 hz2 rfl (by decide) (.slice p0 L.length cap0) L.length (ens L) rfl HO.out ⟨U0.heap.size,0,none⟩ 1 1 [.int .i64 d,.int .i64 k,.int .i64 a] rfl rfl HNe.out (fun u hu=>?_) (by unfold maxLen; omega) (by omega) (by simp; omega) ?_
  ·rcases List.mem_cons.1 hu with rfl | hu
   ·rfl
   ·rcases List.mem_cons.1 hu with rfl | hu
    ·rfl
    ·rw [List.mem_singleton] at hu
     subst hu
     rfl
  intro v' w4 ho4 hg4 hat4
  obtain ⟨aw,hsb,HE⟩:=HP.out v' w4 ho4 hg4 hat4
  refine hK.out _ _ hsb (fun hHeld3=>?_)
  clear hK K
  try simp only [uP]
  obtain ⟨g',cap',rfl,_,_⟩:=ho4.form (by omega)
  have c15:w4.cell? ⟨B,15,none⟩ = some (.slice p0 L.length cap0):=aw.cell 15 rfl
  have f15:w4.frozen? ⟨B,15,none⟩ = false:=aw.free 15 rfl
  clear ho4 hg4 hat4 aw
  refine tka 17 (.pointer (some ⟨B,0,none⟩)) rfl ?_
  simp only [uP]
  refine tka 18 (.pointer (some ⟨B,15,none⟩)) rfl ?_
  simp only [uP]
  refine rdy 19 rfl (fun K hK=>?_)
  rw [if_pos (by rfl)]
  refine wp_skipD (w4.setCell ⟨B,15,none⟩ (.slice (some ⟨g',0,none⟩) (L.length+1) cap')) (by go_simp) ?_
  refine hK.out _ _ HE.out.1 (fun _=>?_)
  clear hK K hHeld3 hHeld2 hsb c15 f15
  refine wpAnyH_done (by kernel_rfl) ?_ _
  generalize w4.setCell ⟨B,15,none⟩ (.slice (some ⟨g',0,none⟩) (L.length+1) cap') = w5 at *
  clear HP HS2 HNe HO HSU HC1 HC2
  go_wp2
  go_ret
  exact HE.out.2
end Go.Proofs.YtanndhoimpnhpaaGreatDoor
