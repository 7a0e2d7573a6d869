/- Joined by program: TxM, Fl, KpA, TxO, TxQ. -/
import Derived.Test.YtanndhoimpnhpaaGreatDoorM21
import Derived.WalkLawsBesides
import Derived.Deep.CutBlock
namespace Go.Proofs.YtanndhoimpnhpaaGreatDoor
open Go.ChangeShapes Go.WideShapes Go.ChangeAt Go.RowKit Go.WideMaps Go.Maps Lg Cal
theorem Below.setCells' {n:Nat} {a:World} {b:Nat} (hb:n≤b):∀ (vs:List Value) (o:Nat) (w:World),Below n a w→Below n a (w.setCells b o vs)
 | [],_,_,h=>h
 | v :: r,o,_,h=>Below.setCells' hb r (o+1) _ (h.setCell (p:=⟨b,o,none⟩) hb v)
set_option maxRecDepth 10000 in
set_option maxHeartbeats 4000000 in
theorem refread1 (w:World) (B:Nat) (s:Sv) (v:Value) (e:Ln.Ev) (F:Nat→Prop) (h:IsD w B s F) (hv:IsV w v (evN e)) :
  Calls Tryz.prog 72 #[.pointer (some ⟨B,0,none⟩),.int .i64 1,v] w (ReadPost w B s F 1 (evN e)):=by
 obtain ⟨b,o,c,rfl,hbl,hc⟩:=IsV.first (n:=e.d) (ns:=[e.k,e.s,e.a]) hv
 show Calls Tryz.prog 72 #[.pointer (some ⟨B,0,none⟩),.int .i64 1,.slice (some ⟨b,o,none⟩) 4 c] w (ReadPost w B s F 1 (evN e))
 obtain ⟨t,l,g,day,L⟩:=s
 have hD:Dc w B t l g day L F:=h
 obtain ⟨evv,bkv,hX,hF,hF1,hF2⟩:=id hD
 have hFl:∀ x,F x→True:=fun _ _=>trivial
 have HN:Hid (∀ w',Below w.heap.size w w'→(∃ x,l.getLast? = some x∧aheadB x e = false)→ReadPost w B ⟨t,l,g,day,L⟩ F 1 (evN e) (.returned (.bool false)) w'):=fun w' hb ⟨x,hx,h0⟩ =>
  ⟨Keep.below hb,.inr ⟨by
   simp only [Sv.read,evN]
   rw [if_neg (fun h1=>by have:=h1.1 x hx; rw [h0] at this; cases this)],rfl⟩⟩
 have HA:Hid (∀ W,Below w.heap.size w W→(∀ x,l.getLast? = some x→aheadB x e = true)→Calls Tryz.prog 57 #[.pointer (some ⟨B,0,none⟩),evc e] W fun x w'=>∃ q,x = .returned (.int .i64 q)∧ReadPost w B ⟨t,l,g,day,L⟩ F 1 (evN e) (.returned (.bool (q == 0))) w'):=fun W hb hah=>by
  have hDW:Dc W B t l g day L F:=hD.keep (S:=fun _=>False) (Keep.below hb) (fun _ _ x=>x)
  refine (refaddD W B t l g day L F hDW e).mono ?_
  rintro x w' ⟨rfl,hk,hx⟩
  have hkw:Keep F w w':=(Keep.below hb).trans ⟨hk.os,hk.tape,hk.output,hk.size,hk.block⟩
  refine ⟨_,rfl,hkw,?_⟩
  have hWd:∀ b,Wd F W w' b→Wd F w w' b:=fun b hb'=>by
   rcases hb' with h1 | ⟨h1,h2⟩
   ·exact .inl h1
   ·exact .inr ⟨Nat.le_trans hb.size h1,h2⟩
  rcases hx with ⟨h0,_⟩ | ⟨h0,h1⟩
  ·refine .inr ⟨by simp only [Sv.read,evN]; rw [if_neg (fun h1=>h0 h1.2)],?_⟩
   rw [show (addC t l e == 0) = false by simp [h0]]
  ·refine .inl ⟨⟨t,l ++ [e],g,day,L⟩,by simp only [Sv.read,evN]; rw [if_pos ⟨hah,h0⟩],?_,h1.mono hWd⟩
   rw [h0]
   rfl
 have HD:Hid (∀ W,Below w.heap.size w W→W.cell? ⟨B,6,none⟩ = some evv):=fun W hb=>(At.keep (S:=fun _=>False) (v:=.int .i64 t.st) hX.ln (Keep.below hb) (fun x=>x)).cell 6 rfl
 obtain ⟨pa,ecap,rfl⟩:=own_slice hX.ev
 have hl40:=hX.le
 have HEv:Hid (∀ x,l.getLast? = some x→∃ b,pa = some ⟨b,0,none⟩∧∀ W,Below w.heap.size w W→W.rangeAt b ((l.length - 1)*4) (evl x)):=fun x hx=>by
  obtain ⟨T,hn | ⟨gr,capr,cur,he,hgr⟩⟩:=id hX.ev
  ·obtain ⟨_,hn⟩:=hn
   have:=List.length_eq_zero_iff.1 hn
   subst this
   cases hx
  ·injection he with e1 _ e3
   subst e1 e3
   have hgl:=(own_base hX.ev (b:=gr) rfl).2
   rw [List.getLast?_eq_getElem?] at hx
   have hr:=(own_range hX.ev rfl (l.length - 1) x hx).1
   exact ⟨gr,rfl,fun W hb j u hu=>(World.cell?_of_block (w:=w) (a:=⟨gr,(l.length - 1)*4+j,none⟩) (hb.block gr hgl)).trans (hr j u hu)⟩
 have HS0:Hid (∀ W,Below w.heap.size w W→∀ j (hj:j < (evN e).length),W.cell? ⟨b,o+j,none⟩ = some (.int .i64 (evN e)[j])):=fun W hb j hj=>(World.cell?_of_block (w:=w) (a:=⟨b,o+j,none⟩) (hb.block b hbl)).trans (hc j hj)
 clear h hv hc hX hF hF1 hF2 hD hFl hbl
 go_enter Tryz.func72,Tryz.ntmps72
 go_upto_region 3 with fail
 have hb0:Below w.heap.size w w.drew:=(Below.refl _ _).drew
 refine wp_region_held_drew (S:=fun wx=>∀ j (hj:j < (evN e).length),wx.cell? ⟨b,o+j,none⟩ = some (.int .i64 (evN e)[j])) (by kernel_rfl) (HS0.out _ hb0) (fun hHeld=>?_)
 generalize w.drew = U0 at *
 refine tkk 0 (.slice (some ⟨b,o,none⟩) 4 c) rfl ?_
 simp only [uP]
 refine tka 1 (.pointer (some ⟨b,o,none⟩)) rfl ?_
 simp only [uP]
 refine tkh 2 (.int .i64 e.d) rfl (fun wx hSw=>by (have hc:=(show wx.cell? ⟨b,o,none⟩ = some (.int .i64 e.d) from hSw 0 (by show 0 < 4; decide)); go_simp)) ?_
 simp only [uP]
 refine tkk 3 (.slice (some ⟨b,o,none⟩) 4 c) rfl ?_
 simp only [uP]
 refine tka 4 (.pointer (some ⟨b,o+1,none⟩)) rfl ?_
 simp only [uP]
 refine tkh 5 (.int .i64 e.k) rfl (fun wx hSw=>by (have hc:=(show wx.cell? ⟨b,o+1,none⟩ = some (.int .i64 e.k) from hSw 1 (by show 1 < 4; decide)); go_simp)) ?_
 simp only [uP]
 refine tkk 6 (.slice (some ⟨b,o,none⟩) 4 c) rfl ?_
 simp only [uP]
 refine tka 7 (.pointer (some ⟨b,o+2,none⟩)) rfl ?_
 simp only [uP]
 refine tkh 8 (.int .i64 e.s) rfl (fun wx hSw=>by (have hc:=(show wx.cell? ⟨b,o+2,none⟩ = some (.int .i64 e.s) from hSw 2 (by show 2 < 4; decide)); go_simp)) ?_
 simp only [uP]
 refine tkk 9 (.slice (some ⟨b,o,none⟩) 4 c) rfl ?_
 simp only [uP]
 refine tka 10 (.pointer (some ⟨b,o+3,none⟩)) rfl ?_
 simp only [uP]
 refine tkh 11 (.int .i64 e.a) rfl (fun wx hSw=>by (have hc:=(show wx.cell? ⟨b,o+3,none⟩ = some (.int .i64 e.a) from hSw 3 (by show 3 < 4; decide)); go_simp)) ?_
 simp only [uP]
 refine tkh 12 (.agg (evl e).toArray) rfl (fun wx hSw=>by (unfold evl; go_simp)) ?_
 simp only [uP]
 have hb1:Below w.heap.size w (U0.alloc (.cells #[.int .i64 0,.int .i64 0,.int .i64 0,.int .i64 0] 50)):=hb0.alloc hb0.size _
 have hA1:At (U0.alloc (.cells #[.int .i64 0,.int .i64 0,.int .i64 0,.int .i64 0] 50)) U0.heap.size [.int .i64 0,.int .i64 0,.int .i64 0,.int .i64 0]:=At.alloc U0 _ _
 refine rdy 13 rfl (fun K hK=>?_)
 rw [if_pos (by rfl)]
 refine wp_valD (.pointer (some ⟨U0.heap.size,0,none⟩)) (U0.alloc (.cells #[.int .i64 0,.int .i64 0,.int .i64 0,.int .i64 0] 50)) (by kernel_rfl) ?_
 refine hK.out _ _ (HS0.out _ hb1) (fun hHeld2=>?_)
 clear hK K hHeld
 try simp only [uP]
 have hNl:w.heap.size≤U0.heap.size:=hb0.size
 generalize (U0.alloc (.cells #[.int .i64 0,.int .i64 0,.int .i64 0,.int .i64 0] 50)) = U1 at *
 generalize U0.heap.size = N1 at *
 have hb2:Below w.heap.size w (U1.setCells N1 0 (evl e)):=Below.setCells' hNl (evl e) 0 U1 hb1
 have hA2:At (U1.setCells N1 0 (evl e)) N1 (evl e):=At.setCells_same hA1 rfl
 refine rdy 14 rfl (fun K hK=>?_)
 rw [if_pos (by rfl)]
 refine wp_store_mid 50 (.tmp 7) (.tmp 25) rfl N1 0 (evl e).toArray rfl rfl (hA1.there 4 rfl) (by kernel_rfl) (by kernel_rfl) ?_
 rw [List.toList_toArray]
 refine hK.out _ _ (HS0.out _ hb2) (fun _=>?_)
 clear hK K hHeld2 hA1 hb1 hb0 HS0
 refine wpAnyH_done (by kernel_rfl) ?_ _
 generalize U1.setCells N1 0 (evl e) = W1 at *
 have c6:W1.cell? ⟨B,6,none⟩ = some (.slice pa l.length ecap):=HD.out _ hb2
 have HW1:=hid hb2
 have HA2:=hid hA2
 have HB:Hid (∀ wx,Below W1.heap.size W1 wx→Below w.heap.size w wx):=fun wx hx=>HW1.out.trans (hx.mono HW1.out.size)
 have HN1:Hid (∀ wx,Below W1.heap.size W1 wx→At wx N1 (evl e)):=fun wx hx=>At.keep (S:=fun _=>False) (v:=.int .i64 e.d) HA2.out (Keep.below hx) (fun x=>x)
 clear hb2 hA2
 have z1:IntKind.i64.wrap ((l.length:Int) - 1) = (l.length:Int) - 1:=by rw [IntKind.wrap_i64]; omega
 cases hl:l.getLast? with
 | none =>
  have hn:l = []:=List.getLast?_eq_none_iff.1 hl
  have z2:¬ (0:Int)≤(l.length:Int) - 1:=by rw [hn]; decide
  have hr:W1.rangeAt N1 0 (evl e):=HA2.out.range
  have hAdd:=HA.out W1 HW1.out (fun x hx=>by rw [hl] at hx; cases hx)
  clear hl
  clear hn
  go_upto_region 9 with fail
  refine wp_region_lit ?_
  refine wpList_val (.pointer (some ⟨B,0,none⟩)) W1 rfl rfl ?_
  simp only [uP]
  refine wpList_load_mid rfl 50 (.tmp 7) rfl N1 0 rfl (evl e) _ hr Tryz.underlying50 rfl (by kernel_rfl) ?_
  simp only [uP]
  clear hr
  go_wp2_with fail
  refine hAdd.mono ?_
  rintro y w' ⟨q,rfl,hp⟩
  have HP:=hid hp
  clear hp hAdd
  go_wp2
  go_ret
  exact HP.out
 | some x =>
  have hne:0 < l.length:=by
   cases l with
   | nil=>cases hl
   | cons _ _=>simp
  have z2:(0:Int)≤(l.length:Int) - 1:=by omega
  obtain ⟨be,rfl,hre⟩:=HEv.out x hl
  have HRe:=hid hre
  clear hre HEv
  have HL:=hid hl
  clear hl
  have HCa:Hid (∀ W,Calls Tryz.prog 100 #[evc x,evc e] W fun z w'=>z = .returned (.bool (aheadB x e))∧Below W.heap.size W w'):=fun W=>ahead_any x e W
  obtain ⟨n1,hn1⟩:∃ n1,l.length = n1+1:=⟨l.length - 1,by omega⟩
  have e1:l.length - 1 = n1:=by omega
  rw [e1] at HRe
  have e2:(l.length:Int) - 1 = (n1:Int):=by omega
  clear z1 z2
  have z1:IntKind.i64.wrap (n1:Int) = (n1:Int):=by rw [IntKind.wrap_i64]; omega
  have z2:(0:Int)≤(n1:Int):=by omega
  have z3:(n1:Int) < (n1:Int)+1:=by omega
  rw [hn1] at HD c6
  clear e1 e2 hne hn1
  go_upto_region 6 with fail
  refine wp_region_held_drew (S:=fun wx=>Below W1.heap.size W1 wx) (by kernel_rfl) (Below.refl _ _).drew (fun hHeld=>?_)
  refine tkk 0 (.pointer (some ⟨B,0,none⟩)) rfl ?_
  simp only [uP]
  refine tka 1 (.pointer (some ⟨B,0,none⟩)) rfl ?_
  simp only [uP]
  refine tka 2 (.pointer (some ⟨B,6,none⟩)) rfl ?_
  simp only [uP]
  refine tkh 3 (.slice (some ⟨be,0,none⟩) (n1+1) ecap) rfl (fun wx hSw=>by (have hc:=HD.out wx (HB.out wx hSw); go_simp)) ?_
  simp only [uP]
  refine tkg 4 (.int .i64 (n1:Int)) rfl ?_
  simp only [uP]
  refine tkg 5 (.pointer (some ⟨be,n1*4,none⟩)) rfl ?_
  simp only [uP]
  refine wpAnyH_take (i:=6) (v:=(.agg (evl x).toArray)) rfl (by kernel_rfl) (by kernel_rfl) (by kernel_rfl) (fun _ _ _ h=>h) (yieldsIf_load_mid (by rfl) 50 (.tmp 39) rfl _ _ rfl _ _ (fun _ h=>HRe.out _ (HB.out _ h)) Tryz.underlying50 rfl (by kernel_rfl)) (by assumption) ?_
  simp only [uP]
  refine wpAnyH_take (i:=7) (v:=(.agg (evl e).toArray)) rfl (by kernel_rfl) (by kernel_rfl) (by kernel_rfl) (fun _ _ _ h=>h) (yieldsIf_load_mid (by rfl) 50 (.tmp 7) rfl _ _ rfl _ _ (fun _ h=>(HN1.out _ h).range) Tryz.underlying50 rfl (by kernel_rfl)) (by assumption) ?_
  simp only [uP]
  refine rdy 8 rfl (fun K hK=>?_)
  generalize W1.drew = U2 at *
  have hC:=HCa.out U2
  go_simp
  refine hC.mono ?_
  rintro z W2 ⟨rfl,hb3⟩
  go_wp2_with fail
  have hb4:Below W1.heap.size W1 W2:=hHeld.trans (hb3.mono hHeld.size)
  refine hK.out _ _ hb4 (fun _=>?_)
  clear hK K hC hb3 hHeld c6
  try simp only [uP]
  refine tkk 9 (.bool (aheadB x e)) rfl ?_
  simp only [uP]
  refine wpAnyH_done (by kernel_rfl) ?_ _
  have HW2:Hid (Below w.heap.size w W2):=HB.out _ hb4
  have hr:W2.rangeAt N1 0 (evl e):=(HN1.out _ hb4).range
  clear hb4
  cases hab:aheadB x e with
  | false =>
   have HE:Hid (ReadPost w B ⟨t,l,g,day,L⟩ F 1 (evN e) (.returned (.bool false)) W2):=HN.out _ HW2.out ⟨x,HL.out,hab⟩
   clear hr
   go_wp2
   go_ret
   exact HE.out
  | true =>
   have hAdd:=HA.out W2 HW2.out (fun y hy=>by rw [HL.out] at hy; cases hy; exact hab)
   clear hab
   go_upto_region 9 with fail
   refine wp_region_lit ?_
   refine wpList_val (.pointer (some ⟨B,0,none⟩)) W2 rfl rfl ?_
   simp only [uP]
   refine wpList_load_mid rfl 50 (.tmp 7) rfl N1 0 rfl (evl e) _ hr Tryz.underlying50 rfl (by kernel_rfl) ?_
   simp only [uP]
   clear hr
   go_wp2_with fail
   refine hAdd.mono ?_
   rintro y w' ⟨q,rfl,hp⟩
   have HP:=hid hp
   clear hp hAdd
   go_wp2
   go_ret
   exact HP.out
end Go.Proofs.YtanndhoimpnhpaaGreatDoor
namespace Go.Proofs.YtanndhoimpnhpaaGreatDoor.Ln
open Cal
def aT : Terms := ⟨36524, 36500000, 10000, 0, 1, 15⟩
end Go.Proofs.YtanndhoimpnhpaaGreatDoor.Ln
namespace Go.Proofs.YtanndhoimpnhpaaGreatDoor
open Go.RowKit Cal
theorem Keep.fresh {F:Nat→Prop} {w w1 w2:World} (h1:Below w.heap.size w w1) (h2:Keep F w1 w2) (hF:∀ b,F b→w.heap.size≤b):Below w.heap.size w w2 :=
 ⟨h2.os.trans h1.os,h2.tape.trans h1.tape,h2.output.trans h1.output,Nat.le_trans h1.size h2.size,fun k hk=>(h2.block k (Nat.lt_of_lt_of_le hk h1.size) (fun x=>by have:=hF k x; omega)).trans (h1.block k hk)⟩
theorem Mv.below {w w1:World} (h:Mv w) (hb:Below w.heap.size w w1):Mv w1:=h.keep (S:=fun _=>False) (Keep.below hb) (fun x=>x)
theorem Mv.lt {w:World} (h:Mv w):1 < w.heap.size:=World.block_lt_of_cell? _ _ (h 0 _ rfl)
theorem Wd.fresh {w w1:World} {b:Nat} (h:Wd (fun _=>False) w w1 b):w.heap.size≤b:=h.elim (fun x=>x.elim) (fun x=>x.1)
end Go.Proofs.YtanndhoimpnhpaaGreatDoor
namespace Go.Proofs.YtanndhoimpnhpaaGreatDoor
open Go.ChangeShapes Go.WideShapes Go.ChangeAt Go.RowKit Go.WideMaps Go.Maps Lg Cal
def LoadPost (w:World) (s:List UInt8) (e:Ending) (w':World):Prop :=
 Below w.heap.size w w'∧((∃ sv B,told s = some sv∧e = .returned (.tuple #[.pointer (some ⟨B,0,none⟩),.int .i64 0])∧IsD w' B sv (Wd (fun _=>False) w w'))∨(told s = none∧e = .returned (.tuple #[.pointer none,.int .i64 10])))
def LdP (w2:World) (s:List UInt8) (v4:Value) (j:Int) (σ:Option Sv) (f:Nat) (wr:World):Prop :=
 Below w2.heap.size w2 wr∧LdT s f j σ∧-1≤j∧j≤5∧((σ = none∧j = -1∧v4 = .pointer none)∨∃ sv B,σ = some sv∧0≤j∧v4 = .pointer (some ⟨B,0,none⟩)∧IsD wr B sv (Wd (fun _=>False) w2 wr)∧sv.L.length≤f∧(j < 4→sv.L = []))
def LdI (w2:World) (s:List UInt8) (v4 v7 v8 v9:Value) (wr:World):Prop :=
 ∃ (i f:Nat) (j:Int) (σ:Option Sv),v9 = .int .i64 i∧v8 = .int .i64 f∧v7 = .int .i64 j∧f≤i∧i≤s.length∧NoL ((s.drop f).take (i - f))∧LdP w2 s v4 j σ f wr
def sameK (j:Int) (k:Nat):Bool:=((k:Int) == 1 || (k:Int) == 4) && (k:Int) == j
def nextK (j:Int) (k:Nat):Bool:=(k:Int) == j+1 || ((k:Int) == j+2 && ((k:Int) == 2 || (k:Int) == 5))
theorem nextOk_eq (j:Int) (k:Nat):nextOk j k = (sameK j k || nextK j k):=by
 unfold nextOk sameK nextK
 rw [Bool.eq_iff_iff]
 simp only [decide_eq_true_eq,Bool.or_eq_true,Bool.and_eq_true,beq_iff_eq]
 omega
theorem read_more {sv s':Sv} {k:Nat} {ns:List Int} (h:sv.read k ns = some s'):s'.L.length≤sv.L.length+1∧(k < 4→s'.L = sv.L):=by
 unfold Sv.read at h
 split at h
 ·split at h
  ·injection h with h; subst h; exact ⟨Nat.le_succ _,fun _=>rfl⟩
  ·cases h
 ·split at h
  ·injection h with h; subst h; exact ⟨Nat.le_succ _,fun _=>rfl⟩
  ·cases h
 ·injection h with h; subst h; exact ⟨Nat.le_succ _,fun _=>rfl⟩
 ·split at h
  ·injection h with h; subst h; exact ⟨by simp,fun x=>absurd x (by omega)⟩
  ·cases h
 ·injection h with h; subst h; exact ⟨Nat.le_succ _,fun _=>rfl⟩
 ·cases h
theorem refread_any (w:World) (B:Nat) (sv:Sv) (v:Value) (k:Nat) (ns:List Int) (F:Nat→Prop) (h:IsD w B sv F) (hk0:1≤k) (hk1:k < 6) (hn:ns.length = cnk k) (hL:k < 4→sv.L = []) (hL2:sv.L.length≤4000000000000) (hv:IsV w v ns) (hd:∀ b,v.ownBlock = some b→¬ F b) :
  Calls Tryz.prog 72 #[.pointer (some ⟨B,0,none⟩),.int .i64 (k:Int),v] w (ReadPost w B sv F k ns):=by
 have hF:F B:=by obtain ⟨_,_,_,hF,_⟩:=id h; exact hF
 have hd':∀ b,v.ownBlock = some b→¬ b = B:=fun b hb e=>hd b hb (by rw [e]; exact hF)
 match k,hk0,hk1 with
 | 1,_,_ =>
  match ns,hn with
  | [a,b,c,d],_=>exact refread1 w B sv v ⟨a,b,c,d⟩ F h hv
 | 2,_,_ =>
  match ns,hn with
  | [a],_=>exact refread2 w B sv v a F h (hL (by omega)) hv hd'
 | 3,_,_ =>
  match ns,hn with
  | [a0,a1,a2,a3,a4,a5,a6],_=>exact refread3 w B sv v a0 a1 a2 a3 a4 a5 a6 F h hv hd'
 | 4,_,_ =>
  match ns,hn with
  | [a,b,c],_=>exact refread4 w B sv v a b c F h hL2 hv hd
 | 5,_,_ =>
  match ns,hn with
  | [],_=>exact refread5 w B sv v F h
theorem six_of {l:List Int} (h:l.length = 6):∃ a0 a1 a2 a3 a4 a5,l = [a0,a1,a2,a3,a4,a5]:=by
 match l,h with
 | [a0,a1,a2,a3,a4,a5],_=>exact ⟨a0,a1,a2,a3,a4,a5,rfl⟩
set_option maxRecDepth 10000 in
set_option maxHeartbeats 8000000 in
theorem refload_any (w:World) (s:List UInt8) (hs:s.length≤1000000000000) :
  Calls Tryz.prog 31 #[.string (bs s)] w (LoadPost w s):=by
 have a1:At (w.alloc (.cells #[.string ⟨#[108,111,97,110]⟩,.string ⟨#[101,118,101,110,116]⟩,.string ⟨#[97,116]⟩,.string ⟨#[110,111,119]⟩,.string ⟨#[101,110,116,114,121]⟩,.string ⟨#[101,110,100]⟩] 9)) w.heap.size [.string ⟨#[108,111,97,110]⟩,.string ⟨#[101,118,101,110,116]⟩,.string ⟨#[97,116]⟩,.string ⟨#[110,111,119]⟩,.string ⟨#[101,110,116,114,121]⟩,.string ⟨#[101,110,100]⟩]:=At.alloc w [.string ⟨#[108,111,97,110]⟩,.string ⟨#[101,118,101,110,116]⟩,.string ⟨#[97,116]⟩,.string ⟨#[110,111,119]⟩,.string ⟨#[101,110,116,114,121]⟩,.string ⟨#[101,110,100]⟩] _
 have a2:At ((w.alloc (.cells #[.string ⟨#[108,111,97,110]⟩,.string ⟨#[101,118,101,110,116]⟩,.string ⟨#[97,116]⟩,.string ⟨#[110,111,119]⟩,.string ⟨#[101,110,116,114,121]⟩,.string ⟨#[101,110,100]⟩] 9)).alloc (.cells #[.int .i64 6,.int .i64 4,.int .i64 1,.int .i64 7,.int .i64 3,.int .i64 0] 3)) (w.heap.size+1) [.int .i64 6,.int .i64 4,.int .i64 1,.int .i64 7,.int .i64 3,.int .i64 0]:=At.allocs (w.alloc (.cells #[.string ⟨#[108,111,97,110]⟩,.string ⟨#[101,118,101,110,116]⟩,.string ⟨#[97,116]⟩,.string ⟨#[110,111,119]⟩,.string ⟨#[101,110,116,114,121]⟩,.string ⟨#[101,110,100]⟩] 9)) [.int .i64 6,.int .i64 4,.int .i64 1,.int .i64 7,.int .i64 3,.int .i64 0] _ (by simp)
 have b1:Below w.heap.size w (w.alloc (.cells #[.string ⟨#[108,111,97,110]⟩,.string ⟨#[101,118,101,110,116]⟩,.string ⟨#[97,116]⟩,.string ⟨#[110,111,119]⟩,.string ⟨#[101,110,116,114,121]⟩,.string ⟨#[101,110,100]⟩] 9)):=(Below.refl _ _).alloc (Nat.le_refl _) _
 have b2:Below (w.alloc (.cells #[.string ⟨#[108,111,97,110]⟩,.string ⟨#[101,118,101,110,116]⟩,.string ⟨#[97,116]⟩,.string ⟨#[110,111,119]⟩,.string ⟨#[101,110,116,114,121]⟩,.string ⟨#[101,110,100]⟩] 9)).heap.size (w.alloc (.cells #[.string ⟨#[108,111,97,110]⟩,.string ⟨#[101,118,101,110,116]⟩,.string ⟨#[97,116]⟩,.string ⟨#[110,111,119]⟩,.string ⟨#[101,110,116,114,121]⟩,.string ⟨#[101,110,100]⟩] 9)) ((w.alloc (.cells #[.string ⟨#[108,111,97,110]⟩,.string ⟨#[101,118,101,110,116]⟩,.string ⟨#[97,116]⟩,.string ⟨#[110,111,119]⟩,.string ⟨#[101,110,116,114,121]⟩,.string ⟨#[101,110,100]⟩] 9)).alloc (.cells #[.int .i64 6,.int .i64 4,.int .i64 1,.int .i64 7,.int .i64 3,.int .i64 0] 3)):=(Below.refl _ _).alloc (Nat.le_refl _) _
 have b3:Below w.heap.size w ((w.alloc (.cells #[.string ⟨#[108,111,97,110]⟩,.string ⟨#[101,118,101,110,116]⟩,.string ⟨#[97,116]⟩,.string ⟨#[110,111,119]⟩,.string ⟨#[101,110,116,114,121]⟩,.string ⟨#[101,110,100]⟩] 9)).alloc (.cells #[.int .i64 6,.int .i64 4,.int .i64 1,.int .i64 7,.int .i64 3,.int .i64 0] 3)):=b1.trans (b2.mono b1.size)
 have a3:At ((w.alloc (.cells #[.string ⟨#[108,111,97,110]⟩,.string ⟨#[101,118,101,110,116]⟩,.string ⟨#[97,116]⟩,.string ⟨#[110,111,119]⟩,.string ⟨#[101,110,116,114,121]⟩,.string ⟨#[101,110,100]⟩] 9)).alloc (.cells #[.int .i64 6,.int .i64 4,.int .i64 1,.int .i64 7,.int .i64 3,.int .i64 0] 3)) w.heap.size [.string ⟨#[108,111,97,110]⟩,.string ⟨#[101,118,101,110,116]⟩,.string ⟨#[97,116]⟩,.string ⟨#[110,111,119]⟩,.string ⟨#[101,110,116,114,121]⟩,.string ⟨#[101,110,100]⟩]:=At.keep (S:=fun _=>False) a1 (Keep.below b2) (fun x=>x)
 obtain ⟨S,hS⟩:∃ S,S = bs s:=⟨_,rfl⟩
 have HSz:Hid (S.size = s.length):=by show _ = _; rw [hS,bs_size]
 have HEx:Hid (∀ a b,S.extract a b = bs ((s.drop a).take (b - a))):=fun a b=>by rw [hS,bs_extract]
 have HGet:Hid (∀ i (h:i < s.length) (h2:i < S.size),S[i] = s[i]):=fun i h h2=>by subst hS; exact bs_get _ i h _
 have zS:S.size≤1000000000000:=by rw [hS,bs_size]; exact hs
 rw [← hS]
 clear hS
 go_enter Tryz.func31,Tryz.ntmps31
 go_wp2
 have HW2:=hid b3
 clear b1 b2 a1 b3
 generalize ((w.alloc (.cells #[.string ⟨#[108,111,97,110]⟩,.string ⟨#[101,118,101,110,116]⟩,.string ⟨#[97,116]⟩,.string ⟨#[110,111,119]⟩,.string ⟨#[101,110,116,114,121]⟩,.string ⟨#[101,110,100]⟩] 9)).alloc (.cells #[.int .i64 6,.int .i64 4,.int .i64 1,.int .i64 7,.int .i64 3,.int .i64 0] 3)) = w2 at *
 generalize w.heap.size = X at a2 a3
 have HX:Hid (∀ wx,Below w2.heap.size w2 wx→∀ k,k < 6→wx.cell? ⟨X,k,none⟩ = some (.string (bs (wdk k)))):=fun wx hx k hk=>by
  have hA:At wx X [.string ⟨#[108,111,97,110]⟩,.string ⟨#[101,118,101,110,116]⟩,.string ⟨#[97,116]⟩,.string ⟨#[110,111,119]⟩,.string ⟨#[101,110,116,114,121]⟩,.string ⟨#[101,110,100]⟩]:=At.keep (S:=fun _=>False) a3 (Keep.below hx) (fun x=>x)
  match k,hk with
  | 0,_=>exact hA.cell 0 rfl
  | 1,_=>exact hA.cell 1 rfl
  | 2,_=>exact hA.cell 2 rfl
  | 3,_=>exact hA.cell 3 rfl
  | 4,_=>exact hA.cell 4 rfl
  | 5,_=>exact hA.cell 5 rfl
 have HY:Hid (∀ wx,Below w2.heap.size w2 wx→∀ k,k < 6→wx.cell? ⟨X+1,k,none⟩ = some (.int .i64 (cnk k:Nat))):=fun wx hx k hk=>by
  have hA:At wx (X+1) [.int .i64 6,.int .i64 4,.int .i64 1,.int .i64 7,.int .i64 3,.int .i64 0]:=At.keep (S:=fun _=>False) a2 (Keep.below hx) (fun x=>x)
  match k,hk with
  | 0,_=>exact hA.cell 0 rfl
  | 1,_=>exact hA.cell 1 rfl
  | 2,_=>exact hA.cell 2 rfl
  | 3,_=>exact hA.cell 3 rfl
  | 4,_=>exact hA.cell 4 rfl
  | 5,_=>exact hA.cell 5 rfl
 clear a2 a3
 have HBad:Hid (∀ wx,Below w2.heap.size w2 wx→told s = none→LoadPost w s (.returned (.tuple #[.pointer none,.int .i64 10])) wx):=fun wx hx hn=>⟨HW2.out.trans (hx.mono HW2.out.size),.inr ⟨hn,rfl⟩⟩
 go_loopw [4,7,8,9,10,11,12,13,14,15,16] (fun s4 s7 s8 s9 _ _ _ _ _ _ _ wr=>LdI w2 s s4 s7 s8 s9 wr) (fun _ _ _ s9 _ _ _ _ _ _ _ _=>s.length - (intOf s9).toNat)
 case atStart=>exact ⟨0,0,-1,none,rfl,rfl,rfl,Nat.le_refl _,Nat.zero_le _,NoL.zero s 0,Below.refl _ _,LdT.start s,by decide,by decide,.inl ⟨rfl,rfl,rfl⟩⟩
 case round =>
  obtain ⟨i,f,j,σ,rfl,rfl,rfl,hfi,hin,hnl,hp⟩:=hrel
  have HNl:=hid hnl
  have HP:=hid hp
  have hj0:-1≤j:=hp.2.2.1
  have hj1:j≤5:=hp.2.2.2.1
  clear hnl hp
  by_cases hlt:i < s.length
  ·have zi:(i:Int) < (S.size:Int):=by rw [HSz.out]; omega
   have zi2:i < S.size:=by rw [HSz.out]; exact hlt
   have hg:S[i] = s[i]:=HGet.out i hlt zi2
   have HC:Hid (∀ c,s[i] = c→S[i] = c):=fun c hc=>hg.trans hc
   by_cases hc:s[i] = 10
   ·have zc:((S[i].toNat:Int) != 10) = false:=by rw [hg,hc]; rfl
    have HCc:=hid hc
    clear hg hc HC
    obtain ⟨word,P,hline,hw,hPb⟩:=cut_blanks ((s.drop f).take (i - f))
    have HPa:Calls Tryz.prog 71 #[.string (S.extract f i)] wr (PartsPost wr word P):=by
     rw [HEx.out,hline]
     exact parts_any wr word P hw hPb (by rw [← hline,List.length_take,List.length_drop]; omega)
    have HLine:Hid ((s.drop f).take (i - f) = word ++ bj P∧NoB word∧∀ p∈P,NoB p):=⟨hline,hw,hPb⟩
    clear hline hw hPb
    have zf:(f:Int)≤(i:Int):=by omega
    have zi3:(i:Int)≤(S.size:Int):=by omega
    go_wp2_with fail
    refine HPa.mono ?_
    rintro e w1 ⟨hb1,hor⟩
    clear HPa
    obtain ⟨v,ok,rfl,HOr⟩:∃ v ok,e = .returned (.tuple #[.string (bs word),v,.bool ok])∧Hid ((ok = true∧∃ ns,Says P ns∧IsV w1 v ns∧∀ b,v.ownBlock = some b→wr.heap.size≤b)∨(ok = false∧¬ ∃ ns,Says P ns)):=by
     rcases hor with ⟨ns,v,h1,rfl,h2,h3⟩ | ⟨h1,v,rfl⟩
     ·exact ⟨v,true,rfl,.inl ⟨rfl,ns,h1,h2,h3⟩⟩
     ·exact ⟨v,false,rfl,.inr ⟨rfl,h1⟩⟩
    have HB1:Hid (Below w2.heap.size w2 w1):=HP.out.1.trans (hb1.mono HP.out.1.size)
    have HBr:=hid hb1
    clear hor hb1
    obtain ⟨Wo,hWo⟩:∃ Wo,Wo = bs word:=⟨_,rfl⟩
    have HWo:Hid (∀ l,(bs l = Wo ↔ l = word)):=fun l=>⟨fun h=>by rw [hWo] at h; have:=bs_eq h; rwa [bs_list] at this,fun h=>by rw [hWo,h]⟩
    rw [← hWo]
    clear hWo
    go_upto_block 2 with fail
    go_cut [13] from 19 to 137 (fun s13 wx=>∃ k:Nat,k≤6∧s13 = .int .i64 k∧(k < 6→wdk k = word)∧(∀ x,x < k→¬ wdk x = word)∧w1 = wx)
    case first =>
     go_wp2_with fail
     go_loop [13] (fun s13=>∃ k:Nat,k≤6∧s13 = .int .i64 k∧∀ x,x < k→¬ wdk x = word) (fun s13=>6 - (intOf s13).toNat)
     case atStart=>exact ⟨0,by omega,rfl,fun x hx=>absurd hx (Nat.not_lt_zero x)⟩
     case round =>
      obtain ⟨k,hk,rfl,hkx⟩:=hrel
      have HKx:Hid (∀ x,x < k→¬ wdk x = word):=hkx
      clear hkx
      by_cases hk6:k < 6
      ·have zk:(k:Int) < 6:=by omega
       have ck:w1.cell? ⟨X,k,none⟩ = some (.string (bs (wdk k))):=HX.out w1 HB1.out k hk6
       have hiff:=HWo.out (wdk k)
       by_cases hm:wdk k = word
       ·have HM:Hid (wdk k = word):=hm
        have hq:((bs (wdk k)).toList == Wo.toList) = true:=by rw [ba_beq]; exact decide_eq_true (hiff.2 hm)
        have hq2:((bs (wdk k)).toList != Wo.toList) = false:=by rw [bne,hq]; rfl
        clear hiff hm
        generalize bs (wdk k) = Ak at *
        go_wp2_with fail
        go_meet
        case rel=>exact ⟨k,hk,rfl,fun _=>HM.out,HKx.out,rfl⟩
       ·have HM:Hid (¬ wdk k = word):=hm
        have hq:((bs (wdk k)).toList == Wo.toList) = false:=by rw [ba_beq]; exact decide_eq_false (fun x=>hm (hiff.1 x))
        have hq2:((bs (wdk k)).toList != Wo.toList) = true:=by rw [bne,hq]; rfl
        clear hiff hm
        generalize bs (wdk k) = Ak at *
        go_wp2_with fail
        exact ⟨⟨k+1,hk6,rfl,fun x hx=>by
         rcases Nat.lt_or_ge x k with h | h
         ·exact HKx.out x h
         ·obtain rfl:x = k:=by omega
          exact HM.out⟩,by simp [intOf]; omega⟩
      ·obtain rfl:k = 6:=by omega
       go_wp2_with fail
       go_meet
       case rel=>exact ⟨6,Nat.le_refl _,rfl,fun h=>absurd h (Nat.lt_irrefl 6),HKx.out,rfl⟩
    case rest =>
     obtain ⟨k,hk,rfl,hkm,hkx,rfl⟩:=hcut
     have HKm:Hid (k < 6→wdk k = word):=hkm
     have HKx:Hid (∀ x,x < k→¬ wdk x = word):=hkx
     clear hkm hkx
     go_upto_region 15 with fail
     go_cut [14] from 19 to 137 (fun s14 wx=>s14 = .bool (sameK j k)∧w1 = wx)
     case first =>
      have HS:Hid (sameK j k = (((k:Int) == 1 || (k:Int) == 4) && (k:Int) == j)):=rfl
      obtain ⟨x1,e1⟩:∃ b,((k:Int) == 1) = b:=⟨_,rfl⟩
      obtain ⟨x2,e2⟩:∃ b,((k:Int) == 4) = b:=⟨_,rfl⟩
      obtain ⟨x3,e3⟩:∃ b,((k:Int) == j) = b:=⟨_,rfl⟩
      have HS:Hid (sameK j k = ((x1 || x2) && x3)):=by show _ = _; rw [HS.out,e1,e2,e3]
      cases x1 <;> cases x2 <;> cases x3 <;> (go_wp2_with fail; go_meet; case rel=>exact ⟨by rw [HS.out]; rfl,rfl⟩)
     case rest =>
      obtain ⟨rfl,rfl⟩:=hcut
      go_upto_region 16 with fail
      go_cut [15] from 19 to 137 (fun s15 wx=>s15 = .bool (nextK j k)∧w1 = wx)
      case first =>
       have y1:IntKind.i64.wrap (j+1) = j+1:=by rw [IntKind.wrap_i64]; omega
       have y2:IntKind.i64.wrap (j+2) = j+2:=by rw [IntKind.wrap_i64]; omega
       have HS:Hid (nextK j k = ((k:Int) == j+1 || ((k:Int) == j+2 && ((k:Int) == 2 || (k:Int) == 5)))):=rfl
       obtain ⟨x1,e1⟩:∃ b,((k:Int) == j+1) = b:=⟨_,rfl⟩
       obtain ⟨x2,e2⟩:∃ b,((k:Int) == j+2) = b:=⟨_,rfl⟩
       obtain ⟨x3,e3⟩:∃ b,((k:Int) == 2) = b:=⟨_,rfl⟩
       obtain ⟨x4,e4⟩:∃ b,((k:Int) == 5) = b:=⟨_,rfl⟩
       have HS:Hid (nextK j k = (x1 || (x2 && (x3 || x4)))):=by show _ = _; rw [HS.out,e1,e2,e3,e4]
       cases x1
       ·cases x2
        ·go_wp2_with fail
         go_meet
         case rel=>exact ⟨by rw [HS.out]; rfl,rfl⟩
        ·cases x3
         ·cases x4
          ·go_wp2_with fail
           go_meet
           case rel=>exact ⟨by rw [HS.out]; rfl,rfl⟩
          ·go_wp2_with fail
           go_meet
           case rel=>exact ⟨by rw [HS.out]; rfl,rfl⟩
         ·go_wp2_with fail
          go_meet
          case rel=>exact ⟨by rw [HS.out]; rfl,rfl⟩
       ·go_wp2_with fail
        go_meet
        case rel=>exact ⟨by rw [HS.out]; rfl,rfl⟩
      case rest =>
       obtain ⟨rfl,rfl⟩:=hcut
       go_upto_region 17 with fail
       go_cut [103] from 19 to 102 (fun s103 wx=>∃ bad:Bool,s103 = .bool bad∧w1 = wx∧Hid ((bad = true∧told s = none)∨(bad = false∧k < 6∧nextOk j k = true∧∃ ns,Says P ns∧IsV w1 v ns∧(∀ b,v.ownBlock = some b→wr.heap.size≤b)∧ns.length = cnk k)))
       case first =>
        have HNo:Hid ((∀ k ns,¬ Lnk k ns (word ++ bj P))→told s = none):=fun h=>HP.out.2.1.none hfi hlt HCc.out HNl.out (fun r=>by rw [HLine.out.1]; exact fin_bad h)
        rcases HOr.out with ⟨rfl,ns,hsay,hv,hvb⟩ | ⟨rfl,hno⟩
        ·by_cases hk6:k = 6
         ·have HE:Hid (told s = none):=HNo.out (no_word HLine.out.2.1 HLine.out.2.2 (fun x hx=>HKx.out x (by omega)))
          have e6:((k:Int) == 6) = true:=by rw [hk6]; rfl
          clear hk6
          go_wp2_with fail
          go_meet
          case rel=>exact ⟨true,rfl,rfl,.inl ⟨rfl,HE.out⟩⟩
         ·have hk6:k < 6:=by omega
          have e6:((k:Int) == 6) = false:=by rw [beq_eq_false_iff_ne]; omega
          have HSay:=hid hsay
          have HV:Hid (IsV w1 v ns∧∀ b,v.ownBlock = some b→wr.heap.size≤b):=⟨hv,hvb⟩
          obtain ⟨pv,cv,rfl,_,_⟩:=hv
          clear hsay hvb
          have ck:w1.cell? ⟨X+1,k,none⟩ = some (.int .i64 (cnk k:Nat)):=HY.out w1 HB1.out k hk6
          have zk0:(k:Int) < 6:=by omega
          have HN:Hid (nextOk j k = (sameK j k || nextK j k)):=nextOk_eq j k
          have HNot:Hid (nextOk j k = false→told s = none):=fun hn=>by
           by_cases hc:ns.length = cnk k
           ·exact HP.out.2.1.none hfi hlt HCc.out HNl.out (fun r=>by rw [HLine.out.1]; exact fin_not (lnk_of HSay.out hk6 (HKm.out hk6) hc) hn)
           ·exact HNo.out (no_count HLine.out.2.1 HLine.out.2.2 HSay.out hk6 (HKm.out hk6) hc)
          have HCt:Hid (¬ ns.length = cnk k→told s = none):=fun hc=>HNo.out (no_count HLine.out.2.1 HLine.out.2.2 HSay.out hk6 (HKm.out hk6) hc)
          have HK6:=hid hk6
          by_cases hc:ns.length = cnk k
          ·have ec:((ns.length:Int) != ((cnk k:Nat):Int)) = false:=by rw [hc]; simp
           have HC:=hid hc
           clear hc
           generalize sameK j k = sm at *
           generalize nextK j k = nx at *
           cases sm
           ·cases nx
            ·go_wp2_with fail
             go_meet
             case rel=>exact ⟨true,rfl,rfl,.inl ⟨rfl,HNot.out HN.out⟩⟩
            ·go_wp2_with fail
             go_meet
             case rel=>exact ⟨false,rfl,rfl,.inr ⟨rfl,HK6.out,HN.out,ns,HSay.out,HV.out.1,HV.out.2,HC.out⟩⟩
           ·go_wp2_with fail
            go_meet
            case rel=>exact ⟨false,rfl,rfl,.inr ⟨rfl,HK6.out,HN.out,ns,HSay.out,HV.out.1,HV.out.2,HC.out⟩⟩
          ·have ec:((ns.length:Int) != ((cnk k:Nat):Int)) = true:=by rw [bne_iff_ne]; omega
           have HE:Hid (told s = none):=HCt.out hc
           clear hc
           generalize sameK j k = sm at *
           generalize nextK j k = nx at *
           cases sm
           ·cases nx
            ·go_wp2_with fail
             go_meet
             case rel=>exact ⟨true,rfl,rfl,.inl ⟨rfl,HE.out⟩⟩
            ·go_wp2_with fail
             go_meet
             case rel=>exact ⟨true,rfl,rfl,.inl ⟨rfl,HE.out⟩⟩
           ·go_wp2_with fail
            go_meet
            case rel=>exact ⟨true,rfl,rfl,.inl ⟨rfl,HE.out⟩⟩
        ·have HE:Hid (told s = none):=HNo.out (no_says HLine.out.2.1 HLine.out.2.2 hno)
         clear hno
         go_wp2_with fail
         go_meet
         case rel=>exact ⟨true,rfl,rfl,.inl ⟨rfl,HE.out⟩⟩
       case rest =>
        obtain ⟨bad,rfl,rfl,HG⟩:=hcut
        rcases HG.out with ⟨rfl,hn⟩ | ⟨rfl,hk6,hnx,ns,hsay,hv,hvb,hcn⟩
        ·have HE:Hid (LoadPost w s (.returned (.tuple #[.pointer none,.int .i64 10])) w1):=HBad.out _ HB1.out hn
         clear hn
         go_wp2
         go_ret2
         exact HE.out
        ·clear HG HOr
         obtain rfl | hk1:k = 0∨1≤k:=by omega
         ·have hj:j = -1:=by
           unfold nextOk at hnx
           rw [decide_eq_true_eq] at hnx
           omega
          have hσ:σ = none:=by
           rcases HP.out.2.2.2.2 with ⟨h1,_⟩ | ⟨_,_,_,h0,_⟩
           ·exact h1
           ·omega
          subst hσ
          obtain ⟨a0,a1,a2,a3,a4,a5,rfl⟩:=six_of hcn
          have HLk:Hid (Lnk 0 [a0,a1,a2,a3,a4,a5] (word ++ bj P)):=lnk_of hsay (by omega) (HKm.out (by omega)) hcn
          have HNx:Hid (∀ sv,Sv.first [a0,a1,a2,a3,a4,a5] = some sv→LdT s (i+1) 0 (some sv)):=fun sv h=>HP.out.2.1.next hfi hlt HCc.out HNl.out (fun r=>by rw [HLine.out.1]; exact fin_step HLk.out hnx (by simpa [stepK] using h))
          have HNo:Hid (Sv.first [a0,a1,a2,a3,a4,a5] = none→told s = none):=fun h=>HP.out.2.1.none hfi hlt HCc.out HNl.out (fun r=>by rw [HLine.out.1]; exact fin_fail HLk.out (by simpa [stepK] using h))
          obtain ⟨b,o,c,rfl,hbl,hcl⟩:=hv.first
          have HCl:Hid (∀ wx,Below w1.heap.size w1 wx→∀ x (hx:x < [a0,a1,a2,a3,a4,a5].length),wx.cell? ⟨b,o+x,none⟩ = some (.int .i64 [a0,a1,a2,a3,a4,a5][x])):=fun wx hx x hx2=>(World.cell?_of_block (w:=w1) (a:=⟨b,o+x,none⟩) (hx.block b hbl)).trans (hcl x hx2)
          clear hv hvb hcn hsay hnx hcl hbl HLk hj
          go_upto_region 22 with fail
          refine wp_region_held_drew (S:=fun wx=>Below w1.heap.size w1 wx) (by kernel_rfl) (Below.refl _ _).drew (fun hHeld=>?_)
          refine tkk 0 (.slice (some ⟨b,o,none⟩) [a0,a1,a2,a3,a4,a5].length c) rfl ?_
          simp only [uP]
          refine tka 1 (.pointer (some ⟨b,o,none⟩)) rfl ?_
          simp only [uP]
          refine tkh 2 (.int .i64 a0) rfl (fun wx hSw=>by (have hc:=(show wx.cell? ⟨b,o,none⟩ = some (.int .i64 a0) from HCl.out wx hSw 0 (by simp)); go_simp)) ?_
          simp only [uP]
          refine tkk 3 (.slice (some ⟨b,o,none⟩) [a0,a1,a2,a3,a4,a5].length c) rfl ?_
          simp only [uP]
          refine tka 4 (.pointer (some ⟨b,o+1,none⟩)) rfl ?_
          simp only [uP]
          refine tkh 5 (.int .i64 a1) rfl (fun wx hSw=>by (have hc:=(show wx.cell? ⟨b,o+1,none⟩ = some (.int .i64 a1) from HCl.out wx hSw 1 (by simp)); go_simp)) ?_
          simp only [uP]
          refine tkk 6 (.slice (some ⟨b,o,none⟩) [a0,a1,a2,a3,a4,a5].length c) rfl ?_
          simp only [uP]
          refine tka 7 (.pointer (some ⟨b,o+2,none⟩)) rfl ?_
          simp only [uP]
          refine tkh 8 (.int .i64 a2) rfl (fun wx hSw=>by (have hc:=(show wx.cell? ⟨b,o+2,none⟩ = some (.int .i64 a2) from HCl.out wx hSw 2 (by simp)); go_simp)) ?_
          simp only [uP]
          refine tkk 9 (.slice (some ⟨b,o,none⟩) [a0,a1,a2,a3,a4,a5].length c) rfl ?_
          simp only [uP]
          refine tka 10 (.pointer (some ⟨b,o+3,none⟩)) rfl ?_
          simp only [uP]
          refine tkh 11 (.int .i64 a3) rfl (fun wx hSw=>by (have hc:=(show wx.cell? ⟨b,o+3,none⟩ = some (.int .i64 a3) from HCl.out wx hSw 3 (by simp)); go_simp)) ?_
          simp only [uP]
          refine tkk 12 (.slice (some ⟨b,o,none⟩) [a0,a1,a2,a3,a4,a5].length c) rfl ?_
          simp only [uP]
          refine tka 13 (.pointer (some ⟨b,o+4,none⟩)) rfl ?_
          simp only [uP]
          refine tkh 14 (.int .i64 a4) rfl (fun wx hSw=>by (have hc:=(show wx.cell? ⟨b,o+4,none⟩ = some (.int .i64 a4) from HCl.out wx hSw 4 (by simp)); go_simp)) ?_
          simp only [uP]
          refine tkk 15 (.slice (some ⟨b,o,none⟩) [a0,a1,a2,a3,a4,a5].length c) rfl ?_
          simp only [uP]
          refine tka 16 (.pointer (some ⟨b,o+5,none⟩)) rfl ?_
          simp only [uP]
          refine tkh 17 (.int .i64 a5) rfl (fun wx hSw=>by (have hc:=(show wx.cell? ⟨b,o+5,none⟩ = some (.int .i64 a5) from HCl.out wx hSw 5 (by simp)); go_simp)) ?_
          simp only [uP]
          refine tkg 18 (.agg #[.int .i64 a0,.int .i64 a1,.int .i64 a2,.int .i64 a3,.int .i64 a4,.int .i64 a5]) rfl ?_
          simp only [uP]
          refine rdy 19 rfl (fun K hK=>?_)
          generalize w1.drew = U2 at *
          cases hr:rtB ⟨a0,a1,a2,a3,a4,a5⟩ with
          | true =>
           have hO:=refopenD ⟨a0,a1,a2,a3,a4,a5⟩ U2 hr
           have hT:=HNx.out ⟨⟨a0,a1,a2,a3,a4,a5⟩,[],Ln.start ⟨a0,a1,a2,a3,a4,a5⟩,a0,[]⟩ (by simp only [Sv.first]; rw [if_pos hr])
           unfold tmV at hO
           dsimp only at hO
           go_simp
           refine hO.mono ?_
           rintro e W2 ⟨B,rfl,hD,hb3⟩
           go_wp2_with fail
           have hb4:Below w1.heap.size w1 W2:=hHeld.trans (hb3.mono hHeld.size)
           refine hK.out _ _ hb4 (fun _=>?_)
           have hb5:Below w2.heap.size w2 W2:=HB1.out.trans (hb4.mono HB1.out.size)
           have HI:Hid (LdI w2 s (.pointer (some ⟨B,0,none⟩)) (.int .i64 0) (.int .i64 ((i:Int)+1)) (.int .i64 ((i:Int)+1)) W2):=by
            refine ⟨i+1,i+1,0,_,rfl,rfl,rfl,Nat.le_refl _,hlt,NoL.zero s (i+1),hb5,hT,by decide,by decide,.inr ⟨_,B,rfl,by decide,rfl,Dc.mono hD (fun x hx=>?_),Nat.zero_le _,fun _=>rfl⟩⟩
            rcases hx with h | ⟨h1,h2⟩
            ·exact h.elim
            ·exact .inr ⟨Nat.le_trans (Nat.le_trans HB1.out.size hHeld.size) h1,h2⟩
           clear hK K hO hD hb3 hb4 hb5 hHeld hT hr
           try simp only [uP]
           refine tkk 20 (.tuple #[.pointer (some ⟨B,0,none⟩),.int .i64 0]) rfl ?_
           simp only [uP]
           refine tka 21 (.pointer (some ⟨B,0,none⟩)) rfl ?_
           simp only [uP]
           refine tka 22 (.int .i64 0) rfl ?_
           simp only [uP]
           refine tkk 23 (.pointer (some ⟨B,0,none⟩)) rfl ?_
           simp only [uP]
           refine wpAnyH_done (by kernel_rfl) ?_ _
           go_wp2
           exact ⟨HI.out,by simp [intOf]; omega⟩
          | false =>
           have hO:=refopen_bad ⟨a0,a1,a2,a3,a4,a5⟩ U2 hr
           have hT:=HNo.out (by simp only [Sv.first]; rw [hr]; rfl)
           unfold tmV at hO
           dsimp only at hO
           go_simp
           refine hO.mono ?_
           rintro e W2 ⟨rfl,hb3⟩
           go_wp2_with fail
           have hb4:Below w1.heap.size w1 W2:=hHeld.trans (hb3.mono hHeld.size)
           refine hK.out _ _ hb4 (fun _=>?_)
           have HE:Hid (LoadPost w s (.returned (.tuple #[.pointer none,.int .i64 10])) W2):=HBad.out _ (HB1.out.trans (hb4.mono HB1.out.size)) hT
           clear hK K hO hb3 hb4 hHeld hT hr
           try simp only [uP]
           refine tkk 20 (.tuple #[.pointer none,.int .i64 3]) rfl ?_
           simp only [uP]
           refine tka 21 (.pointer none) rfl ?_
           simp only [uP]
           refine tka 22 (.int .i64 3) rfl ?_
           simp only [uP]
           refine tkk 23 (.pointer none) rfl ?_
           simp only [uP]
           refine wpAnyH_done (by kernel_rfl) ?_ _
           go_wp2
           go_ret2
           exact HE.out
         ·have hjk:0≤j∧(k < 4→j < 4):=by
           unfold nextOk at hnx
           rw [decide_eq_true_eq] at hnx
           omega
          have ek:((k:Int) == 0) = false:=by rw [beq_eq_false_iff_ne]; omega
          obtain ⟨_,_,_,_,hx⟩:=id HP.out
          rcases hx with ⟨_,h1,_⟩ | ⟨sv,B,rfl,_,rfl,hD,hLl,hL0⟩
          ·omega
          have HLk:Hid (Lnk k ns (word ++ bj P)):=lnk_of hsay hk6 (HKm.out hk6) hcn
          have HNx:Hid (∀ s',sv.read k ns = some s'→LdT s (i+1) k (some s')):=fun s' h=>HP.out.2.1.next hfi hlt HCc.out HNl.out (fun r=>by rw [HLine.out.1]; exact fin_step HLk.out hnx (by unfold stepK; rw [if_neg (by omega)]; exact h))
          have HNo:Hid (sv.read k ns = none→told s = none):=fun h=>HP.out.2.1.none hfi hlt HCc.out HNl.out (fun r=>by rw [HLine.out.1]; exact fin_fail HLk.out (by unfold stepK; rw [if_neg (by omega)]; exact h))
          have hRd:=refread_any w1 B sv v k ns (Wd (fun _=>False) w2 wr) (hD.keep (S:=fun _=>False) (Keep.below HBr.out) (fun _ _ x=>x)) hk1 hk6 hcn (fun h=>hL0 (hjk.2 h)) (by omega) hv (fun b hb hF=>by
           rcases hF with h | ⟨_,h2⟩
           ·exact h
           ·have:=hvb b hb; omega)
          have HLl:Hid (sv.L.length≤f∧(k < 4→sv.L = [])):=⟨hLl,fun h=>hL0 (hjk.2 h)⟩
          clear hv hvb hcn hsay hnx HLk hD hLl hL0 hjk
          go_wp2_with fail
          refine hRd.mono ?_
          rintro e W2 ⟨hkp,hx⟩
          have hb5:Below w2.heap.size w2 W2:=Keep.fresh HB1.out hkp (fun b hb=>by
           rcases hb with h | ⟨h1,_⟩
           ·exact h.elim
           ·exact h1)
          rcases hx with ⟨s',hs',rfl,hD'⟩ | ⟨hs',rfl⟩
          ·have HI:Hid (LdI w2 s (.pointer (some ⟨B,0,none⟩)) (.int .i64 (k:Int)) (.int .i64 ((i:Int)+1)) (.int .i64 ((i:Int)+1)) W2):=by
            have hm:=read_more hs'
            refine ⟨i+1,i+1,k,_,rfl,rfl,rfl,Nat.le_refl _,hlt,NoL.zero s (i+1),hb5,HNx.out s' hs',by omega,by omega,.inr ⟨s',B,rfl,by omega,rfl,Dc.mono hD' (fun x hx=>?_),?_,fun h=>?_⟩⟩
            ·rcases hx with (h | ⟨h1,h2⟩) | ⟨h1,h2⟩
             ·exact h.elim
             ·exact .inr ⟨h1,Nat.lt_of_lt_of_le h2 (Nat.le_trans HBr.out.size hkp.size)⟩
             ·exact .inr ⟨Nat.le_trans HB1.out.size h1,h2⟩
            ·have:=HLl.out.1; omega
            ·rw [hm.2 (by omega),HLl.out.2 (by omega)]
           clear hRd hkp hb5 hs' hD' HNx HNo HLl
           go_wp2
           exact ⟨HI.out,by simp [intOf]; omega⟩
          ·have HE:Hid (LoadPost w s (.returned (.tuple #[.pointer none,.int .i64 10])) W2):=HBad.out _ hb5 (HNo.out hs')
           clear hRd hkp hb5 hs' HNx HNo HLl
           go_wp2
           go_ret2
           exact HE.out
   ·have zc:((S[i].toNat:Int) != 10) = true:=by
     rw [hg,bne_iff_ne]
     intro e
     exact hc (UInt8.toNat_inj.1 (by show s[i].toNat = 10; omega))
    have HI:Hid (LdI w2 s _ (.int .i64 j) (.int .i64 (f:Int)) (.int .i64 ((i+1:Nat):Int)) wr):=⟨i+1,f,j,σ,rfl,rfl,rfl,by omega,hlt,HNl.out.more hfi hlt hc,HP.out⟩
    clear hg hc HC HP HNl
    go_wp2
    exact ⟨HI.out,by simp [intOf]; omega⟩
  ·obtain rfl:i = s.length:=by omega
   have zi:¬ (s.length:Int) < (S.size:Int):=by rw [HSz.out]; omega
   by_cases hj5:j = 5
   ·by_cases hf:f = s.length
    ·have zf:((f:Int) != (S.size:Int)) = false:=by rw [HSz.out,hf]; simp
     have hst:told s = σ:=by
      rw [HP.out.2.1.stop hfi HNl.out,if_pos ⟨hf,hj5⟩]
     obtain ⟨hb,_,_,_,hx⟩:=HP.out
     rcases hx with ⟨_,h1,_⟩ | ⟨sv,B,rfl,_,rfl,hD,_,_⟩
     ·omega
     have HE:Hid (LoadPost w s (.returned (.tuple #[.pointer (some ⟨B,0,none⟩),.int .i64 0])) wr) :=
      ⟨HW2.out.trans (hb.mono HW2.out.size),.inl ⟨sv,B,hst,rfl,hD.mono (fun b hb=>by
       rcases hb with h | ⟨h1,h2⟩
       ·exact h.elim
       ·exact .inr ⟨Nat.le_trans HW2.out.size h1,h2⟩)⟩⟩
     subst hj5
     clear hst hb hD hf HP HNl
     go_wp2
     go_ret2
     exact HE.out
    ·have zf:((f:Int) != (S.size:Int)) = true:=by rw [HSz.out,bne_iff_ne]; omega
     have HE:Hid (LoadPost w s (.returned (.tuple #[.pointer none,.int .i64 10])) wr):=HBad.out _ HP.out.1 (by rw [HP.out.2.1.stop hfi HNl.out,if_neg (fun x=>hf x.1)])
     subst hj5
     clear hf HP HNl
     go_wp2
     go_ret2
     exact HE.out
   ·have zj:(j != (5:Int)) = true:=by rw [bne_iff_ne]; exact hj5
    have HE:Hid (LoadPost w s (.returned (.tuple #[.pointer none,.int .i64 10])) wr):=HBad.out _ HP.out.1 (by rw [HP.out.2.1.stop hfi HNl.out,if_neg (fun x=>hj5 x.2)])
    clear hj5 HP HNl
    go_wp2
    go_ret2
    exact HE.out
end Go.Proofs.YtanndhoimpnhpaaGreatDoor
namespace Go.Proofs.YtanndhoimpnhpaaGreatDoor
open Go.ChangeShapes Go.WideShapes Go.ChangeAt Go.RowKit Lg Cal
theorem infoByte:(Tryz.prog.info? 5).map (fun i=>(i.zero,i.size,i.bytes)) = some (some (.int .u8 0),1,1):=by kernel_rfl
set_option maxRecDepth 10000 in
set_option maxHeartbeats 4000000 in
theorem wline_any (w : World) (W : Nat) (txt word : List UInt8) (nv : Value) (ns : List Int) (hW : Wr w W txt) (hN : Nm w W nv ns) (hr : ∀ n ∈ ns, InR n) (hl : txt.length + word.length + 22 * ns.length ≤ 100000000000000) (htab : Lib.TabBelow Tryz.prog W w "internal/strconv.uint64pow10" .u64 Lib.pow10Tab) :
  Calls Tryz.prog 42 #[.pointer (some ⟨W,0,none⟩),.string (bs word),nv] w fun e w'=>e = .returned (.tuple #[])∧Wr w' W (txt ++ lineB word ns)∧Wf W w w':=by
 obtain ⟨i0,hi,hz0,hz1,hz2⟩:=info_parts infoByte
 obtain ⟨v,hA,ho⟩:=hW
 obtain ⟨p0,cap0,rfl⟩:=own_slice ho
 obtain ⟨pn,capn,rfl,hcapn,hcells⟩:=id hN
 have HN:Hid (∀ wx,Wf W w wx→∀ k (hk:k < ns.length),∃ b o c d,pn = some ⟨b,o,none⟩∧wx.cell? ⟨b,o+k,none⟩ = some (.pointer (some ⟨c,d,none⟩))∧wx.cell? ⟨c,d,none⟩ = some (.int .i64 ns[k])∧Sf wx W b∧Sf wx W c):=fun wx hx=>by
  obtain ⟨p,cap,h1,_,h3⟩:=hN.keep hx
  injection h1 with e1 _ _
  subst e1
  exact h3
 have HR:=hid hr
 have HTab : Hid (∀ wx, Wf W w wx → Lib.TabBelow Tryz.prog (W + 1) wx "internal/strconv.uint64pow10" .u64 Lib.pow10Tab) := fun wx hx => tab_on htab hx
 have hWl:W < w.heap.size:=At.lt hA
 have c0:w.cell? ⟨W,0,none⟩ = some (.slice p0 txt.length cap0):=hA.cell 0 rfl
 have HSz:Hid ((bs word).size = word.length):=bs_size word
 have hsz:txt.length+(bs word).size≤100000000000000:=by rw [bs_size]; omega
 have HSt:Hid (Lib.strCells (bs word) = Lib.byteCells word):=by show _ = _; rw [Lib.strCells_eq,bs_list]
 have HA0:=hid hA
 have HO0:=hid ho
 clear hN hcells hr htab hA hcapn
 generalize bs word = Wo at *
 go_enter Tryz.func42,Tryz.ntmps42
 go_wp2_with (at_builtin; refine Lib.wpList_append_own_string _ rfl _ _ 101 9 rfl (W+1) 5 i0 Tryz.underlying101 Tryz.underlying9 hi hz0 hz1 hz2 _ _ _ rfl ho Wo rfl ?c1 ?c2 ?c3 ?_)
 case c1=>unfold maxLen; omega
 case c2=>omega
 case c3=>omega
 intro v1 w1 ho1 hg1 _
 obtain ⟨aw1,hf1,a2,o2⟩:=Wr.put HA0.out HO0.out hg1 ho1
 obtain ⟨p1,cap1,rfl⟩:=own_slice ho1
 have c1:w1.cell? ⟨W,0,none⟩ = some (.slice p0 txt.length cap0):=aw1.cell 0 rfl
 have f1:w1.frozen? ⟨W,0,none⟩ = false:=aw1.free 0 rfl
 have HW2:Hid (Wr (w1.setCell ⟨W,0,none⟩ (.slice p1 (txt.length+Wo.size) cap1)) W (txt ++ word)):=by
  refine ⟨_,a2,?_⟩
  rw [List.length_append,Lib.byteCells_append,← HSt.out,← HSz.out]
  exact o2
 have HF2:=hid hf1
 clear c0 ho ho1 hg1 aw1 hf1 a2 o2 HA0 HO0
 go_wp2
 go_loopw [7,19] (fun _ s19 wr=>∃ k:Nat,k≤ns.length∧s19 = .int .i64 k∧Wr wr W (txt ++ word ++ lnum (ns.take k))∧Wf W w wr) (fun _ s19 _=>ns.length - (intOf s19).toNat)
 case atStart=>exact ⟨0,Nat.zero_le _,rfl,by simpa [lnum] using HW2.out,HF2.out⟩
 case round =>
  clear HW2 HF2 c1 f1
  obtain ⟨k,hk,rfl,⟨v,hA,ho⟩,hf⟩:=hrel
  have HF:=hid hf
  have hS1:(lnum (ns.take k)).length≤22*ns.length:=by
   have:=lnum_len (ns.take k) (fun n hn=>HR.out n (List.mem_of_mem_take hn))
   rw [List.length_take] at this
   omega
  have hS2:(txt ++ word ++ lnum (ns.take k)).length≤100000000000000:=by rw [List.length_append,List.length_append]; omega
  clear hS1
  have hWr:W < wr.heap.size:=At.lt hA
  obtain ⟨p2,cap2,rfl⟩:=own_slice ho
  clear hf
  by_cases hlt:k < ns.length
  ·have zk:(k:Int) < (ns.length:Int):=by omega
   obtain ⟨b,o,c,d,rfl,hb1,hb2,hb3,hb4⟩:=HN.out wr HF.out k hlt
   have HTk:Hid (txt ++ word ++ lnum (ns.take (k+1)) = (txt ++ word ++ lnum (ns.take k) ++ [32]) ++ Lib.itoa ns[k]):=by
    show _ = _
    rw [lnum_take ns k hlt]
    simp
   have HIn:Hid (InR ns[k]):=HR.out _ (List.getElem_mem hlt)
   have HSf:=hid hb4
   have HCn:=hid hb2
   clear hb3 hb2 hb4
   generalize ns[k] = nn at *
   have HX:Hid (txt ++ word ++ lnum (ns.take k) = txt ++ word ++ lnum (ns.take k)):=rfl
   generalize hX:txt ++ word ++ lnum (ns.take k) = X at *
   clear hX HX
   have c0:wr.cell? ⟨W,0,none⟩ = some (.slice p2 X.length cap2):=hA.cell 0 rfl
   have HA0:=hid hA
   have hB:Below wr.heap.size wr (wr.alloc (.cells #[.int .u8 32] 5)):=(Below.refl _ _).alloc (Nat.le_refl _) _
   have HFa:Hid (Wf W wr (wr.alloc (.cells #[.int .u8 32] 5))):=Wf.below hB (by omega)
   have hA1:At (wr.alloc (.cells #[.int .u8 32] 5)) W [.slice p2 X.length cap2]:=At.keep (S:=fun _=>False) hA (Keep.below hB) (fun x=>x)
   have ho1:(wr.alloc (.cells #[.int .u8 32] 5)).ownsRow (W+1) 5 1 (.slice p2 X.length cap2) X.length (Lib.byteCells X):=own_keep (S:=fun _=>False) ho (Keep.below hB) (fun _ _ x=>x)
   have hne:∀ i u,[Value.int .u8 32][i]? = some u→(wr.alloc (.cells #[.int .u8 32] 5)).cell? ((⟨wr.heap.size,0,none⟩:Addr).add i) = some u:=fun i u hu=>by
    have:=(At.alloc wr [Value.int .u8 32] 5 i u hu).1
    rw [Addr.add_lit,Nat.zero_add]
    exact this
   clear hA ho
   go_upto_region 4 with fail
   refine wp_region_lit ?_
   refine wpList_val (.pointer (some ⟨W,0,none⟩)) wr rfl rfl ?_
   simp only [uP]
   refine wpList_val (.pointer (some ⟨W,0,none⟩)) wr rfl rfl ?_
   simp only [uP]
   refine wpList_val (.pointer (some ⟨W,0,none⟩)) wr rfl (by go_simp) ?_
   simp only [uP]
   refine wpList_val (.pointer (some ⟨W,0,none⟩)) wr rfl (by go_simp) ?_
   simp only [uP]
   refine wpList_val (.slice p2 X.length cap2) wr rfl (by go_simp) ?_
   simp only [uP]
   refine wpList_val (.slice (some ⟨wr.heap.size,0,none⟩) 1 1) (wr.alloc (.cells #[.int .u8 32] 5)) rfl (by kernel_rfl) ?_
   simp only [uP]
   refine wpList_append_own _ rfl (.tmp 27) (.tmp 28) 101 rfl (W+1) 5 i0 (.int .u8 0) 1 1 Tryz.underlying101 hi hz0 hz1 hz2 rfl (by omega) _ X.length _ rfl ho1 ⟨wr.heap.size,0,none⟩ 1 1 _ rfl rfl hne (fun u hu=>?_) (by unfold maxLen; omega) (by omega) (by simp; omega) ?_
   ·rw [List.mem_singleton] at hu
    subst hu
    rfl
   intro v3 w3 ho3 hg3 _
   obtain ⟨aw3,hf3,a4,o4⟩:=Wr.put hA1 ho1 hg3 ho3
   obtain ⟨p3,cap3,rfl⟩:=own_slice ho3
   have c3:w3.cell? ⟨W,0,none⟩ = some (.slice p2 X.length cap2):=aw3.cell 0 rfl
   have f3:w3.frozen? ⟨W,0,none⟩ = false:=aw3.free 0 rfl
   have HF4:Hid (Wf W wr (w3.setCell ⟨W,0,none⟩ (.slice p3 (X.length+1) cap3))):=HFa.out.trans hf3
   have HA4:=hid a4
   have HO4:Hid ((w3.setCell ⟨W,0,none⟩ (.slice p3 (X.length+1) cap3)).ownsRow (W+1) 5 1 (.slice p3 (X.length+1) cap3) (X.length+1) (Lib.byteCells (X ++ [32]))):=by
    show World.ownsRow _ _ _ _ _ _ _
    rw [Lib.byteCells_append]
    exact o4
   clear ho3 hg3 aw3 hf3 a4 o4 hA1 ho1 hne HFa hB HA0 c0
   simp only [uP]
   go_upto_region 5 with fail
   clear c3 f3 hb1
   generalize w3.setCell ⟨W,0,none⟩ (.slice p3 (X.length+1) cap3) = w4 at *
   have HF5:Hid (Wf W wr w4.drew):=HF4.out.drew
   have HA5:Hid (At w4.drew W [.slice p3 (X.length+1) cap3]):=HA4.out.drew
   have HO5:Hid (w4.drew.ownsRow (W+1) 5 1 (.slice p3 (X.length+1) cap3) (X.length+1) (Lib.byteCells (X ++ [32]))):=HO4.out.drew
   have HCx:Hid (∀ wx,Wf W wr wx→wx.cell? ⟨c,d,none⟩ = some (.int .i64 nn)):=fun wx hx=>(World.cell?_of_block (w:=wr) (a:=⟨c,d,none⟩) (HSf.out.same hx)).trans HCn.out
   refine wp_region_held_drew (S:=fun wx=>wx.cell? ⟨c,d,none⟩ = some (.int .i64 nn)) (by kernel_rfl) (HCx.out _ HF5.out) (fun hHeld=>?_)
   clear HF4 HA4 HO4
   generalize w4.drew = U0 at *
   refine tkk 0 (.pointer (some ⟨W,0,none⟩)) rfl ?_
   simp only [uP]
   refine tkk 1 (.pointer (some ⟨W,0,none⟩)) rfl ?_
   simp only [uP]
   refine tka 2 (.pointer (some ⟨W,0,none⟩)) rfl ?_
   simp only [uP]
   refine tka 3 (.pointer (some ⟨W,0,none⟩)) rfl ?_
   simp only [uP]
   refine tkk 5 (.pointer (some ⟨c,d,none⟩)) rfl ?_
   simp only [uP]
   refine tka 6 (.pointer (some ⟨c,d,none⟩)) rfl ?_
   simp only [uP]
   refine tkh 7 (.int .i64 nn) rfl (fun wx hSw=>by (have hc:=hSw; go_simp)) ?_
   simp only [uP]
   refine rdy 4 rfl (fun K hK=>?_)
   rw [if_pos (by rfl)]
   refine wp_valD (.slice p3 (X.length+1) cap3) U0 (by (have hc:=HA5.out.cell 0 rfl; go_simp)) ?_
   refine hK.out _ _ hHeld (fun hHeld=>?_)
   clear hK K
   try simp only [uP]
   refine rdy 8 rfl (fun K hK=>?_)
   have hC:=Tryz.strconv_AppendInt_10 (W+1) (X.length+1) nn HIn.out.1 HIn.out.2 (.slice p3 (X.length+1) cap3) (Lib.byteCells (X ++ [32])) U0 HO5.out (At.lt HA5.out) (by omega) (HTab.out _ (HF.out.trans HF5.out))
   go_simp
   refine hC.mono ?_
   rintro e w5 ⟨v5,rfl,ho5,hb5,hk5⟩
   obtain ⟨aw5,hf5,a6,o6⟩:=Wr.put2 HA5.out hb5 hk5 ho5
   have hf5b:Wf W U0 w5:=⟨hb5.mono (Nat.le_succ W),fun k o h1 _ h3=>hk5 k o h1 (fun e=>by cases e) h3⟩
   have HW6:Hid (Wr (w5.setCell ⟨W,0,none⟩ v5) W (txt ++ word ++ lnum (ns.take (k+1)))):=by
    refine ⟨_,a6,?_⟩
    rw [HTk.out,Lib.byteCells_append,List.length_append,List.length_append]
    exact o6
   have HF6:Hid (Wf W w (w5.setCell ⟨W,0,none⟩ v5)):=HF.out.trans (HF5.out.trans hf5)
   have hS5:=HCx.out w5 (HF5.out.trans hf5b)
   have HS6:Hid ((w5.setCell ⟨W,0,none⟩ v5).cell? ⟨c,d,none⟩ = some (.int .i64 nn)):=HCx.out _ (HF5.out.trans hf5)
   obtain ⟨p5,cap5,rfl⟩:=own_slice ho5
   have c5:w5.cell? ⟨W,0,none⟩ = some (.slice p3 (X.length+1) cap3):=aw5.cell 0 rfl
   have f5:w5.frozen? ⟨W,0,none⟩ = false:=aw5.free 0 rfl
   clear hC ho5 hb5 hk5 aw5 hf5 a6 o6 hf5b HA5 HO5 HF5 hHeld
   go_wp2_with fail
   refine hK.out _ _ hS5 (fun hHeld=>?_)
   clear hK K hS5
   try simp only [uP]
   refine tka 9 (.pointer (some ⟨W,0,none⟩)) rfl ?_
   simp only [uP]
   refine tka 10 (.pointer (some ⟨W,0,none⟩)) rfl ?_
   simp only [uP]
   refine rdy 11 rfl (fun K hK=>?_)
   rw [if_pos (by rfl)]
   refine wp_skipD (w5.setCell ⟨W,0,none⟩ (.slice p5 (X.length+1+(Lib.itoa nn).length) cap5)) (by go_simp) ?_
   refine hK.out _ _ HS6.out (fun _=>?_)
   clear hK K hHeld HS6 c5 f5
   refine wpAnyH_done (by kernel_rfl) ?_ _
   generalize w5.setCell ⟨W,0,none⟩ (.slice p5 (X.length+1+(Lib.itoa nn).length) cap5) = w6 at *
   go_wp2
   exact ⟨⟨k+1,hlt,rfl,HW6.out,HF6.out⟩,by simp [intOf]; omega⟩
  ·obtain rfl:k = ns.length:=by omega
   have zk:¬ (ns.length:Int) < (ns.length:Int):=by omega
   have HEq:Hid (txt ++ lineB word ns = (txt ++ word ++ lnum (ns.take ns.length)) ++ [10]):=by show _ = _; rw [List.take_length]; simp [lineB]
   generalize hX:txt ++ word ++ lnum (ns.take ns.length) = X at *
   clear hX
   have c0:wr.cell? ⟨W,0,none⟩ = some (.slice p2 X.length cap2):=hA.cell 0 rfl
   have hB:Below wr.heap.size wr (wr.alloc (.cells #[.int .u8 10] 5)):=(Below.refl _ _).alloc (Nat.le_refl _) _
   have HFa:Hid (Wf W wr (wr.alloc (.cells #[.int .u8 10] 5))):=Wf.below hB (by omega)
   have hA1:At (wr.alloc (.cells #[.int .u8 10] 5)) W [.slice p2 X.length cap2]:=At.keep (S:=fun _=>False) hA (Keep.below hB) (fun x=>x)
   have ho1:(wr.alloc (.cells #[.int .u8 10] 5)).ownsRow (W+1) 5 1 (.slice p2 X.length cap2) X.length (Lib.byteCells X):=own_keep (S:=fun _=>False) ho (Keep.below hB) (fun _ _ x=>x)
   have hne:∀ i u,[Value.int .u8 10][i]? = some u→(wr.alloc (.cells #[.int .u8 10] 5)).cell? ((⟨wr.heap.size,0,none⟩:Addr).add i) = some u:=fun i u hu=>by
    have:=(At.alloc wr [Value.int .u8 10] 5 i u hu).1
    rw [Addr.add_lit,Nat.zero_add]
    exact this
   clear hA ho
   go_upto_region 7 with fail
   refine wp_region_lit ?_
   refine wpList_val (.pointer (some ⟨W,0,none⟩)) wr rfl rfl ?_
   simp only [uP]
   refine wpList_val (.pointer (some ⟨W,0,none⟩)) wr rfl rfl ?_
   simp only [uP]
   refine wpList_val (.pointer (some ⟨W,0,none⟩)) wr rfl (by go_simp) ?_
   simp only [uP]
   refine wpList_val (.pointer (some ⟨W,0,none⟩)) wr rfl (by go_simp) ?_
   simp only [uP]
   refine wpList_val (.slice p2 X.length cap2) wr rfl (by go_simp) ?_
   simp only [uP]
   refine wpList_val (.slice (some ⟨wr.heap.size,0,none⟩) 1 1) (wr.alloc (.cells #[.int .u8 10] 5)) rfl (by kernel_rfl) ?_
   simp only [uP]
   refine wpList_append_own _ rfl (.tmp 48) (.tmp 49) 101 rfl (W+1) 5 i0 (.int .u8 0) 1 1 Tryz.underlying101 hi hz0 hz1 hz2 rfl (by omega) _ X.length _ rfl ho1 ⟨wr.heap.size,0,none⟩ 1 1 _ rfl rfl hne (fun u hu=>?_) (by unfold maxLen; omega) (by omega) (by simp; omega) ?_
   ·rw [List.mem_singleton] at hu
    subst hu
    rfl
   intro v3 w3 ho3 hg3 _
   obtain ⟨aw3,hf3,a4,o4⟩:=Wr.put hA1 ho1 hg3 ho3
   obtain ⟨p3,cap3,rfl⟩:=own_slice ho3
   have c3:w3.cell? ⟨W,0,none⟩ = some (.slice p2 X.length cap2):=aw3.cell 0 rfl
   have f3:w3.frozen? ⟨W,0,none⟩ = false:=aw3.free 0 rfl
   have HF4:Hid (Wf W w (w3.setCell ⟨W,0,none⟩ (.slice p3 (X.length+1) cap3))):=HF.out.trans (HFa.out.trans hf3)
   have HW4:Hid (Wr (w3.setCell ⟨W,0,none⟩ (.slice p3 (X.length+1) cap3)) W (txt ++ lineB word ns)):=by
    refine ⟨_,a4,?_⟩
    rw [HEq.out,Lib.byteCells_append,List.length_append]
    exact o4
   clear ho3 hg3 aw3 hf3 a4 o4 hA1 ho1 hne HFa hB c0
   simp only [uP]
   go_wp2_with fail
   go_end0
   exact ⟨rfl,HW4.out,HF4.out⟩
end Go.Proofs.YtanndhoimpnhpaaGreatDoor
