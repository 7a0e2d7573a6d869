/- Joined by program: Cal, CalA0, TxB, TxF, Ev, Can. -/
import Derived.Test.YtanndhoimpnhpaaGreatDoorM1
import Derived.Laws.IdiomStrings
namespace Go.Proofs.YtanndhoimpnhpaaGreatDoor.Cal
def lp (y:Int):Int:=if y % 4 = 0∧(¬ y % 100 = 0∨y % 400 = 0) then 1 else 0
def dim (y m:Int):Int:=if m = 2 then 28+lp y else if m = 4∨m = 6∨m = 9∨m = 11 then 30 else 31
def ys (y:Int):Int:=365*(y - 1900)+((y - 1) / 4 - (y - 1) / 100+(y - 1) / 400) - 460
def cum (y m:Int):Int:=if m≤2 then 31*(m - 1) else (153*(m - 3)+2) / 5+59+lp y
def num (y m d:Int):Int:=ys y+cum y m+d - 1
def Ok (y m d:Int):Prop:=1900≤y∧y≤2200∧1≤m∧m≤12∧1≤d∧d≤dim y m
def cap (d:Int):Int:=if d≤30 then d else 30
def t3 (y m d:Int):Int:=360*y+30*m+cap d
theorem lp_01 (y:Int):0≤lp y∧lp y≤1:=by unfold lp; split <;> omega
theorem ys_succ (y:Int):ys (y+1) = ys y+365+lp y:=by
 unfold ys lp
 split <;> omega
theorem ys_mono (a b:Int) (h:a≤b):ys a≤ys b:=by unfold ys; omega
theorem ys_first:ys 1900 = 0:=by decide
theorem ys_last:ys 2200 = 109573:=by decide
theorem ys_bd (y:Int) (a:1900≤y) (b:y≤2201):0≤ys y∧ys y≤109938:=by unfold ys; omega
theorem ys_guess (n:Int) (h:0≤n):ys (1900+n / 366)≤n:=by unfold ys; omega
theorem dim_bd (y m:Int):28≤dim y m∧dim y m≤31:=by
 have:=lp_01 y
 unfold dim; repeat' split
 all_goals omega
theorem months (m:Int) (a:1≤m) (b:m≤12):m = 1∨m = 2∨m = 3∨m = 4∨m = 5∨m = 6∨m = 7∨m = 8∨m = 9∨m = 10∨m = 11∨m = 12:=by omega
theorem cum_succ (y m:Int) (a:1≤m) (b:m≤12):cum y (m+1) = cum y m+dim y m:=by
 rcases months m a b with h | h | h | h | h | h | h | h | h | h | h | h <;> subst h <;> simp [cum,dim] <;> omega
theorem cum_one (y:Int):cum y 1 = 0:=by simp [cum]
theorem cum_end (y:Int):cum y 13 = 365+lp y:=by simp [cum]
theorem cum_mono (y a b:Int) (h1:1≤a) (h:a≤b):cum y a≤cum y b:=by
 have:=lp_01 y
 unfold cum; repeat' split
 all_goals omega
theorem cum_bd (y m:Int) (a:1≤m) (b:m≤13):0≤cum y m∧cum y m≤366:=by
 have:=lp_01 y
 unfold cum; split <;> omega
theorem in_year (y m d:Int) (a:1≤m) (b:m≤12) (c:1≤d) (e:d≤dim y m):0≤cum y m+d - 1∧cum y m+d - 1 < 365+lp y:=by
 have h1:=cum_bd y m a (by omega)
 have h2:=cum_succ y m a b
 have h3:=cum_mono y (m+1) 13 (by omega) (by omega)
 have h4:=cum_end y
 omega
theorem one_date (y m d y' m' d':Int) (h:Ok y m d) (h':Ok y' m' d') (e:num y m d = num y' m' d'):y = y'∧m = m'∧d = d':=by
 obtain ⟨a1,a2,a3,a4,a5,a6⟩:=h
 obtain ⟨b1,b2,b3,b4,b5,b6⟩:=h'
 unfold num at e
 have i1:=in_year y m d a3 a4 a5 a6
 have i2:=in_year y' m' d' b3 b4 b5 b6
 have hy:y = y':=by
  rcases Int.lt_trichotomy y y' with h | h | h
  ·have g1:=ys_mono (y+1) y' (by omega)
   have g2:=ys_succ y
   omega
  ·exact h
  ·have g1:=ys_mono (y'+1) y (by omega)
   have g2:=ys_succ y'
   omega
 subst hy
 have hm:m = m':=by
  rcases Int.lt_trichotomy m m' with h | h | h
  ·have g1:=cum_mono y (m+1) m' (by omega) (by omega)
   have g2:=cum_succ y m a3 a4
   omega
  ·exact h
  ·have g1:=cum_mono y (m'+1) m (by omega) (by omega)
   have g2:=cum_succ y m' b3 b4
   omega
 subst hm
 exact ⟨rfl,rfl,by omega⟩
theorem year_le (y m d:Int) (h:Ok y m d) (hn:num y m d≤109572):y≤2199:=by
 obtain ⟨a1,a2,a3,a4,a5,a6⟩:=h
 have i1:=in_year y m d a3 a4 a5 a6
 unfold num at hn
 apply Int.not_lt.mp
 intro h
 have g:=ys_mono 2200 y (by omega)
 have g2:=ys_last
 omega
theorem t3_bd (y m d:Int) (h:Ok y m d):684031≤t3 y m d∧t3 y m d≤792390:=by
 obtain ⟨a1,a2,a3,a4,a5,a6⟩:=h
 unfold t3 cap; split <;> omega
def nd (y m d:Int):Int:=if d < dim y m then d+1 else 1
def nm (y m d:Int):Int:=if d < dim y m then m else if m < 12 then m+1 else 1
def ny (y m d:Int):Int:=if d < dim y m then y else if m < 12 then y else y+1
theorem next_num (y m d:Int) (h:Ok y m d):num (ny y m d) (nm y m d) (nd y m d) = num y m d+1:=by
 obtain ⟨a1,a2,a3,a4,a5,a6⟩:=h
 unfold nd nm ny
 split
 ·unfold num; omega
 ·split
  ·have:=cum_succ y m a3 a4
   unfold num; omega
  ·have e:m = 12:=by omega
   subst e
   have g1:=cum_succ y 12 (by omega) (by omega)
   have g2:=cum_end y
   have g3:=ys_succ y
   have g4:=cum_one (y+1)
   unfold num
   rw [show (12:Int)+1 = 13 from rfl] at g1
   omega
theorem next_ok (y m d:Int) (h:Ok y m d) (hn:num y m d≤109572):Ok (ny y m d) (nm y m d) (nd y m d):=by
 have hy:=year_le y m d h hn
 obtain ⟨a1,a2,a3,a4,a5,a6⟩:=h
 unfold nd nm ny
 split
 ·exact ⟨a1,a2,a3,a4,by omega,by omega⟩
 ·split
  ·have:=dim_bd y (m+1)
   exact ⟨a1,a2,by omega,by omega,by omega,by omega⟩
  ·have:=dim_bd (y+1) 1
   exact ⟨by omega,by omega,by omega,by omega,by omega,by omega⟩
def IsT (n t:Int):Prop:=∃ y m d,Ok y m d∧num y m d = n∧t = t3 y m d
theorem IsT.one {n t t':Int} (h:IsT n t) (h':IsT n t'):t = t':=by
 obtain ⟨y,m,d,k,e,rfl⟩:=h
 obtain ⟨y',m',d',k',e',rfl⟩:=h'
 obtain ⟨rfl,rfl,rfl⟩:=one_date _ _ _ _ _ _ k k' (e.trans e'.symm)
 rfl
theorem IsT.bd {n t:Int} (h:IsT n t):684031≤t∧t≤792390:=by
 obtain ⟨y,m,d,k,e,rfl⟩:=h
 exact t3_bd y m d k
theorem ok_mk {y m d:Int} (a:1900≤y) (b:y≤2200) (c:1≤m) (e:m≤12) (f:1≤d) (g:d≤dim y m):Ok y m d:=⟨a,b,c,e,f,g⟩
theorem month_end (n y m:Int) (h1:1≤m) (h2:m≤12) (hz:n < ys (y+1)) (hr:dim y m≤n - ys y - cum y m):m < 12:=by
 apply Int.not_le.mp
 intro h
 obtain rfl:m = 12:=by omega
 have g1:=cum_succ y 12 (by omega) (by omega)
 have g2:=cum_end y
 have g3:=ys_succ y
 rw [show (12:Int)+1 = 13 from rfl] at g1
 omega
end Go.Proofs.YtanndhoimpnhpaaGreatDoor.Cal
namespace Go.Proofs.YtanndhoimpnhpaaGreatDoor
open Go.ChangeShapes Go.WideShapes Go.ChangeAt Go.RowKit Cal
theorem ret_int {k:IntKind} {a b:Int} (h:a = b):Ending.returned (.int k a) = .returned (.int k b):=by rw [h]
theorem long_any (y m:Int) (w:World) (h0:0≤y) (h1:y≤100000) :
  Calls Tryz.prog 118 #[.int .i64 y,.int .i64 m] w fun e w'=>e = .returned (.int .i64 (dim y m))∧w' = w:=by
 by_cases h2:m = 2
 ·subst h2
  by_cases h4:y % 4 = 0
  ·by_cases h100:y % 100 = 0
   ·by_cases h400:y % 400 = 0
    all_goals
     have E:Hid (dim y 2 = 28+(if y % 400 = 0 then 1 else 0)):=by simp [dim,lp,h4,h100,h400,Hid]
     go_enter Tryz.func118,Tryz.ntmps118
     go_wp2
     go_ret
     exact ⟨ret_int (by rw [E.out]; simp [h400]),rfl⟩
   ·have n4:¬ y % 400 = 0:=by omega
    have E:Hid (dim y 2 = 29):=by simp [dim,lp,h4,h100,Hid]
    go_enter Tryz.func118,Tryz.ntmps118
    go_wp2
    go_ret
    exact ⟨ret_int E.out.symm,rfl⟩
  ·have n4:¬ y % 400 = 0:=by omega
   have E:Hid (dim y 2 = 28):=by simp [dim,lp,h4,Hid]
   go_enter Tryz.func118,Tryz.ntmps118
   go_wp2
   go_ret
   exact ⟨ret_int E.out.symm,rfl⟩
 ·by_cases h30:m = 4∨m = 6∨m = 9∨m = 11
  ·have E:Hid (dim y m = 30):=by simp [dim,h2,h30,Hid]
   rcases h30 with h | h | h | h
   all_goals
    subst h
    go_enter Tryz.func118,Tryz.ntmps118
    go_wp2
    go_ret
    exact ⟨ret_int E.out.symm,rfl⟩
  ·have E:Hid (dim y m = 31):=by simp [dim,h2,h30,Hid]
   obtain ⟨a,b,c,d⟩:¬ m = 4∧¬ m = 6∧¬ m = 9∧¬ m = 11:=by omega
   clear h30
   go_enter Tryz.func118,Tryz.ntmps118
   go_wp2
   go_ret
   exact ⟨ret_int E.out.symm,rfl⟩
end Go.Proofs.YtanndhoimpnhpaaGreatDoor
namespace Go.Proofs.YtanndhoimpnhpaaGreatDoor
open Go.ChangeShapes Go.WideShapes Go.ChangeAt Go.RowKit Lg Cal
def bs (l:List UInt8):ByteArray:=⟨l.toArray⟩
theorem bs_size (l:List UInt8):(bs l).size = l.length:=by
 unfold bs
 simp [ByteArray.size]
theorem bs_app (a b:List UInt8):bs a ++ bs b = bs (a ++ b):=by
 unfold bs
 apply ByteArray.ext
 simp [ByteArray.data_append]
theorem bs_list (l:List UInt8):(bs l).data.toList = l:=by simp [bs]
theorem bs_of (s:ByteArray):bs s.data.toList = s:=by
 unfold bs
 apply ByteArray.ext
 simp
theorem dec_more (u:Nat) (h:10≤u):Lib.decDigits u = Lib.decDigits (u / 10) ++ [UInt8.ofNat (48+u % 10)]:=by
 rw [Lib.decDigits,dif_neg (by omega)]
def dgt (d:Nat):List UInt8:=[UInt8.ofNat (48+d)]
theorem one_text (d:Nat) (hd:d < 10) (z:Int) (hz:z = 48+(d:Int)) (w:World) :
  (convert 101 9 (.slice (some ⟨w.heap.size,0,none⟩) 1 1)).run Tryz.prog (w.alloc (.cells #[.int .u8 z] 5)) = .ok (.string (bs (dgt d))) (w.alloc (.cells #[.int .u8 z] 5)):=by
 subst hz
 refine run_convert_bytes_back (P:=Tryz.prog) _ 101 9 5 ⟨w.heap.size,0,none⟩ 1 [UInt8.ofNat (48+d)] Tryz.underlying101 Tryz.underlying5 Tryz.underlying9 ?_
 intro j hj
 match j,hj with
 | 0,_ =>
  have e:((UInt8.ofNat (48+d)).toNat:Int) = 48+(d:Int):=by
   rw [UInt8.toNat_ofNat_of_lt' (show 48+d < 256 by omega)]
   omega
  simp only [List.getElem_cons_zero]
  rw [e]
  simp [Addr.add]
theorem dec_len (u:Nat) (h:u≤9223372036854775808):(Lib.decDigits u).length≤21:=by
 by_cases h1:u = 0
 ·subst h1; rw [Lib.decDigits_one (by omega)]; simp
 ·have:=Lib.itoa_length_le (-(u:Int)) (by omega) (by omega)
  rw [Lib.itoa_neg u (by omega)] at this
  simp only [List.length_cons] at this
  omega
set_option maxRecDepth 10000 in
theorem dec_nat:∀ (k u:Nat),u < k→u≤9223372036854775807→∀ w:World,Calls Tryz.prog 126 #[.int .i64 (u:Int)] w fun e w'=>e = .returned (.string (bs (Lib.decDigits u)))∧Below w.heap.size w w'
 | 0,u,h,_,_=>absurd h (Nat.not_lt_zero u)
 | k+1,u,h,hu,w=>by
  have hz:¬ (u:Int) < 0:=by omega
  by_cases h10:10≤u
  ·have ih:=dec_nat k (u / 10) (by omega) (by omega)
   have e1:((u / 10:Nat):Int) = (u:Int) / 10:=by omega
   rw [e1] at ih
   have hg:(10:Int)≤(u:Int):=by omega
   have hcv:=one_text (u % 10) (by omega) (48+(u:Int) % 10) (by omega)
   have HE:Hid (bs (Lib.decDigits u) = bs (Lib.decDigits (u / 10)) ++ bs (dgt (u % 10))):=by
    show _ = _
    rw [bs_app,dec_more u h10]
    rfl
   have hs:¬ 9223372036854775807 < (bs (Lib.decDigits (u / 10))).size+(bs (dgt (u % 10))).size:=by
    rw [bs_size,bs_size]
    have:=dec_len (u / 10) (by omega)
    unfold dgt
    simp only [List.length_singleton]
    omega
   generalize bs (Lib.decDigits (u / 10)) = S at *
   generalize bs (dgt (u % 10)) = T at *
   go_enter Tryz.func126,Tryz.ntmps126
   go_wp2_with fail
   refine (ih _).mono ?_
   rintro e w1 ⟨rfl,hb1⟩
   have HB:Hid (Below w.heap.size w (w1.alloc (.cells #[.int .u8 (48+(u:Int) % 10)] 5))):=hb1.alloc hb1.size _
   clear hb1 ih
   have hc:=hcv w1
   clear hcv
   go_wp2
   go_ret
   exact ⟨by rw [HE.out]; rfl,HB.out⟩
  ·have hg:¬ (10:Int)≤(u:Int):=by omega
   have e2:(u:Int) % 10 = u:=by omega
   rw [Lib.decDigits_one (show u < 10 by omega)]
   have hc:=one_text u (by omega) (48+(u:Int)) rfl w
   have HB:Hid (Below w.heap.size w (w.alloc (.cells #[.int .u8 (48+(u:Int))] 5))):=(Below.refl _ _).alloc (Nat.le_refl _) _
   have HE:Hid (bs [UInt8.ofNat (48+u)] = ByteArray.empty ++ bs (dgt u)):=by
    show _ = _
    rw [show ByteArray.empty = bs [] from rfl,bs_app]
    rfl
   have hs:¬ 9223372036854775807 < (bs (dgt u)).size:=by
    rw [bs_size]
    unfold dgt
    simp
   generalize bs (dgt u) = T at *
   generalize bs [UInt8.ofNat (48+u)] = R at *
   go_enter Tryz.func126,Tryz.ntmps126
   go_wp2
   go_ret
   exact ⟨by rw [HE.out]; rfl,HB.out⟩
set_option maxRecDepth 10000 in
theorem dec_any (n:Int) (h0:-9223372036854775808≤n) (h1:n≤9223372036854775807) (w:World):Calls Tryz.prog 126 #[.int .i64 n] w fun e w'=>e = .returned (.string (bs (Lib.itoa n)))∧Below w.heap.size w w':=by
 by_cases hn:0≤n
 ·obtain ⟨u,rfl⟩:=Int.eq_ofNat_of_zero_le hn
  rw [Lib.itoa_nonneg]
  exact dec_nat (u+1) u (by omega) (by omega) w
 ·obtain ⟨u,rfl⟩:∃ u:Nat,n = -(u:Int):=⟨n.natAbs,by omega⟩
  rw [Lib.itoa_neg u (by omega)]
  have hlt:-(u:Int) < 0:=by omega
  by_cases h10:10≤u
  ·have ih:=dec_nat (u / 10+1) (u / 10) (by omega) (by omega)
   have hle:-(u:Int)≤-10:=by omega
   have e1:(-(u:Int)).tdiv 10 = -((u / 10:Nat):Int):=by rw [Int.neg_tdiv,Int.tdiv_eq_ediv_of_nonneg (by omega)]; omega
   have e2:(-(u:Int)).tmod 10 = -((u % 10:Nat):Int):=by rw [Int.neg_tmod,Int.tmod_eq_emod_of_nonneg (by omega)]; omega
   have hcv:=one_text (u % 10) (by omega) (48+((u % 10:Nat):Int)) rfl
   have HE:Hid (bs (45 :: Lib.decDigits u) = bs [45] ++ bs (Lib.decDigits (u / 10)) ++ bs (dgt (u % 10))):=by
    show _ = _
    rw [bs_app,bs_app,dec_more u h10]
    rfl
   have hs1:¬ 9223372036854775807 < 1+(bs (Lib.decDigits (u / 10))).size:=by
    rw [bs_size]
    have:=dec_len (u / 10) (by omega)
    omega
   have hs2:¬ 9223372036854775807 < 1+(bs (Lib.decDigits (u / 10))).size+(bs (dgt (u % 10))).size:=by
    rw [bs_size,bs_size]
    have:=dec_len (u / 10) (by omega)
    unfold dgt
    simp only [List.length_singleton]
    omega
   generalize bs (Lib.decDigits (u / 10)) = S at *
   generalize bs (dgt (u % 10)) = T at *
   generalize bs (45 :: Lib.decDigits u) = R at *
   obtain ⟨q,hq⟩:∃ q,q = u / 10:=⟨_,rfl⟩
   obtain ⟨r,hr⟩:∃ r,r = u % 10:=⟨_,rfl⟩
   rw [← hq] at e1 ih
   rw [← hr] at e2 hcv
   have hr9:r≤9:=by omega
   have hq9:q≤922337203685477580:=by omega
   clear hq hr
   go_enter Tryz.func126,Tryz.ntmps126
   go_wp2_with fail
   refine (ih _).mono ?_
   rintro e w1 ⟨rfl,hb1⟩
   have HB:Hid (Below w.heap.size w (w1.alloc (.cells #[.int .u8 (48+(r:Int))] 5))):=hb1.alloc hb1.size _
   clear hb1 ih
   have hc:=hcv w1
   clear hcv
   go_wp2
   go_ret
   exact ⟨by rw [HE.out]; rfl,HB.out⟩
  ·have hg:¬ -(u:Int)≤-10:=by omega
   have hc:=one_text u (by omega) (48+(u:Int)) rfl w
   have HB:Hid (Below w.heap.size w (w.alloc (.cells #[.int .u8 (48+(u:Int))] 5))):=(Below.refl _ _).alloc (Nat.le_refl _) _
   have HE:Hid (bs (45 :: Lib.decDigits u) = bs [45] ++ bs (dgt u)):=by
    show _ = _
    rw [bs_app,Lib.decDigits_one (show u < 10 by omega)]
    rfl
   have hs:¬ 9223372036854775807 < 1+(bs (dgt u)).size:=by
    rw [bs_size]
    unfold dgt
    simp
   have e1:(48:Int) - -(u:Int) = 48+u:=by omega
   generalize bs (dgt u) = T at *
   generalize bs (45 :: Lib.decDigits u) = R at *
   go_enter Tryz.func126,Tryz.ntmps126
   go_wp2
   go_ret
   exact ⟨by rw [HE.out]; rfl,HB.out⟩
end Go.Proofs.YtanndhoimpnhpaaGreatDoor
namespace Go.Proofs.YtanndhoimpnhpaaGreatDoor
open Txt
def bj:List (List UInt8)→List UInt8
 | []=>[]
 | p :: r=>32 :: (p ++ bj r)
theorem bj_app:∀ a b:List (List UInt8),bj (a ++ b) = bj a ++ bj b
 | [],_=>rfl
 | p :: r,b=>by simp [bj,bj_app r b]
theorem lnum_bj:∀ ns:List Int,lnum ns = bj (ns.map Lib.itoa)
 | []=>rfl
 | n :: r=>by simp [lnum,bj,lnum_bj r]
def NoB (l:List UInt8):Prop:=∀ c∈l,¬ c = 32
theorem noB_itoa (n:Int):NoB (Lib.itoa n):=by
 have hd:∀ u:Nat,NoB (Lib.decDigits u):=fun u c hc e=>by
  have h1:=allD_dec u
  unfold allD at h1
  rw [List.all_eq_true] at h1
  have h2:=dg_bd (h1 c hc)
  subst e
  have h3:((32:UInt8).toNat:Int) = 32:=rfl
  omega
 intro c hc
 unfold Lib.itoa at hc
 split at hc
 ·rcases List.mem_cons.1 hc with h | h
  ·subst h; decide
  ·exact hd _ c h
 ·exact hd _ c hc
theorem cut_blanks:∀ l:List UInt8,∃ (word:List UInt8) (P:List (List UInt8)),l = word ++ bj P∧NoB word∧∀ p∈P,NoB p
 | []=>⟨[],[],rfl,fun c hc=>by simp at hc,fun p hp=>by simp at hp⟩
 | c :: r=>by
  obtain ⟨word,P,h1,h2,h3⟩:=cut_blanks r
  by_cases hc:c = 32
  ·refine ⟨[],word :: P,by rw [hc,h1]; rfl,fun c hc=>by simp at hc,fun p hp=>?_⟩
   rcases List.mem_cons.1 hp with h | h
   ·subst h; exact h2
   ·exact h3 p h
  ·refine ⟨c :: word,P,by rw [h1]; rfl,fun x hx=>?_,h3⟩
   rcases List.mem_cons.1 hx with h | h
   ·subst h; exact hc
   ·exact h2 x h
theorem cut_one:∀ (a b:List UInt8) (P Q:List (List UInt8)),NoB a→NoB b→(∀ p∈P,NoB p)→(∀ p∈Q,NoB p)→a ++ bj P = b ++ bj Q→a = b∧P = Q
 | [],[],[],[],_,_,_,_,_=>⟨rfl,rfl⟩
 | [],[],[],q :: Q,_,_,_,_,h=>by simp [bj] at h
 | [],[],p :: P,[],_,_,_,_,h=>by simp [bj] at h
 | [],[],p :: P,q :: Q,_,_,hP,hQ,h=>by
  simp only [List.nil_append,bj,List.cons.injEq,true_and] at h
  obtain ⟨h1,h2⟩:=cut_one p q P Q (hP p (by simp)) (hQ q (by simp)) (fun x hx=>hP x (by simp [hx])) (fun x hx=>hQ x (by simp [hx])) h
  exact ⟨rfl,by rw [h1,h2]⟩
 | c :: a,[],P,[],_,_,_,_,h=>by simp [bj] at h
 | c :: a,[],P,q :: Q,ha,_,_,_,h=>by
  simp only [List.cons_append,List.nil_append,bj,List.cons.injEq] at h
  exact absurd h.1 (ha c (by simp))
 | [],c :: b,[],Q,_,_,_,_,h=>by simp [bj] at h
 | [],c :: b,p :: P,Q,_,hb,_,_,h=>by
  simp only [List.cons_append,List.nil_append,bj,List.cons.injEq] at h
  exact absurd h.1.symm (hb c (by simp))
 | c :: a,e :: b,P,Q,ha,hb,hP,hQ,h=>by
  simp only [List.cons_append,List.cons.injEq] at h
  obtain ⟨h1,h2⟩:=cut_one a b P Q (fun x hx=>ha x (by simp [hx])) (fun x hx=>hb x (by simp [hx])) hP hQ h.2
  exact ⟨by rw [h.1,h1],h2⟩
def Says (P:List (List UInt8)) (ns:List Int):Prop:=P = ns.map Lib.itoa∧∀ n∈ns,InR n
theorem Says.one {P:List (List UInt8)} {a b:List Int} (h:Says P a) (k:Says P b):a = b:=by
 obtain ⟨h1,h2⟩:=h
 obtain ⟨k1,k2⟩:=k
 rw [h1] at k1
 clear h1 P
 induction a generalizing b with
 | nil=>cases b with
  | nil=>rfl
  | cons y b=>simp at k1
 | cons x a ih =>
  cases b with
  | nil=>simp at k1
  | cons y b =>
   simp only [List.map_cons,List.cons.injEq] at k1
   have e:=itoa_inj x y (h2 x (by simp)) (k2 y (by simp)) k1.1
   rw [e,ih (fun n hn=>h2 n (by simp [hn])) k1.2 (fun n hn=>k2 n (by simp [hn]))]
theorem bs_extract (l:List UInt8) (a b:Nat):(bs l).extract a b = bs ((l.drop a).take (b - a)):=by
 unfold bs
 apply ByteArray.ext
 rw [ByteArray.data_extract]
 apply Array.toList_inj.1
 rw [Array.toList_extract]
theorem bs_get (l:List UInt8) (i:Nat) (_:i < l.length) (h:i < (bs l).size):(bs l)[i]'h = l[i]:=rfl
def bpos (word:List UInt8) (P:List (List UInt8)) (j:Nat):Nat:=word.length+(bj (P.take j)).length
theorem bpos_succ (word:List UInt8) (P:List (List UInt8)) (j:Nat) (hj:j < P.length):bpos word P (j+1) = bpos word P j+1+P[j].length:=by
 unfold bpos
 rw [List.take_succ_eq_append_getElem hj,bj_app]
 simp [bj]
 omega
theorem bpos_all (word:List UInt8) (P:List (List UInt8)):bpos word P P.length = (word ++ bj P).length:=by
 unfold bpos
 rw [List.take_length,List.length_append]
theorem bpos_lt (word:List UInt8) (P:List (List UInt8)) (j:Nat):bpos word P (j+1)≤(word ++ bj P).length:=by
 unfold bpos
 have:bj P = bj (P.take (j+1)) ++ bj (P.drop (j+1)):=by rw [← bj_app,List.take_append_drop]
 rw [List.length_append,this,List.length_append]
 omega
theorem bpos_drop (word:List UInt8) (P:List (List UInt8)) (j:Nat) (hj:j < P.length):(word ++ bj P).drop (bpos word P j) = 32 :: (P[j] ++ bj (P.drop (j+1))):=by
 have e:bj P = bj (P.take j) ++ bj (P.drop j):=by rw [← bj_app,List.take_append_drop]
 rw [e,← List.append_assoc]
 unfold bpos
 rw [← List.length_append,List.drop_left,List.drop_eq_getElem_cons hj]
 rfl
theorem bpos_piece (word:List UInt8) (P:List (List UInt8)) (j:Nat) (hj:j < P.length):((word ++ bj P).drop (bpos word P j+1)).take (P[j].length) = P[j]:=by
 rw [← List.drop_drop,bpos_drop word P j hj]
 simp
theorem bpos_at (word:List UInt8) (P:List (List UInt8)) (j:Nat) (hj:j < P.length) (i:Nat) (hi:i < P[j].length):(word ++ bj P)[bpos word P j+1+i]? = some P[j][i]:=by
 have h:=congrArg (fun l:List UInt8=>l[1+i]?) (bpos_drop word P j hj)
 simp only [List.getElem?_drop] at h
 rw [Nat.add_assoc,h,Nat.add_comm 1 i,List.getElem?_cons_succ,List.getElem?_append_left hi,List.getElem?_eq_getElem hi]
theorem bpos_blank (word:List UInt8) (P:List (List UInt8)) (j:Nat) (hj:j < P.length):(word ++ bj P)[bpos word P j]? = some 32:=by
 have h:=congrArg (fun l:List UInt8=>l[0]?) (bpos_drop word P j hj)
 simp only [List.getElem?_drop,Nat.add_zero] at h
 rw [h]
 rfl
end Go.Proofs.YtanndhoimpnhpaaGreatDoor
namespace Go.Proofs.YtanndhoimpnhpaaGreatDoor
open Go.RowKit
def evs:List Ln.Ev→List Value
 | []=>[]
 | e :: r=>.int .i64 e.d :: .int .i64 e.k :: .int .i64 e.s :: .int .i64 e.a :: evs r
theorem evs_at:∀ (l:List Ln.Ev) (k:Nat) (h:k < l.length),(evs l)[k*4]? = some (.int .i64 l[k].d)∧(evs l)[k*4+1]? = some (.int .i64 l[k].k)∧(evs l)[k*4+2]? = some (.int .i64 l[k].s)∧(evs l)[k*4+3]? = some (.int .i64 l[k].a)
 | e :: r,0,_=>⟨rfl,rfl,rfl,rfl⟩
 | e :: r,k+1,h=>by
  have ih:=evs_at r k (by simpa using h)
  have e1:(k+1)*4 = k*4+1+1+1+1:=by omega
  rw [e1]
  exact ih
def fitsB (k a:Int):Bool :=
 if k = 1∨k = 5 then decide (1≤a) && decide (a≤100000000000) else if k = 2 then decide (0≤a) && decide (a≤1000000) else if k = 3 then decide (1≤a) && decide (a≤400) else decide (a = 0)
def aheadB (a b:Ln.Ev):Bool:=if ¬ a.d = b.d then decide (a.d < b.d) else if ¬ a.k = b.k then decide (a.k < b.k) else decide (a.s < b.s)
def hasS (q:Int) (l:List Ln.Ev):Bool:=l.any (fun e=>e.s == q)
theorem hasS_take (q:Int) (l:List Ln.Ev) (k:Nat) (hk:k < l.length):hasS q (l.take (k+1)) = (hasS q (l.take k) || (l[k].s == q)):=by
 unfold hasS
 rw [List.take_succ_eq_append_getElem hk,List.any_append]
 simp
theorem hasS_at (q:Int) (l:List Ln.Ev) (k:Nat) (hk:k < l.length) (h:l[k].s = q):hasS q l = true:=by
 unfold hasS
 rw [List.any_eq_true]
 exact ⟨l[k],List.getElem_mem hk,by simp [h]⟩
def addC (t:Ln.Terms) (l:List Ln.Ev) (e:Ln.Ev):Int :=
 if e.k < 1∨5 < e.k then 4
 else if e.d < t.st∨t.st+3700 < e.d then 5
 else if fitsB e.k e.a = false then 6
 else if 40≤l.length then 7
 else if hasS e.s l = true then 8
 else 0
end Go.Proofs.YtanndhoimpnhpaaGreatDoor
namespace Go.Proofs.YtanndhoimpnhpaaGreatDoor.So
open Go.Proofs.YtanndhoimpnhpaaGreatDoor
def insAt (e:Ln.Ev) (out:List Ln.Ev) (k:Nat):List Ln.Ev:=out.take k ++ e :: out.drop k
theorem insAt_len (e:Ln.Ev) (out:List Ln.Ev) (k:Nat) (hk:k≤out.length):(insAt e out k).length = out.length+1:=by
 unfold insAt
 simp
 omega
theorem insAt_end (e:Ln.Ev) (out:List Ln.Ev):insAt e out out.length = out ++ [e]:=by
 unfold insAt
 simp
theorem insAt_down (out:List Ln.Ev) (j:Nat) (hj:j < out.length):insAt out[j] out (j+1) = insAt out[j] out j:=by
 unfold insAt
 rw [List.take_succ_eq_append_getElem hj,List.append_assoc,List.drop_eq_getElem_cons hj]
 rfl
theorem insAt_set (h e:Ln.Ev) (out:List Ln.Ev) (k:Nat) (hk:k≤out.length):(insAt h out k).set k e = insAt e out k:=by
 unfold insAt
 rw [List.set_append_right _ _ (by simp; omega)]
 simp [Nat.min_eq_left hk]
theorem insAt_low (e:Ln.Ev) (out:List Ln.Ev) (k j:Nat) (hk:k≤out.length) (hj:j < k):(insAt e out k)[j]? = some (out[j]'(by omega)):=by
 unfold insAt
 rw [List.getElem?_append_left (by simp; omega),List.getElem?_take_of_lt hj,List.getElem?_eq_getElem (by omega)]
theorem insAt_perm (e:Ln.Ev) (out:List Ln.Ev) (k:Nat):(insAt e out k).Perm (e :: out):=by
 unfold insAt
 refine List.perm_middle.trans ?_
 rw [List.take_append_drop]
abbrev Ah (a b:Ln.Ev):Prop:=aheadB a b = true
theorem ah_iff (a b:Ln.Ev):Ah a b ↔ a.d < b.d∨(a.d = b.d∧(a.k < b.k∨(a.k = b.k∧a.s < b.s))):=by
 unfold Ah aheadB
 by_cases h1:a.d = b.d
 ·by_cases h2:a.k = b.k
  ·simp [h1,h2]
  ·simp [h1,h2]
 ·simp [h1]
theorem ah_trans {a b c:Ln.Ev} (h:Ah a b) (k:Ah b c):Ah a c:=by
 rw [ah_iff] at *
 omega
theorem ah_total {a b:Ln.Ev} (h:¬ a.s = b.s):Ah a b∨Ah b a:=by
 rw [ah_iff,ah_iff]
 omega
theorem ah_irrefl (a:Ln.Ev):¬ Ah a a:=by
 rw [ah_iff]
 omega
theorem ins_sorted (e:Ln.Ev) (out:List Ln.Ev) (k:Nat) (hk:k≤out.length) (hs:out.Pairwise Ah) (hd:∀ x∈out,¬ x.s = e.s)
  (hi:∀ j (hj:j < out.length),k≤j→Ah e out[j]) (hlo:k = 0∨∃ h:k - 1 < out.length,¬ Ah e out[k - 1]):(insAt e out k).Pairwise Ah:=by
 unfold insAt
 have hp:(out.take k ++ out.drop k).Pairwise Ah:=by rw [List.take_append_drop]; exact hs
 obtain ⟨p1,p2,p3⟩:=List.pairwise_append.1 hp
 have hlow:∀ a∈out.take k,Ah a e:=by
  intro a ha
  rcases hlo with rfl | ⟨h,hn⟩
  ·simp at ha
  ·have hk0:k ≠ 0:=by
    intro h0
    subst h0
    simp at ha
   have hlast:Ah out[k - 1] e:=by
    rcases ah_total (a:=e) (b:=out[k - 1]) (fun x=>hd _ (List.getElem_mem h) x.symm) with x | x
    ·exact absurd x hn
    ·exact x
   obtain ⟨j,hj,rfl⟩:=List.getElem_of_mem ha
   have hj':j < k:=by simp at hj; omega
   rw [List.getElem_take]
   by_cases e1:j = k - 1
   ·subst e1
    exact hlast
   ·exact ah_trans (List.pairwise_iff_getElem.1 hs j (k - 1) (by omega) h (by omega)) hlast
 refine List.pairwise_append.2 ⟨p1,List.pairwise_cons.2 ⟨?_,p2⟩,?_⟩
 ·intro b hb
  obtain ⟨j,hj,rfl⟩:=List.getElem_of_mem hb
  rw [List.getElem_drop]
  exact hi _ _ (by omega)
 ·intro a ha b hb
  rcases List.mem_cons.1 hb with rfl | hb
  ·exact hlow a ha
  ·exact p3 a ha b hb
theorem sorted_one:∀ {l m:List Ln.Ev},l.Perm m→l.Pairwise Ah→m.Pairwise Ah→l = m:=by
 intro l m hp hl hm
 exact List.Perm.eq_of_pairwise (fun a b _ _ h1 h2=>absurd (ah_trans h1 h2) (ah_irrefl a)) hl hm hp
theorem evs_append:∀ (l m:List Ln.Ev),evs (l ++ m) = evs l ++ evs m
 | [],m=>rfl
 | e :: r,m=>by
  show _ :: _ :: _ :: _ :: evs (r ++ m) = _
  rw [evs_append r m]
  rfl
theorem evs_len:∀ l:List Ln.Ev,(evs l).length = l.length*4
 | []=>rfl
 | e :: r=>by
  show (evs r).length+1+1+1+1 = _
  rw [evs_len r]
  simp
  omega
theorem evs_set:∀ (l:List Ln.Ev) (k:Nat) (_:k < l.length) (e:Ln.Ev),((((evs l).set (k*4) (.int .i64 e.d)).set (k*4+1) (.int .i64 e.k)).set (k*4+2) (.int .i64 e.s)).set (k*4+3) (.int .i64 e.a) = evs (l.set k e)
 | x :: r,0,_,e=>rfl
 | x :: r,k+1,h,e=>by
  have ih:=evs_set r k (by simpa using h) e
  have e1:(k+1)*4 = k*4+1+1+1+1:=by omega
  rw [e1]
  show _ :: _ :: _ :: _ :: ((((evs r).set (k*4) (.int .i64 e.d)).set (k*4+1) (.int .i64 e.k)).set (k*4+2) (.int .i64 e.s)).set (k*4+3) (.int .i64 e.a) = _
  rw [ih]
  rfl
end Go.Proofs.YtanndhoimpnhpaaGreatDoor.So
namespace Go.Proofs.YtanndhoimpnhpaaGreatDoor.Ln
def CanEnter (y:Dy) (k:Nat) (a:Int):Prop :=
 0≤a∧0≤y.am k∧y.am k+a≤9000000000000000000 ∧
 match k with
 | 1=>y.g.pr+a≤9000000000000000000
 | 2=>y.g.la+a≤9000000000000000000∧a≤y.g.du
 | 3=>y.g.du+a≤9000000000000000000∧a≤y.g.it
 | 4=>y.g.pr+a≤9000000000000000000∧a≤y.g.it
 | 5=>a≤y.g.fi
 | 6=>a≤y.g.la
 | 7=>a≤y.g.du
 | 8=>a≤y.g.it
 | 9=>a≤y.g.pr
 | 10=>y.g.cr+a≤9000000000000000000
 | 11=>y.g.it+a≤9000000000000000000
 | 12=>y.g.fi+a≤9000000000000000000
 | _=>False
structure Fit (y:Dy):Prop where
 pr0:0≤y.g.pr
 pr1:y.g.pr≤4000000000000000000
 it0:0≤y.g.it
 it1:y.g.it≤4000000000000000000
 du0:0≤y.g.du
 du1:y.g.du≤4000000000000000000
 la0:0≤y.g.la
 la1:y.g.la≤4000000000000000000
 fi0:0≤y.g.fi
 fi1:y.g.fi≤8000000000000000000
 cr0:0≤y.g.cr
 cr1:y.g.cr≤4000000000000000000
structure Am (y:Dy) (L:Int):Prop where
 nn:∀ j,0≤y.am j
 a1:y.am 1≤L
 a2:y.am 2≤656820000000000000
 a3:y.am 3≤656820000000000000
 a4:y.am 4+y.g.it≤656820000000000000
 pd:∀ j,5≤j→j≤10→y.am j≤L
 a11:y.am 11 = 0
 a12:y.am 12 = 0
def owed (g:St):Nat→Int
 | 0=>g.fi
 | 1=>g.la
 | 2=>g.du
 | 3=>g.it
 | _=>g.pr
def payK (y:Dy) (a:Int):Nat→Dy × Int
 | 0=>(y,a)
 | k+1=>(enter (payK y a k).1 (5+k) (least (owed y.g k) (payK y a k).2),(payK y a k).2 - least (owed y.g k) (payK y a k).2)
theorem pay_eq (y:Dy) (a:Int):pay y a = enter (payK y a 5).1 10 (payK y a 5).2:=rfl
theorem upd_same (f:Nat→Int) (k:Nat) (a:Int):upd f k a k = f k+a:=by simp [upd]
theorem upd_ne (f:Nat→Int) (k j:Nat) (a:Int) (h:¬ j = k):upd f k a j = f j:=by simp [upd,h]
theorem payK_am (y:Dy) (a:Int):∀ k j:Nat,(5+k≤j∨j < 5)→(payK y a k).1.am j = y.am j
 | 0,_,_=>rfl
 | k+1,j,h=>by
  show upd (payK y a k).1.am (5+k) _ j = y.am j
  rw [upd_ne _ _ _ _ (by omega)]
  exact payK_am y a k j (by omega)
theorem payK_left (y:Dy) (a:Int) (hf:Fit y) (ha:0≤a):∀ k,0≤(payK y a k).2∧(payK y a k).2≤a
 | 0=>⟨ha,Int.le_refl _⟩
 | k+1=>by
  have h:=payK_left y a hf ha k
  have l:=least_le (owed y.g k) (payK y a k).2
  have o:0≤owed y.g k:=by
   unfold owed
   split
   ·exact hf.fi0
   ·exact hf.la0
   ·exact hf.du0
   ·exact hf.it0
   ·exact hf.pr0
  have n:=least_nn (owed y.g k) (payK y a k).2 o h.1
  show 0≤(payK y a k).2 - least (owed y.g k) (payK y a k).2∧(payK y a k).2 - least (owed y.g k) (payK y a k).2≤a
  omega
theorem owed_nn {y:Dy} (hf:Fit y) (k:Nat):0≤owed y.g k:=by
 unfold owed
 split
 ·exact hf.fi0
 ·exact hf.la0
 ·exact hf.du0
 ·exact hf.it0
 ·exact hf.pr0
theorem payK_fit (y:Dy) (a:Int) (hf:Fit y) (ha:0≤a):∀ k,k≤5→Fit (payK y a k).1:=by
 have x0:=least_nn (owed y.g 0) (payK y a 0).2 (owed_nn hf 0) (payK_left y a hf ha 0).1
 have x1:=least_nn (owed y.g 1) (payK y a 1).2 (owed_nn hf 1) (payK_left y a hf ha 1).1
 have x2:=least_nn (owed y.g 2) (payK y a 2).2 (owed_nn hf 2) (payK_left y a hf ha 2).1
 have x3:=least_nn (owed y.g 3) (payK y a 3).2 (owed_nn hf 3) (payK_left y a hf ha 3).1
 have x4:=least_nn (owed y.g 4) (payK y a 4).2 (owed_nn hf 4) (payK_left y a hf ha 4).1
 have l0:=(least_le (owed y.g 0) (payK y a 0).2).1
 have l1:=(least_le (owed y.g 1) (payK y a 1).2).1
 have l2:=(least_le (owed y.g 2) (payK y a 2).2).1
 have l3:=(least_le (owed y.g 3) (payK y a 3).2).1
 have l4:=(least_le (owed y.g 4) (payK y a 4).2).1
 have f0:Fit (payK y a 0).1:=hf
 have f1:Fit (payK y a 1).1:=by
  refine ⟨hf.pr0,hf.pr1,hf.it0,hf.it1,hf.du0,hf.du1,hf.la0,hf.la1,?_,?_,hf.cr0,hf.cr1⟩
  ·show 0≤y.g.fi - least (owed y.g 0) (payK y a 0).2
   have:owed y.g 0 = y.g.fi:=rfl
   omega
  ·show y.g.fi - least (owed y.g 0) (payK y a 0).2≤8000000000000000000
   have:=hf.fi1
   omega
 have f2:Fit (payK y a 2).1:=by
  refine ⟨f1.pr0,f1.pr1,f1.it0,f1.it1,f1.du0,f1.du1,?_,?_,f1.fi0,f1.fi1,f1.cr0,f1.cr1⟩
  ·show 0≤y.g.la - least (owed y.g 1) (payK y a 1).2
   have:owed y.g 1 = y.g.la:=rfl
   omega
  ·show y.g.la - least (owed y.g 1) (payK y a 1).2≤4000000000000000000
   have:=hf.la1
   omega
 have f3:Fit (payK y a 3).1:=by
  refine ⟨f2.pr0,f2.pr1,f2.it0,f2.it1,?_,?_,f2.la0,f2.la1,f2.fi0,f2.fi1,f2.cr0,f2.cr1⟩
  ·show 0≤y.g.du - least (owed y.g 2) (payK y a 2).2
   have:owed y.g 2 = y.g.du:=rfl
   omega
  ·show y.g.du - least (owed y.g 2) (payK y a 2).2≤4000000000000000000
   have:=hf.du1
   omega
 have f4:Fit (payK y a 4).1:=by
  refine ⟨f3.pr0,f3.pr1,?_,?_,f3.du0,f3.du1,f3.la0,f3.la1,f3.fi0,f3.fi1,f3.cr0,f3.cr1⟩
  ·show 0≤y.g.it - least (owed y.g 3) (payK y a 3).2
   have:owed y.g 3 = y.g.it:=rfl
   omega
  ·show y.g.it - least (owed y.g 3) (payK y a 3).2≤4000000000000000000
   have:=hf.it1
   omega
 have f5:Fit (payK y a 5).1:=by
  refine ⟨?_,?_,f4.it0,f4.it1,f4.du0,f4.du1,f4.la0,f4.la1,f4.fi0,f4.fi1,f4.cr0,f4.cr1⟩
  ·show 0≤y.g.pr - least (owed y.g 4) (payK y a 4).2
   have:owed y.g 4 = y.g.pr:=rfl
   omega
  ·show y.g.pr - least (owed y.g 4) (payK y a 4).2≤4000000000000000000
   have:=hf.pr1
   omega
 intro k hk
 match k,hk with
 | 0,_=>exact f0
 | 1,_=>exact f1
 | 2,_=>exact f2
 | 3,_=>exact f3
 | 4,_=>exact f4
 | 5,_=>exact f5
theorem payK_can (y:Dy) (a L:Int) (hL:L≤4100000000000) (hf:Fit y) (hm:Am y L) (ha:0≤a) (ha1:a≤100000000000) (k:Nat) (hk:k < 5):CanEnter (payK y a k).1 (5+k) (least (owed y.g k) (payK y a k).2):=by
 have hl:=payK_left y a hf ha k
 have x:=least_nn (owed y.g k) (payK y a k).2 (owed_nn hf k) hl.1
 have l:=least_le (owed y.g k) (payK y a k).2
 have e:=payK_am y a k (5+k) (by omega)
 have n:=hm.nn (5+k)
 have p:=hm.pd (5+k) (by omega) (by omega)
 unfold CanEnter
 rw [e]
 refine ⟨x,n,by omega,?_⟩
 match k,hk with
 | 0,_=>exact l.1
 | 1,_=>exact l.1
 | 2,_=>exact l.1
 | 3,_=>exact l.1
 | 4,_=>exact l.1
theorem pay_can (y:Dy) (a L:Int) (hL:L≤4100000000000) (hf:Fit y) (hm:Am y L) (hc:y.g.cr≤4100000000000) (ha:0≤a) (ha1:a≤100000000000):CanEnter (payK y a 5).1 10 (payK y a 5).2:=by
 have hl:=payK_left y a hf ha 5
 have e:=payK_am y a 5 10 (by omega)
 have n:=hm.nn 10
 have p:=hm.pd 10 (by omega) (by omega)
 unfold CanEnter
 rw [e]
 refine ⟨hl.1,n,by omega,?_⟩
 show y.g.cr+(payK y a 5).2≤9000000000000000000
 omega
theorem Inv.fit {t:Terms} {L:Int} {s:Nat} {g:St} (h:Inv t L s g) (hs:s≤4320) (hL:L≤4100000000000) (hfn:g.fn / den t≤8000000000000000000) (am:Nat→Int):Fit ⟨g,am⟩:=by
 have hb:=h.bound hs hL
 have h1:=h.pr
 have h2:=h.it
 have h3:=h.du
 have h4:=h.la
 have h5:=h.cr1
 have h6:=h.fi1
 exact ⟨h1,by show g.pr≤_; omega,h2,by show g.it≤_; omega,h3,by show g.du≤_; omega,h4,by show g.la≤_; omega,h.fi,by show g.fi≤_; omega,h.cr,by show g.cr≤_; omega⟩
theorem Am.zero (g:St) (L:Int) (hL:0≤L) (hi:g.it≤656820000000000000):Am ⟨g,fun _=>0⟩ L :=
 ⟨fun _=>Int.le_refl _,hL,by show (0:Int)≤_; omega,by show (0:Int)≤_; omega,by show 0+g.it≤_; omega,fun _ _ _=>hL,rfl,rfl⟩
theorem Am.lend {y:Dy} {L:Int} (h:Am y L) (a:Int) (ha:0≤a):Am (enter y 1 a) (L+a):=by
 have h1:=h.a1
 have n1:=h.nn 1
 refine ⟨fun j=>?_,?_,?_,?_,?_,fun j j5 j10=>?_,?_,?_⟩
 ·have:=h.nn j
  show 0≤upd y.am 1 a j
  unfold upd; split <;> omega
 ·show upd y.am 1 a 1≤L+a; rw [upd_same]; omega
 ·show upd y.am 1 a 2≤_; rw [upd_ne _ _ _ _ (by decide)]; exact h.a2
 ·show upd y.am 1 a 3≤_; rw [upd_ne _ _ _ _ (by decide)]; exact h.a3
 ·show upd y.am 1 a 4+y.g.it≤_; rw [upd_ne _ _ _ _ (by decide)]; exact h.a4
 ·have:=h.pd j j5 j10
  show upd y.am 1 a j≤L+a
  rw [upd_ne _ _ _ _ (by omega)]; omega
 ·show upd y.am 1 a 11 = 0; rw [upd_ne _ _ _ _ (by decide)]; exact h.a11
 ·show upd y.am 1 a 12 = 0; rw [upd_ne _ _ _ _ (by decide)]; exact h.a12
theorem Am.more {y:Dy} {L:Int} (h:Am y L) (a:Int) (ha:0≤a):Am y (L+a) :=
 ⟨h.nn,by have:=h.a1; omega,h.a2,h.a3,h.a4,fun j j5 j10=>by have:=h.pd j j5 j10; omega,h.a11,h.a12⟩
theorem Am.capital {y:Dy} {L:Int} (h:Am y L) (hi:0≤y.g.it):Am (enter y 4 y.g.it) L:=by
 have h4:=h.a4
 have n4:=h.nn 4
 refine ⟨fun j=>?_,?_,?_,?_,?_,fun j j5 j10=>?_,?_,?_⟩
 ·have:=h.nn j
  show 0≤upd y.am 4 y.g.it j
  unfold upd; split <;> omega
 ·show upd y.am 4 y.g.it 1≤_; rw [upd_ne _ _ _ _ (by decide)]; exact h.a1
 ·show upd y.am 4 y.g.it 2≤_; rw [upd_ne _ _ _ _ (by decide)]; exact h.a2
 ·show upd y.am 4 y.g.it 3≤_; rw [upd_ne _ _ _ _ (by decide)]; exact h.a3
 ·show upd y.am 4 y.g.it 4+(y.g.it - y.g.it)≤_; rw [upd_same]; omega
 ·show upd y.am 4 y.g.it j≤L
  rw [upd_ne _ _ _ _ (by omega)]; exact h.pd j j5 j10
 ·show upd y.am 4 y.g.it 11 = 0; rw [upd_ne _ _ _ _ (by decide)]; exact h.a11
 ·show upd y.am 4 y.g.it 12 = 0; rw [upd_ne _ _ _ _ (by decide)]; exact h.a12
theorem payK_am_ge (y:Dy) (a:Int) (hf:Fit y) (ha:0≤a):∀ k j,y.am j≤(payK y a k).1.am j∧(payK y a k).1.am j≤y.am j+(a - (payK y a k).2)
 | 0,j=>by
  show y.am j≤y.am j∧y.am j≤y.am j+(a - a)
  omega
 | k+1,j=>by
  have ih:=payK_am_ge y a hf ha k j
  have hl:=payK_left y a hf ha k
  have x:=least_nn (owed y.g k) (payK y a k).2 (owed_nn hf k) hl.1
  show y.am j≤upd (payK y a k).1.am (5+k) (least (owed y.g k) (payK y a k).2) j∧upd (payK y a k).1.am (5+k) (least (owed y.g k) (payK y a k).2) j≤y.am j+(a - ((payK y a k).2 - least (owed y.g k) (payK y a k).2))
  unfold upd
  split <;> omega
theorem Am.pay {y:Dy} {L:Int} (h:Am y L) (hf:Fit y) (a:Int) (ha:0≤a):Am (Ln.pay y a) (L+a):=by
 have hl:=payK_left y a hf ha 5
 have hit:(Ln.pay y a).g.it≤y.g.it:=by
  have x:=least_nn (owed y.g 3) (payK y a 3).2 (owed_nn hf 3) (payK_left y a hf ha 3).1
  show y.g.it - least (owed y.g 3) (payK y a 3).2≤y.g.it
  omega
 have low:∀ j,j < 5∨10 < j→(Ln.pay y a).am j = y.am j:=fun j hj=>by
  show upd (payK y a 5).1.am 10 _ j = _
  rw [upd_ne _ _ _ _ (by omega)]
  exact payK_am y a 5 j (by omega)
 have h4:=h.a4
 refine ⟨fun j=>?_,?_,?_,?_,?_,fun j j5 j10=>?_,?_,?_⟩
 ·have n:=h.nn j
  have g:=(payK_am_ge y a hf ha 5 j).1
  show 0≤upd (payK y a 5).1.am 10 (payK y a 5).2 j
  unfold upd; split <;> omega
 ·rw [low 1 (by decide)]; have:=h.a1; omega
 ·rw [low 2 (by decide)]; exact h.a2
 ·rw [low 3 (by decide)]; exact h.a3
 ·rw [low 4 (by decide)]; omega
 ·have g:=(payK_am_ge y a hf ha 5 j).2
  have p:=h.pd j j5 j10
  show upd (payK y a 5).1.am 10 (payK y a 5).2 j≤L+a
  unfold upd; split <;> omega
 ·rw [low 11 (by decide)]; exact h.a11
 ·rw [low 12 (by decide)]; exact h.a12
theorem Am.event {t:Terms} {y:Dy} {L:Int} (h:Am y L) (hf:Fit y) (n:Int) (e:Ev) (he:OkE t e):Am (Ln.event n y e) (L+lent n e):=by
 have ha:=he.a0
 unfold Ln.event lent
 by_cases hd:e.d = n
 ·simp only [hd,ne_eq,not_true,if_false,if_true]
  by_cases h1:e.k = 1
  ·simp only [h1,if_true]
   exact h.lend e.a ha
  ·simp only [h1,if_false]
   by_cases h2:e.k = 2
   ·simp only [h2,if_true]
    exact ⟨(h.more e.a ha).nn,(h.more e.a ha).a1,h.a2,h.a3,h.a4,(h.more e.a ha).pd,h.a11,h.a12⟩
   ·simp only [h2,if_false]
    by_cases h3:e.k = 3
    ·simp only [h3,if_true]
     split
     ·exact ⟨(h.more e.a ha).nn,(h.more e.a ha).a1,h.a2,h.a3,h.a4,(h.more e.a ha).pd,h.a11,h.a12⟩
     ·exact h.more e.a ha
    ·simp only [h3,if_false]
     by_cases h4:e.k = 4
     ·simp only [h4,if_true]
      exact (h.capital hf.it0).more e.a ha
     ·simp only [h4,if_false]
      have h5:e.k = 5:=by have:=he.k0; have:=he.k1; omega
      simp only [h5,if_true]
      exact h.pay hf e.a ha
 ·simp only [hd,ne_eq,not_false_eq_true,if_true,if_false,Int.add_zero]
  exact h
end Go.Proofs.YtanndhoimpnhpaaGreatDoor.Ln
