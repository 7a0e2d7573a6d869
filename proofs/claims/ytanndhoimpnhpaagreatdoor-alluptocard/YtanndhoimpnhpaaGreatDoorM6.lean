/- Joined by program: TxE, LnB, LnC, LnD, LnF, CalD. -/
import Derived.Test.YtanndhoimpnhpaaGreatDoorM5
import Derived.Laws.AppendOwn
namespace Go.Proofs.YtanndhoimpnhpaaGreatDoor
open Go.ChangeShapes Go.WideShapes Go.ChangeAt Go.RowKit Lg Cal Txt
def NumPost (s:ByteArray) (w:World) (e:Ending) (w':World):Prop :=
 ∃ (z:Int) (b:Bool),e = .returned (.tuple #[.int .i64 z,.bool b])∧Below w.heap.size w w'∧((b = true∧InR z∧s = bs (Lib.itoa z))∨(b = false∧∀ n,InR n→¬ s = bs (Lib.itoa n)))
theorem ba_beq (a b:ByteArray):(a.toList == b.toList) = decide (a = b):=by
 rw [ByteArray.toList_eq,ByteArray.toList_eq]
 by_cases h:a = b
 ·subst h
  simp
 ·rw [decide_eq_false h,beq_eq_false_iff_ne]
  intro e
  apply h
  apply ByteArray.ext
  exact Array.toList_inj.1 e
theorem bs_eq {s:ByteArray} {l:List UInt8} (h:s = bs l):s.data.toList = l:=by rw [h,bs_list]
set_option maxRecDepth 10000 in
set_option maxHeartbeats 1000000 in
theorem number_empty (s:ByteArray) (w:World) (h0:s.size = 0):Calls Tryz.prog 99 #[.string s] w (NumPost s w):=by
 have HE:Hid (∀ n,InR n→¬ s = bs (Lib.itoa n)):=fun n hn e=>by
  have h1:(Lib.itoa n).length = 0:=by rw [← bs_size,← e]; exact h0
  rcases itoa_cases n hn _ rfl with ⟨_,_,hc⟩ | ⟨d,hd,_⟩
  ·have:=(hc.len (by omega)).1; omega
  ·rw [hd] at h1; simp at h1
 have z0:¬ (0:Int) < (s.size:Int):=by omega
 have zl:((s.size:Int) == 0) = true:=by simp [h0]
 go_enter Tryz.func99,Tryz.ntmps99
 go_wp2
 go_ret2
 exact ⟨0,false,rfl,Below.refl _ _,.inr ⟨rfl,HE.out⟩⟩
set_option maxRecDepth 10000 in
set_option maxHeartbeats 1000000 in
theorem number_plain (s:ByteArray) (w:World) (h0:0 < s.size) (hm:¬ (s[0].toNat:Int) = 45):Calls Tryz.prog 99 #[.string s] w (NumPost s w):=by
 have hDs:s.data.toList.length = s.size:=by rw [Array.length_toList]; rfl
 have HC:Hid (¬ Can s.data.toList 9223372036854775807→∀ n,InR n→¬ s = bs (Lib.itoa n)):=fun h n hn e=>by
  rcases itoa_cases n hn _ (bs_eq e) with ⟨_,_,hc⟩ | ⟨d,hd,_⟩
  ·exact h hc
  ·have h5:s.data.toList[0]? = some 45:=by rw [hd]; rfl
   rw [List.getElem?_eq_getElem (by omega)] at h5
   have h6:s[0] = 45:=Option.some.inj h5
   rw [h6] at hm
   exact hm rfl
 have HV:Hid (∀ T,bs (Lib.itoa (dval s.data.toList)) = T→¬ T = s→∀ n,InR n→¬ s = bs (Lib.itoa n)):=fun T hT hne n hn e=>by
  rcases itoa_cases n hn _ (bs_eq e) with ⟨_,h2,_⟩ | ⟨d,hd,_⟩
  ·obtain ⟨u,rfl⟩:=Int.eq_ofNat_of_zero_le h2
   apply hne
   rw [← hT,bs_eq e,Lib.itoa_nonneg,dval_dec]
   exact e.symm
  ·have h5:s.data.toList[0]? = some 45:=by rw [hd]; rfl
   rw [List.getElem?_eq_getElem (by omega)] at h5
   have h6:s[0] = 45:=Option.some.inj h5
   rw [h6] at hm
   exact hm rfl
 have z0:(0:Int) < (s.size:Int):=by omega
 have zl:((s.size:Int) == 0) = false:=by rw [beq_eq_false_iff_ne]; omega
 have zm:((s[0].toNat:Int) == 45) = false:=by simp [hm]
 go_enter Tryz.func99,Tryz.ntmps99
 by_cases hl1:19 < s.size
 ·have zg:(19:Int) < (s.size:Int):=by omega
  have HE:Hid (∀ n,InR n→¬ s = bs (Lib.itoa n)):=HC.out (fun hc=>by have:=(hc.len (by omega)).2; rw [hDs] at this; omega)
  go_wp2
  go_ret2
  exact ⟨0,false,rfl,Below.refl _ _,.inr ⟨rfl,HE.out⟩⟩
 ·have zg:¬ (19:Int) < (s.size:Int):=by omega
  go_wp2
  go_loop [6,7,8] (fun s6 s7 _=>∃ k:Nat,k≤s.size∧s7 = .int .i64 k∧s6 = .int .i64 (-(dval (s.data.toList.take k)))∧allD (s.data.toList.take k) = true∧dval (s.data.toList.take k)≤9223372036854775808) (fun _ s7 _=>s.size - (intOf s7).toNat)
  case atStart=>exact ⟨0,Nat.zero_le _,rfl,rfl,rfl,by simp [dval]⟩
  case round =>
   obtain ⟨k,hk,rfl,rfl,hall,hle⟩:=hrel
   have HAll:=hid hall
   have hge:0≤dval (s.data.toList.take k):=(dval_app _ [] hall rfl).2
   have HLt:Hid (dval (s.data.toList.take k) < 10 ^ k):=(dval_lt _ hall k (by rw [List.length_take,hDs]; omega)).2
   clear hall
   by_cases hlt:k < s.size
   ·have zk:(k:Int) < (s.size:Int):=by omega
    have HSn:Hid (s.data.toList.take (k+1) = s.data.toList.take k ++ [s[k]]):=take_snoc s k hlt
    have HDg:Hid (∀ m,Can s.data.toList m→dg s[k] = true):=fun m hc=>by
     have h1:=(allD_take hc.dig (k+1)).1
     rw [HSn.out,allD_snoc,Bool.and_eq_true] at h1
     exact h1.2
    have HPr:Hid (∀ m,Can s.data.toList m→10*dval (s.data.toList.take k)+(s[k].toNat:Int) - 48≤m):=fun m hc=>by
     have h1:=hc.pre (k+1)
     rw [HSn.out,dval_snoc] at h1
     exact h1
    by_cases h1:(s[k].toNat:Int) < 48
    ·have HE:Hid (∀ n,InR n→¬ s = bs (Lib.itoa n)):=HC.out (fun hc=>by have:=dg_bd (HDg.out _ hc); omega)
     go_wp2
     go_ret2
     exact ⟨0,false,rfl,Below.refl _ _,.inr ⟨rfl,HE.out⟩⟩
    ·by_cases h2:57 < (s[k].toNat:Int)
     ·have HE:Hid (∀ n,InR n→¬ s = bs (Lib.itoa n)):=HC.out (fun hc=>by have:=dg_bd (HDg.out _ hc); omega)
      go_wp2
      go_ret2
      exact ⟨0,false,rfl,Below.refl _ _,.inr ⟨rfl,HE.out⟩⟩
     ·have HG:Hid (dg s[k] = true):=dg_yes (by omega) (by omega)
      have HVs:Hid (dval (s.data.toList.take (k+1)) = 10*dval (s.data.toList.take k)+(s[k].toNat:Int) - 48):=by show _ = _; rw [HSn.out,dval_snoc]
      have HAs:Hid (allD (s.data.toList.take (k+1)) = true):=by show _ = _; rw [HSn.out,allD_snoc,HAll.out,HG.out]; rfl
      clear HDg HSn HAll HG
      generalize hdv:dval (s.data.toList.take k) = a at *
      clear hdv
      by_cases hbig:9223372036854775808 < 10*a+(s[k].toNat:Int) - 48
      ·have hk18:k = 18:=by
        rcases Nat.lt_or_ge k 18 with h | h
        ·have h3:(10:Int) ^ k≤10 ^ 17:=by exact_mod_cast Nat.pow_le_pow_right (n:=10) (by decide) (show k≤17 by omega)
         have h4:=HLt.out
         have e:(10:Int) ^ 17 = 100000000000000000:=by decide
         omega
        ·omega
       have ha18:a < 1000000000000000000:=by
        have h4:=HLt.out
        rw [hk18] at h4
        have e:(10:Int) ^ 18 = 1000000000000000000:=by decide
        omega
       have HE:Hid (∀ n,InR n→¬ s = bs (Lib.itoa n)):=HC.out (fun hc=>by have:=HPr.out _ hc; omega)
       obtain ⟨bb,e4⟩:∃ bb,((k:Int) == 18) = bb:=⟨_,rfl⟩
       have hbt:bb = true:=by rw [← e4,hk18]; rfl
       clear hk18
       have e2:wrap64 (wrap64 (10*-a) - ((s[k].toNat:Int) - 48)) = 10*-a - ((s[k].toNat:Int) - 48)+18446744073709551616:=by unfold wrap64; omega
       have e3:-a < 10*-a - ((s[k].toNat:Int) - 48)+18446744073709551616:=by omega
       clear HVs HAs HPr HLt
       go_wp2
       go_ret2
       exact ⟨0,false,rfl,Below.refl _ _,.inr ⟨rfl,HE.out⟩⟩
      ·have e1:wrap64 (10*-a) = 10*-a:=by unfold wrap64; omega
       have e2:wrap64 (10*-a - ((s[k].toNat:Int) - 48)) = 10*-a - ((s[k].toNat:Int) - 48):=by unfold wrap64; omega
       have e3:¬ -a < 10*-a - ((s[k].toNat:Int) - 48):=by omega
       by_cases h18:k = 18
       ·obtain ⟨bb,e4⟩:∃ bb,((k:Int) == 18) = bb:=⟨_,rfl⟩
        have hbt:bb = true:=by rw [← e4,h18]; rfl
        clear h18
        clear HPr HLt
        go_wp2
        go_round
        case rel=>exact ⟨k+1,by omega,by go_num,by rw [HVs.out]; congr 2; omega,HAs.out,by rw [HVs.out]; omega⟩
        case measure=>simp [intOf]; omega
       ·have e4:((k:Int) == 18) = false:=by rw [beq_eq_false_iff_ne]; omega
        clear HPr HLt
        go_wp2
        go_round
        case rel=>exact ⟨k+1,by omega,by go_num,by rw [HVs.out]; congr 2; omega,HAs.out,by rw [HVs.out]; omega⟩
        case measure=>simp [intOf]; omega
   ·have ek:s.data.toList.take k = s.data.toList:=take_all s k hlt
    have zk:¬ (k:Int) < (s.size:Int):=by omega
    rw [ek] at hle hge
    have HAd:Hid (allD s.data.toList = true):=by have:=HAll.out; rwa [ek] at this
    rw [ek]
    clear HAll HLt ek
    obtain ⟨a,hdv⟩:∃ a,dval s.data.toList = a:=⟨_,rfl⟩
    rw [hdv] at hle hge
    rw [hdv]
    by_cases hbig:a = 9223372036854775808
    ·have HE:Hid (∀ n,InR n→¬ s = bs (Lib.itoa n)):=HC.out (fun hc=>by have:=hc.val; rw [hdv] at this; omega)
     have e1:wrap64 a = -9223372036854775808:=by unfold wrap64; omega
     have e0:IntKind.i64.wrap a = -9223372036854775808:=by rw [IntKind.wrap_i64]; omega
     clear hbig hle hge HC HV HAd hdv
     go_wp2
     go_ret2
     exact ⟨0,false,rfl,Below.refl _ _,.inr ⟨rfl,HE.out⟩⟩
    ·have e1:wrap64 a = a:=by unfold wrap64; omega
     have e0:IntKind.i64.wrap a = a:=by rw [IntKind.wrap_i64]; omega
     have e2:¬ a < 0:=by omega
     have hD:=dec_any a (by omega) (by omega) w
     have HR:Hid (InR a):=⟨by omega,by omega⟩
     clear hbig HC
     go_wp2_with fail
     refine hD.mono ?_
     rintro e w1 ⟨rfl,hb1⟩
     clear hD
     obtain ⟨T,hT⟩:∃ T,T = bs (Lib.itoa a):=⟨_,rfl⟩
     rw [← hT]
     have HT:=hid hT
     clear hT
     by_cases hTs:T = s
     ·have e5:(T.toList == s.toList) = true:=by rw [ba_beq,decide_eq_true hTs]
      go_wp2
      go_ret2
      exact ⟨a,true,rfl,hb1,.inl ⟨rfl,HR.out,by rw [← HT.out,hTs]⟩⟩
     ·have e5:(T.toList == s.toList) = false:=by rw [ba_beq,decide_eq_false hTs]
      have HE:Hid (∀ n,InR n→¬ s = bs (Lib.itoa n)):=HV.out T (by rw [hdv]; exact HT.out.symm) hTs
      go_wp2
      go_ret2
      exact ⟨_,false,rfl,hb1,.inr ⟨rfl,HE.out⟩⟩
set_option maxRecDepth 10000 in
set_option maxHeartbeats 1000000 in
theorem number_minus (s:ByteArray) (w:World) (h0:0 < s.size) (hm:(s[0].toNat:Int) = 45):Calls Tryz.prog 99 #[.string s] w (NumPost s w):=by
 have h45:s[0] = 45:=UInt8.toNat_inj.1 (by show s[0].toNat = 45; omega)
 have hsl:s.data.toList.length = s.size:=by rw [Array.length_toList]; rfl
 obtain ⟨d,hd⟩:∃ d,d = s.extract 1 s.size:=⟨_,rfl⟩
 have hdl:d.data.toList = s.data.toList.drop 1:=by
  rw [hd,ByteArray.data_extract,Array.toList_extract]
  unfold List.extract
  rw [List.take_of_length_le (by rw [List.length_drop,hsl]; omega)]
 have hDs:d.data.toList.length = d.size:=by rw [Array.length_toList]; rfl
 have hsd:s.data.toList = 45 :: d.data.toList:=by
  rw [hdl]
  match hl:s.data.toList,hsl with
  | [],hsl=>simp at hsl; omega
  | c :: r,_ =>
   have h5:s.data.toList[0]? = some c:=by rw [hl]; rfl
   rw [List.getElem?_eq_getElem (by omega)] at h5
   have h6:s[0] = c:=Option.some.inj h5
   rw [h45] at h6
   rw [← h6]
   rfl
 have HC:Hid (¬ Can d.data.toList 9223372036854775808→∀ n,InR n→¬ s = bs (Lib.itoa n)):=fun h n hn e=>by
  rcases itoa_cases n hn _ (bs_eq e) with ⟨h1,_⟩ | ⟨d',hd',_,hc⟩
  ·rw [hsd] at h1; simp at h1
  ·rw [hsd] at hd'
   simp only [List.cons.injEq,true_and] at hd'
   rw [hd'] at h
   exact h hc
 have HV:Hid (∀ T,bs (Lib.itoa (-(dval d.data.toList))) = T→¬ T = s→∀ n,InR n→¬ s = bs (Lib.itoa n)):=fun T hT hne n hn e=>by
  rcases itoa_cases n hn _ (bs_eq e) with ⟨h1,_⟩ | ⟨d',hd',hneg,u,hu,hdu⟩
  ·rw [hsd] at h1; simp at h1
  ·rw [hsd] at hd'
   simp only [List.cons.injEq,true_and] at hd'
   have hi:=bs_eq e
   rw [hsd,hd',hdu] at hi
   have hn2:n = -(u:Int):=by
    unfold Lib.itoa at hi
    rw [if_pos hneg] at hi
    simp only [List.cons.injEq,true_and] at hi
    have e1:=dval_dec u
    rw [hi,dval_dec] at e1
    omega
   apply hne
   rw [← hT,hd',hdu,dval_dec,← hn2]
   exact e.symm
 have z0:(0:Int) < (s.size:Int):=by omega
 have zm:((s[0].toNat:Int) == 45) = true:=by simp [hm]
 have HDe:Hid (s.extract 1 s.size = d):=hd.symm
 have hz1:1≤s.size:=h0
 clear hd hdl hsd h45 hm hsl
 go_enter Tryz.func99,Tryz.ntmps99
 go_upto_region 5 with fail
 rw [HDe.out]
 clear HDe
 by_cases hl0:d.size = 0
 ·have zl:((d.size:Int) == 0) = true:=by simp [hl0]
  have HE:Hid (∀ n,InR n→¬ s = bs (Lib.itoa n)):=HC.out (fun hc=>by have:=(hc.len (by omega)).1; rw [hDs] at this; omega)
  go_wp2
  go_ret2
  exact ⟨0,false,rfl,Below.refl _ _,.inr ⟨rfl,HE.out⟩⟩
 ·have zl:((d.size:Int) == 0) = false:=by simp [hl0]
  by_cases hl1:19 < d.size
  ·have zg:(19:Int) < (d.size:Int):=by omega
   have HE:Hid (∀ n,InR n→¬ s = bs (Lib.itoa n)):=HC.out (fun hc=>by have:=(hc.len (by omega)).2; rw [hDs] at this; omega)
   go_wp2
   go_ret2
   exact ⟨0,false,rfl,Below.refl _ _,.inr ⟨rfl,HE.out⟩⟩
  ·have zg:¬ (19:Int) < (d.size:Int):=by omega
   go_wp2
   go_loop [6,7,8] (fun s6 s7 _=>∃ k:Nat,k≤d.size∧s7 = .int .i64 k∧s6 = .int .i64 (-(dval (d.data.toList.take k)))∧allD (d.data.toList.take k) = true∧dval (d.data.toList.take k)≤9223372036854775808) (fun _ s7 _=>d.size - (intOf s7).toNat)
   case atStart=>exact ⟨0,Nat.zero_le _,rfl,rfl,rfl,by simp [dval]⟩
   case round =>
    obtain ⟨k,hk,rfl,rfl,hall,hle⟩:=hrel
    have HAll:=hid hall
    have hge:0≤dval (d.data.toList.take k):=(dval_app _ [] hall rfl).2
    have HLt:Hid (dval (d.data.toList.take k) < 10 ^ k):=(dval_lt _ hall k (by rw [List.length_take,hDs]; omega)).2
    clear hall
    by_cases hlt:k < d.size
    ·have zk:(k:Int) < (d.size:Int):=by omega
     have HSn:Hid (d.data.toList.take (k+1) = d.data.toList.take k ++ [d[k]]):=take_snoc d k hlt
     have HDg:Hid (∀ m,Can d.data.toList m→dg d[k] = true):=fun m hc=>by
      have h1:=(allD_take hc.dig (k+1)).1
      rw [HSn.out,allD_snoc,Bool.and_eq_true] at h1
      exact h1.2
     have HPr:Hid (∀ m,Can d.data.toList m→10*dval (d.data.toList.take k)+(d[k].toNat:Int) - 48≤m):=fun m hc=>by
      have h1:=hc.pre (k+1)
      rw [HSn.out,dval_snoc] at h1
      exact h1
     by_cases h1:(d[k].toNat:Int) < 48
     ·have HE:Hid (∀ n,InR n→¬ s = bs (Lib.itoa n)):=HC.out (fun hc=>by have:=dg_bd (HDg.out _ hc); omega)
      go_wp2
      go_ret2
      exact ⟨0,false,rfl,Below.refl _ _,.inr ⟨rfl,HE.out⟩⟩
     ·by_cases h2:57 < (d[k].toNat:Int)
      ·have HE:Hid (∀ n,InR n→¬ s = bs (Lib.itoa n)):=HC.out (fun hc=>by have:=dg_bd (HDg.out _ hc); omega)
       go_wp2
       go_ret2
       exact ⟨0,false,rfl,Below.refl _ _,.inr ⟨rfl,HE.out⟩⟩
      ·have HG:Hid (dg d[k] = true):=dg_yes (by omega) (by omega)
       have HVs:Hid (dval (d.data.toList.take (k+1)) = 10*dval (d.data.toList.take k)+(d[k].toNat:Int) - 48):=by show _ = _; rw [HSn.out,dval_snoc]
       have HAs:Hid (allD (d.data.toList.take (k+1)) = true):=by show _ = _; rw [HSn.out,allD_snoc,HAll.out,HG.out]; rfl
       clear HDg HSn HAll HG
       generalize hdv:dval (d.data.toList.take k) = a at *
       clear hdv
       by_cases hbig:9223372036854775808 < 10*a+(d[k].toNat:Int) - 48
       ·have hk18:k = 18:=by
         rcases Nat.lt_or_ge k 18 with h | h
         ·have h3:(10:Int) ^ k≤10 ^ 17:=by exact_mod_cast Nat.pow_le_pow_right (n:=10) (by decide) (show k≤17 by omega)
          have h4:=HLt.out
          have e:(10:Int) ^ 17 = 100000000000000000:=by decide
          omega
         ·omega
        have ha18:a < 1000000000000000000:=by
         have h4:=HLt.out
         rw [hk18] at h4
         have e:(10:Int) ^ 18 = 1000000000000000000:=by decide
         omega
        have HE:Hid (∀ n,InR n→¬ s = bs (Lib.itoa n)):=HC.out (fun hc=>by have:=HPr.out _ hc; omega)
        obtain ⟨bb,e4⟩:∃ bb,((k:Int) == 18) = bb:=⟨_,rfl⟩
        have hbt:bb = true:=by rw [← e4,hk18]; rfl
        clear hk18
        have e2:wrap64 (wrap64 (10*-a) - ((d[k].toNat:Int) - 48)) = 10*-a - ((d[k].toNat:Int) - 48)+18446744073709551616:=by unfold wrap64; omega
        have e3:-a < 10*-a - ((d[k].toNat:Int) - 48)+18446744073709551616:=by omega
        clear HVs HAs HPr HLt
        go_wp2
        go_ret2
        exact ⟨0,false,rfl,Below.refl _ _,.inr ⟨rfl,HE.out⟩⟩
       ·have e1:wrap64 (10*-a) = 10*-a:=by unfold wrap64; omega
        have e2:wrap64 (10*-a - ((d[k].toNat:Int) - 48)) = 10*-a - ((d[k].toNat:Int) - 48):=by unfold wrap64; omega
        have e3:¬ -a < 10*-a - ((d[k].toNat:Int) - 48):=by omega
        by_cases h18:k = 18
        ·obtain ⟨bb,e4⟩:∃ bb,((k:Int) == 18) = bb:=⟨_,rfl⟩
         have hbt:bb = true:=by rw [← e4,h18]; rfl
         clear h18
         clear HPr HLt
         go_wp2
         go_round
         case rel=>exact ⟨k+1,by omega,by go_num,by rw [HVs.out]; congr 2; omega,HAs.out,by rw [HVs.out]; omega⟩
         case measure=>simp [intOf]; omega
        ·have e4:((k:Int) == 18) = false:=by rw [beq_eq_false_iff_ne]; omega
         clear HPr HLt
         go_wp2
         go_round
         case rel=>exact ⟨k+1,by omega,by go_num,by rw [HVs.out]; congr 2; omega,HAs.out,by rw [HVs.out]; omega⟩
         case measure=>simp [intOf]; omega
    ·have ek:d.data.toList.take k = d.data.toList:=take_all d k hlt
     have zk:¬ (k:Int) < (d.size:Int):=by omega
     rw [ek] at hle hge
     have HAd:Hid (allD d.data.toList = true):=by have:=HAll.out; rwa [ek] at this
     rw [ek]
     clear HAll HLt ek
     obtain ⟨a,hdv⟩:∃ a,dval d.data.toList = a:=⟨_,rfl⟩
     rw [hdv] at hle hge
     rw [hdv]
     have hD:=dec_any (-a) (by omega) (by omega) w
     have HR:Hid (InR (-a)):=⟨by omega,by omega⟩
     clear HC
     go_wp2_with fail
     refine hD.mono ?_
     rintro e w1 ⟨rfl,hb1⟩
     clear hD
     obtain ⟨T,hT⟩:∃ T,T = bs (Lib.itoa (-a)):=⟨_,rfl⟩
     rw [← hT]
     have HT:=hid hT
     clear hT
     by_cases hTs:T = s
     ·have e5:(T.toList == s.toList) = true:=by rw [ba_beq,decide_eq_true hTs]
      go_wp2
      go_ret2
      exact ⟨-a,true,rfl,hb1,.inl ⟨rfl,HR.out,by rw [← HT.out,hTs]⟩⟩
     ·have e5:(T.toList == s.toList) = false:=by rw [ba_beq,decide_eq_false hTs]
      have HE:Hid (∀ n,InR n→¬ s = bs (Lib.itoa n)):=HV.out T (by rw [hdv]; exact HT.out.symm) hTs
      go_wp2
      go_ret2
      exact ⟨_,false,rfl,hb1,.inr ⟨rfl,HE.out⟩⟩
theorem refnumber_any (s:ByteArray) (w:World):Calls Tryz.prog 99 #[.string s] w (NumPost s w):=by
 by_cases h0:0 < s.size
 ·by_cases hm:(s[0].toNat:Int) = 45
  ·exact number_minus s w h0 hm
  ·exact number_plain s w h0 hm
 ·exact number_empty s w (by omega)
end Go.Proofs.YtanndhoimpnhpaaGreatDoor
namespace Go.Proofs.YtanndhoimpnhpaaGreatDoor
open Go.ChangeShapes Go.WideShapes Go.ChangeAt Go.RowKit Lg
theorem infoInt:(Tryz.prog.info? 3).map (fun i=>(i.zero,i.size,i.bytes)) = some (some (.int .i64 0),1,8):=by kernel_rfl
def cy (L:Nat→Int) (a b:Int):Nat→Int × Int
 | 0=>(0,a)
 | k+1=>(((cy L a b k).1+L k+(cy L a b k).2 % 1000000*b) / 1000000,(cy L a b k).2 / 1000000)
def od (L:Nat→Int) (a b:Int) (k:Nat):Int:=((cy L a b k).1+L k+(cy L a b k).2 % 1000000*b) % 1000000
def ods (L:Nat→Int) (a b:Int) (k:Nat):List Int:=(List.range k).map (od L a b)
theorem ods_six (l:List Int) (a b:Int) (h:l.length = 6):ods (fun j=>l.getD j 0) a b 6 = addTo 0 a b l:=by
 match l,h with
 | [d0,d1,d2,d3,d4,d5],_=>rfl
theorem ods_succ (L:Nat→Int) (a b:Int) (k:Nat):ods L a b (k+1) = ods L a b k ++ [od L a b k]:=by
 simp [ods,List.range_succ]
theorem cy_bd (L:Nat→Int) (a b:Int) (hL:∀ j,0≤L j∧L j < 1000000) (ha:0≤a) (hb0:0≤b) (hb1:b≤4000000):∀ k,0≤(cy L a b k).1∧(cy L a b k).1≤5000000∧0≤(cy L a b k).2∧(cy L a b k).2≤a
 | 0=>⟨Int.le_refl _,by show (0:Int)≤5000000; decide,ha,Int.le_refl _⟩
 | k+1=>by
  obtain ⟨h1,h2,h3,h4⟩:=cy_bd L a b hL ha hb0 hb1 k
  have h5:=hL k
  have m0:0≤(cy L a b k).2 % 1000000:=Int.emod_nonneg _ (by decide)
  have m1:(cy L a b k).2 % 1000000≤999999:=by omega
  have p0:=Int.mul_nonneg m0 hb0
  have p1:(cy L a b k).2 % 1000000*b≤999999*4000000:=Int.mul_le_mul m1 hb1 hb0 (by decide)
  show 0≤((cy L a b k).1+L k+(cy L a b k).2 % 1000000*b) / 1000000∧((cy L a b k).1+L k+(cy L a b k).2 % 1000000*b) / 1000000≤5000000∧0≤(cy L a b k).2 / 1000000∧(cy L a b k).2 / 1000000≤a
  omega
def icells (l:List Int):List Value:=l.map (Value.int .i64)
theorem own_from {w:World} {base:Nat} {e:TypeId} {size:Nat} {v:Value} {n:Nat} {xs:List Value} (h:w.ownsRow base e size v n xs) {k:Nat} (hk:v.ownBlock = some k):base≤k:=by
 obtain ⟨_,⟨rfl,_⟩ | ⟨g,cap,cur,rfl,hg,_⟩⟩:=h
 ·simp [Value.ownBlock] at hk
 ·simp [Value.ownBlock] at hk
  omega
set_option maxRecDepth 10000 in
set_option maxHeartbeats 1000000 in
theorem plus_core (v:Value) (n:Nat) (L:Nat→Int) (a b:Int) (w:World) (hn:n≤6) (hL:∀ j,0≤L j∧L j < 1000000) (ha:0≤a) (ha1:a≤4000000000000000000) (hb0:0≤b) (hb1:b≤4000000)
  (hv:(n = 0∧v = .slice none 0 0∧∀ j,L j = 0)∨∃ g cap,n = 6∧v = .slice (some ⟨g,0,none⟩) 6 cap∧g < w.heap.size∧∀ j,j < 6→w.cell? ⟨g,j,none⟩ = some (.int .i64 (L j))) :
  Calls Tryz.prog 123 #[v,.int .i64 a,.int .i64 b] w fun e w'=>∃ r,e = .returned r∧w'.ownsRow w.heap.size 3 1 r 6 (icells (ods L a b 6))∧Below w.heap.size w w':=by
 obtain ⟨i0,hi,hz0,hz1,hz2⟩:=info_parts infoInt
 rcases hv with ⟨rfl,rfl,hz⟩ | ⟨g,cap,rfl,rfl,hg,hc⟩
 ·go_enter Tryz.func123,Tryz.ntmps123
  go_wp2
  go_loopw [1,7,8,9] (fun q o c i wr=>∃ k:Nat,k≤6∧i = .int .i64 k∧q = .int .i64 (cy L a b k).2∧c = .int .i64 (cy L a b k).1∧wr.ownsRow w.heap.size 3 1 o k (icells (ods L a b k))∧Below w.heap.size w wr) (fun _ _ _ i _=>6 - (intOf i).toNat)
  case atStart=>exact ⟨0,by omega,rfl,rfl,rfl,World.ownsRow_nil _ _ _ _,Below.refl _ _⟩
  case round =>
   obtain ⟨k,hk,rfl,rfl,rfl,hown,hbel⟩:=hrel
   obtain ⟨b1,b2,b3,b4⟩:=cy_bd L a b hL ha hb0 hb1 k
   have hLk:=hL k
   have hcy:Hid (cy L a b (k+1) = (((cy L a b k).1+L k+(cy L a b k).2 % 1000000*b) / 1000000,(cy L a b k).2 / 1000000)):=rfl
   have hod:Hid (od L a b k = ((cy L a b k).1+L k+(cy L a b k).2 % 1000000*b) % 1000000):=rfl
   have m0:0≤(cy L a b k).2 % 1000000:=Int.emod_nonneg _ (by decide)
   have m1:(cy L a b k).2 % 1000000≤999999:=by omega
   have p0:=Int.mul_nonneg m0 hb0
   have p1:(cy L a b k).2 % 1000000*b≤3999996000000:=Int.mul_le_mul m1 hb1 hb0 (by decide)
   by_cases hlt:k < 6
   ·have hLz:=hz k
    rw [hLz,Int.add_zero] at hcy hod
    generalize (cy L a b k).1 = c at *
    generalize (cy L a b k).2 = q at *
    clear hL hLk hLz hz
    have hk6:(k:Int) < 6:=by omega
    go_wp2_with (at_builtin; refine wpList_append_own _ rfl _ _ 164 rfl w.heap.size 3 i0 (.int .i64 0) 1 8 Tryz.underlying164 hi hz0 hz1 hz2 rfl (by decide) _ _ _ rfl (hown.alloc _) ⟨wr.heap.size,0,none⟩ 1 1 [.int .i64 ((c+q % 1000000*b) % 1000000)] rfl rfl ?c1 ?c2 ?c3 ?c4 ?c5 ?_)
    case c1 =>
     intro j u hj
     match j,hj with
     | 0,hj=>simp at hj; subst hj; simp [Addr.add]
    case c2=>intro u hu; simp at hu; subst hu; rfl
    case c3=>unfold maxLen; omega
    case c4=>omega
    case c5=>have:=hbel.size; simp; omega
    ·intro v' w1 hown' hgrow _
     have hb1:Below w.heap.size w w1:=(hbel.alloc hbel.size _).grown hgrow (by simp; exact Nat.le_succ_of_le hbel.size) (fun j hj=>own_from hown hj)
     have hown2:w1.ownsRow w.heap.size 3 1 v' (k+1) (icells (ods L a b (k+1))):=by
      rw [ods_succ,hod.out]
      simpa [icells] using hown'
     clear hown' hgrow hown hbel
     go_wp2
     go_roundw
     case rel=>exact ⟨k+1,by omega,by go_num,by rw [hcy.out],by rw [hcy.out],hown2,hb1⟩
     case measure=>simp [intOf]; omega
   ·obtain rfl:k = 6:=by omega
    clear hL hcy hod hz
    go_wp2
    go_ret
    exact ⟨_,rfl,hown,hbel⟩
 ·go_enter Tryz.func123,Tryz.ntmps123
  go_wp2
  go_loopw [1,7,8,9] (fun q o c i wr=>∃ k:Nat,k≤6∧i = .int .i64 k∧q = .int .i64 (cy L a b k).2∧c = .int .i64 (cy L a b k).1∧wr.ownsRow w.heap.size 3 1 o k (icells (ods L a b k))∧Below w.heap.size w wr) (fun _ _ _ i _=>6 - (intOf i).toNat)
  case atStart=>exact ⟨0,by omega,rfl,rfl,rfl,World.ownsRow_nil _ _ _ _,Below.refl _ _⟩
  case round =>
   obtain ⟨k,hk,rfl,rfl,rfl,hown,hbel⟩:=hrel
   obtain ⟨b1,b2,b3,b4⟩:=cy_bd L a b hL ha hb0 hb1 k
   have hLk:=hL k
   have hcy:Hid (cy L a b (k+1) = (((cy L a b k).1+L k+(cy L a b k).2 % 1000000*b) / 1000000,(cy L a b k).2 / 1000000)):=rfl
   have hod:Hid (od L a b k = ((cy L a b k).1+L k+(cy L a b k).2 % 1000000*b) % 1000000):=rfl
   have m0:0≤(cy L a b k).2 % 1000000:=Int.emod_nonneg _ (by decide)
   have m1:(cy L a b k).2 % 1000000≤999999:=by omega
   have p0:=Int.mul_nonneg m0 hb0
   have p1:(cy L a b k).2 % 1000000*b≤3999996000000:=Int.mul_le_mul m1 hb1 hb0 (by decide)
   by_cases hlt:k < 6
   ·have hcell:wr.cell? ⟨g,k,none⟩ = some (.int .i64 (L k)):=(hbel.cell (p:=⟨g,k,none⟩) hg).trans (hc k hlt)
    generalize (cy L a b k).1 = c at *
    generalize (cy L a b k).2 = q at *
    clear hc hL hg
    have hk6:(k:Int) < 6:=by omega
    generalize L k = d at *
    go_wp2_with (at_builtin; refine wpList_append_own _ rfl _ _ 164 rfl w.heap.size 3 i0 (.int .i64 0) 1 8 Tryz.underlying164 hi hz0 hz1 hz2 rfl (by decide) _ _ _ rfl (hown.alloc _) ⟨wr.heap.size,0,none⟩ 1 1 [.int .i64 ((c+d+q % 1000000*b) % 1000000)] rfl rfl ?c1 ?c2 ?c3 ?c4 ?c5 ?_)
    case c1 =>
     intro j u hj
     match j,hj with
     | 0,hj=>simp at hj; subst hj; simp [Addr.add]
    case c2=>intro u hu; simp at hu; subst hu; rfl
    case c3=>unfold maxLen; omega
    case c4=>omega
    case c5=>have:=hbel.size; simp; omega
    ·intro v' w1 hown' hgrow _
     have hb1:Below w.heap.size w w1:=(hbel.alloc hbel.size _).grown hgrow (by simp; exact Nat.le_succ_of_le hbel.size) (fun j hj=>own_from hown hj)
     have hown2:w1.ownsRow w.heap.size 3 1 v' (k+1) (icells (ods L a b (k+1))):=by
      rw [ods_succ,hod.out]
      simpa [icells] using hown'
     clear hown' hgrow hown hbel
     go_wp2
     go_roundw
     case rel=>exact ⟨k+1,by omega,by go_num,by rw [hcy.out],by rw [hcy.out],hown2,hb1⟩
     case measure=>simp [intOf]; omega
   ·obtain rfl:k = 6:=by omega
    clear hc hL hg hcy hod
    go_wp2
    go_ret
    exact ⟨_,rfl,hown,hbel⟩
def gl (t:Ln.Terms) (g:Ln.St) (dy:Int) (ev fv av:Value):List Value :=
 [.int .i64 t.st,.int .i64 t.pr,.int .i64 t.rt,.int .i64 t.fi,.int .i64 t.ba,.int .i64 t.du,.int .i64 g.pr,.int .i64 g.it,.int .i64 g.du,.int .i64 g.la,.int .i64 g.fi,.int .i64 g.cr,.int .i64 g.rt,.int .i64 dy,ev,fv,.int .i64 g.fr,av]
def al (am:Nat→Int):List Value :=
 [.int .i64 (am 0),.int .i64 (am 1),.int .i64 (am 2),.int .i64 (am 3),.int .i64 (am 4),.int .i64 (am 5),.int .i64 (am 6),.int .i64 (am 7),.int .i64 (am 8),.int .i64 (am 9),.int .i64 (am 10),.int .i64 (am 11),.int .i64 (am 12)]
structure Gon (w:World) (G A:Nat) (t:Ln.Terms) (y:Ln.Dy) (dy:Int) (ev fv:Value):Prop where
 ne:¬ A = G
 cap:∃ cap,At w G (gl t y.g dy ev fv (.slice (some ⟨A,0,none⟩) 13 cap))
 amt:At w A (al y.am)
set_option maxRecDepth 10000 in
set_option maxHeartbeats 1000000 in
theorem enter_1 (G A cap:Nat) (x a:Int) (pr:Int) (pr0:0≤pr) (pr1:pr≤8000000000000000000) (w:World) (_hGA:¬ A = G) (_hAG:¬ G = A) (a0:0≤a) (x0:0≤x) (x1:x+a≤9000000000000000000) (pr2:pr+a≤9000000000000000000)
  (hS:w.cell? ⟨G,17,none⟩ = some (.slice (some ⟨A,0,none⟩) 13 cap)) (hA:w.cell? ⟨A,1,none⟩ = some (.int .i64 x)) (hAf:w.frozen? ⟨A,1,none⟩ = false) (c_pr:w.cell? ⟨G,6,none⟩ = some (.int .i64 pr)) (z_pr:w.frozen? ⟨G,6,none⟩ = false) :
  Calls Tryz.prog 119 #[.pointer (some ⟨G,0,none⟩),.int .i64 1,.int .i64 a] w fun e w'=>e = .returned (.tuple #[])∧w' = ((w.setCell ⟨A,1,none⟩ (.int .i64 (x+a))).setCell ⟨G,6,none⟩ (.int .i64 (pr+a))).drew:=by
 go_enter Tryz.func119,Tryz.ntmps119
 go_wp2
 go_region
 go_wp2
 go_end0
 exact ⟨rfl,rfl⟩
set_option maxRecDepth 10000 in
set_option maxHeartbeats 1000000 in
theorem enter_2 (G A cap:Nat) (x a:Int) (la:Int) (la0:0≤la) (la1:la≤8000000000000000000) (du:Int) (du0:0≤du) (du1:du≤8000000000000000000) (w:World) (_hGA:¬ A = G) (_hAG:¬ G = A) (a0:0≤a) (x0:0≤x) (x1:x+a≤9000000000000000000) (la2:la+a≤9000000000000000000) (du2:a≤du)
  (hS:w.cell? ⟨G,17,none⟩ = some (.slice (some ⟨A,0,none⟩) 13 cap)) (hA:w.cell? ⟨A,2,none⟩ = some (.int .i64 x)) (hAf:w.frozen? ⟨A,2,none⟩ = false) (c_la:w.cell? ⟨G,9,none⟩ = some (.int .i64 la)) (z_la:w.frozen? ⟨G,9,none⟩ = false) (c_du:w.cell? ⟨G,8,none⟩ = some (.int .i64 du)) (z_du:w.frozen? ⟨G,8,none⟩ = false) :
  Calls Tryz.prog 119 #[.pointer (some ⟨G,0,none⟩),.int .i64 2,.int .i64 a] w fun e w'=>e = .returned (.tuple #[])∧w' = (((w.setCell ⟨A,2,none⟩ (.int .i64 (x+a))).setCell ⟨G,9,none⟩ (.int .i64 (la+a))).setCell ⟨G,8,none⟩ (.int .i64 (du - a))).drew:=by
 go_enter Tryz.func119,Tryz.ntmps119
 go_wp2
 go_region
 go_wp2
 go_end0
 exact ⟨rfl,rfl⟩
set_option maxRecDepth 10000 in
set_option maxHeartbeats 1000000 in
theorem enter_3 (G A cap:Nat) (x a:Int) (du:Int) (du0:0≤du) (du1:du≤8000000000000000000) (it:Int) (it0:0≤it) (it1:it≤8000000000000000000) (w:World) (_hGA:¬ A = G) (_hAG:¬ G = A) (a0:0≤a) (x0:0≤x) (x1:x+a≤9000000000000000000) (du2:du+a≤9000000000000000000) (it2:a≤it)
  (hS:w.cell? ⟨G,17,none⟩ = some (.slice (some ⟨A,0,none⟩) 13 cap)) (hA:w.cell? ⟨A,3,none⟩ = some (.int .i64 x)) (hAf:w.frozen? ⟨A,3,none⟩ = false) (c_du:w.cell? ⟨G,8,none⟩ = some (.int .i64 du)) (z_du:w.frozen? ⟨G,8,none⟩ = false) (c_it:w.cell? ⟨G,7,none⟩ = some (.int .i64 it)) (z_it:w.frozen? ⟨G,7,none⟩ = false) :
  Calls Tryz.prog 119 #[.pointer (some ⟨G,0,none⟩),.int .i64 3,.int .i64 a] w fun e w'=>e = .returned (.tuple #[])∧w' = (((w.setCell ⟨A,3,none⟩ (.int .i64 (x+a))).setCell ⟨G,8,none⟩ (.int .i64 (du+a))).setCell ⟨G,7,none⟩ (.int .i64 (it - a))).drew:=by
 go_enter Tryz.func119,Tryz.ntmps119
 go_wp2
 go_region
 go_wp2
 go_end0
 exact ⟨rfl,rfl⟩
set_option maxRecDepth 10000 in
set_option maxHeartbeats 1000000 in
theorem enter_4 (G A cap:Nat) (x a:Int) (pr:Int) (pr0:0≤pr) (pr1:pr≤8000000000000000000) (it:Int) (it0:0≤it) (it1:it≤8000000000000000000) (w:World) (_hGA:¬ A = G) (_hAG:¬ G = A) (a0:0≤a) (x0:0≤x) (x1:x+a≤9000000000000000000) (pr2:pr+a≤9000000000000000000) (it2:a≤it)
  (hS:w.cell? ⟨G,17,none⟩ = some (.slice (some ⟨A,0,none⟩) 13 cap)) (hA:w.cell? ⟨A,4,none⟩ = some (.int .i64 x)) (hAf:w.frozen? ⟨A,4,none⟩ = false) (c_pr:w.cell? ⟨G,6,none⟩ = some (.int .i64 pr)) (z_pr:w.frozen? ⟨G,6,none⟩ = false) (c_it:w.cell? ⟨G,7,none⟩ = some (.int .i64 it)) (z_it:w.frozen? ⟨G,7,none⟩ = false) :
  Calls Tryz.prog 119 #[.pointer (some ⟨G,0,none⟩),.int .i64 4,.int .i64 a] w fun e w'=>e = .returned (.tuple #[])∧w' = (((w.setCell ⟨A,4,none⟩ (.int .i64 (x+a))).setCell ⟨G,6,none⟩ (.int .i64 (pr+a))).setCell ⟨G,7,none⟩ (.int .i64 (it - a))).drew:=by
 go_enter Tryz.func119,Tryz.ntmps119
 go_wp2
 go_region
 go_wp2
 go_end0
 exact ⟨rfl,rfl⟩
set_option maxRecDepth 10000 in
set_option maxHeartbeats 1000000 in
theorem enter_5 (G A cap:Nat) (x a:Int) (fi:Int) (fi0:0≤fi) (fi1:fi≤8000000000000000000) (w:World) (_hGA:¬ A = G) (_hAG:¬ G = A) (a0:0≤a) (x0:0≤x) (x1:x+a≤9000000000000000000) (fi2:a≤fi)
  (hS:w.cell? ⟨G,17,none⟩ = some (.slice (some ⟨A,0,none⟩) 13 cap)) (hA:w.cell? ⟨A,5,none⟩ = some (.int .i64 x)) (hAf:w.frozen? ⟨A,5,none⟩ = false) (c_fi:w.cell? ⟨G,10,none⟩ = some (.int .i64 fi)) (z_fi:w.frozen? ⟨G,10,none⟩ = false) :
  Calls Tryz.prog 119 #[.pointer (some ⟨G,0,none⟩),.int .i64 5,.int .i64 a] w fun e w'=>e = .returned (.tuple #[])∧w' = ((w.setCell ⟨A,5,none⟩ (.int .i64 (x+a))).setCell ⟨G,10,none⟩ (.int .i64 (fi - a))).drew:=by
 go_enter Tryz.func119,Tryz.ntmps119
 go_wp2
 go_region
 go_wp2
 go_end0
 exact ⟨rfl,rfl⟩
set_option maxRecDepth 10000 in
set_option maxHeartbeats 1000000 in
theorem enter_6 (G A cap:Nat) (x a:Int) (la:Int) (la0:0≤la) (la1:la≤8000000000000000000) (w:World) (_hGA:¬ A = G) (_hAG:¬ G = A) (a0:0≤a) (x0:0≤x) (x1:x+a≤9000000000000000000) (la2:a≤la)
  (hS:w.cell? ⟨G,17,none⟩ = some (.slice (some ⟨A,0,none⟩) 13 cap)) (hA:w.cell? ⟨A,6,none⟩ = some (.int .i64 x)) (hAf:w.frozen? ⟨A,6,none⟩ = false) (c_la:w.cell? ⟨G,9,none⟩ = some (.int .i64 la)) (z_la:w.frozen? ⟨G,9,none⟩ = false) :
  Calls Tryz.prog 119 #[.pointer (some ⟨G,0,none⟩),.int .i64 6,.int .i64 a] w fun e w'=>e = .returned (.tuple #[])∧w' = ((w.setCell ⟨A,6,none⟩ (.int .i64 (x+a))).setCell ⟨G,9,none⟩ (.int .i64 (la - a))).drew:=by
 go_enter Tryz.func119,Tryz.ntmps119
 go_wp2
 go_region
 go_wp2
 go_end0
 exact ⟨rfl,rfl⟩
set_option maxRecDepth 10000 in
set_option maxHeartbeats 1000000 in
theorem enter_7 (G A cap:Nat) (x a:Int) (du:Int) (du0:0≤du) (du1:du≤8000000000000000000) (w:World) (_hGA:¬ A = G) (_hAG:¬ G = A) (a0:0≤a) (x0:0≤x) (x1:x+a≤9000000000000000000) (du2:a≤du)
  (hS:w.cell? ⟨G,17,none⟩ = some (.slice (some ⟨A,0,none⟩) 13 cap)) (hA:w.cell? ⟨A,7,none⟩ = some (.int .i64 x)) (hAf:w.frozen? ⟨A,7,none⟩ = false) (c_du:w.cell? ⟨G,8,none⟩ = some (.int .i64 du)) (z_du:w.frozen? ⟨G,8,none⟩ = false) :
  Calls Tryz.prog 119 #[.pointer (some ⟨G,0,none⟩),.int .i64 7,.int .i64 a] w fun e w'=>e = .returned (.tuple #[])∧w' = ((w.setCell ⟨A,7,none⟩ (.int .i64 (x+a))).setCell ⟨G,8,none⟩ (.int .i64 (du - a))).drew:=by
 go_enter Tryz.func119,Tryz.ntmps119
 go_wp2
 go_region
 go_wp2
 go_end0
 exact ⟨rfl,rfl⟩
set_option maxRecDepth 10000 in
set_option maxHeartbeats 1000000 in
theorem enter_8 (G A cap:Nat) (x a:Int) (it:Int) (it0:0≤it) (it1:it≤8000000000000000000) (w:World) (_hGA:¬ A = G) (_hAG:¬ G = A) (a0:0≤a) (x0:0≤x) (x1:x+a≤9000000000000000000) (it2:a≤it)
  (hS:w.cell? ⟨G,17,none⟩ = some (.slice (some ⟨A,0,none⟩) 13 cap)) (hA:w.cell? ⟨A,8,none⟩ = some (.int .i64 x)) (hAf:w.frozen? ⟨A,8,none⟩ = false) (c_it:w.cell? ⟨G,7,none⟩ = some (.int .i64 it)) (z_it:w.frozen? ⟨G,7,none⟩ = false) :
  Calls Tryz.prog 119 #[.pointer (some ⟨G,0,none⟩),.int .i64 8,.int .i64 a] w fun e w'=>e = .returned (.tuple #[])∧w' = ((w.setCell ⟨A,8,none⟩ (.int .i64 (x+a))).setCell ⟨G,7,none⟩ (.int .i64 (it - a))).drew:=by
 go_enter Tryz.func119,Tryz.ntmps119
 go_wp2
 go_region
 go_wp2
 go_end0
 exact ⟨rfl,rfl⟩
set_option maxRecDepth 10000 in
set_option maxHeartbeats 1000000 in
theorem enter_9 (G A cap:Nat) (x a:Int) (pr:Int) (pr0:0≤pr) (pr1:pr≤8000000000000000000) (w:World) (_hGA:¬ A = G) (_hAG:¬ G = A) (a0:0≤a) (x0:0≤x) (x1:x+a≤9000000000000000000) (pr2:a≤pr)
  (hS:w.cell? ⟨G,17,none⟩ = some (.slice (some ⟨A,0,none⟩) 13 cap)) (hA:w.cell? ⟨A,9,none⟩ = some (.int .i64 x)) (hAf:w.frozen? ⟨A,9,none⟩ = false) (c_pr:w.cell? ⟨G,6,none⟩ = some (.int .i64 pr)) (z_pr:w.frozen? ⟨G,6,none⟩ = false) :
  Calls Tryz.prog 119 #[.pointer (some ⟨G,0,none⟩),.int .i64 9,.int .i64 a] w fun e w'=>e = .returned (.tuple #[])∧w' = ((w.setCell ⟨A,9,none⟩ (.int .i64 (x+a))).setCell ⟨G,6,none⟩ (.int .i64 (pr - a))).drew:=by
 go_enter Tryz.func119,Tryz.ntmps119
 go_wp2
 go_region
 go_wp2
 go_end0
 exact ⟨rfl,rfl⟩
set_option maxRecDepth 10000 in
set_option maxHeartbeats 1000000 in
theorem enter_10 (G A cap:Nat) (x a:Int) (cr:Int) (cr0:0≤cr) (cr1:cr≤8000000000000000000) (w:World) (_hGA:¬ A = G) (_hAG:¬ G = A) (a0:0≤a) (x0:0≤x) (x1:x+a≤9000000000000000000) (cr2:cr+a≤9000000000000000000)
  (hS:w.cell? ⟨G,17,none⟩ = some (.slice (some ⟨A,0,none⟩) 13 cap)) (hA:w.cell? ⟨A,10,none⟩ = some (.int .i64 x)) (hAf:w.frozen? ⟨A,10,none⟩ = false) (c_cr:w.cell? ⟨G,11,none⟩ = some (.int .i64 cr)) (z_cr:w.frozen? ⟨G,11,none⟩ = false) :
  Calls Tryz.prog 119 #[.pointer (some ⟨G,0,none⟩),.int .i64 10,.int .i64 a] w fun e w'=>e = .returned (.tuple #[])∧w' = ((w.setCell ⟨A,10,none⟩ (.int .i64 (x+a))).setCell ⟨G,11,none⟩ (.int .i64 (cr+a))).drew:=by
 go_enter Tryz.func119,Tryz.ntmps119
 go_wp2
 go_region
 go_wp2
 go_end0
 exact ⟨rfl,rfl⟩
set_option maxRecDepth 10000 in
set_option maxHeartbeats 1000000 in
theorem enter_11 (G A cap:Nat) (x a:Int) (it:Int) (it0:0≤it) (it1:it≤8000000000000000000) (w:World) (_hGA:¬ A = G) (_hAG:¬ G = A) (a0:0≤a) (x0:0≤x) (x1:x+a≤9000000000000000000) (it2:it+a≤9000000000000000000)
  (hS:w.cell? ⟨G,17,none⟩ = some (.slice (some ⟨A,0,none⟩) 13 cap)) (hA:w.cell? ⟨A,11,none⟩ = some (.int .i64 x)) (hAf:w.frozen? ⟨A,11,none⟩ = false) (c_it:w.cell? ⟨G,7,none⟩ = some (.int .i64 it)) (z_it:w.frozen? ⟨G,7,none⟩ = false) :
  Calls Tryz.prog 119 #[.pointer (some ⟨G,0,none⟩),.int .i64 11,.int .i64 a] w fun e w'=>e = .returned (.tuple #[])∧w' = ((w.setCell ⟨A,11,none⟩ (.int .i64 (x+a))).setCell ⟨G,7,none⟩ (.int .i64 (it+a))).drew:=by
 go_enter Tryz.func119,Tryz.ntmps119
 go_wp2
 go_region
 go_wp2
 go_end0
 exact ⟨rfl,rfl⟩
set_option maxRecDepth 10000 in
set_option maxHeartbeats 1000000 in
theorem enter_12 (G A cap:Nat) (x a:Int) (fi:Int) (fi0:0≤fi) (fi1:fi≤8000000000000000000) (w:World) (_hGA:¬ A = G) (_hAG:¬ G = A) (a0:0≤a) (x0:0≤x) (x1:x+a≤9000000000000000000) (fi2:fi+a≤9000000000000000000)
  (hS:w.cell? ⟨G,17,none⟩ = some (.slice (some ⟨A,0,none⟩) 13 cap)) (hA:w.cell? ⟨A,12,none⟩ = some (.int .i64 x)) (hAf:w.frozen? ⟨A,12,none⟩ = false) (c_fi:w.cell? ⟨G,10,none⟩ = some (.int .i64 fi)) (z_fi:w.frozen? ⟨G,10,none⟩ = false) :
  Calls Tryz.prog 119 #[.pointer (some ⟨G,0,none⟩),.int .i64 12,.int .i64 a] w fun e w'=>e = .returned (.tuple #[])∧w' = ((w.setCell ⟨A,12,none⟩ (.int .i64 (x+a))).setCell ⟨G,10,none⟩ (.int .i64 (fi+a))).drew:=by
 go_enter Tryz.func119,Tryz.ntmps119
 go_wp2
 go_region
 go_wp2
 go_end0
 exact ⟨rfl,rfl⟩
set_option maxRecDepth 10000 in
theorem enter_any (w:World) (G A:Nat) (t:Ln.Terms) (y:Ln.Dy) (dy:Int) (ev fv:Value) (h:Gon w G A t y dy ev fv) (hf:Ln.Fit y) (k:Nat) (a:Int) (hc:Ln.CanEnter y k a) :
  Calls Tryz.prog 119 #[.pointer (some ⟨G,0,none⟩),.int .i64 k,.int .i64 a] w fun e w'=>e = .returned (.tuple #[])∧Gon w' G A t (Ln.enter y k a) dy ev fv∧Keep (fun b=>b = G∨b = A) w w':=by
 obtain ⟨hne,⟨cap,hG⟩,hA⟩:=h
 have hne':¬ G = A:=fun e=>hne e.symm
 obtain ⟨a0,x0,x1,hm⟩:=hc
 match k,x0,x1,hm with
 | 1,x0,x1,m0 =>
  refine (enter_1 G A cap (y.am 1) a y.g.pr hf.pr0 (by have:=hf.pr1; omega) w hne hne' a0 x0 x1 m0 (hG.cell 17 rfl) (hA.cell 1 rfl) (hA.free 1 rfl) (hG.cell 6 rfl) (hG.free 6 rfl)).mono ?_
  rintro e w' ⟨rfl,rfl⟩
  exact ⟨rfl,⟨hne,⟨cap,((hG.other hne 1 _).set 6 (show 6 < 18 by decide) (.int .i64 (y.g.pr+a))).drew⟩,((hA.set 1 (show 1 < 13 by decide) (.int .i64 (y.am 1+a))).other hne' 6 _).drew⟩,(((Keep.refl _ w).set (S:=fun b=>b = G∨b = A) (Or.inr rfl) 1 _).set (Or.inl rfl) 6 _).drew⟩
 | 2,x0,x1,⟨m0,m1⟩ =>
  refine (enter_2 G A cap (y.am 2) a y.g.la hf.la0 (by have:=hf.la1; omega) y.g.du hf.du0 (by have:=hf.du1; omega) w hne hne' a0 x0 x1 m0 m1 (hG.cell 17 rfl) (hA.cell 2 rfl) (hA.free 2 rfl) (hG.cell 9 rfl) (hG.free 9 rfl) (hG.cell 8 rfl) (hG.free 8 rfl)).mono ?_
  rintro e w' ⟨rfl,rfl⟩
  exact ⟨rfl,⟨hne,⟨cap,(((hG.other hne 2 _).set 9 (show 9 < 18 by decide) (.int .i64 (y.g.la+a))).set 8 (show 8 < 18 by decide) (.int .i64 (y.g.du - a))).drew⟩,(((hA.set 2 (show 2 < 13 by decide) (.int .i64 (y.am 2+a))).other hne' 9 _).other hne' 8 _).drew⟩,((((Keep.refl _ w).set (S:=fun b=>b = G∨b = A) (Or.inr rfl) 2 _).set (Or.inl rfl) 9 _).set (Or.inl rfl) 8 _).drew⟩
 | 3,x0,x1,⟨m0,m1⟩ =>
  refine (enter_3 G A cap (y.am 3) a y.g.du hf.du0 (by have:=hf.du1; omega) y.g.it hf.it0 (by have:=hf.it1; omega) w hne hne' a0 x0 x1 m0 m1 (hG.cell 17 rfl) (hA.cell 3 rfl) (hA.free 3 rfl) (hG.cell 8 rfl) (hG.free 8 rfl) (hG.cell 7 rfl) (hG.free 7 rfl)).mono ?_
  rintro e w' ⟨rfl,rfl⟩
  exact ⟨rfl,⟨hne,⟨cap,(((hG.other hne 3 _).set 8 (show 8 < 18 by decide) (.int .i64 (y.g.du+a))).set 7 (show 7 < 18 by decide) (.int .i64 (y.g.it - a))).drew⟩,(((hA.set 3 (show 3 < 13 by decide) (.int .i64 (y.am 3+a))).other hne' 8 _).other hne' 7 _).drew⟩,((((Keep.refl _ w).set (S:=fun b=>b = G∨b = A) (Or.inr rfl) 3 _).set (Or.inl rfl) 8 _).set (Or.inl rfl) 7 _).drew⟩
 | 4,x0,x1,⟨m0,m1⟩ =>
  refine (enter_4 G A cap (y.am 4) a y.g.pr hf.pr0 (by have:=hf.pr1; omega) y.g.it hf.it0 (by have:=hf.it1; omega) w hne hne' a0 x0 x1 m0 m1 (hG.cell 17 rfl) (hA.cell 4 rfl) (hA.free 4 rfl) (hG.cell 6 rfl) (hG.free 6 rfl) (hG.cell 7 rfl) (hG.free 7 rfl)).mono ?_
  rintro e w' ⟨rfl,rfl⟩
  exact ⟨rfl,⟨hne,⟨cap,(((hG.other hne 4 _).set 6 (show 6 < 18 by decide) (.int .i64 (y.g.pr+a))).set 7 (show 7 < 18 by decide) (.int .i64 (y.g.it - a))).drew⟩,(((hA.set 4 (show 4 < 13 by decide) (.int .i64 (y.am 4+a))).other hne' 6 _).other hne' 7 _).drew⟩,((((Keep.refl _ w).set (S:=fun b=>b = G∨b = A) (Or.inr rfl) 4 _).set (Or.inl rfl) 6 _).set (Or.inl rfl) 7 _).drew⟩
 | 5,x0,x1,m0 =>
  refine (enter_5 G A cap (y.am 5) a y.g.fi hf.fi0 (by have:=hf.fi1; omega) w hne hne' a0 x0 x1 m0 (hG.cell 17 rfl) (hA.cell 5 rfl) (hA.free 5 rfl) (hG.cell 10 rfl) (hG.free 10 rfl)).mono ?_
  rintro e w' ⟨rfl,rfl⟩
  exact ⟨rfl,⟨hne,⟨cap,((hG.other hne 5 _).set 10 (show 10 < 18 by decide) (.int .i64 (y.g.fi - a))).drew⟩,((hA.set 5 (show 5 < 13 by decide) (.int .i64 (y.am 5+a))).other hne' 10 _).drew⟩,(((Keep.refl _ w).set (S:=fun b=>b = G∨b = A) (Or.inr rfl) 5 _).set (Or.inl rfl) 10 _).drew⟩
 | 6,x0,x1,m0 =>
  refine (enter_6 G A cap (y.am 6) a y.g.la hf.la0 (by have:=hf.la1; omega) w hne hne' a0 x0 x1 m0 (hG.cell 17 rfl) (hA.cell 6 rfl) (hA.free 6 rfl) (hG.cell 9 rfl) (hG.free 9 rfl)).mono ?_
  rintro e w' ⟨rfl,rfl⟩
  exact ⟨rfl,⟨hne,⟨cap,((hG.other hne 6 _).set 9 (show 9 < 18 by decide) (.int .i64 (y.g.la - a))).drew⟩,((hA.set 6 (show 6 < 13 by decide) (.int .i64 (y.am 6+a))).other hne' 9 _).drew⟩,(((Keep.refl _ w).set (S:=fun b=>b = G∨b = A) (Or.inr rfl) 6 _).set (Or.inl rfl) 9 _).drew⟩
 | 7,x0,x1,m0 =>
  refine (enter_7 G A cap (y.am 7) a y.g.du hf.du0 (by have:=hf.du1; omega) w hne hne' a0 x0 x1 m0 (hG.cell 17 rfl) (hA.cell 7 rfl) (hA.free 7 rfl) (hG.cell 8 rfl) (hG.free 8 rfl)).mono ?_
  rintro e w' ⟨rfl,rfl⟩
  exact ⟨rfl,⟨hne,⟨cap,((hG.other hne 7 _).set 8 (show 8 < 18 by decide) (.int .i64 (y.g.du - a))).drew⟩,((hA.set 7 (show 7 < 13 by decide) (.int .i64 (y.am 7+a))).other hne' 8 _).drew⟩,(((Keep.refl _ w).set (S:=fun b=>b = G∨b = A) (Or.inr rfl) 7 _).set (Or.inl rfl) 8 _).drew⟩
 | 8,x0,x1,m0 =>
  refine (enter_8 G A cap (y.am 8) a y.g.it hf.it0 (by have:=hf.it1; omega) w hne hne' a0 x0 x1 m0 (hG.cell 17 rfl) (hA.cell 8 rfl) (hA.free 8 rfl) (hG.cell 7 rfl) (hG.free 7 rfl)).mono ?_
  rintro e w' ⟨rfl,rfl⟩
  exact ⟨rfl,⟨hne,⟨cap,((hG.other hne 8 _).set 7 (show 7 < 18 by decide) (.int .i64 (y.g.it - a))).drew⟩,((hA.set 8 (show 8 < 13 by decide) (.int .i64 (y.am 8+a))).other hne' 7 _).drew⟩,(((Keep.refl _ w).set (S:=fun b=>b = G∨b = A) (Or.inr rfl) 8 _).set (Or.inl rfl) 7 _).drew⟩
 | 9,x0,x1,m0 =>
  refine (enter_9 G A cap (y.am 9) a y.g.pr hf.pr0 (by have:=hf.pr1; omega) w hne hne' a0 x0 x1 m0 (hG.cell 17 rfl) (hA.cell 9 rfl) (hA.free 9 rfl) (hG.cell 6 rfl) (hG.free 6 rfl)).mono ?_
  rintro e w' ⟨rfl,rfl⟩
  exact ⟨rfl,⟨hne,⟨cap,((hG.other hne 9 _).set 6 (show 6 < 18 by decide) (.int .i64 (y.g.pr - a))).drew⟩,((hA.set 9 (show 9 < 13 by decide) (.int .i64 (y.am 9+a))).other hne' 6 _).drew⟩,(((Keep.refl _ w).set (S:=fun b=>b = G∨b = A) (Or.inr rfl) 9 _).set (Or.inl rfl) 6 _).drew⟩
 | 10,x0,x1,m0 =>
  refine (enter_10 G A cap (y.am 10) a y.g.cr hf.cr0 (by have:=hf.cr1; omega) w hne hne' a0 x0 x1 m0 (hG.cell 17 rfl) (hA.cell 10 rfl) (hA.free 10 rfl) (hG.cell 11 rfl) (hG.free 11 rfl)).mono ?_
  rintro e w' ⟨rfl,rfl⟩
  exact ⟨rfl,⟨hne,⟨cap,((hG.other hne 10 _).set 11 (show 11 < 18 by decide) (.int .i64 (y.g.cr+a))).drew⟩,((hA.set 10 (show 10 < 13 by decide) (.int .i64 (y.am 10+a))).other hne' 11 _).drew⟩,(((Keep.refl _ w).set (S:=fun b=>b = G∨b = A) (Or.inr rfl) 10 _).set (Or.inl rfl) 11 _).drew⟩
 | 11,x0,x1,m0 =>
  refine (enter_11 G A cap (y.am 11) a y.g.it hf.it0 (by have:=hf.it1; omega) w hne hne' a0 x0 x1 m0 (hG.cell 17 rfl) (hA.cell 11 rfl) (hA.free 11 rfl) (hG.cell 7 rfl) (hG.free 7 rfl)).mono ?_
  rintro e w' ⟨rfl,rfl⟩
  exact ⟨rfl,⟨hne,⟨cap,((hG.other hne 11 _).set 7 (show 7 < 18 by decide) (.int .i64 (y.g.it+a))).drew⟩,((hA.set 11 (show 11 < 13 by decide) (.int .i64 (y.am 11+a))).other hne' 7 _).drew⟩,(((Keep.refl _ w).set (S:=fun b=>b = G∨b = A) (Or.inr rfl) 11 _).set (Or.inl rfl) 7 _).drew⟩
 | 12,x0,x1,m0 =>
  refine (enter_12 G A cap (y.am 12) a y.g.fi hf.fi0 (by have:=hf.fi1; omega) w hne hne' a0 x0 x1 m0 (hG.cell 17 rfl) (hA.cell 12 rfl) (hA.free 12 rfl) (hG.cell 10 rfl) (hG.free 10 rfl)).mono ?_
  rintro e w' ⟨rfl,rfl⟩
  exact ⟨rfl,⟨hne,⟨cap,((hG.other hne 12 _).set 10 (show 10 < 18 by decide) (.int .i64 (y.g.fi+a))).drew⟩,((hA.set 12 (show 12 < 13 by decide) (.int .i64 (y.am 12+a))).other hne' 10 _).drew⟩,(((Keep.refl _ w).set (S:=fun b=>b = G∨b = A) (Or.inr rfl) 12 _).set (Or.inl rfl) 10 _).drew⟩
theorem Gon.keep {S:Nat→Prop} {w w':World} {G A:Nat} {t:Ln.Terms} {y:Ln.Dy} {dy:Int} {ev fv:Value} (h:Gon w G A t y dy ev fv) (k:Keep S w w') (hG:¬ S G) (hA:¬ S A):Gon w' G A t y dy ev fv:=by
 obtain ⟨ne,⟨cap,g⟩,a⟩:=h
 exact ⟨ne,⟨cap,g.keep k hG⟩,a.keep k hA⟩
theorem Gon.below {w w':World} {G A:Nat} {t:Ln.Terms} {y:Ln.Dy} {dy:Int} {ev fv:Value} (h:Gon w G A t y dy ev fv) (k:Below w.heap.size w w'):Gon w' G A t y dy ev fv :=
 h.keep (Keep.below (S:=fun _=>False) k) (fun x=>x) (fun x=>x)
set_option maxRecDepth 10000 in
set_option maxHeartbeats 1000000 in
theorem paid_any (w:World) (G A:Nat) (t:Ln.Terms) (y:Ln.Dy) (dy:Int) (ev fv:Value) (h:Gon w G A t y dy ev fv) (hf:Ln.Fit y) (L:Int) (hLm:L≤4100000000000) (hm:Ln.Am y L) (hc:y.g.cr≤4100000000000) (a:Int) (a0:0≤a) (a1:a≤100000000000) :
  Calls Tryz.prog 120 #[.pointer (some ⟨G,0,none⟩),.int .i64 a] w fun e w'=>e = .returned (.tuple #[])∧Gon w' G A t (Ln.pay y a) dy ev fv∧Keep (fun b=>b = G∨b = A) w w':=by
 have HG:=h
 obtain ⟨ne,⟨cap,hG⟩,hA⟩:=h
 have c6:w.cell? ⟨G,6,none⟩ = some (.int .i64 y.g.pr):=hG.cell 6 rfl
 have c7:w.cell? ⟨G,7,none⟩ = some (.int .i64 y.g.it):=hG.cell 7 rfl
 have c8:w.cell? ⟨G,8,none⟩ = some (.int .i64 y.g.du):=hG.cell 8 rfl
 have c9:w.cell? ⟨G,9,none⟩ = some (.int .i64 y.g.la):=hG.cell 9 rfl
 have c10:w.cell? ⟨G,10,none⟩ = some (.int .i64 y.g.fi):=hG.cell 10 rfl
 have hGl:=hG.lt
 have hAl:A < w.heap.size:=At.lt (v:=.int .i64 (y.am 0)) hA
 clear hG hA
 go_enter Tryz.func120,Tryz.ntmps120
 go_wp2
 go_region
 go_wp2
 go_loopw [1,5] (fun l i wr=>∃ k:Nat,k≤5∧i = .int .i64 k∧l = .int .i64 (Ln.payK y a k).2∧Gon wr G A t (Ln.payK y a k).1 dy ev fv∧At wr w.heap.size [.int .i64 y.g.fi,.int .i64 y.g.la,.int .i64 y.g.du,.int .i64 y.g.it,.int .i64 y.g.pr]∧Keep (fun b=>b = G∨b = A) w wr) (fun _ i _=>5 - (intOf i).toNat)
 case atStart=>exact ⟨0,by omega,rfl,rfl,HG.below (((Below.refl _ _).alloc (Nat.le_refl _) _).drew),(At.alloc w _ _).drew,Keep.below (((Below.refl _ _).alloc (Nat.le_refl _) _).drew)⟩
 case round =>
  obtain ⟨k,hk,rfl,rfl,hg,ho,hkeep⟩:=hrel
  have hl:=Ln.payK_left y a hf a0 k
  have hfk:=Ln.payK_fit y a hf a0 k hk
  clear c6 c7 c8 c9 c10
  by_cases hlt:k < 5
  ·have hcan:=Ln.payK_can y a L hLm hf hm a0 a1 k hlt
   have hw0:=Ln.owed_nn hf k
   have hcell:wr.cell? ⟨w.heap.size,k,none⟩ = some (.int .i64 (Ln.owed y.g k)):=by
    match k,hlt with
    | 0,_=>exact ho.cell 0 rfl
    | 1,_=>exact ho.cell 1 rfl
    | 2,_=>exact ho.cell 2 rfl
    | 3,_=>exact ho.cell 3 rfl
    | 4,_=>exact ho.cell 4 rfl
   have hE:=enter_any wr G A t (Ln.payK y a k).1 dy ev fv hg hfk (5+k) _ hcan
   have ek:((5+k:Nat):Int) = 5+(k:Int):=by omega
   rw [ek] at hE
   have hL:Hid (Ln.least (Ln.owed y.g k) (Ln.payK y a k).2 = if (Ln.payK y a k).2 < Ln.owed y.g k then (Ln.payK y a k).2 else Ln.owed y.g k):=rfl
   have hP1:Hid ((Ln.payK y a (k+1)).1 = Ln.enter (Ln.payK y a k).1 (5+k) (Ln.least (Ln.owed y.g k) (Ln.payK y a k).2)):=rfl
   have hP2:Hid ((Ln.payK y a (k+1)).2 = (Ln.payK y a k).2 - Ln.least (Ln.owed y.g k) (Ln.payK y a k).2):=rfl
   have hnG:¬ (w.heap.size = G∨w.heap.size = A):=by omega
   clear hm hf hfk hcan HG hg
   generalize (Ln.payK y a k).2 = left at *
   generalize Ln.owed y.g k = x at *
   by_cases hx:left < x
   ·rw [hL.out,if_pos hx] at hE hP1 hP2
    go_wp2_with fail
    refine hE.mono ?_
    rintro e w1 ⟨rfl,hg1,hk1⟩
    clear hE
    go_wp2
    go_roundw
    case rel=>exact ⟨k+1,by omega,by go_num,by rw [hP2.out]; simp,by rw [hP1.out]; exact hg1,ho.keep hk1 hnG,hkeep.trans hk1⟩
    case measure=>simp [intOf]; omega
   ·rw [hL.out,if_neg hx] at hE hP1 hP2
    go_wp2_with fail
    refine hE.mono ?_
    rintro e w1 ⟨rfl,hg1,hk1⟩
    clear hE
    go_wp2
    go_roundw
    case rel=>exact ⟨k+1,by omega,by go_num,by rw [hP2.out],by rw [hP1.out]; exact hg1,ho.keep hk1 hnG,hkeep.trans hk1⟩
    case measure=>simp [intOf]; omega
  ·obtain rfl:k = 5:=by omega
   have hE:=enter_any wr G A t (Ln.payK y a 5).1 dy ev fv hg hfk 10 _ (Ln.pay_can y a L hLm hf hm hc a0 a1)
   rw [← Ln.pay_eq] at hE
   clear hm hf hfk HG hg hc
   generalize (Ln.payK y a 5).2 = left at *
   go_wp2_with fail
   refine hE.mono ?_
   rintro e w1 ⟨rfl,hg1,hk1⟩
   clear hE
   go_wp2
   go_end0
   exact ⟨rfl,hg1,hkeep.trans hk1⟩
def LongIs (S:Nat→Prop) (w:World) (v:Value) (x:Int):Prop :=
 (v = .slice none 0 0∧x = 0)∨∃ b cap l,v = .slice (some ⟨b,0,none⟩) 6 cap∧b < w.heap.size∧¬ S b∧l.length = 6∧Dig l∧Ints w b l∧lv l = x
theorem LongIs.keep {S:Nat→Prop} {w w':World} {v:Value} {x:Int} (h:LongIs S w v x) (k:Keep S w w'):LongIs S w' v x:=by
 rcases h with h | ⟨b,cap,l,hv,hb,hs,hl,hd,hi,hx⟩
 ·exact .inl h
 ·refine .inr ⟨b,cap,l,hv,Nat.lt_of_lt_of_le hb k.size,hs,hl,hd,fun j hj=>?_,hx⟩
  rw [World.cell?_of_block (w:=w) (a:=⟨b,j,none⟩) (k.block b hb hs)]
  exact hi j hj
theorem LongIs.nn {S:Nat→Prop} {w:World} {v:Value} {x:Int} (h:LongIs S w v x):0≤x:=by
 rcases h with ⟨_,rfl⟩ | ⟨b,cap,l,hv,hb,hs,hl,hd,hi,hx⟩
 ·exact Int.le_refl _
 ·rw [← hx]; exact lv_nn l hd
theorem lv_div (l:List Int) (hd:Dig l):lv l / 1000000 = lv (l.drop 1):=by
 match l with
 | []=>rfl
 | d :: r=>exact lv_low d r (hd d (by simp)).1 (hd d (by simp)).2
theorem part_long {S:Nat→Prop} {w:World} {v:Value} {x:Int} (h:LongIs S w v x) (year:Int) (y0:1≤year) (y1:year≤400) (hb:x / 1000000 / year≤9000000000000000000) :
  Calls Tryz.prog 122 #[v,.int .i64 year] w fun e w'=>e = .returned (.int .i64 (x / 1000000 / year))∧w' = w:=by
 rcases h with ⟨rfl,rfl⟩ | ⟨b,cap,l,rfl,hbs,hs,hl,hd,hi,rfl⟩
 ·have e:(0:Int) / 1000000 / year = 0:=by simp
  rw [e]
  exact part_nil year 0 w
 ·exact part_any l b cap year w hl hd hi y0 y1 (by rw [← lv_div l hd]; exact hb)
theorem owns_long {S:Nat→Prop} {w w':World} {r:Value} {l:List Int} (h:w'.ownsRow w.heap.size 3 1 r 6 (icells l)) (hl:l.length = 6) (hd:Dig l) (hS:∀ b,S b→b < w.heap.size):LongIs S w' r (lv l):=by
 obtain ⟨_,⟨_,h0⟩ | ⟨g,cap,cur,rfl,hg,hc,h1,h2,h3,h4⟩⟩:=h
 ·exact absurd h0 (by decide)
 ·have hlt:g < w'.heap.size:=by
   apply Nat.lt_of_not_le
   intro hle
   rw [Array.getElem?_eq_none hle] at hc
   cases hc
  refine .inr ⟨g,cap,l,rfl,hlt,fun s=>absurd (hS g s) (by omega),hl,hd,fun j hj=>?_,rfl⟩
  have e1:cur[j]? = some (.int .i64 (l.getD j 0)):=by
   have h5:(cur.toList.take 6)[j]? = (icells l)[j]?:=by rw [← h4]
   rw [List.getElem?_take_of_lt (by omega)] at h5
   have h6:(icells l)[j]? = some (.int .i64 (l.getD j 0)):=by
    unfold icells
    rw [List.getElem?_map,List.getElem?_eq_getElem hj,List.getD_eq_getElem?_getD,List.getElem?_eq_getElem hj]
    rfl
   rw [h6] at h5
   simpa using h5
  simp only [World.cell?,hc]
  exact e1
theorem getD_dig {l:List Int} (h:Dig l) (j:Nat):0≤l.getD j 0∧l.getD j 0 < 1000000:=by
 by_cases hj:j < l.length
 ·exact dig_at h j hj
 ·rw [List.getD_eq_getElem?_getD,List.getElem?_eq_none (by omega)]
  exact ⟨Int.le_refl _,by decide⟩
theorem plus_long {S:Nat→Prop} {w:World} {v:Value} {x:Int} (h:LongIs S w v x) (hS:∀ b,S b→b < w.heap.size) (a b:Int) (a0:0≤a) (a1:a≤4000000000000000000) (b0:0≤b) (b1:b≤4000000) (hx:x+a*b < 1000000 ^ 6) :
  Calls Tryz.prog 123 #[v,.int .i64 a,.int .i64 b] w fun e w'=>∃ r,e = .returned r∧LongIs S w' r (x+a*b)∧Below w.heap.size w w':=by
 rcases h with ⟨rfl,rfl⟩ | ⟨g,cap,l,rfl,hg,hs,hl,hd,hi,rfl⟩
 ·refine (plus_core _ 0 (fun _=>0) a b w (by decide) (fun _=>⟨Int.le_refl _,by decide⟩) a0 a1 b0 b1 (.inl ⟨rfl,rfl,fun _=>rfl⟩)).mono ?_
  rintro e w' ⟨r,rfl,ho,hb⟩
  have e1:ods (fun _=>0) a b 6 = addTo 0 a b [0,0,0,0,0,0]:=rfl
  have hz:Dig [0,0,0,0,0,0]:=by intro d hd; simp at hd; omega
  have e2:=addTo_lv b b0 [0,0,0,0,0,0] 0 a hz (Int.le_refl _) a0 (by simpa [lv] using hx)
  rw [e1] at ho
  refine ⟨r,rfl,?_,hb⟩
  have:=owns_long (S:=S) ho (addTo_len b _ 0 a) (addTo_dig b _ 0 a) hS
  rw [e2] at this
  simpa [lv] using this
 ·refine (plus_core _ 6 (fun j=>l.getD j 0) a b w (by decide) (fun j=>getD_dig hd j) a0 a1 b0 b1 (.inr ⟨g,cap,rfl,rfl,hg,fun j hj=>hi j (by omega)⟩)).mono ?_
  rintro e w' ⟨r,rfl,ho,hb⟩
  rw [ods_six l a b hl] at ho
  have e2:=addTo_lv b b0 l 0 a hd (Int.le_refl _) a0 (by rw [hl]; omega)
  refine ⟨r,rfl,?_,hb⟩
  have:=owns_long (S:=S) ho (by rw [addTo_len]; exact hl) (addTo_dig b _ 0 a) hS
  rw [e2,Int.zero_add] at this
  exact this
end Go.Proofs.YtanndhoimpnhpaaGreatDoor
namespace Go.Proofs.YtanndhoimpnhpaaGreatDoor
open Go.ChangeShapes Go.WideShapes Go.ChangeAt Go.RowKit Cal
theorem bcell {W w1:World} (hb:Below W.heap.size W w1):(∀ b o,b < W.heap.size→w1.cell? ⟨b,o,none⟩ = W.cell? ⟨b,o,none⟩)∧(∀ b o,b < W.heap.size→w1.frozen? ⟨b,o,none⟩ = W.frozen? ⟨b,o,none⟩) :=
 ⟨fun b o h=>hb.cell (p:=⟨b,o,none⟩) h,fun b o h=>hb.frozen (p:=⟨b,o,none⟩) h⟩
theorem set_twice (w:World) (b o:Nat) (u v:Value):(w.setCell ⟨b,o,none⟩ u).setCell ⟨b,o,none⟩ v = w.setCell ⟨b,o,none⟩ v:=by
 unfold World.setCell
 congr 1
 apply Array.ext
 ·simp
 ·intro i h1 h2
  simp only [Array.getElem_modify]
  split
  ·cases w.heap[i]'(by simpa using h2) <;> simp
  ·rfl
set_option maxHeartbeats 400000 in
theorem next_same (y m d:Int) (w:World) (y0:1900≤y) (y1:y≤2200) (m1:m≤12) (d0:1≤d) (h:d < dim y m) :
  Calls Tryz.prog 96 #[.agg #[.int .i64 y,.int .i64 m,.int .i64 d]] w fun e w'=>e = .returned (.agg #[.int .i64 y,.int .i64 m,.int .i64 (d+1)])∧Below w.heap.size w w':=by
 have db:=dim_bd y m
 go_enter Tryz.func96,Tryz.ntmps96
 go_wp2
 go_quiet ((go_at_call 118; exact Calls.quiet_of_same (long_any _ _ _ (by omega) (by omega))))
 go_wp2
 refine bodyPost_ret (v:=.agg #[.int .i64 y,.int .i64 m,.int .i64 (d+1)]) (by simp [results,Tryz.results96,go_sem]) rfl ⟨rfl,?_⟩
 exact (((below_drewN (((Below.refl _ _).alloc (Nat.le_refl _) _).alloc (by simp) _) _).setCell (by simp) _).setCell (by simp) _).setCell (by simp) _
set_option maxHeartbeats 400000 in
theorem next_month (y m d:Int) (w:World) (y0:1900≤y) (y1:y≤2200) (m0:1≤m) (m1:m < 12) (d1:d≤31) (d0:1≤d) (h:¬ d < dim y m) :
  Calls Tryz.prog 96 #[.agg #[.int .i64 y,.int .i64 m,.int .i64 d]] w fun e w'=>e = .returned (.agg #[.int .i64 y,.int .i64 (m+1),.int .i64 1])∧Below w.heap.size w w':=by
 have db:=dim_bd y m
 go_enter Tryz.func96,Tryz.ntmps96
 go_wp2
 go_quiet ((go_at_call 118; exact Calls.quiet_of_same (long_any _ _ _ (by omega) (by omega))))
 go_wp2
 refine bodyPost_ret (v:=.agg #[.int .i64 y,.int .i64 (m+1),.int .i64 1]) (by simp [results,Tryz.results96,go_sem]) rfl ⟨rfl,?_⟩
 exact (((((below_drewN (((Below.refl _ _).alloc (Nat.le_refl _) _).alloc (by simp) _) _).setCell (by simp) _).setCell (by simp) _).setCell (by simp) _).setCell (by simp) _).setCell (by simp) _
set_option maxHeartbeats 400000 in
theorem next_year (y m d:Int) (w:World) (y0:1900≤y) (y1:y≤2200) (m0:12≤m) (m1:m≤12) (d1:d≤31) (d0:1≤d) (h:¬ d < dim y m) :
  Calls Tryz.prog 96 #[.agg #[.int .i64 y,.int .i64 m,.int .i64 d]] w fun e w'=>e = .returned (.agg #[.int .i64 (y+1),.int .i64 1,.int .i64 1])∧Below w.heap.size w w':=by
 have db:=dim_bd y m
 have ss:=set_twice
 go_enter Tryz.func96,Tryz.ntmps96
 go_wp2
 go_quiet ((go_at_call 118; exact Calls.quiet_of_same (long_any _ _ _ (by omega) (by omega))))
 go_wp2
 refine bodyPost_ret (v:=.agg #[.int .i64 (y+1),.int .i64 1,.int .i64 1]) (by simp [results,Tryz.results96,go_sem]) rfl ⟨rfl,?_⟩
 exact ((((((below_drewN (((Below.refl _ _).alloc (Nat.le_refl _) _).alloc (by simp) _) _).setCell (by simp) _).setCell (by simp) _).setCell (by simp) _).setCell (by simp) _).setCell (by simp) _).setCell (by simp) _
theorem next_any (y m d:Int) (w:World) (h:Ok y m d) :
  Calls Tryz.prog 96 #[.agg #[.int .i64 y,.int .i64 m,.int .i64 d]] w fun e w'=>e = .returned (.agg #[.int .i64 (ny y m d),.int .i64 (nm y m d),.int .i64 (nd y m d)])∧Below w.heap.size w w':=by
 obtain ⟨a1,a2,a3,a4,a5,a6⟩:=h
 have db:=dim_bd y m
 by_cases h1:d < dim y m
 ·have e1:ny y m d = y:=by simp [ny,h1]
  have e2:nm y m d = m:=by simp [nm,h1]
  have e3:nd y m d = d+1:=by simp [nd,h1]
  rw [e1,e2,e3]
  exact next_same y m d w a1 a2 a4 a5 h1
 ·by_cases h2:m < 12
  ·have e1:ny y m d = y:=by simp [ny,h1,h2]
   have e2:nm y m d = m+1:=by simp [nm,h1,h2]
   have e3:nd y m d = 1:=by simp [nd,h1]
   rw [e1,e2,e3]
   exact next_month y m d w a1 a2 a3 h2 (by omega) a5 h1
  ·have e1:ny y m d = y+1:=by simp [ny,h1,h2]
   have e2:nm y m d = 1:=by simp [nm,h1,h2]
   have e3:nd y m d = 1:=by simp [nd,h1]
   rw [e1,e2,e3]
   exact next_year y m d w a1 a2 (by omega) a4 (by omega) a5 h1
end Go.Proofs.YtanndhoimpnhpaaGreatDoor
