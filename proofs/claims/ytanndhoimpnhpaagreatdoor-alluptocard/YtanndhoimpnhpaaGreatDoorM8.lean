/- Joined by program: LnU, LnJ. -/
import Derived.Test.YtanndhoimpnhpaaGreatDoorM7
import Derived.Deep.RegionLawGrows
namespace Go.Proofs.YtanndhoimpnhpaaGreatDoor
open Go.ChangeShapes Go.WideShapes Go.ChangeAt Go.RowKit Lg
set_option maxRecDepth 10000 in
set_option maxHeartbeats 4000000 in
theorem refadd_core (w:World) (B:Nat) (t:Ln.Terms) (g:Ln.St) (day:Int) (bk:Value) (pa:Option Addr) (ecap:Nat) (l:List Ln.Ev) (e:Ln.Ev) (hl:l.length≤40) (s0:0≤t.st) (s1:t.st≤105872) (hB:At w B (dl t (.slice pa l.length ecap) g day bk)) (hown:w.ownsRow (B+1) 50 4 (.slice pa l.length ecap) l.length (evs l)) :
  Calls Tryz.prog 57 #[.pointer (some ⟨B,0,none⟩),evc e] w fun x w'=>x = .returned (.int .i64 (addC t l e)) ∧
   ((¬ addC t l e = 0∧Below w.heap.size w w')∨(addC t l e = 0∧∃ v,w'.ownsRow (B+1) 50 4 v (l.length+1) (evs (l ++ [e]))∧OwnNew w (.slice pa l.length ecap) v∧At w' B (dl t v g day bk)∧Keep (fun b=>b = B∨pa.map (·.block) = some b) w w')):=by
 obtain ⟨i0,hi,hz0,hz1,hz2⟩:=info_parts infoEv
 have hBl:B < w.heap.size:=At.lt (v:=.int .i64 t.st) hB
 have hF:=fun W=>fits_any e.k e.a W
 obtain ⟨ed,ek,es,ea⟩:=e
 unfold evc
 have b0:Below w.heap.size w (w.alloc (.cells #[.int .i64 ed,.int .i64 ek,.int .i64 es,.int .i64 ea] 50)):=(Below.refl _ _).alloc (Nat.le_refl _) _
 have a0:At (w.alloc (.cells #[.int .i64 ed,.int .i64 ek,.int .i64 es,.int .i64 ea] 50)) w.heap.size [.int .i64 ed,.int .i64 ek,.int .i64 es,.int .i64 ea]:=At.alloc w _ _
 have hAB:At (w.alloc (.cells #[.int .i64 ed,.int .i64 ek,.int .i64 es,.int .i64 ea] 50)) B (dl t (.slice pa l.length ecap) g day bk):=At.over (v:=.int .i64 t.st) hB _
 have ho:=hown.alloc (.cells #[.int .i64 ed,.int .i64 ek,.int .i64 es,.int .i64 ea] 50)
 simp only at hF
 have HC:Hid (addC t l ⟨ed,ek,es,ea⟩ = if ek < 1∨5 < ek then 4 else if ed < t.st∨t.st+3700 < ed then 5 else if fitsB ek ea = false then 6 else if 40≤l.length then 7 else if hasS es l = true then 8 else 0):=rfl
 generalize fitsB ek ea = fb at *
 generalize addC t l ⟨ed,ek,es,ea⟩ = code at *
 go_enter Tryz.func57,Tryz.ntmps57
 go_wp2_with fail
 refine (hF _).mono ?_
 rintro x w1 ⟨rfl,hw1⟩
 rw [hw1]
 clear hF hw1 w1
 generalize w.alloc (.cells #[.int .i64 ed,.int .i64 ek,.int .i64 es,.int .i64 ea] 50) = V at *
 have e0:V.cell? ⟨w.heap.size,0,none⟩ = some (.int .i64 ed):=a0.cell 0 rfl
 have e1:V.cell? ⟨w.heap.size,1,none⟩ = some (.int .i64 ek):=a0.cell 1 rfl
 have e2:V.cell? ⟨w.heap.size,2,none⟩ = some (.int .i64 es):=a0.cell 2 rfl
 have e3:V.cell? ⟨w.heap.size,3,none⟩ = some (.int .i64 ea):=a0.cell 3 rfl
 have c0:V.cell? ⟨B,0,none⟩ = some (.int .i64 t.st):=hAB.cell 0 rfl
 have c6:V.cell? ⟨B,6,none⟩ = some (.slice pa l.length ecap):=hAB.cell 6 rfl
 have HX:=(show Hid _ from hAB)
 have HO:=(show Hid _ from ho)
 have HRw:Hid (∀ b,some b = (Value.slice pa l.length ecap).ownBlock→B+1≤b∧b < w.heap.size):=fun b hb=>hown.lt b hb.symm
 have HA0:=(show Hid _ from a0)
 clear hB hown hAB ho a0
 by_cases k1:ek < 1
 ·have E:Hid (code = 4):=by show code = 4; rw [HC.out,if_pos (Or.inl k1)]
  clear HC HX HO HA0
  obtain rfl:=E.out
  go_wp2
  go_ret
  exact ⟨rfl,.inl ⟨by decide,b0⟩⟩
 by_cases k2:5 < ek
 ·have E:Hid (code = 4):=by show code = 4; rw [HC.out,if_pos (Or.inr k2)]
  clear HC HX HO HA0
  obtain rfl:=E.out
  go_wp2
  go_ret
  exact ⟨rfl,.inl ⟨by decide,b0⟩⟩
 by_cases d1:ed < t.st
 ·have E:Hid (code = 5):=by show code = 5; rw [HC.out,if_neg (by omega),if_pos (Or.inl d1)]
  have f1:decide (ed < t.st) = true:=by simp [d1]
  clear HC HX HO HA0
  obtain rfl:=E.out
  go_wp2_with fail
  refine wp_region_held_drew (S:=fun wz=>wz = V.drew) (by kernel_rfl) rfl (fun hHeld=>?_)
  refine tkc 0 (.pointer (some ⟨w.heap.size,0,none⟩)) rfl ?_
  simp only [uP]
  refine tkc 1 (.int .i64 ed) rfl ?_
  simp only [uP]
  refine tkc 2 (.pointer (some ⟨B,0,none⟩)) rfl ?_
  simp only [uP]
  refine tkc 3 (.pointer (some ⟨B,0,none⟩)) rfl ?_
  simp only [uP]
  refine tkc 4 (.pointer (some ⟨B,0,none⟩)) rfl ?_
  simp only [uP]
  refine tkc 5 (.pointer (some ⟨B,0,none⟩)) rfl ?_
  simp only [uP]
  refine tkc 6 (.int .i64 t.st) rfl ?_
  simp only [uP]
  refine tkc 7 (.bool true) rfl ?_
  simp only [uP]
  refine tkc 8 (.bool true) rfl ?_
  simp only [uP]
  refine tku 9 rfl ?_
  simp only [uP]
  refine tku 10 rfl ?_
  simp only [uP]
  refine tku 11 rfl ?_
  simp only [uP]
  refine tku 12 rfl ?_
  simp only [uP]
  refine tku 13 rfl ?_
  simp only [uP]
  refine tku 14 rfl ?_
  simp only [uP]
  refine tku 15 rfl ?_
  simp only [uP]
  refine tku 16 rfl ?_
  simp only [uP]
  refine tku 17 rfl ?_
  simp only [uP]
  refine tkc 18 (.bool true) rfl ?_
  simp only [uP]
  refine tkc 19 (.bool true) rfl ?_
  simp only [uP]
  refine wpAnyH_done (by kernel_rfl) ?_ _
  clear hHeld
  go_wp2
  go_ret
  exact ⟨rfl,.inl ⟨by decide,b0.drew⟩⟩
 by_cases d2:t.st+3700 < ed
 ·have E:Hid (code = 5):=by show code = 5; rw [HC.out,if_neg (by omega),if_pos (Or.inr d2)]
  have f1:decide (ed < t.st) = false:=by simp; omega
  have f2:decide (t.st+3700 < ed) = true:=by simp [d2]
  have f3:IntKind.i64.wrap (t.st+3700) = t.st+3700:=by rw [IntKind.wrap_i64]; omega
  clear HC HX HO HA0
  obtain rfl:=E.out
  go_wp2_with fail
  refine wp_region_held_drew (S:=fun wz=>wz = V.drew) (by kernel_rfl) rfl (fun hHeld=>?_)
  refine tkc 0 (.pointer (some ⟨w.heap.size,0,none⟩)) rfl ?_
  simp only [uP]
  refine tkc 1 (.int .i64 ed) rfl ?_
  simp only [uP]
  refine tkc 2 (.pointer (some ⟨B,0,none⟩)) rfl ?_
  simp only [uP]
  refine tkc 3 (.pointer (some ⟨B,0,none⟩)) rfl ?_
  simp only [uP]
  refine tkc 4 (.pointer (some ⟨B,0,none⟩)) rfl ?_
  simp only [uP]
  refine tkc 5 (.pointer (some ⟨B,0,none⟩)) rfl ?_
  simp only [uP]
  refine tkc 6 (.int .i64 t.st) rfl ?_
  simp only [uP]
  refine tkc 7 (.bool false) rfl ?_
  simp only [uP]
  refine tkc 8 (.bool false) rfl ?_
  simp only [uP]
  refine tkc 9 (.pointer (some ⟨w.heap.size,0,none⟩)) rfl ?_
  simp only [uP]
  refine tkc 10 (.int .i64 ed) rfl ?_
  simp only [uP]
  refine tkc 11 (.pointer (some ⟨B,0,none⟩)) rfl ?_
  simp only [uP]
  refine tkc 12 (.pointer (some ⟨B,0,none⟩)) rfl ?_
  simp only [uP]
  refine tkc 13 (.pointer (some ⟨B,0,none⟩)) rfl ?_
  simp only [uP]
  refine tkc 14 (.pointer (some ⟨B,0,none⟩)) rfl ?_
  simp only [uP]
  refine tkc 15 (.int .i64 t.st) rfl ?_
  simp only [uP]
  refine tkc 16 (.int .i64 (t.st+3700)) rfl ?_
  simp only [uP]
  refine tkc 17 (.bool true) rfl ?_
  simp only [uP]
  refine tkc 18 (.bool true) rfl ?_
  simp only [uP]
  refine tkc 19 (.bool true) rfl ?_
  simp only [uP]
  refine wpAnyH_done (by kernel_rfl) ?_ _
  clear hHeld
  go_wp2
  go_ret
  exact ⟨rfl,.inl ⟨by decide,b0.drew⟩⟩
 have f1:decide (ed < t.st) = false:=by simp; omega
 have f2:decide (t.st+3700 < ed) = false:=by simp; omega
 have f3:IntKind.i64.wrap (t.st+3700) = t.st+3700:=by rw [IntKind.wrap_i64]; omega
 have HC2:Hid (code = if fb = false then 6 else if 40≤l.length then 7 else if hasS es l = true then 8 else 0):=by show code = _; rw [HC.out,if_neg (by omega),if_neg (by omega)]
 clear HC
 go_wp2_with fail
 refine wp_region_held_drew (S:=fun wz=>wz = V.drew) (by kernel_rfl) rfl (fun hHeld=>?_)
 refine tkc 0 (.pointer (some ⟨w.heap.size,0,none⟩)) rfl ?_
 simp only [uP]
 refine tkc 1 (.int .i64 ed) rfl ?_
 simp only [uP]
 refine tkc 2 (.pointer (some ⟨B,0,none⟩)) rfl ?_
 simp only [uP]
 refine tkc 3 (.pointer (some ⟨B,0,none⟩)) rfl ?_
 simp only [uP]
 refine tkc 4 (.pointer (some ⟨B,0,none⟩)) rfl ?_
 simp only [uP]
 refine tkc 5 (.pointer (some ⟨B,0,none⟩)) rfl ?_
 simp only [uP]
 refine tkc 6 (.int .i64 t.st) rfl ?_
 simp only [uP]
 refine tkc 7 (.bool false) rfl ?_
 simp only [uP]
 refine tkc 8 (.bool false) rfl ?_
 simp only [uP]
 refine tkc 9 (.pointer (some ⟨w.heap.size,0,none⟩)) rfl ?_
 simp only [uP]
 refine tkc 10 (.int .i64 ed) rfl ?_
 simp only [uP]
 refine tkc 11 (.pointer (some ⟨B,0,none⟩)) rfl ?_
 simp only [uP]
 refine tkc 12 (.pointer (some ⟨B,0,none⟩)) rfl ?_
 simp only [uP]
 refine tkc 13 (.pointer (some ⟨B,0,none⟩)) rfl ?_
 simp only [uP]
 refine tkc 14 (.pointer (some ⟨B,0,none⟩)) rfl ?_
 simp only [uP]
 refine tkc 15 (.int .i64 t.st) rfl ?_
 simp only [uP]
 refine tkc 16 (.int .i64 (t.st+3700)) rfl ?_
 simp only [uP]
 refine tkc 17 (.bool false) rfl ?_
 simp only [uP]
 refine tkc 18 (.bool false) rfl ?_
 simp only [uP]
 refine tkc 19 (.bool false) rfl ?_
 simp only [uP]
 refine wpAnyH_done (by kernel_rfl) ?_ _
 clear hHeld
 have g6:V.drew.cell? ⟨B,6,none⟩ = some (.slice pa l.length ecap):=c6
 have bd:=b0.drew
 clear e0 e1 e3 c0 c6 f1 f2 f3 d1 d2 k1 k2
 cases hfb:fb
 ·rw [if_pos hfb] at HC2
  obtain rfl:=HC2.out
  go_wp2
  go_ret
  first
   | exact ⟨rfl,.inl ⟨by decide,bd⟩⟩
   | exact ⟨rfl,bd⟩
 ·rw [if_neg (by rw [hfb]; decide)] at HC2
  by_cases h40:40≤l.length
  ·rw [if_pos h40] at HC2
   obtain rfl:=HC2.out
   go_wp2
   go_ret
   first
    | exact ⟨rfl,.inl ⟨by decide,bd⟩⟩
    | exact ⟨rfl,bd⟩
  ·rw [if_neg h40] at HC2
   clear hfb
   go_wp2
   go_loopw [6] (fun i wr=>∃ k:Nat,k≤l.length∧i = .int .i64 k∧hasS es (l.take k) = false∧∃ n,wr = V.drewN n) (fun i _=>l.length - (intOf i).toNat)
   case atStart=>exact ⟨0,by omega,rfl,rfl,1,rfl⟩
   case round =>
    obtain ⟨k,hk,rfl,hno,n,rfl⟩:=hrel
    have bn:Below w.heap.size w (V.drewN n):=below_drewN b0 n
    have q6:(V.drewN n).cell? ⟨B,6,none⟩ = some (.slice pa l.length ecap):=g6
    have q2:(V.drewN n).cell? ⟨w.heap.size,2,none⟩ = some (.int .i64 es):=e2
    have q6b:(V.drewN (n+1)).cell? ⟨B,6,none⟩ = some (.slice pa l.length ecap):=g6
    have q2b:(V.drewN (n+1)).cell? ⟨w.heap.size,2,none⟩ = some (.int .i64 es):=e2
    clear g6 e2 bd
    have hO2:V.ownsRow (B+1) 50 4 (.slice pa l.length ecap) l.length (evs l):=HO.out
    by_cases hlt:k < l.length
    ·obtain ⟨E,ecap2,hform,hEb,hEl⟩:=hO2.form (by omega)
     obtain ⟨rfl,rfl⟩:pa = some ⟨E,0,none⟩∧ecap = ecap2:=by
      injection hform with a b c
      exact ⟨a,c⟩
     have hsq:(V.drewN n).cell? ⟨E,k*4+2,none⟩ = some (.int .i64 l[k].s):=(own_range hO2 rfl k l[k] (List.getElem?_eq_getElem hlt)).1 2 _ rfl
     have hsqb:(V.drewN (n+1)).cell? ⟨E,k*4+2,none⟩ = some (.int .i64 l[k].s):=hsq
     have HS:=(show Hid _ from hasS_take es l k hlt)
     have HAt:=(show Hid (l[k].s = es→hasS es l = true) from hasS_at es l k hlt)
     clear hform
     generalize l[k].s = xs at *
     by_cases hx:xs = es
     ·have p1:(xs == es) = true:=by simp [hx]
      rw [if_pos (HAt.out hx)] at HC2
      clear hx HS HAt HX HO HA0 hO2
      obtain rfl:=HC2.out
      go_wp2_with fail
      refine wp_region_held_drew (S:=fun wz=>wz = V.drewN (n+1)) (by kernel_rfl) rfl (fun hHeld=>?_)
      refine tkc 0 (.pointer (some ⟨B,0,none⟩)) rfl ?_
      simp only [uP]
      refine tkc 1 (.pointer (some ⟨B,0,none⟩)) rfl ?_
      simp only [uP]
      refine tkc 2 (.pointer (some ⟨B,6,none⟩)) rfl ?_
      simp only [uP]
      refine tkc 3 (.slice (some ⟨E,0,none⟩) l.length ecap) rfl ?_
      simp only [uP]
      refine tkc 4 (.int .i64 k) rfl ?_
      simp only [uP]
      refine tkc 5 (.pointer (some ⟨E,k*4,none⟩)) rfl ?_
      simp only [uP]
      refine tkc 6 (.pointer (some ⟨E,k*4+2,none⟩)) rfl ?_
      simp only [uP]
      refine tkc 7 (.int .i64 xs) rfl ?_
      simp only [uP]
      refine tkc 8 (.pointer (some ⟨w.heap.size,2,none⟩)) rfl ?_
      simp only [uP]
      refine tkc 9 (.int .i64 es) rfl ?_
      simp only [uP]
      refine tkc 10 (.bool true) rfl ?_
      simp only [uP]
      refine wpAnyH_done (by kernel_rfl) ?_ _
      clear hHeld
      go_wp2
      go_ret
      first
       | exact ⟨rfl,.inl ⟨by decide,bn.drew⟩⟩
       | exact ⟨rfl,bn.drew⟩
     ·have p1:(xs == es) = false:=by simp [hx]
      have HS2:Hid (hasS es (l.take (k+1)) = false):=by show hasS es (l.take (k+1)) = false; rw [HS.out,hno,p1]; rfl
      clear hx HS HAt hO2
      go_wp2_with fail
      refine wp_region_held_drew (S:=fun wz=>wz = V.drewN (n+1)) (by kernel_rfl) rfl (fun hHeld=>?_)
      refine tkc 0 (.pointer (some ⟨B,0,none⟩)) rfl ?_
      simp only [uP]
      refine tkc 1 (.pointer (some ⟨B,0,none⟩)) rfl ?_
      simp only [uP]
      refine tkc 2 (.pointer (some ⟨B,6,none⟩)) rfl ?_
      simp only [uP]
      refine tkc 3 (.slice (some ⟨E,0,none⟩) l.length ecap) rfl ?_
      simp only [uP]
      refine tkc 4 (.int .i64 k) rfl ?_
      simp only [uP]
      refine tkc 5 (.pointer (some ⟨E,k*4,none⟩)) rfl ?_
      simp only [uP]
      refine tkc 6 (.pointer (some ⟨E,k*4+2,none⟩)) rfl ?_
      simp only [uP]
      refine tkc 7 (.int .i64 xs) rfl ?_
      simp only [uP]
      refine tkc 8 (.pointer (some ⟨w.heap.size,2,none⟩)) rfl ?_
      simp only [uP]
      refine tkc 9 (.int .i64 es) rfl ?_
      simp only [uP]
      refine tkc 10 (.bool false) rfl ?_
      simp only [uP]
      refine wpAnyH_done (by kernel_rfl) ?_ _
      clear hHeld
      go_wp2_with fail
      go_roundw
      case rel=>exact ⟨k+1,by omega,by go_num,HS2.out,n+1,rfl⟩
      case measure=>simp [intOf]; omega
    ·obtain rfl:k = l.length:=by omega
     rw [List.take_length] at hno
     rw [if_neg (by rw [hno]; decide)] at HC2
     have hX2:At V B (dl t (.slice pa l.length ecap) g day bk):=HX.out
     have hA2:At V w.heap.size [.int .i64 ed,.int .i64 ek,.int .i64 es,.int .i64 ea]:=HA0.out
     have hRow:∀ b,some b = (Value.slice pa l.length ecap).ownBlock→B+1≤b∧b < w.heap.size:=HRw.out
     have oU:(V.drewN n).drew.ownsRow (B+1) 50 4 (.slice pa l.length ecap) l.length (evs l):=hO2
     have aU:At (V.drewN n).drew B (dl t (.slice pa l.length ecap) g day bk):=hX2.block rfl
     have xU:At (V.drewN n).drew w.heap.size [.int .i64 ed,.int .i64 ek,.int .i64 es,.int .i64 ea]:=hA2.block rfl
     have bU:Below w.heap.size w (V.drewN n).drew:=bn.drew
     obtain rfl:=HC2.out
     clear hno HX HO HA0 hO2 hX2 hA2 bn q2 q2b q6b HC2
     go_wp2_with fail
     refine wp_region_held_drew (S:=fun wz=>wz.rangeAt w.heap.size 0 [.int .i64 ed,.int .i64 ek,.int .i64 es,.int .i64 ea]) (by kernel_rfl) xU.range (fun hHeld=>?_)
     clear q6
     generalize (V.drewN n).drew = U at *
     have u6:U.cell? ⟨B,6,none⟩ = some (.slice pa l.length ecap):=aU.cell 6 rfl
     have oU1:=oU.alloc (.cells #[.int .i64 ed,.int .i64 ek,.int .i64 es,.int .i64 ea] 50)
     have aU1:At (U.alloc (.cells #[.int .i64 ed,.int .i64 ek,.int .i64 es,.int .i64 ea] 50)) B (dl t (.slice pa l.length ecap) g day bk):=At.over (v:=.int .i64 t.st) aU _
     have xU1:At (U.alloc (.cells #[.int .i64 ed,.int .i64 ek,.int .i64 es,.int .i64 ea] 50)) w.heap.size [.int .i64 ed,.int .i64 ek,.int .i64 es,.int .i64 ea]:=At.over xU _
     have nU1:At (U.alloc (.cells #[.int .i64 ed,.int .i64 ek,.int .i64 es,.int .i64 ea] 50)) U.heap.size [.int .i64 ed,.int .i64 ek,.int .i64 es,.int .i64 ea]:=At.alloc U _ _
     have bU1:Below w.heap.size w (U.alloc (.cells #[.int .i64 ed,.int .i64 ek,.int .i64 es,.int .i64 ea] 50)):=bU.alloc bU.size _
     have u7:(U.alloc (.cells #[.int .i64 ed,.int .i64 ek,.int .i64 es,.int .i64 ea] 50)).cell? ⟨B,6,none⟩ = some (.slice pa l.length ecap):=aU1.cell 6 rfl
     refine tka 0 (.pointer (some ⟨B,0,none⟩)) rfl ?_
     simp only [uP]
     refine tka 1 (.pointer (some ⟨B,0,none⟩)) rfl ?_
     simp only [uP]
     refine tka 2 (.pointer (some ⟨B,0,none⟩)) rfl ?_
     simp only [uP]
     refine tka 3 (.pointer (some ⟨B,6,none⟩)) rfl ?_
     simp only [uP]
     refine wpAnyH_take (i:=5) (v:=.agg #[.int .i64 ed,.int .i64 ek,.int .i64 es,.int .i64 ea]) rfl (by kernel_rfl) (by kernel_rfl) (by kernel_rfl) (fun _ _ _ h=>h) (yieldsIf_load_mid (by rfl) 50 (.tmp 3) rfl _ _ rfl _ _ (fun _ h=>h) Tryz.underlying50 rfl (by kernel_rfl)) (by assumption) ?_
     simp only [uP]
     refine wpAnyH_ready (rs:=[4,6]) (by kernel_rfl) (by simp) ?_
     refine AllReadyH.cons rfl (fun K hK=>?_) (AllReadyH.cons rfl (fun K hK=>?_) AllReadyH.nil)
     ·go_simp
      refine hK.out _ _ hHeld (fun _=>?_)
      clear hK K
      refine rdy 6 rfl (fun K hK=>?_)
      rw [if_pos (by rfl)]
      refine wp_valD (.slice (some ⟨U.heap.size,0,none⟩) 1 1) (U.alloc (.cells #[.int .i64 ed,.int .i64 ek,.int .i64 es,.int .i64 ea] 50)) (by kernel_rfl) ?_
      refine hK.out _ _ xU1.range (fun _=>?_)
      clear hK K u6 u7 oU aU xU bU hHeld
      simp only [uP]
      generalize U.alloc (.cells #[.int .i64 ed,.int .i64 ek,.int .i64 es,.int .i64 ea] 50) = U1 at *
      generalize U.heap.size = N at *
      refine rdy 7 rfl (fun K hK=>?_)
      rw [if_pos (by rfl)]
      refine wp_append_at U1 (.tmp 75) (.tmp 77) 42 rfl (B+1) 50 i0 (.agg #[.int .i64 0,.int .i64 0,.int .i64 0,.int .i64 0]) 4 32 Tryz.underlying42 hi hz0 hz1 hz2 rfl (by decide) _ _ _ rfl oU1 ⟨N,0,none⟩ 1 1 [.int .i64 ed,.int .i64 ek,.int .i64 es,.int .i64 ea] rfl rfl ?_ ?_ ?_ ?_ ?_ ?_
      ·intro j u hj
       have:=(nU1 j u hj).1
       by_cases j0:j = 0
       ·subst j0; simpa [Addr.add] using this
       ·simpa [Addr.add,j0] using this
      ·intro u hu
       simp at hu
       rcases hu with rfl | rfl | rfl | rfl <;> rfl
      ·unfold maxLen; omega
      ·omega
      ·have:=bU1.size; omega
      intro v' w' h2 h3 hat
      have hon:OwnNew w (.slice pa l.length ecap) v':=hat.imp id (fun h=>⟨_,h,bU1.size⟩)
      clear hat
      obtain ⟨g',cap',rfl,hgb,hgl⟩:=h2.form (by omega)
      have kp3:Keep (fun b=>some b = (Value.slice pa l.length ecap).ownBlock) U1 w':=⟨h3.os,h3.tape,h3.output,h3.size,fun k hk hs=>h3.block k hk hs⟩
      have hrow:∀ b,some b = (Value.slice pa l.length ecap).ownBlock→B+1≤b∧b < w.heap.size:=fun b hb=>hRow b hb
      have xw:At w' w.heap.size [.int .i64 ed,.int .i64 ek,.int .i64 es,.int .i64 ea]:=xU1.keep kp3 (fun h=>by have:=hrow _ h; omega)
      have aw:At w' B (dl t (.slice pa l.length ecap) g day bk):=At.keep (v:=.int .i64 t.st) aU1 kp3 (fun h=>by have:=hrow _ h; omega)
      refine hK.out _ _ xw.range (fun _=>?_)
      clear hK K
      simp only [uP]
      refine tka 8 (.pointer (some ⟨B,0,none⟩)) rfl ?_
      simp only [uP]
      refine tka 9 (.pointer (some ⟨B,6,none⟩)) rfl ?_
      simp only [uP]
      refine rdy 10 rfl (fun K hK=>?_)
      have y6:w'.cell? ⟨B,6,none⟩ = some (.slice pa l.length ecap):=aw.cell 6 rfl
      have y7:w'.frozen? ⟨B,6,none⟩ = false:=aw.free 6 rfl
      go_simp
      have x2:=xw.other (c:=B) (by omega) 6 (.slice (some ⟨g',0,none⟩) (l.length+1) cap')
      refine hK.out _ _ x2.range (fun _=>?_)
      have own4:(w'.setCell ⟨B,6,none⟩ (.slice (some ⟨g',0,none⟩) (l.length+1) cap')).ownsRow (B+1) 50 4 (.slice (some ⟨g',0,none⟩) (l.length+1) cap') (l.length+1) (evs (l ++ [⟨ed,ek,es,ea⟩])):=by
       rw [So.evs_append]
       exact ownsRow_setCell_below h2 (Nat.lt_succ_self B) _
      have at4:At (w'.setCell ⟨B,6,none⟩ (.slice (some ⟨g',0,none⟩) (l.length+1) cap')) B (dl t (.slice (some ⟨g',0,none⟩) (l.length+1) cap') g day bk):=aw.set 6 (show 6 < 16 by decide) _
      have kp4:Keep (fun b=>b = B∨pa.map (·.block) = some b) w (w'.setCell ⟨B,6,none⟩ (.slice (some ⟨g',0,none⟩) (l.length+1) cap')) :=
       ((Keep.below (S:=fun b=>b = B∨pa.map (·.block) = some b) bU1).trans (kp3.mono (fun b _ h=>.inr (by cases pa <;> simp [Value.ownBlock] at h ⊢; exact h.symm)))).set (S:=fun b=>b = B∨pa.map (·.block) = some b) (.inl rfl) 6 _
      clear hK K h2 h3 kp3 xw aw y6 y7 x2 oU1 aU1 xU1 nU1 bU1
      generalize w'.setCell ⟨B,6,none⟩ (.slice (some ⟨g',0,none⟩) (l.length+1) cap') = w9 at *
      refine wpAnyH_done (by kernel_rfl) ?_ _
      go_wp2
      go_ret
      first
       | exact ⟨rfl,.inr ⟨rfl,_,own4,hon,at4,kp4⟩⟩
       | exact ⟨rfl,_,own4,hon,at4,kp4.mono (fun b _ h=>by cases pa <;> simpa using h)⟩
     ·rw [if_pos (by rfl)]
      refine wp_valD (.slice (some ⟨U.heap.size,0,none⟩) 1 1) (U.alloc (.cells #[.int .i64 ed,.int .i64 ek,.int .i64 es,.int .i64 ea] 50)) (by kernel_rfl) ?_
      refine hK.out _ _ xU1.range (fun hHeld2=>?_)
      clear hK K u6
      simp only [uP]
      refine rdy 4 rfl (fun K hK=>?_)
      go_simp
      refine hK.out _ _ hHeld2 (fun _=>?_)
      clear hK K u7 oU aU xU bU hHeld hHeld2
      generalize U.alloc (.cells #[.int .i64 ed,.int .i64 ek,.int .i64 es,.int .i64 ea] 50) = U1 at *
      generalize U.heap.size = N at *
      refine rdy 7 rfl (fun K hK=>?_)
      rw [if_pos (by rfl)]
      refine wp_append_at U1 (.tmp 75) (.tmp 77) 42 rfl (B+1) 50 i0 (.agg #[.int .i64 0,.int .i64 0,.int .i64 0,.int .i64 0]) 4 32 Tryz.underlying42 hi hz0 hz1 hz2 rfl (by decide) _ _ _ rfl oU1 ⟨N,0,none⟩ 1 1 [.int .i64 ed,.int .i64 ek,.int .i64 es,.int .i64 ea] rfl rfl ?_ ?_ ?_ ?_ ?_ ?_
      ·intro j u hj
       have:=(nU1 j u hj).1
       by_cases j0:j = 0
       ·subst j0; simpa [Addr.add] using this
       ·simpa [Addr.add,j0] using this
      ·intro u hu
       simp at hu
       rcases hu with rfl | rfl | rfl | rfl <;> rfl
      ·unfold maxLen; omega
      ·omega
      ·have:=bU1.size; omega
      intro v' w' h2 h3 hat
      have hon:OwnNew w (.slice pa l.length ecap) v':=hat.imp id (fun h=>⟨_,h,bU1.size⟩)
      clear hat
      obtain ⟨g',cap',rfl,hgb,hgl⟩:=h2.form (by omega)
      have kp3:Keep (fun b=>some b = (Value.slice pa l.length ecap).ownBlock) U1 w':=⟨h3.os,h3.tape,h3.output,h3.size,fun k hk hs=>h3.block k hk hs⟩
      have hrow:∀ b,some b = (Value.slice pa l.length ecap).ownBlock→B+1≤b∧b < w.heap.size:=fun b hb=>hRow b hb
      have xw:At w' w.heap.size [.int .i64 ed,.int .i64 ek,.int .i64 es,.int .i64 ea]:=xU1.keep kp3 (fun h=>by have:=hrow _ h; omega)
      have aw:At w' B (dl t (.slice pa l.length ecap) g day bk):=At.keep (v:=.int .i64 t.st) aU1 kp3 (fun h=>by have:=hrow _ h; omega)
      refine hK.out _ _ xw.range (fun _=>?_)
      clear hK K
      simp only [uP]
      refine tka 8 (.pointer (some ⟨B,0,none⟩)) rfl ?_
      simp only [uP]
      refine tka 9 (.pointer (some ⟨B,6,none⟩)) rfl ?_
      simp only [uP]
      refine rdy 10 rfl (fun K hK=>?_)
      have y6:w'.cell? ⟨B,6,none⟩ = some (.slice pa l.length ecap):=aw.cell 6 rfl
      have y7:w'.frozen? ⟨B,6,none⟩ = false:=aw.free 6 rfl
      go_simp
      have x2:=xw.other (c:=B) (by omega) 6 (.slice (some ⟨g',0,none⟩) (l.length+1) cap')
      refine hK.out _ _ x2.range (fun _=>?_)
      have own4:(w'.setCell ⟨B,6,none⟩ (.slice (some ⟨g',0,none⟩) (l.length+1) cap')).ownsRow (B+1) 50 4 (.slice (some ⟨g',0,none⟩) (l.length+1) cap') (l.length+1) (evs (l ++ [⟨ed,ek,es,ea⟩])):=by
       rw [So.evs_append]
       exact ownsRow_setCell_below h2 (Nat.lt_succ_self B) _
      have at4:At (w'.setCell ⟨B,6,none⟩ (.slice (some ⟨g',0,none⟩) (l.length+1) cap')) B (dl t (.slice (some ⟨g',0,none⟩) (l.length+1) cap') g day bk):=aw.set 6 (show 6 < 16 by decide) _
      have kp4:Keep (fun b=>b = B∨pa.map (·.block) = some b) w (w'.setCell ⟨B,6,none⟩ (.slice (some ⟨g',0,none⟩) (l.length+1) cap')) :=
       ((Keep.below (S:=fun b=>b = B∨pa.map (·.block) = some b) bU1).trans (kp3.mono (fun b _ h=>.inr (by cases pa <;> simp [Value.ownBlock] at h ⊢; exact h.symm)))).set (S:=fun b=>b = B∨pa.map (·.block) = some b) (.inl rfl) 6 _
      clear hK K h2 h3 kp3 xw aw y6 y7 x2 oU1 aU1 xU1 nU1 bU1
      generalize w'.setCell ⟨B,6,none⟩ (.slice (some ⟨g',0,none⟩) (l.length+1) cap') = w9 at *
      refine wpAnyH_done (by kernel_rfl) ?_ _
      go_wp2
      go_ret
      first
       | exact ⟨rfl,.inr ⟨rfl,_,own4,hon,at4,kp4⟩⟩
       | exact ⟨rfl,_,own4,hon,at4,kp4.mono (fun b _ h=>by cases pa <;> simpa using h)⟩
theorem LongIs.more {S T:Nat→Prop} {w:World} {v:Value} {x:Int} (h:LongIs S w v x) (hst:∀ b,b < w.heap.size→T b→S b):LongIs T w v x:=by
 rcases h with h | ⟨b,cap,l,hv,hb,hs,hl,hd,hi,hx⟩
 ·exact .inl h
 ·exact .inr ⟨b,cap,l,hv,hb,fun t=>hs (hst b hb t),hl,hd,hi,hx⟩
theorem LongIs.slice {S:Nat→Prop} {w:World} {v:Value} {x:Int} (h:LongIs S w v x):∃ p n c,v = .slice p n c:=by
 rcases h with ⟨rfl,_⟩ | ⟨b,cap,l,rfl,_⟩
 ·exact ⟨_,_,_,rfl⟩
 ·exact ⟨_,_,_,rfl⟩
def DB (w:World) (G:Nat):Nat→Prop:=fun b=>b = G∨b = w.heap.size+1
def DS (S:Nat→Prop) (w:World):Nat→Prop:=fun b=>S b∨b = w.heap.size+1
structure DayW (S:Nat→Prop) (w:World) (G:Nat) (t:Ln.Terms) (y:Ln.Dy) (dy:Int) (ev fv:Value) (x1 x2:Int) (wz:World):Prop where
 gon:Gon wz G (w.heap.size+1) t y dy ev fv
 l1:LongIs (DS S w) wz ev x1
 l2:LongIs (DS S w) wz fv x2
 kp:Keep (DB w G) w wz
 sg:S G
 slt:∀ b,S b→b < w.heap.size
theorem DB.to {S:Nat→Prop} {w:World} {G:Nat} (sg:S G) {W W':World} (h:Keep (DB w G) W W'):Keep (DS S w) W W' :=
 h.mono (fun b _ hb=>by rcases hb with rfl | hb; exact .inl sg; exact .inr hb)
theorem DayW.below {S:Nat→Prop} {w:World} {G:Nat} {t:Ln.Terms} {y:Ln.Dy} {dy:Int} {ev fv:Value} {x1 x2:Int} {W W':World} (h:DayW S w G t y dy ev fv x1 x2 W) (hb:Below W.heap.size W W'):DayW S w G t y dy ev fv x1 x2 W' :=
 ⟨h.gon.below hb,h.l1.keep (Keep.below hb),h.l2.keep (Keep.below hb),h.kp.trans (Keep.below hb),h.sg,h.slt⟩
theorem DayW.drew {S:Nat→Prop} {w:World} {G:Nat} {t:Ln.Terms} {y:Ln.Dy} {dy:Int} {ev fv:Value} {x1 x2:Int} {W:World} (h:DayW S w G t y dy ev fv x1 x2 W):DayW S w G t y dy ev fv x1 x2 W.drew:=h.below ((Below.refl _ _).drew)
theorem DayW.cell {S:Nat→Prop} {w:World} {G:Nat} {t:Ln.Terms} {y:Ln.Dy} {dy:Int} {ev fv:Value} {x1 x2:Int} {W:World} (h:DayW S w G t y dy ev fv x1 x2 W) (i:Nat) (hi:i < 17) {v:Value} (hv:∀ av,(gl t y.g dy ev fv av)[i]? = some v):W.cell? ⟨G,i,none⟩ = some v∧W.frozen? ⟨G,i,none⟩ = false:=by
 obtain ⟨⟨ne,⟨cap,hg⟩,hA⟩,_,_,kp,_,slt⟩:=h
 have _:=hi
 exact hg i v (hv _)
theorem DayW.lt {S:Nat→Prop} {w:World} {G:Nat} {t:Ln.Terms} {y:Ln.Dy} {dy:Int} {ev fv:Value} {x1 x2:Int} {W:World} (h:DayW S w G t y dy ev fv x1 x2 W):∀ b,DS S w b→b < W.heap.size:=by
 obtain ⟨⟨ne,⟨cap,hg⟩,hA⟩,_,_,kp,_,slt⟩:=h
 intro b hb
 rcases hb with hb | rfl
 ·exact Nat.lt_of_lt_of_le (slt b hb) kp.size
 ·exact At.lt (v:=.int .i64 (y.am 0)) hA
theorem DayW.set14 {S:Nat→Prop} {w:World} {G:Nat} {t:Ln.Terms} {y:Ln.Dy} {dy:Int} {ev fv:Value} {x1 x2:Int} {W:World} (h:DayW S w G t y dy ev fv x1 x2 W) (r:Value) (x:Int) (hr:LongIs (DS S w) W r x):DayW S w G t y dy r fv x x2 (W.setCell ⟨G,14,none⟩ r):=by
 have hk:Keep (DB w G) W (W.setCell ⟨G,14,none⟩ r):=(Keep.refl _ W).set (S:=DB w G) (.inl rfl) 14 r
 obtain ⟨⟨ne,⟨cap,hg⟩,hA⟩,l1,l2,kp,sg,slt⟩:=h
 have hk2:=DB.to sg hk
 exact ⟨⟨ne,⟨cap,hg.set 14 (show 14 < 18 by decide) r⟩,hA.other (fun x=>ne x.symm) 14 r⟩,hr.keep hk2,l2.keep hk2,kp.trans hk,sg,slt⟩
theorem DayW.set15 {S:Nat→Prop} {w:World} {G:Nat} {t:Ln.Terms} {y:Ln.Dy} {dy:Int} {ev fv:Value} {x1 x2:Int} {W:World} (h:DayW S w G t y dy ev fv x1 x2 W) (r:Value) (x:Int) (hr:LongIs (DS S w) W r x):DayW S w G t y dy ev r x1 x (W.setCell ⟨G,15,none⟩ r):=by
 have hk:Keep (DB w G) W (W.setCell ⟨G,15,none⟩ r):=(Keep.refl _ W).set (S:=DB w G) (.inl rfl) 15 r
 obtain ⟨⟨ne,⟨cap,hg⟩,hA⟩,l1,l2,kp,sg,slt⟩:=h
 have hk2:=DB.to sg hk
 exact ⟨⟨ne,⟨cap,hg.set 15 (show 15 < 18 by decide) r⟩,hA.other (fun x=>ne x.symm) 15 r⟩,l1.keep hk2,hr.keep hk2,kp.trans hk,sg,slt⟩
theorem DayW.enter {S:Nat→Prop} {w:World} {G:Nat} {t:Ln.Terms} {y:Ln.Dy} {dy:Int} {ev fv:Value} {x1 x2:Int} {W:World} (h:DayW S w G t y dy ev fv x1 x2 W) (k:Nat) (a:Int) (hf:Ln.Fit y) (hc:Ln.CanEnter y k a) :
  Calls Tryz.prog 119 #[.pointer (some ⟨G,0,none⟩),.int .i64 k,.int .i64 a] W fun e w'=>e = .returned (.tuple #[])∧DayW S w G t (Ln.enter y k a) dy ev fv x1 x2 w':=by
 refine (enter_any W G _ t y dy ev fv h.gon hf k a hc).mono ?_
 rintro e w' ⟨rfl,hg,hk⟩
 exact ⟨rfl,hg,h.l1.keep (DB.to h.sg hk),h.l2.keep (DB.to h.sg hk),h.kp.trans hk,h.sg,h.slt⟩
end Go.Proofs.YtanndhoimpnhpaaGreatDoor
