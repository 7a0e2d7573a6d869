/- Joined by program: LnI, Sw, LnK, Bk. -/
import Derived.Test.YtanndhoimpnhpaaGreatDoorM8
namespace Go.Proofs.YtanndhoimpnhpaaGreatDoor
open Go.ChangeShapes Go.WideShapes Go.ChangeAt Go.RowKit Lg
set_option maxRecDepth 10000 in
set_option maxHeartbeats 8000000 in
theorem day_core (S:Nat→Prop) (w:World) (G:Nat) (pa:Option Addr) (ecap:Nat) (E:Nat) (t:Ln.Terms) (g:Ln.St) (dy:Int) (ev fv av:Value) (l:List Ln.Ev) (n cy cm cd:Int) (hG:At w G (gl t g dy ev fv av)) (hl:l.length≤40)
  (hf0:Ln.Fit ⟨g,fun _=>0⟩) (hsum:g.pr+g.it+g.du+g.la≤656820000000000000) (p0:0≤t.pr) (p1:t.pr≤100000000000) (HE:Hid (l ≠ []→pa = some ⟨E,0,none⟩∧At w E (evs l)∧¬ E = G)) (HOk:Hid (∀ e∈l,Ln.OkE t e)) (HSt:Hid (∀ k,k≤l.length→Ln.Fit (upto t n cd l g k)∧(∃ L,L≤4100000000000∧Ln.Am (upto t n cd l g k) L)∧(upto t n cd l g k).g.cr≤4100000000000∧(upto t n cd l g k).g.pr+(upto t n cd l g k).g.it≤656820000000000000)) (n0:0≤n) (n1:n≤109573)
  (wt:Int) (HWT:Hid (∀ W:World,Calls Tryz.prog 121 #[.int .i64 t.ba,.agg #[.int .i64 cy,.int .i64 cm,.int .i64 cd]] W fun e w'=>e = .returned (.int .i64 wt)∧Below W.heap.size W w')) (HEV:Hid (LongIs S w ev g.ea)) (HFV:Hid (LongIs S w fv g.fn)) (HSS:Hid (S G∧∀ b,S b→b < w.heap.size))
  (HN:Hid (0≤(upto t n cd l g l.length).g.rt*wt∧(upto t n cd l g l.length).g.rt*wt≤3000000∧0≤t.fi*wt∧t.fi*wt≤3000000∧0≤(upto t n cd l g l.length).g.pr∧(upto t n cd l g l.length).g.pr≤4000000000000000000∧0≤(upto t n cd l g l.length).g.la∧(upto t n cd l g l.length).g.la≤4000000000000000000∧g.ea+(upto t n cd l g l.length).g.pr*((upto t n cd l g l.length).g.rt*wt) < 1000000 ^ 6∧g.fn+(upto t n cd l g l.length).g.la*(t.fi*wt) < 1000000 ^ 6))
  (HQ:Hid (g.ea / 1000000 / Ln.year t≤9000000000000000000∧(g.ea+(upto t n cd l g l.length).g.pr*((upto t n cd l g l.length).g.rt*wt)) / 1000000 / Ln.year t≤9000000000000000000∧g.fn / 1000000 / Ln.year t≤9000000000000000000∧(g.fn+(upto t n cd l g l.length).g.la*(t.fi*wt)) / 1000000 / Ln.year t≤9000000000000000000))
  (HC2:Hid (Ln.CanEnter (upto t n cd l g l.length) 11 ((g.ea+(upto t n cd l g l.length).g.pr*((upto t n cd l g l.length).g.rt*wt)) / 1000000 / Ln.year t - g.ea / 1000000 / Ln.year t)∧Ln.Fit (upto t n cd l g l.length)∧Ln.CanEnter (Ln.enter (upto t n cd l g l.length) 11 ((g.ea+(upto t n cd l g l.length).g.pr*((upto t n cd l g l.length).g.rt*wt)) / 1000000 / Ln.year t - g.ea / 1000000 / Ln.year t)) 12 ((g.fn+(upto t n cd l g l.length).g.la*(t.fi*wt)) / 1000000 / Ln.year t - g.fn / 1000000 / Ln.year t)∧Ln.Fit (Ln.enter (upto t n cd l g l.length) 11 ((g.ea+(upto t n cd l g l.length).g.pr*((upto t n cd l g l.length).g.rt*wt)) / 1000000 / Ln.year t - g.ea / 1000000 / Ln.year t))))
  (HD:Hid (Ln.CanEnter ⟨g,fun _=>0⟩ 2 g.du∧Ln.Fit (Ln.enter ⟨g,fun _=>0⟩ 2 g.du)∧Ln.CanEnter (Ln.enter ⟨g,fun _=>0⟩ 2 g.du) 3 g.it)) :
  Calls Tryz.prog 95 #[.pointer (some ⟨G,0,none⟩),.int .i64 n,.agg #[.int .i64 cy,.int .i64 cm,.int .i64 cd],.slice pa l.length ecap] w fun e w'=>e = .returned (.tuple #[])∧∃ r1 r2,DayW S w G t (Ln.enter (Ln.enter (upto t n cd l g l.length) 11 ((g.ea+(upto t n cd l g l.length).g.pr*((upto t n cd l g l.length).g.rt*wt)) / 1000000 / Ln.year t - g.ea / 1000000 / Ln.year t)) 12 ((g.fn+(upto t n cd l g l.length).g.la*(t.fi*wt)) / 1000000 / Ln.year t - g.fn / 1000000 / Ln.year t)) dy r1 r2 (g.ea+(upto t n cd l g l.length).g.pr*((upto t n cd l g l.length).g.rt*wt)) (g.fn+(upto t n cd l g l.length).g.la*(t.fi*wt)) w':=by
 have hmk:=mk13
 have c0:w.cell? ⟨G,0,none⟩ = some (.int .i64 t.st):=hG.cell 0 rfl
 have c1:w.cell? ⟨G,1,none⟩ = some (.int .i64 t.pr):=hG.cell 1 rfl
 have c17:w.cell? ⟨G,17,none⟩ = some av:=hG.cell 17 rfl
 have z17:w.frozen? ⟨G,17,none⟩ = false:=hG.free 17 rfl
 have hGl:=hG.lt
 obtain ⟨hGon,hC,hK,hS⟩:=day_world w G t g dy ev fv av cy cm cd 169 3 hG
 have HG:=(show Hid _ from hGon)
 have HC:=(show Hid _ from hC)
 have HK:=(show Hid _ from hK)
 have HS:=(show Hid _ from hS)
 have HF:=(show Hid _ from hf0)
 have HL:=(show Hid (Ln.Fit ⟨g,fun _=>0⟩∧g.pr+g.it+g.du+g.la≤656820000000000000) from ⟨hf0,hsum⟩)
 clear hG hGon hC hK hS hf0 hsum
 go_enter Tryz.func95,Tryz.ntmps95
 go_upto_if 24 with fail
 clear hmk c0 c1 c17 z17
 have hGon:=HG.out
 have hC:=HC.out
 have hK:=HK.out
 have hS:=HS.out
 clear HG HC HK HS
 generalize (((w.setCell ⟨G,17,none⟩ (.slice (some ⟨w.heap.size+1,0,none⟩) 13 13)).alloc (.cells #[.int .i64 cy,.int .i64 cm,.int .i64 cd] 169)).alloc (.cells #[.int .i64 0,.int .i64 0,.int .i64 0,.int .i64 0,.int .i64 0,.int .i64 0,.int .i64 0,.int .i64 0,.int .i64 0,.int .i64 0,.int .i64 0,.int .i64 0,.int .i64 0] 3)) = W at *
 go_cut [] from 18 to 31 (fun wx=>Gon wx G (w.heap.size+1) t (first t n g) dy ev fv∧At wx w.heap.size [.int .i64 cy,.int .i64 cm,.int .i64 cd]∧Keep (fun b=>b = G∨b = w.heap.size+1) w wx)
 case first =>
  by_cases hst:n = t.st
  ·have hn:(n == t.st) = true:=by simp [hst]
   have E:Hid (first t n g = Ln.enter ⟨g,fun _=>0⟩ 1 t.pr):=by unfold first Hid; rw [if_pos hst]
   clear hst
   obtain ⟨ne,⟨cap,hG⟩,hA⟩:=id hGon
   have c1:W.cell? ⟨G,1,none⟩ = some (.int .i64 t.pr):=hG.cell 1 rfl
   clear hG hA
   have hcan:Ln.CanEnter ⟨g,fun _=>0⟩ 1 t.pr:=⟨p0,Int.le_refl _,by show 0+t.pr≤_; omega,by show g.pr+t.pr≤_; have:=HF.out.pr1; have:g.pr≤4000000000000000000:=this; omega⟩
   go_wp2_with fail
   refine (enter_any W G _ t _ dy ev fv hGon HF.out 1 t.pr hcan).mono ?_
   rintro e w1 ⟨rfl,hg1,hk1⟩
   go_wp2_with fail
   go_meet
   case rel=>exact ⟨by rw [E.out]; exact hg1,At.keep hC hk1 (by omega),(hK.mono (fun _ _ h=>Or.inl h)).trans hk1⟩
  ·have hn:(n == t.st) = false:=by simp [hst]
   have E:Hid (first t n g = ⟨g,fun _=>0⟩):=by unfold first Hid; rw [if_neg hst]
   clear hst
   go_wp2_with fail
   go_meet
   case rel=>exact ⟨by rw [E.out]; exact hGon,hC,hK.mono (fun _ _ h=>Or.inl h)⟩
 case rest =>
  obtain ⟨hg1,hc1,hk1⟩:=hcut
  obtain ⟨ne4,⟨cap4,hG4⟩,hA4⟩:=id hg1
  rename_i wc
  have c0:wc.drew.cell? ⟨G,0,none⟩ = some (.int .i64 t.st):=hG4.cell 0 rfl
  have c5:wc.drew.cell? ⟨G,5,none⟩ = some (.int .i64 t.du):=hG4.cell 5 rfl
  have c16:wc.drew.cell? ⟨G,16,none⟩ = some (.int .i64 g.fr):=by
   have:=hG4.cell 16 rfl
   rw [first_fr] at this
   exact this
  have cc:wc.drew.cell? ⟨w.heap.size,2,none⟩ = some (.int .i64 cd):=hc1.cell 2 rfl
  clear hG4 hA4 ne4
  go_upto_region 4 with fail
  go_cut [56] from 32 to 55 (fun d wx=>d = .bool (due t n cd g)∧Gon wx G (w.heap.size+1) t (first t n g) dy ev fv∧At wx w.heap.size [.int .i64 cy,.int .i64 cm,.int .i64 cd]∧Keep (fun b=>b = G∨b = w.heap.size+1) w wx)
  case first =>
   have hgd:Gon wc.drew G (w.heap.size+1) t (first t n g) dy ev fv:=hg1.drewN 1
   have hcd:At wc.drew w.heap.size [.int .i64 cy,.int .i64 cm,.int .i64 cd]:=hc1.drew
   have hkd:=hk1.drew
   clear hg1 hc1 hk1
   by_cases hst:n = t.st
   ·have e1:(n == t.st) = true:=by simp [hst]
    have e2:(n != t.st) = false:=by simp [hst]
    have E:Hid (due t n cd g = false):=by show due t n cd g = false; simp [due,hst]
    clear hst
    refine wp_region_held_drew (S:=fun wz=>wz = wc.drew) (by kernel_rfl) rfl (fun hHeld=>?_)
    refine tkc 0 (.int .i64 n) rfl ?_
    simp only [uP]
    refine tkc 1 (.pointer (some ⟨G,0,none⟩)) rfl ?_
    simp only [uP]
    refine tkc 2 (.pointer (some ⟨G,0,none⟩)) rfl ?_
    simp only [uP]
    refine tkc 3 (.pointer (some ⟨G,0,none⟩)) rfl ?_
    simp only [uP]
    refine tkc 4 (.pointer (some ⟨G,0,none⟩)) rfl ?_
    simp only [uP]
    refine tkc 5 (.int .i64 t.st) rfl ?_
    simp only [uP]
    refine tkc 6 (.bool false) rfl ?_
    simp only [uP]
    refine tkc 7 (.bool false) rfl ?_
    simp only [uP]
    refine tku 8 rfl ?_
    simp only [uP]
    refine tku 9 rfl ?_
    simp only [uP]
    refine tku 10 rfl ?_
    simp only [uP]
    refine tku 11 rfl ?_
    simp only [uP]
    refine tku 12 rfl ?_
    simp only [uP]
    refine tku 13 rfl ?_
    simp only [uP]
    refine tku 14 rfl ?_
    simp only [uP]
    refine tku 15 rfl ?_
    simp only [uP]
    refine tkc 16 (.bool false) rfl ?_
    simp only [uP]
    refine tkc 17 (.bool false) rfl ?_
    simp only [uP]
    refine tku 18 rfl ?_
    simp only [uP]
    refine tku 19 rfl ?_
    simp only [uP]
    refine tku 20 rfl ?_
    simp only [uP]
    refine tku 21 rfl ?_
    simp only [uP]
    refine tku 22 rfl ?_
    simp only [uP]
    refine tku 23 rfl ?_
    simp only [uP]
    refine tkc 24 (.bool false) rfl ?_
    simp only [uP]
    refine wpAnyH_done (by kernel_rfl) ?_ _
    go_wp2_with fail
    go_meet
    case rel=>exact ⟨by rw [E.out],hgd,hcd,hkd⟩
   ·have e1:(n == t.st) = false:=by simp [hst]
    have e2:(n != t.st) = true:=by simp [hst]
    by_cases hdu:cd = t.du
    ·have f1:(cd == t.du) = true:=by simp [hdu]
     have E:Hid (due t n cd g = decide (g.fr≤n)):=by show due t n cd g = _; simp [due,hst,hdu]
     clear hdu hst
     refine wp_region_held_drew (S:=fun wz=>wz = wc.drew) (by kernel_rfl) rfl (fun hHeld=>?_)
     refine tkc 0 (.int .i64 n) rfl ?_
     simp only [uP]
     refine tkc 1 (.pointer (some ⟨G,0,none⟩)) rfl ?_
     simp only [uP]
     refine tkc 2 (.pointer (some ⟨G,0,none⟩)) rfl ?_
     simp only [uP]
     refine tkc 3 (.pointer (some ⟨G,0,none⟩)) rfl ?_
     simp only [uP]
     refine tkc 4 (.pointer (some ⟨G,0,none⟩)) rfl ?_
     simp only [uP]
     refine tkc 5 (.int .i64 t.st) rfl ?_
     simp only [uP]
     refine tkc 6 (.bool true) rfl ?_
     simp only [uP]
     refine tkc 7 (.bool true) rfl ?_
     simp only [uP]
     refine tkc 8 (.pointer (some ⟨w.heap.size,2,none⟩)) rfl ?_
     simp only [uP]
     refine tkc 9 (.int .i64 cd) rfl ?_
     simp only [uP]
     refine tkc 10 (.pointer (some ⟨G,0,none⟩)) rfl ?_
     simp only [uP]
     refine tkc 11 (.pointer (some ⟨G,0,none⟩)) rfl ?_
     simp only [uP]
     refine tkc 12 (.pointer (some ⟨G,0,none⟩)) rfl ?_
     simp only [uP]
     refine tkc 13 (.pointer (some ⟨G,5,none⟩)) rfl ?_
     simp only [uP]
     refine tkc 14 (.int .i64 t.du) rfl ?_
     simp only [uP]
     refine tkc 15 (.bool true) rfl ?_
     simp only [uP]
     refine tkc 16 (.bool true) rfl ?_
     simp only [uP]
     refine tkc 17 (.bool true) rfl ?_
     simp only [uP]
     refine tkc 18 (.int .i64 n) rfl ?_
     simp only [uP]
     refine tkc 19 (.pointer (some ⟨G,0,none⟩)) rfl ?_
     simp only [uP]
     refine tkc 20 (.pointer (some ⟨G,0,none⟩)) rfl ?_
     simp only [uP]
     refine tkc 21 (.pointer (some ⟨G,16,none⟩)) rfl ?_
     simp only [uP]
     refine tkc 22 (.int .i64 g.fr) rfl ?_
     simp only [uP]
     refine tkc 23 (.bool (decide (g.fr≤n))) rfl ?_
     simp only [uP]
     refine tkc 24 (.bool (decide (g.fr≤n))) rfl ?_
     simp only [uP]
     refine wpAnyH_done (by kernel_rfl) ?_ _
     go_wp2_with fail
     go_meet
     case rel=>exact ⟨by rw [E.out],hgd,hcd,hkd⟩
    ·have f1:(cd == t.du) = false:=by simp [hdu]
     have E:Hid (due t n cd g = false):=by show due t n cd g = false; simp [due,hdu]
     clear hdu hst
     refine wp_region_held_drew (S:=fun wz=>wz = wc.drew) (by kernel_rfl) rfl (fun hHeld=>?_)
     refine tkc 0 (.int .i64 n) rfl ?_
     simp only [uP]
     refine tkc 1 (.pointer (some ⟨G,0,none⟩)) rfl ?_
     simp only [uP]
     refine tkc 2 (.pointer (some ⟨G,0,none⟩)) rfl ?_
     simp only [uP]
     refine tkc 3 (.pointer (some ⟨G,0,none⟩)) rfl ?_
     simp only [uP]
     refine tkc 4 (.pointer (some ⟨G,0,none⟩)) rfl ?_
     simp only [uP]
     refine tkc 5 (.int .i64 t.st) rfl ?_
     simp only [uP]
     refine tkc 6 (.bool true) rfl ?_
     simp only [uP]
     refine tkc 7 (.bool true) rfl ?_
     simp only [uP]
     refine tkc 8 (.pointer (some ⟨w.heap.size,2,none⟩)) rfl ?_
     simp only [uP]
     refine tkc 9 (.int .i64 cd) rfl ?_
     simp only [uP]
     refine tkc 10 (.pointer (some ⟨G,0,none⟩)) rfl ?_
     simp only [uP]
     refine tkc 11 (.pointer (some ⟨G,0,none⟩)) rfl ?_
     simp only [uP]
     refine tkc 12 (.pointer (some ⟨G,0,none⟩)) rfl ?_
     simp only [uP]
     refine tkc 13 (.pointer (some ⟨G,5,none⟩)) rfl ?_
     simp only [uP]
     refine tkc 14 (.int .i64 t.du) rfl ?_
     simp only [uP]
     refine tkc 15 (.bool false) rfl ?_
     simp only [uP]
     refine tkc 16 (.bool false) rfl ?_
     simp only [uP]
     refine tkc 17 (.bool false) rfl ?_
     simp only [uP]
     refine tku 18 rfl ?_
     simp only [uP]
     refine tku 19 rfl ?_
     simp only [uP]
     refine tku 20 rfl ?_
     simp only [uP]
     refine tku 21 rfl ?_
     simp only [uP]
     refine tku 22 rfl ?_
     simp only [uP]
     refine tku 23 rfl ?_
     simp only [uP]
     refine tkc 24 (.bool false) rfl ?_
     simp only [uP]
     refine wpAnyH_done (by kernel_rfl) ?_ _
     go_wp2_with fail
     go_meet
     case rel=>exact ⟨by rw [E.out],hgd,hcd,hkd⟩
  case rest =>
   clear c0 c5 c16 cc hg1 hc1 hk1
   obtain ⟨rfl,hg2,hc2,hk2⟩:=hcut
   go_upto_if 56 with fail
   go_cut [] from 32 to 70 (fun wx=>Gon wx G (w.heap.size+1) t (Ln.early t n cd g) dy ev fv∧At wx w.heap.size [.int .i64 cy,.int .i64 cm,.int .i64 cd]∧Keep (fun b=>b = G∨b = w.heap.size+1) w wx)
   case first =>
    cases hdue:due t n cd g
    ·have E:=early_first t n cd g hdue
     rw [← E] at hg2
     clear E
     go_wp2_with fail
     go_meet
     case rel=>exact ⟨hg2,hc2,hk2⟩
    ·obtain ⟨E1,E2⟩:=early_then t n cd g hdue
     rw [E1] at hg2
     have hG2:=hg2
     obtain ⟨ne2,⟨cap2,hx2⟩,hy2⟩:=hG2
     have c8:=hx2.cell 8 (v:=.int .i64 g.du) rfl
     have hE2:=enter_any _ G _ t _ dy ev fv hg2 HF.out 2 g.du HD.out.1
     have hE3:∀ W:World,Gon W G (w.heap.size+1) t (Ln.enter ⟨g,fun _=>0⟩ 2 g.du) dy ev fv→Calls Tryz.prog 119 #[.pointer (some ⟨G,0,none⟩),.int .i64 3,.int .i64 g.it] W fun e w'=>e = .returned (.tuple #[])∧Gon w' G (w.heap.size+1) t (Ln.enter (Ln.enter ⟨g,fun _=>0⟩ 2 g.du) 3 g.it) dy ev fv∧Keep (fun b=>b = G∨b = w.heap.size+1) W w' :=
      fun W hW=>enter_any W G _ t _ dy ev fv hW HD.out.2.1 3 g.it HD.out.2.2
     clear hx2 hy2 hg2 ne2
     go_wp2_with fail
     refine hE2.mono ?_
     rintro e w5 ⟨rfl,hg5,hk5⟩
     have c7:w5.cell? ⟨G,7,none⟩ = some (.int .i64 g.it):=by
      obtain ⟨ne5,⟨cap5,hx5⟩,hy5⟩:=hg5
      exact hx5.cell 7 rfl
     clear hE2
     go_wp2_with fail
     refine (hE3 _ hg5).mono ?_
     rintro e w6 ⟨rfl,hg6,hk6⟩
     rw [← E2] at hg6
     clear hE3
     go_wp2_with fail
     go_meet
     case rel=>exact ⟨hg6,At.keep (At.keep hc2 hk5 (by omega)) hk6 (by omega),(hk2.trans hk5).trans hk6⟩
   case rest =>
    clear hg2 hc2 hk2
    obtain ⟨hY,hCw,hKp⟩:=hcut
    go_wp2_with fail
    go_loopw [8] (fun i wr=>∃ k:Nat,k≤l.length∧i = .int .i64 k∧Gon wr G (w.heap.size+1) t (upto t n cd l g k) dy ev fv∧At wr w.heap.size [.int .i64 cy,.int .i64 cm,.int .i64 cd]∧Keep (fun b=>b = G∨b = w.heap.size+1) w wr) (fun i _=>l.length - (intOf i).toNat)
    case atStart=>exact ⟨0,by omega,rfl,hY,hCw,hKp⟩
    case round =>
     obtain ⟨k,hk,rfl,hg,hC,hKr⟩:=hrel
     by_cases hlt:k < l.length
     ·have hne:l ≠ []:=by intro x; subst x; simp at hlt
      obtain ⟨rfl,hEw,hEG⟩:=HE.out hne
      have hEl:E < w.heap.size:=by
       have:=(evs_at l k hlt).1
       exact World.block_lt_of_cell? _ _ (hEw _ _ this).1
      have hEr:At wr E (evs l):=hEw.block (hKr.block E hEl (by omega))
      obtain ⟨q0,q1,q2,q3⟩:=evs_at l k hlt
      have r0:=hEr.cell _ q0
      have r1:=hEr.cell _ q1
      have r2:=hEr.cell _ q2
      have r3:=hEr.cell _ q3
      have hu:=upto_succ t n cd l g k hlt
      have HU:=(show Hid _ from hu)
      have hoe:=HOk.out l[k] (List.getElem_mem hlt)
      obtain ⟨hft,⟨L,hL1,ham⟩,hcr,hpi⟩:=HSt.out k hk
      obtain ⟨ne2,⟨cap2,hG2⟩,hA2⟩:=id hg
      have g7:wr.cell? ⟨G,7,none⟩ = some (.int .i64 (upto t n cd l g k).g.it):=hG2.cell 7 rfl
      have g12:wr.cell? ⟨G,12,none⟩ = some (.int .i64 (upto t n cd l g k).g.rt):=hG2.cell 12 rfl
      have z12:wr.frozen? ⟨G,12,none⟩ = false:=hG2.free 12 rfl
      have g16:wr.cell? ⟨G,16,none⟩ = some (.int .i64 (upto t n cd l g k).g.fr):=hG2.cell 16 rfl
      have z16:wr.frozen? ⟨G,16,none⟩ = false:=hG2.free 16 rfl
      have hGr:=At.lt hG2
      clear hu q0 q1 q2 q3 hEr hEw hG2 hA2
      generalize l[k] = e at *
      generalize upto t n cd l g k = y at *
      obtain ⟨ed,ek,es,ea⟩:=e
      simp only at r0 r1 r2 r3 HU hoe
      have ha0:0≤ea:=hoe.a0
      have ha1:ea≤100000000000:=hoe.a1
      have hbox:∀ o:Obj,Gon (wr.alloc o) G (w.heap.size+1) t y dy ev fv∧At (wr.alloc o) w.heap.size [.int .i64 cy,.int .i64 cm,.int .i64 cd]∧Keep (fun b=>b = G∨b = w.heap.size+1) w (wr.alloc o):=fun o =>
       have hb:Below wr.heap.size wr (wr.alloc o):=(Below.refl _ _).alloc (Nat.le_refl _) _
       ⟨hg.below hb,At.keep (S:=fun _=>False) hC (Keep.below hb) (fun x=>x),hKr.trans (Keep.below hb)⟩
      have HB:=(show Hid _ from hbox)
      have HW:=(show Hid (Gon wr G (w.heap.size+1) t y dy ev fv∧At wr w.heap.size [.int .i64 cy,.int .i64 cm,.int .i64 cd]∧Keep (fun b=>b = G∨b = w.heap.size+1) w wr) from ⟨hg,hC,hKr⟩)
      have HH:=(show Hid (Ln.Fit y∧Ln.Am y L∧L≤4100000000000∧y.g.cr≤4100000000000∧y.g.pr+y.g.it≤656820000000000000) from ⟨hft,ham,hL1,hcr,hpi⟩)
      clear hbox hft ham hcr hpi hg hC hKr hY hCw hKp
      have hnS:¬ (w.heap.size = G∨w.heap.size = w.heap.size+1):=by omega
      by_cases hd:ed = n
      ·subst hd
       rcases (show ek = 1∨ek = 2∨ek = 3∨ek = 4∨ek = 5 by have h1:=hoe.k0; have h2:=hoe.k1; simp only at h1 h2; omega) with h | h | h | h | h
       ·subst h
        obtain ⟨hft,ham,hL1,hcr,hpi⟩:=HH.out
        have hcan:Ln.CanEnter y 1 ea:=⟨ha0,ham.nn 1,by have:=ham.a1; omega,by show y.g.pr+ea≤_; have:=hft.pr1; omega⟩
        have hen:=fun o=>enter_any (wr.alloc o) G _ t y dy ev fv (HB.out o).1 hft 1 ea hcan
        clear hft ham hL1 hcr hpi hcan
        go_wp2_with fail
        refine (hen _).mono ?_
        rintro e' w3 ⟨rfl,hg3,hk3⟩
        have hc3:=At.keep (HB.out _).2.1 hk3 hnS
        have hK3:=(HB.out _).2.2.trans hk3
        clear hen hk3
        go_wp2
        go_roundw
        case rel=>exact ⟨k+1,by omega,by go_num,by rw [HU.out,ev_1 ed y ⟨ed,1,es,ea⟩ rfl rfl]; exact hg3,hc3,hK3⟩
        case measure=>simp [intOf]; omega
       ·subst h
        go_wp2_with fail
        obtain ⟨hg3,hc3,hK3⟩:=HW.out
        have hg4:=Gon.set (y':={ y with g:={ y.g with rt:=ea } }) hg3 12 (by decide) (.int .i64 ea) rfl (fun _=>rfl)
        have hc4:=hc3.other (c:=G) (fun x=>hnS (.inl x.symm)) 12 (.int .i64 ea)
        have hK4:=hK3.set (b:=G) (.inl rfl) 12 (.int .i64 ea)
        have hb4:∀ o,Below (wr.setCell ⟨G,12,none⟩ (.int .i64 ea)).heap.size (wr.setCell ⟨G,12,none⟩ (.int .i64 ea)) ((wr.setCell ⟨G,12,none⟩ (.int .i64 ea)).alloc o):=fun o=>(Below.refl _ _).alloc (Nat.le_refl _) _
        go_roundw
        case rel=>exact ⟨k+1,by omega,by go_num,by rw [HU.out,ev_2 ed y ⟨ed,2,es,ea⟩ rfl rfl]; exact hg4.below (hb4 _),At.keep (S:=fun _=>False) hc4 (Keep.below (hb4 _)) (fun x=>x),hK4.trans (Keep.below (hb4 _))⟩
        case measure=>simp [intOf]; omega
       ·subst h
        go_wp2_with fail
        go_quiet (fail)
        by_cases hfr:y.g.fr < ed+ea
        ·go_wp2_with fail
         obtain ⟨hg3,hc3,hK3⟩:=HB.out (.cells #[.int .i64 ed,.int .i64 3,.int .i64 es,.int .i64 ea] 50)
         have hg4:=Gon.set (y':={ y with g:={ y.g with fr:=ed+ea } }) (hg3.drewN nq) 16 (by decide) (.int .i64 (ed+ea)) rfl (fun _=>rfl)
         have hc4:=(At.block (w':=(wr.alloc (.cells #[.int .i64 ed,.int .i64 3,.int .i64 es,.int .i64 ea] 50)).drewN nq) hc3 rfl).other (c:=G) (fun x=>hnS (.inl x.symm)) 16 (.int .i64 (ed+ea))
         have hK4:=(hK3.drewN nq).set (b:=G) (.inl rfl) 16 (.int .i64 (ed+ea))
         go_roundw
         case rel=>exact ⟨k+1,by omega,by go_num,by rw [HU.out,ev_3 ed y ⟨ed,3,es,ea⟩ rfl rfl hfr]; exact hg4,hc4,hK4⟩
         case measure=>simp [intOf]; omega
        ·go_wp2_with fail
         obtain ⟨hg3,hc3,hK3⟩:=HB.out (.cells #[.int .i64 ed,.int .i64 3,.int .i64 es,.int .i64 ea] 50)
         go_roundw
         case rel=>exact ⟨k+1,by omega,by go_num,by rw [HU.out,ev_3n ed y ⟨ed,3,es,ea⟩ rfl rfl (by simp only; omega)]; exact hg3.drewN nq,At.block hc3 rfl,hK3.drewN nq⟩
         case measure=>simp [intOf]; omega
       ·subst h
        obtain ⟨hft,ham,hL1,hcr,hpi⟩:=HH.out
        have hcan:Ln.CanEnter y 4 y.g.it:=⟨hft.it0,ham.nn 4,by have:=ham.a4; omega,by show y.g.pr+y.g.it≤_; omega,Int.le_refl _⟩
        have hen:=fun o=>enter_any (wr.alloc o) G _ t y dy ev fv (HB.out o).1 hft 4 y.g.it hcan
        clear hft ham hL1 hcr hpi hcan
        go_wp2_with fail
        refine (hen _).mono ?_
        rintro e' w3 ⟨rfl,hg3,hk3⟩
        have hc3:=At.keep (HB.out _).2.1 hk3 hnS
        have hK3:=(HB.out _).2.2.trans hk3
        clear hen hk3
        go_wp2
        go_roundw
        case rel=>exact ⟨k+1,by omega,by go_num,by rw [HU.out,ev_4 ed y ⟨ed,4,es,ea⟩ rfl rfl]; exact hg3,hc3,hK3⟩
        case measure=>simp [intOf]; omega
       ·subst h
        obtain ⟨hft,ham,hL1,hcr,hpi⟩:=HH.out
        have hen:=fun o=>paid_any (wr.alloc o) G _ t y dy ev fv (HB.out o).1 hft L hL1 ham hcr ea ha0 ha1
        clear hft ham hL1 hcr hpi
        go_wp2_with fail
        refine (hen _).mono ?_
        rintro e' w3 ⟨rfl,hg3,hk3⟩
        have hc3:=At.keep (HB.out _).2.1 hk3 hnS
        have hK3:=(HB.out _).2.2.trans hk3
        clear hen hk3
        go_wp2
        go_roundw
        case rel=>exact ⟨k+1,by omega,by go_num,by rw [HU.out,ev_5 ed y ⟨ed,5,es,ea⟩ rfl rfl]; exact hg3,hc3,hK3⟩
        case measure=>simp [intOf]; omega
      ·have hd1:(ed != n) = true:=by simp [hd]
       go_wp2_with fail
       obtain ⟨hg3,hc3,hK3⟩:=HB.out (.cells #[.int .i64 ed,.int .i64 ek,.int .i64 es,.int .i64 ea] 50)
       go_roundw
       case rel=>exact ⟨k+1,by omega,by go_num,by rw [HU.out,ev_skip n y ⟨ed,ek,es,ea⟩ hd]; exact hg3,hc3,hK3⟩
       case measure=>simp [intOf]; omega
     ·obtain rfl:k = l.length:=by omega
      clear hlt hY hCw hKp HE HOk
      have hDW:DayW S w G t (upto t n cd l g l.length) dy ev fv g.ea g.fn wr:=⟨hg,(HEV.out.more (fun b hb h=>by rcases h with h | h; exact h; omega)).keep (DB.to HSS.out.1 hKr),(HFV.out.more (fun b hb h=>by rcases h with h | h; exact h; omega)).keep (DB.to HSS.out.1 hKr),hKr,HSS.out.1,HSS.out.2⟩
      clear hg hKr HSt
      generalize hyy:upto t n cd l g l.length = y at *
      have HYY:=hid hyy
      clear hyy
      have hdd:=hDW.drew
      have hCd:At wr.drew w.heap.size [.int .i64 cy,.int .i64 cm,.int .i64 cd]:=At.drew hC
      clear hDW hC
      go_wp2_with fail
      refine wp_region_held_drew (S:=fun wz=>DayW S w G t y dy ev fv g.ea g.fn wz∧At wz w.heap.size [.int .i64 cy,.int .i64 cm,.int .i64 cd]) (by kernel_rfl) ⟨hdd,hCd⟩ (fun hHeld=>?_)
      refine tka 0 (.pointer (some ⟨G,0,none⟩)) rfl ?_
      simp only [uP]
      refine tka 1 (.pointer (some ⟨G,0,none⟩)) rfl ?_
      simp only [uP]
      refine tka 2 (.pointer (some ⟨G,0,none⟩)) rfl ?_
      simp only [uP]
      refine tka 3 (.pointer (some ⟨G,4,none⟩)) rfl ?_
      simp only [uP]
      refine tkh 4 (.int .i64 t.ba) rfl (fun wx hSw=>by (have hc:wx.cell? ⟨G,4,none⟩ = some (.int .i64 t.ba):=(hSw.1.cell 4 (by decide) (fun _=>rfl)).1; go_simp)) ?_
      simp only [uP]
      refine wpAnyH_take (i:=5) (v:=.agg #[.int .i64 cy,.int .i64 cm,.int .i64 cd]) rfl (by kernel_rfl) (by kernel_rfl) (by kernel_rfl) (fun _ _ _ h=>h) (yieldsIf_load_mid (by rfl) 169 (.tmp 6) rfl _ _ rfl _ _ (fun _ h=>h.2.range) Tryz.underlying169 rfl (by kernel_rfl)) (by assumption) ?_
      simp only [uP]
      refine rdy 6 rfl (fun K hK=>?_)
      go_simp
      refine (HWT.out _).mono ?_
      rintro e w3 ⟨rfl,hb3⟩
      go_wp2_with fail
      refine hK.out _ _ ⟨hHeld.1.below hb3,At.keep (S:=fun _=>False) hHeld.2 (Keep.below hb3) (fun x=>x)⟩ (fun hHeld2=>?_)
      clear hK K hHeld hdd hCd hb3 HWT
      refine tka 7 (.int .i64 wt) rfl ?_
      simp only [uP]
      refine wpAnyH_done (by kernel_rfl) ?_ _
      have hD3:=hHeld2.1
      clear hHeld2
      have g4:w3.cell? ⟨G,4,none⟩ = some (.int .i64 t.ba):=(hD3.cell 4 (by decide) (fun _=>rfl)).1
      go_upto_if 146 with fail
      go_cut [11] from 141 to 146 (fun yv wx=>yv = .int .i64 (Ln.year t)∧wx = w3)
      case first =>
       by_cases hba:t.ba = 1
       ·have E:Ln.year t = 365:=by unfold Ln.year; rw [if_pos hba]
        have e1:(t.ba == 1) = true:=by simp [hba]
        clear hba
        go_wp2_with fail
        go_meet
        case rel=>exact ⟨by rw [E],rfl⟩
       ·have E:Ln.year t = 360:=by unfold Ln.year; rw [if_neg hba]
        have e1:(t.ba == 1) = false:=by simp [hba]
        clear hba
        go_wp2_with fail
        go_meet
        case rel=>exact ⟨by rw [E],rfl⟩
      case rest =>
       obtain ⟨rfl,rfl⟩:=hcut
       obtain ⟨n1',n2',n3',n4',n5',n6',n7',n8',n9',n10'⟩:=HN.out
       obtain ⟨b1',b2',b3',b4'⟩:=HQ.out
       have yb:=Ln.year_bd t
       have hwr:IntKind.i64.wrap (y.g.rt*wt) = y.g.rt*wt:=by rw [IntKind.wrap_i64]; omega
       have hwf:IntKind.i64.wrap (t.fi*wt) = t.fi*wt:=by rw [IntKind.wrap_i64]; omega
       clear g4
       have g14:=(hD3.cell 14 (by decide) (v:=ev) (fun _=>rfl)).1
       go_wp2_with fail
       refine (part_long hD3.l1 (Ln.year t) (by omega) (by omega) b1').mono ?_
       rintro e wq ⟨rfl,rfl⟩
       clear g14
       go_wp2_with fail
       have d1:wq.drew.cell? ⟨G,14,none⟩ = some ev:=((hD3.drew).cell 14 (by decide) (fun _=>rfl)).1
       have d2:wq.drew.cell? ⟨G,6,none⟩ = some (.int .i64 y.g.pr):=((hD3.drew).cell 6 (by decide) (fun _=>rfl)).1
       have d3:wq.drew.cell? ⟨G,12,none⟩ = some (.int .i64 y.g.rt):=((hD3.drew).cell 12 (by decide) (fun _=>rfl)).1
       refine wp_region_held_drew (S:=fun wz=>wz.cell? ⟨G,6,none⟩ = some (.int .i64 y.g.pr)∧wz.cell? ⟨G,12,none⟩ = some (.int .i64 y.g.rt)) (by kernel_rfl) ⟨d2,d3⟩ (fun hHeld=>?_)
       refine tka 0 (.pointer (some ⟨G,0,none⟩)) rfl ?_
       simp only [uP]
       refine tka 1 (.pointer (some ⟨G,0,none⟩)) rfl ?_
       simp only [uP]
       refine tka 2 (.pointer (some ⟨G,0,none⟩)) rfl ?_
       simp only [uP]
       refine tka 3 (.pointer (some ⟨G,14,none⟩)) rfl ?_
       simp only [uP]
       refine tka 5 (.pointer (some ⟨G,0,none⟩)) rfl ?_
       simp only [uP]
       refine tka 6 (.pointer (some ⟨G,0,none⟩)) rfl ?_
       simp only [uP]
       refine tka 7 (.pointer (some ⟨G,6,none⟩)) rfl ?_
       simp only [uP]
       refine tka 8 (.pointer (some ⟨G,6,none⟩)) rfl ?_
       simp only [uP]
       refine tkh 9 (.int .i64 y.g.pr) rfl (fun wx hSw=>by (have hc:=hSw.1; go_simp)) ?_
       simp only [uP]
       refine tka 10 (.pointer (some ⟨G,0,none⟩)) rfl ?_
       simp only [uP]
       refine tka 11 (.pointer (some ⟨G,0,none⟩)) rfl ?_
       simp only [uP]
       refine tka 12 (.pointer (some ⟨G,6,none⟩)) rfl ?_
       simp only [uP]
       refine tka 13 (.pointer (some ⟨G,12,none⟩)) rfl ?_
       simp only [uP]
       refine tkh 14 (.int .i64 y.g.rt) rfl (fun wx hSw=>by (have hc:=hSw.2; go_simp)) ?_
       simp only [uP]
       refine tka 15 (.int .i64 wt) rfl ?_
       simp only [uP]
       refine tka 16 (.int .i64 (y.g.rt*wt)) rfl ?_
       simp only [uP]
       refine rdy 4 rfl (fun K hK=>?_)
       go_simp
       refine hK.out _ _ hHeld (fun _=>?_)
       clear hK K
       refine rdy 17 rfl (fun K hK=>?_)
       go_simp
       refine (plus_long hD3.drew.l1 hD3.drew.lt y.g.pr (y.g.rt*wt) n5' n6' n1' (by omega) n9').mono ?_
       rintro e wp ⟨r1,rfl,hl,hb⟩
       obtain ⟨r1p,r1n,r1c,rfl⟩:=hl.slice
       go_wp2_with fail
       have hDb:=hD3.drew.below hb
       have f1:=hDb.cell 14 (by decide) (v:=ev) (fun _=>rfl)
       have f2:=f1.1
       have f3:=f1.2
       have f4:=(hDb.cell 6 (by decide) (v:=.int .i64 y.g.pr) (fun _=>rfl)).1
       have f5:=(hDb.cell 12 (by decide) (v:=.int .i64 y.g.rt) (fun _=>rfl)).1
       refine hK.out _ _ ⟨f4,f5⟩ (fun hHeld2=>?_)
       clear hK K hHeld d1 d2 d3 f1
       have hD5:=hDb.set14 _ _ hl
       refine tka 18 (.pointer (some ⟨G,0,none⟩)) rfl ?_
       simp only [uP]
       refine tka 19 (.pointer (some ⟨G,14,none⟩)) rfl ?_
       simp only [uP]
       refine rdy 20 rfl (fun K hK=>?_)
       go_simp
       have f6:=(hD5.cell 6 (by decide) (v:=.int .i64 y.g.pr) (fun _=>rfl)).1
       have f7:=(hD5.cell 12 (by decide) (v:=.int .i64 y.g.rt) (fun _=>rfl)).1
       refine hK.out _ _ ⟨f6,f7⟩ (fun _=>?_)
       clear hK K hHeld2 f2 f3 f4 f5 f6 f7 hDb hl hb
       generalize wp.setCell ⟨G,14,none⟩ (.slice r1p r1n r1c) = ws at *
       refine wpAnyH_done (by kernel_rfl) ?_ _
       have g15:=(hD5.cell 15 (by decide) (v:=fv) (fun _=>rfl)).1
       go_wp2_with fail
       refine (part_long hD5.l2 (Ln.year t) (by omega) (by omega) b3').mono ?_
       rintro e wq2 ⟨rfl,rfl⟩
       clear g15
       go_wp2_with fail
       have d1:wq2.drew.cell? ⟨G,15,none⟩ = some fv:=((hD5.drew).cell 15 (by decide) (fun _=>rfl)).1
       have d2:wq2.drew.cell? ⟨G,9,none⟩ = some (.int .i64 y.g.la):=((hD5.drew).cell 9 (by decide) (fun _=>rfl)).1
       have d3:wq2.drew.cell? ⟨G,3,none⟩ = some (.int .i64 t.fi):=((hD5.drew).cell 3 (by decide) (fun _=>rfl)).1
       refine wp_region_held_drew (S:=fun wz=>wz.cell? ⟨G,9,none⟩ = some (.int .i64 y.g.la)∧wz.cell? ⟨G,3,none⟩ = some (.int .i64 t.fi)) (by kernel_rfl) ⟨d2,d3⟩ (fun hHeld=>?_)
       refine tka 0 (.pointer (some ⟨G,0,none⟩)) rfl ?_
       simp only [uP]
       refine tka 1 (.pointer (some ⟨G,0,none⟩)) rfl ?_
       simp only [uP]
       refine tka 2 (.pointer (some ⟨G,0,none⟩)) rfl ?_
       simp only [uP]
       refine tka 3 (.pointer (some ⟨G,15,none⟩)) rfl ?_
       simp only [uP]
       refine tka 5 (.pointer (some ⟨G,0,none⟩)) rfl ?_
       simp only [uP]
       refine tka 6 (.pointer (some ⟨G,0,none⟩)) rfl ?_
       simp only [uP]
       refine tka 7 (.pointer (some ⟨G,6,none⟩)) rfl ?_
       simp only [uP]
       refine tka 8 (.pointer (some ⟨G,9,none⟩)) rfl ?_
       simp only [uP]
       refine tkh 9 (.int .i64 y.g.la) rfl (fun wx hSw=>by (have hc:=hSw.1; go_simp)) ?_
       simp only [uP]
       refine tka 10 (.pointer (some ⟨G,0,none⟩)) rfl ?_
       simp only [uP]
       refine tka 11 (.pointer (some ⟨G,0,none⟩)) rfl ?_
       simp only [uP]
       refine tka 12 (.pointer (some ⟨G,0,none⟩)) rfl ?_
       simp only [uP]
       refine tka 13 (.pointer (some ⟨G,3,none⟩)) rfl ?_
       simp only [uP]
       refine tkh 14 (.int .i64 t.fi) rfl (fun wx hSw=>by (have hc:=hSw.2; go_simp)) ?_
       simp only [uP]
       refine tka 15 (.int .i64 wt) rfl ?_
       simp only [uP]
       refine tka 16 (.int .i64 (t.fi*wt)) rfl ?_
       simp only [uP]
       refine rdy 4 rfl (fun K hK=>?_)
       go_simp
       refine hK.out _ _ hHeld (fun _=>?_)
       clear hK K
       refine rdy 17 rfl (fun K hK=>?_)
       go_simp
       refine (plus_long hD5.drew.l2 hD5.drew.lt y.g.la (t.fi*wt) n7' n8' n3' (by omega) n10').mono ?_
       rintro e wp2 ⟨r2,rfl,hl,hb⟩
       obtain ⟨r2p,r2n,r2c,rfl⟩:=hl.slice
       go_wp2_with fail
       have hDb:=hD5.drew.below hb
       have f1:=hDb.cell 15 (by decide) (v:=fv) (fun _=>rfl)
       have f2:=f1.1
       have f3:=f1.2
       have f4:=(hDb.cell 9 (by decide) (v:=.int .i64 y.g.la) (fun _=>rfl)).1
       have f5:=(hDb.cell 3 (by decide) (v:=.int .i64 t.fi) (fun _=>rfl)).1
       refine hK.out _ _ ⟨f4,f5⟩ (fun hHeld2=>?_)
       clear hK K hHeld d1 d2 d3 f1
       have hD7:=hDb.set15 _ _ hl
       refine tka 18 (.pointer (some ⟨G,0,none⟩)) rfl ?_
       simp only [uP]
       refine tka 19 (.pointer (some ⟨G,15,none⟩)) rfl ?_
       simp only [uP]
       refine rdy 20 rfl (fun K hK=>?_)
       go_simp
       have f6:=(hD7.cell 9 (by decide) (v:=.int .i64 y.g.la) (fun _=>rfl)).1
       have f7:=(hD7.cell 3 (by decide) (v:=.int .i64 t.fi) (fun _=>rfl)).1
       refine hK.out _ _ ⟨f6,f7⟩ (fun _=>?_)
       clear hK K hHeld2 f2 f3 f4 f5 f6 f7 hDb hl hb
       generalize wp2.setCell ⟨G,15,none⟩ (.slice r2p r2n r2c) = ws2 at *
       refine wpAnyH_done (by kernel_rfl) ?_ _
       obtain ⟨k11,kf1,k12,kf2⟩:=HC2.out
       have z1:0≤g.ea / 1000000 / Ln.year t:=Int.ediv_nonneg (Int.ediv_nonneg HEV.out.nn (by decide)) (by omega)
       have z2:0≤(g.ea+y.g.pr*(y.g.rt*wt)) / 1000000 / Ln.year t:=Int.ediv_nonneg (Int.ediv_nonneg hD7.l1.nn (by decide)) (by omega)
       have z3:0≤g.fn / 1000000 / Ln.year t:=Int.ediv_nonneg (Int.ediv_nonneg HFV.out.nn (by decide)) (by omega)
       have z4:0≤(g.fn+y.g.la*(t.fi*wt)) / 1000000 / Ln.year t:=Int.ediv_nonneg (Int.ediv_nonneg hD7.l2.nn (by decide)) (by omega)
       have g14:=(hD7.cell 14 (by decide) (v:=.slice r1p r1n r1c) (fun _=>rfl)).1
       go_wp2_with fail
       refine (part_long hD7.l1 (Ln.year t) (by omega) (by omega) b2').mono ?_
       rintro e wq3 ⟨rfl,rfl⟩
       clear g14
       have hE1:=hD7.enter 11 ((g.ea+y.g.pr*(y.g.rt*wt)) / 1000000 / Ln.year t - g.ea / 1000000 / Ln.year t) kf1 k11
       have hE2:∀ W:World,DayW S w G t (Ln.enter y 11 ((g.ea+y.g.pr*(y.g.rt*wt)) / 1000000 / Ln.year t - g.ea / 1000000 / Ln.year t)) dy (.slice r1p r1n r1c) (.slice r2p r2n r2c) (g.ea+y.g.pr*(y.g.rt*wt)) (g.fn+y.g.la*(t.fi*wt)) W→Calls Tryz.prog 119 #[.pointer (some ⟨G,0,none⟩),.int .i64 12,.int .i64 ((g.fn+y.g.la*(t.fi*wt)) / 1000000 / Ln.year t - g.fn / 1000000 / Ln.year t)] W fun e w'=>e = .returned (.tuple #[])∧DayW S w G t (Ln.enter (Ln.enter y 11 ((g.ea+y.g.pr*(y.g.rt*wt)) / 1000000 / Ln.year t - g.ea / 1000000 / Ln.year t)) 12 ((g.fn+y.g.la*(t.fi*wt)) / 1000000 / Ln.year t - g.fn / 1000000 / Ln.year t)) dy (.slice r1p r1n r1c) (.slice r2p r2n r2c) (g.ea+y.g.pr*(y.g.rt*wt)) (g.fn+y.g.la*(t.fi*wt)) w' :=
        fun W hW=>hW.enter 12 ((g.fn+y.g.la*(t.fi*wt)) / 1000000 / Ln.year t - g.fn / 1000000 / Ln.year t) kf2 k12
       clear k11 kf1 k12 kf2 hD7 HN HQ HC2 HEV HFV n1' n2' n3' n4' n5' n6' n7' n8' n9' n10' hwr hwf
       go_wp2_with fail
       refine hE1.mono ?_
       rintro e w8 ⟨rfl,hD8⟩
       clear hE1
       have g15:=(hD8.cell 15 (by decide) (v:=.slice r2p r2n r2c) (fun _=>rfl)).1
       go_wp2_with fail
       refine (part_long hD8.l2 (Ln.year t) (by omega) (by omega) b4').mono ?_
       rintro e wq4 ⟨rfl,rfl⟩
       clear g15
       have hE3:=hE2 _ hD8
       clear hE2 hD8
       go_wp2_with fail
       refine hE3.mono ?_
       rintro e w9 ⟨rfl,hD9⟩
       clear hE3
       go_wp2
       go_end0
       rw [HYY.out]
       exact ⟨rfl,_,_,hD9⟩
end Go.Proofs.YtanndhoimpnhpaaGreatDoor
namespace Go.Proofs.YtanndhoimpnhpaaGreatDoor.Cal
theorem has_civ:∀ n:Nat,n≤109573→∃ y m d:Int,Ok y m d∧num y m d = n
 | 0,_=>⟨1900,1,1,ok_mk (by decide) (by decide) (by decide) (by decide) (by decide) (by decide),by decide⟩
 | n+1,h=>by
  obtain ⟨y,m,d,hok,hn⟩:=has_civ n (by omega)
  exact ⟨_,_,_,next_ok y m d hok (by omega),by rw [next_num y m d hok]; omega⟩
theorem t_next (n:Int) (h0:0≤n) (h1:n≤109572):∃ p q,IsT (n+1) p∧IsT n q∧0≤p - q∧p - q≤3:=by
 obtain ⟨y,m,d,hok,hn⟩:=has_civ n.toNat (by omega)
 rw [Int.toNat_of_nonneg h0] at hn
 have hb:=t3_next y m d hok
 exact ⟨_,_,⟨_,_,_,next_ok y m d hok (by omega),by rw [next_num y m d hok,hn],rfl⟩,⟨y,m,d,hok,hn,rfl⟩,hb.1,hb.2⟩
theorem wtOf_bd (b n:Int):0≤wtOf b n∧wtOf b n≤3:=by
 by_cases h:b = 3∧0≤n∧n≤109572
 ·obtain ⟨h3,h0,h1⟩:=h
  obtain ⟨p,q,hp,hq,b0,b1⟩:=t_next n h0 h1
  rw [h3,wtOf_three h0 h1 hp hq]
  exact ⟨b0,b1⟩
 ·unfold wtOf
  rw [if_neg h]
  decide
theorem is_t (n:Int) (h0:0≤n) (h1:n≤109573):IsT n (tOf n):=by
 obtain ⟨y,m,d,hok,hn⟩:=has_civ n.toNat (by omega)
 rw [Int.toNat_of_nonneg h0] at hn
 have:IsT n (t3 y m d):=⟨y,m,d,hok,hn,rfl⟩
 rw [tOf_is this]
 exact this
noncomputable def wsOf (b st:Int) (k:Nat):Nat:=(wtOf b (st+k)).toNat
theorem wsOf_le (b st:Int) (k:Nat):wsOf b st k≤3:=by
 have:=wtOf_bd b (st+k)
 unfold wsOf
 omega
theorem wsOf_eq (b st:Int) (k:Nat):wtOf b (st+k) = wsOf b st k:=by
 have:=wtOf_bd b (st+k)
 unfold wsOf
 omega
theorem sw_one (b st:Int) (h:¬ b = 3):∀ k:Nat,Ln.sw (wsOf b st) k = k
 | 0=>rfl
 | k+1=>by
  show Ln.sw (wsOf b st) k+wsOf b st k = k+1
  rw [sw_one b st h k]
  unfold wsOf
  rw [wtOf_one _ h]
  rfl
theorem sw_three (st:Int) (h0:0≤st):∀ k:Nat,st+k≤109573→(Ln.sw (wsOf 3 st) k:Int) = tOf (st+k) - tOf st
 | 0,_=>by simp [Ln.sw]
 | k+1,h=>by
  have ih:=sw_three st h0 k (by omega)
  have hw:wtOf 3 (st+k) = tOf (st+k+1) - tOf (st+k):=wtOf_three (by omega) (by omega) (is_t _ (by omega) (by omega)) (is_t _ (by omega) (by omega))
  have he:=wsOf_eq 3 st k
  show ((Ln.sw (wsOf 3 st) k+wsOf 3 st k:Nat):Int) = _
  have e:st+((k+1:Nat):Int) = st+k+1:=by omega
  rw [e]
  omega
theorem t_far (st:Int) (k:Nat) (hk:k≤3700) (p q:Int) (hp:IsT (st+k) p) (hq:IsT st q):p - q≤4320:=by
 obtain ⟨y,m,d,⟨a1,a2,a3,a4,a5,a6⟩,hn,rfl⟩:=hp
 obtain ⟨y',m',d',⟨b1,b2,b3,b4,b5,b6⟩,hn',rfl⟩:=hq
 have i1:=in_year y m d a3 a4 a5 a6
 have i2:=in_year y' m' d' b3 b4 b5 b6
 have l2:=lp_01 y'
 unfold num at hn hn'
 have hy:y - y'≤11:=by
  have hz:ys y - ys y'≤3700+366:=by omega
  unfold ys at hz
  omega
 unfold t3 cap
 (repeat' split) <;> omega
theorem sw_bd (b st:Int) (h0:0≤st) (h1:st≤105872) (k:Nat) (hk:k≤3700):Ln.sw (wsOf b st) k≤4320:=by
 by_cases h:b = 3
 ·subst h
  have e:=sw_three st h0 k (by omega)
  have:=t_far st k hk _ _ (is_t (st+k) (by omega) (by omega)) (is_t st h0 (by omega))
  omega
 ·rw [sw_one b st h k]
  omega
end Go.Proofs.YtanndhoimpnhpaaGreatDoor.Cal
namespace Go.Proofs.YtanndhoimpnhpaaGreatDoor.Ln
open Cal
theorem tot_bound {t:Terms} (ht:OkT t) (l:List Ev) (hl:∀ e∈l,OkE t e) (hn:l.length≤40) (k:Nat):(if 0 < k then t.pr else 0)+tot t k l≤4100000000000:=by
 have h1:=tot_le t k l hl
 have h2:=ht.pr0
 have h3:=ht.pr1
 split <;> omega
theorem run_fn {t:Terms} (ht:OkT t) (l:List Ev) (hl:∀ e∈l,OkE t e) (hn:l.length≤40):∀ k:Nat,k≤3700→(run t cdOf (wtOf t.ba) l k).fn≤656820000000000000000000*(sw (wsOf t.ba t.st) k:Int)
 | 0,_=>by simp [run,start,sw]
 | k+1,hk=>by
  have ih:=run_fn ht l hl hn k (by omega)
  have hI:=run_inv ht cdOf (wtOf t.ba) (wsOf t.ba t.st) (wsOf_le _ _) (wsOf_eq _ _) l hl k
  have hs:=sw_bd t.ba t.st ht.st0 ht.st1 k (by omega)
  have hlk:=tot_bound ht l hl hn (k+1)
  have ts:=tot_succ t k l
  have I1:=Inv.events (t.st+k) l (hI.early (t.st+k) (cdOf (t.st+k)) ht) hl
  have hL:(if 0 < k then t.pr else 0)+tot t k l+(if t.st+(k:Int) = t.st then t.pr else 0)+lents (t.st+k) l≤4100000000000:=by
   rw [if_pos (Nat.succ_pos k)] at hlk
   by_cases h0:0 < k
   ·rw [if_pos h0,if_neg (by omega)]; omega
   ·rw [if_neg h0,if_pos (by omega)]; omega
  have hb:=I1.bound hs hL
  have g1:=I1.pr
  have g2:=I1.it
  have g3:=I1.du
  have g4:=I1.la
  have fe:=events_fn (t.st+k) l (early t (t.st+k) (cdOf (t.st+k)) (run t cdOf (wtOf t.ba) l k))
  rw [early_fn] at fe
  have hw:=wsOf_eq t.ba t.st k
  have hw3:=wsOf_le t.ba t.st k
  have e:(run t cdOf (wtOf t.ba) l (k+1)).fn = (run t cdOf (wtOf t.ba) l k).fn+(l.foldl (event (t.st+k)) (early t (t.st+k) (cdOf (t.st+k)) (run t cdOf (wtOf t.ba) l k))).g.la*(t.fi*wtOf t.ba (t.st+k)):=by
   rw [← fe]
   rfl
  rw [e,hw]
  generalize (l.foldl (event (t.st+k)) (early t (t.st+k) (cdOf (t.st+k)) (run t cdOf (wtOf t.ba) l k))).g.la = la at *
  have m1:t.fi*(wsOf t.ba t.st k:Int)≤1000000*(wsOf t.ba t.st k:Int):=Int.mul_le_mul_of_nonneg_right ht.fi1 (by omega)
  have m0:0≤t.fi*(wsOf t.ba t.st k:Int):=Int.mul_nonneg ht.fi0 (by omega)
  have m2:la*(t.fi*(wsOf t.ba t.st k:Int))≤656820000000000000*(1000000*(wsOf t.ba t.st k:Int)):=Int.mul_le_mul (by omega) m1 m0 (by decide)
  show _≤656820000000000000000000*((sw (wsOf t.ba t.st) k+wsOf t.ba t.st k:Nat):Int)
  omega
theorem run_fn_bd {t:Terms} (ht:OkT t) (l:List Ev) (hl:∀ e∈l,OkE t e) (hn:l.length≤40) (k:Nat) (hk:k≤3700):(run t cdOf (wtOf t.ba) l k).fn / den t≤8000000000000000000:=by
 have h:=run_fn ht l hl hn k hk
 have hs:=sw_bd t.ba t.st ht.st0 ht.st1 k hk
 have hd:=den_bd t
 refine Int.le_trans (Int.ediv_le_ediv (b:=656820000000000000000000*4320) (by omega) (by omega)) ?_
 refine Int.ediv_le_of_le_mul (by omega) ?_
 omega
end Go.Proofs.YtanndhoimpnhpaaGreatDoor.Ln
namespace Go.Proofs.YtanndhoimpnhpaaGreatDoor
open Go.ChangeShapes Go.WideShapes Go.ChangeAt Go.RowKit Lg Cal
namespace Ln
theorem event_ea (n:Int) (y:Dy) (e:Ev):(event n y e).g.ea = y.g.ea:=by
 unfold event
 (repeat' split) <;> rfl
theorem events_ea (n:Int):∀ (l:List Ev) (y:Dy),(l.foldl (event n) y).g.ea = y.g.ea
 | [],_=>rfl
 | e :: r,y=>(events_ea n r (event n y e)).trans (event_ea n y e)
theorem early_ea (t:Terms) (n cd:Int) (g:St):(early t n cd g).g.ea = g.ea:=by
 unfold early
 by_cases h:n = t.st
 ·simp only [h,ne_eq,not_true,false_and,if_false,if_true]
  rfl
 ·simp only [h,ne_eq,not_false_eq_true,true_and,if_false]
  split <;> rfl
end Ln
theorem refweight_any (b n cy cm cd:Int) (w:World) (hok:Ok cy cm cd) (hn:num cy cm cd = n) (n0:0≤n) (n1:n≤109572) :
  Calls Tryz.prog 121 #[.int .i64 b,.agg #[.int .i64 cy,.int .i64 cm,.int .i64 cd]] w fun e w'=>e = .returned (.int .i64 (wtOf b n))∧Below w.heap.size w w':=by
 by_cases hb:b = 3
 ·subst hb
  have h:=refweight_three cy cm cd w hok (by omega)
  have e:wtOf 3 n = t3 (ny cy cm cd) (nm cy cm cd) (nd cy cm cd) - t3 cy cm cd :=
   wtOf_three n0 n1 ⟨_,_,_,next_ok cy cm cd hok (by omega),by rw [next_num cy cm cd hok,hn],rfl⟩ ⟨cy,cm,cd,hok,hn,rfl⟩
  rw [e]
  exact h
 ·rw [wtOf_one n hb]
  exact refweight_one b cy cm cd w hb
theorem refday_any (S:Nat→Prop) (w:World) (G:Nat) (pa:Option Addr) (ecap E:Nat) (t:Ln.Terms) (g:Ln.St) (dy:Int) (ev fv av:Value) (l:List Ln.Ev) (n cy cm cd:Int) (hG:At w G (gl t g dy ev fv av)) (hl:l.length≤40)
  (hE:l ≠ []→pa = some ⟨E,0,none⟩∧At w E (evs l)∧¬ E = G) (hOk:∀ e∈l,Ln.OkE t e) (n0:0≤n) (n1:n≤109572) (hok:Ok cy cm cd) (hnum:num cy cm cd = n) (L:Int) (s:Nat) (hI:Ln.Inv t L s g) (ht:Ln.OkT t)
  (wt:Nat) (hwt:wtOf t.ba n = wt) (hw3:wt≤3) (hs:s+wt≤4320) (hL:L+(if n = t.st then t.pr else 0)+Ln.lents n l≤4100000000000) (hfn:(Ln.day t n cd wt l g).g.fn / Ln.den t≤8000000000000000000) (hea:(Ln.day t n cd wt l g).g.ea / Ln.den t≤8000000000000000000)
  (hev:LongIs S w ev g.ea) (hfv:LongIs S w fv g.fn) (hSG:S G) (hSl:∀ b,S b→b < w.heap.size) :
  Calls Tryz.prog 95 #[.pointer (some ⟨G,0,none⟩),.int .i64 n,.agg #[.int .i64 cy,.int .i64 cm,.int .i64 cd],.slice pa l.length ecap] w fun e w'=>e = .returned (.tuple #[])∧∃ r1 r2,DayW S w G t (Ln.day t n cd wt l g) dy r1 r2 (Ln.day t n cd wt l g).g.ea (Ln.day t n cd wt l g).g.fn w':=by
 have hd:=Ln.den_bd t
 have hlen:=Ln.lents_nn n l hOk
 have hpr:=ht.pr0
 have hL0:=hI.L0
 have hif:0≤(if n = t.st then t.pr else 0):=by split <;> omega
 have I0:=hI.early n cd ht
 have A0:=Ln.Am.early (n:=n) hI (by omega) (by omega) ht cd
 have If:=Ln.Inv.events n l I0 hOk
 have fe:=Ln.events_fn n l (Ln.early t n cd g)
 rw [Ln.early_fn] at fe
 have ee:=Ln.events_ea n l (Ln.early t n cd g)
 rw [Ln.early_ea] at ee
 have hw0:(0:Int)≤wt:=by omega
 have hw3':(wt:Int)≤3:=by omega
 have hfn':((l.foldl (Ln.event n) (Ln.early t n cd g)).g.fn+(l.foldl (Ln.event n) (Ln.early t n cd g)).g.la*(t.fi*wt)) / Ln.den t≤8000000000000000000:=hfn
 have hea':((l.foldl (Ln.event n) (Ln.early t n cd g)).g.ea+(l.foldl (Ln.event n) (Ln.early t n cd g)).g.pr*((l.foldl (Ln.event n) (Ln.early t n cd g)).g.rt*wt)) / Ln.den t≤8000000000000000000:=hea
 have m2:0≤(l.foldl (Ln.event n) (Ln.early t n cd g)).g.la*(t.fi*wt):=Int.mul_nonneg If.la (Int.mul_nonneg ht.fi0 hw0)
 have m1:0≤(l.foldl (Ln.event n) (Ln.early t n cd g)).g.pr*((l.foldl (Ln.event n) (Ln.early t n cd g)).g.rt*wt):=Int.mul_nonneg If.pr (Int.mul_nonneg If.rt0 hw0)
 have hg0:g.fn / Ln.den t≤8000000000000000000:=Int.le_trans (Int.ediv_le_ediv (by omega) (by omega)) hfn'
 have hg1:g.ea / Ln.den t≤8000000000000000000:=Int.le_trans (Int.ediv_le_ediv (by omega) (by omega)) hea'
 have Af:=Ln.Am.events n l A0 I0 (by omega) (by rw [Ln.early_fn]; exact hg0) hL hOk
 obtain ⟨k11,f1,k12,f2⟩:=If.late_can ht wt hw3 hs hL hfn' Af
 have hbf:=If.bound (by omega) hL
 have i1:=If.pr
 have i2:=If.it
 have i3:=If.du
 have i4:=If.la
 have eY:upto t n cd l g l.length = l.foldl (Ln.event n) (Ln.early t n cd g):=by unfold upto; rw [List.take_length]
 have big:∀ x:Int,x / Ln.den t≤8000000000000000000→x < 1000000 ^ 6:=by
  intro x hx
  have h1:=Int.mul_ediv_add_emod x (Ln.den t)
  have h2:=Int.emod_lt_of_pos x (show 0 < Ln.den t by omega)
  have h3:Ln.den t*(x / Ln.den t)≤Ln.den t*8000000000000000000:=Int.mul_le_mul_of_nonneg_left hx (by omega)
  omega
 have pd:∀ x:Int,x / Ln.den t≤8000000000000000000→x / 1000000 / Ln.year t≤9000000000000000000:=by
  intro x hx
  have:=Ln.part_den t x
  unfold Ln.part at this
  rw [this]
  omega
 have q1:=Ln.quo_more (Ln.den t) (l.foldl (Ln.event n) (Ln.early t n cd g)).g.ea ((l.foldl (Ln.event n) (Ln.early t n cd g)).g.pr*((l.foldl (Ln.event n) (Ln.early t n cd g)).g.rt*wt)) (by omega)
 have q2:=Ln.quo_more (Ln.den t) (l.foldl (Ln.event n) (Ln.early t n cd g)).g.fn ((l.foldl (Ln.event n) (Ln.early t n cd g)).g.la*(t.fi*wt)) (by omega)
 rw [q1] at k11 k12 f2
 rw [q2] at k12
 have st0:∀ k,k≤l.length→Ln.Fit (upto t n cd l g k)∧(∃ L,L≤4100000000000∧Ln.Am (upto t n cd l g k) L)∧(upto t n cd l g k).g.cr≤4100000000000∧(upto t n cd l g k).g.pr+(upto t n cd l g k).g.it≤656820000000000000:=by
  intro k _
  have hlk:∀ e∈l.take k,Ln.OkE t e:=fun e he=>hOk e (List.mem_of_mem_take he)
  have hld:∀ e∈l.drop k,Ln.OkE t e:=fun e he=>hOk e (List.mem_of_mem_drop he)
  have e1:Ln.lents n l = Ln.lents n (l.take k)+Ln.lents n (l.drop k):=by rw [← Ln.lents_append,List.take_append_drop]
  have e2:=Ln.lents_nn n (l.drop k) hld
  have Ik:=Ln.Inv.events n (l.take k) I0 hlk
  have fk:=Ln.events_fn n (l.take k) (Ln.early t n cd g)
  rw [Ln.early_fn] at fk
  have Ak:=Ln.Am.events n (l.take k) A0 I0 (by omega) (by rw [Ln.early_fn]; exact hg0) (by omega) hlk
  have hb:=Ik.bound (by omega) (by omega)
  have j1:=Ik.pr
  have j2:=Ik.it
  have j3:=Ik.du
  have j4:=Ik.la
  have j5:=Ik.cr1
  exact ⟨Ik.fit (by omega) (by omega) (by rw [fk]; exact hg0) _,⟨_,by omega,Ak⟩,by show ((l.take k).foldl (Ln.event n) (Ln.early t n cd g)).g.cr≤_; omega,by show ((l.take k).foldl (Ln.event n) (Ln.early t n cd g)).g.pr+((l.take k).foldl (Ln.event n) (Ln.early t n cd g)).g.it≤_; omega⟩
 have r0:0≤(l.foldl (Ln.event n) (Ln.early t n cd g)).g.rt*wt:=Int.mul_nonneg If.rt0 hw0
 have r1:(l.foldl (Ln.event n) (Ln.early t n cd g)).g.rt*wt≤1000000*3:=Int.mul_le_mul If.rt1 hw3' hw0 (by decide)
 have r2:0≤t.fi*wt:=Int.mul_nonneg ht.fi0 hw0
 have r3:t.fi*wt≤1000000*3:=Int.mul_le_mul ht.fi1 hw3' hw0 (by decide)
 have pp:∀ x:Int,x / 1000000 / Ln.year t = x / Ln.den t:=fun x=>Ln.part_den t x
 have hcore:=day_core S w G pa ecap E t g dy ev fv av l n cy cm cd hG hl (hI.fit (by omega) (by omega) hg0 _) (hI.bound (by omega) (by omega)) ht.pr0 ht.pr1 hE hOk st0 n0 (by omega) wt (fun W=>by rw [← hwt]; exact refweight_any t.ba n cy cm cd W hok hnum n0 n1) hev hfv ⟨hSG,hSl⟩
  (by
   rw [eY]
   rw [ee] at hea'
   rw [fe] at hfn'
   exact ⟨r0,r1,r2,r3,i1,by omega,i4,by omega,big _ hea',big _ hfn'⟩)
  (by
   rw [eY]
   rw [ee] at hea'
   rw [fe] at hfn'
   exact ⟨pd _ hg1,pd _ hea',pd _ hg0,pd _ hfn'⟩)
  (by
   rw [eY]
   simp only [pp]
   rw [ee] at k11 k12 f2
   rw [fe] at k12
   exact ⟨k11,f1.of_g rfl rfl rfl rfl rfl rfl,k12,f2.of_g rfl rfl rfl rfl rfl rfl⟩)
  ⟨hI.can_over (by omega) (by omega),hI.fit_over (by omega) (by omega) hg0 _,hI.can_fall (by omega) (by omega)⟩
 refine hcore.mono ?_
 rintro e w' ⟨rfl,v1,v2,hD⟩
 refine ⟨rfl,v1,v2,?_⟩
 rw [eY] at hD
 obtain ⟨hgon,l1,l2,kp,sg,slt⟩:=hD
 have x1:(Ln.day t n cd wt l g).g.ea = g.ea+(l.foldl (Ln.event n) (Ln.early t n cd g)).g.pr*((l.foldl (Ln.event n) (Ln.early t n cd g)).g.rt*wt):=by rw [← ee]; rfl
 have x2:(Ln.day t n cd wt l g).g.fn = g.fn+(l.foldl (Ln.event n) (Ln.early t n cd g)).g.la*(t.fi*wt):=by rw [← fe]; rfl
 rw [x1,x2]
 refine ⟨?_,l1,l2,kp,sg,slt⟩
 rw [← ee,← fe] at hgon
 obtain ⟨ne,⟨cap,hg⟩,hA⟩:=hgon
 exact ⟨ne,⟨cap,hg⟩,hA⟩
end Go.Proofs.YtanndhoimpnhpaaGreatDoor
namespace Go.Proofs.YtanndhoimpnhpaaGreatDoor
open Go.ChangeShapes Go.WideShapes Go.ChangeAt Go.RowKit
theorem infoEn:(Tryz.prog.info? 114).map (fun i=>(i.zero,i.size,i.bytes)) = some (some (.agg #[.int .i64 0,.int .i64 0,.int .i64 0]),3,24):=by kernel_rfl
end Go.Proofs.YtanndhoimpnhpaaGreatDoor
