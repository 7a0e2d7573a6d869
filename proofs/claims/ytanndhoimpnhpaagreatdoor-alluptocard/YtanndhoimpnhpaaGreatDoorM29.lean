/- Joined by program: Mvl, Liml. -/
import Derived.Test.YtanndhoimpnhpaaGreatDoorM28
import Derived.Lib.LaidU8
namespace Go.Proofs.YtanndhoimpnhpaaGreatDoor
open Go.RowKit
def mvz:List (List Int):=[[0,0],[1,0],[4,3],[3,2],[1,2],[0,5],[0,4],[0,3],[0,2],[0,1],[0,6],[2,7],[5,8]]
def mvData {H:Type}:DataW H:=.agg (mvz.map fun zs=>.agg (zs.map fun z=>.lit (.int .i64 z)))
theorem gMoves : Tryz.prog.globalNamed "accrue/owed.moves" = some 1 := by kernel_rfl
theorem mvl_at:∀ j,j < 26→mvl[j]? = ((mvz.getD (j / 2) []).map fun z=>Value.int .i64 z)[j % 2]?:=by
 intro j hj
 match j,hj with
 | 0,_=>rfl
 | 1,_=>rfl
 | 2,_=>rfl
 | 3,_=>rfl
 | 4,_=>rfl
 | 5,_=>rfl
 | 6,_=>rfl
 | 7,_=>rfl
 | 8,_=>rfl
 | 9,_=>rfl
 | 10,_=>rfl
 | 11,_=>rfl
 | 12,_=>rfl
 | 13,_=>rfl
 | 14,_=>rfl
 | 15,_=>rfl
 | 16,_=>rfl
 | 17,_=>rfl
 | 18,_=>rfl
 | 19,_=>rfl
 | 20,_=>rfl
 | 21,_=>rfl
 | 22,_=>rfl
 | 23,_=>rfl
 | 24,_=>rfl
 | 25,_=>rfl
 | j+26,h=>exact absurd h (by omega)
theorem mv_of_reads {W : World} (h : Lib.VarReads Tryz.prog W "accrue/owed.moves" mvData) : Mv W ∧ 1 < W.heap.size := by
 obtain ⟨g,t,cs,fuel,p,hg,hty,hvar,hd⟩:=h
 obtain rfl:=Option.some.inj (gMoves.symm.trans hg)
 obtain rfl:=Option.some.inj ((show (Tryz.prog.globals[1]?).map (·.type) = some 203 by kernel_rfl).symm.trans hty)
 have c2:Tryz.prog.cellsOf 202 = 2:=by kernel_rfl
 have key:∀ i,i < 13→(cs.toList.drop (i*2)).take 2 = (mvz.getD i []).map fun z=>Value.int .i64 z:=by
  intro i hi
  obtain ⟨fuel',d,q,hds,htr⟩:=Lib.array_elem Tryz.underlying203 hd i hi
  rw [c2] at htr
  have hz:mvz[i]? = some (mvz.getD i []):=by
   rw [List.getD_eq_getElem?_getD,List.getElem?_eq_getElem (show i < mvz.length from hi)]
   rfl
  rw [List.getElem?_map,hz] at hds
  obtain rfl:=Option.some.inj hds
  refine Lib.ints_of_struct Tryz.underlying202 ?_ c2 htr
  intro j f hf
  match j,hf with
  | 0,hf =>
   obtain rfl:=Option.some.inj hf
   exact ⟨Tryz.underlying3,rfl,by kernel_rfl⟩
  | 1,hf =>
   obtain rfl:=Option.some.inj hf
   exact ⟨Tryz.underlying3,rfl,by kernel_rfl⟩
  | j+2,hf=>exact absurd hf (by simp)
 have hcell:∀ j,j < 26→W.cell? ⟨1,j,none⟩ = mvl[j]?:=by
  intro j hj
  have hv:=World.var?_cell hg hvar j
  have hk:=congrArg (fun l=>l[j % 2]?) (key (j / 2) (by omega))
  simp only [List.getElem?_take,List.getElem?_drop,show j % 2 < 2 by omega,if_true] at hk
  rw [show j / 2*2+j % 2 = j by omega] at hk
  rw [hv,mvl_at j hj,← hk,Array.getElem?_toList]
 have hall:Mv W:=by
  intro j v hj
  have hlt:j < 26:=by
   have:=(List.getElem?_eq_some_iff.1 hj).1
   exact this
  rw [hcell j hlt,hj]
 exact ⟨hall,World.block_lt_of_cell? _ _ (hall 0 _ rfl)⟩
def lmz:List (List Int):=[[0,0],[1,100000000000],[0,1000000],[1,400],[0,0],[1,100000000000]]
def lmData {H:Type}:DataW H:=.agg (lmz.map fun zs=>.agg (zs.map fun z=>.lit (.int .i64 z)))
theorem gLimits : Tryz.prog.globalNamed "accrue/accrue.amountLimits" = some 0 := by kernel_rfl
theorem liml_at:∀ j,j < 12→liml[j]? = ((lmz.getD (j / 2) []).map fun z=>Value.int .i64 z)[j % 2]?:=by
 intro j hj
 match j,hj with
 | 0,_=>rfl
 | 1,_=>rfl
 | 2,_=>rfl
 | 3,_=>rfl
 | 4,_=>rfl
 | 5,_=>rfl
 | 6,_=>rfl
 | 7,_=>rfl
 | 8,_=>rfl
 | 9,_=>rfl
 | 10,_=>rfl
 | 11,_=>rfl
 | j+12,h=>exact absurd h (by omega)
theorem lim_of_reads {W : World} (h : Lib.VarReads Tryz.prog W "accrue/accrue.amountLimits" lmData) : Lim W := by
 obtain ⟨g,t,cs,fuel,p,hg,hty,hvar,hd⟩:=h
 obtain rfl:=Option.some.inj (gLimits.symm.trans hg)
 obtain rfl:=Option.some.inj ((show (Tryz.prog.globals[0]?).map (·.type) = some 154 by kernel_rfl).symm.trans hty)
 have c2:Tryz.prog.cellsOf 86 = 2:=by kernel_rfl
 have key:∀ i,i < 6→(cs.toList.drop (i*2)).take 2 = (lmz.getD i []).map fun z=>Value.int .i64 z:=by
  intro i hi
  obtain ⟨fuel',d,q,hds,htr⟩:=Lib.array_elem Tryz.underlying154 hd i hi
  rw [c2] at htr
  have hz:lmz[i]? = some (lmz.getD i []):=by
   rw [List.getD_eq_getElem?_getD,List.getElem?_eq_getElem (show i < lmz.length from hi)]
   rfl
  rw [List.getElem?_map,hz] at hds
  obtain rfl:=Option.some.inj hds
  refine Lib.ints_of_struct Tryz.underlying86 ?_ c2 htr
  intro j f hf
  match j,hf with
  | 0,hf =>
   obtain rfl:=Option.some.inj hf
   exact ⟨Tryz.underlying3,rfl,by kernel_rfl⟩
  | 1,hf =>
   obtain rfl:=Option.some.inj hf
   exact ⟨Tryz.underlying3,rfl,by kernel_rfl⟩
  | j+2,hf=>exact absurd hf (by simp)
 have hcell:∀ j,j < 12→W.cell? ⟨0,j,none⟩ = liml[j]?:=by
  intro j hj
  have hv:=World.var?_cell hg hvar j
  have hk:=congrArg (fun l=>l[j % 2]?) (key (j / 2) (by omega))
  simp only [List.getElem?_take,List.getElem?_drop,show j % 2 < 2 by omega,if_true] at hk
  rw [show j / 2*2+j % 2 = j by omega] at hk
  rw [hv,liml_at j hj,← hk,Array.getElem?_toList]
 intro j v hj
 have hlt:j < 12:=by
  have:=(List.getElem?_eq_some_iff.1 hj).1
  exact this
 rw [hcell j hlt,hj]
end Go.Proofs.YtanndhoimpnhpaaGreatDoor
