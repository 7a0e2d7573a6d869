/- Joined by program: RnD, RnE, ShelfAll. -/
import Derived.Test.YtanndhoimpnhpaaGreatDoorM10
import Derived.Shelf.Strconv.Atoi
import Derived.Shelf.Strconv.Itoa0
import Derived.Shelf.Strconv.Itoa1
import Derived.Shelf.LaysM
import Derived.Shelf.Strconv.Itoa2
import Derived.Shelf.Strconv.Itoa3
import Derived.Shelf.Strconv.AtoiErrFast
import Derived.Shelf.Strconv.ParseIntEmpty
import Derived.Shelf.Strconv.AtoiFail
import Derived.Shelf.Strconv.Clone
import Derived.Shelf.Strconv.SyntaxError
import Derived.Shelf.LaysC
import Derived.Shelf.Strconv.ToError
import Derived.Shelf.Strconv.Lower
import Derived.Shelf.Strconv.ParseUint10
import Derived.Shelf.Strconv.ParseUint10Empty
import Derived.Shelf.Strconv.ParseUint10Any
import Derived.Shelf.Strconv.ParseInt10
import Derived.Shelf.Strconv.AtoiLong
import Derived.Shelf.Strconv.AtoiInnerAll
import Derived.Shelf.Strconv.RangeError
import Derived.Shelf.Strconv.ToErrorRange
import Derived.Shelf.Strconv.AtoiAll
import Derived.Shelf.Strconv.ErrVarAll
import Derived.Shelf.Strings.Search1
import Derived.Shelf.Strings.Search2
import Derived.Shelf.Strings.Search3
import Derived.Shelf.Strings.Cut
import Derived.Shelf.Strings.Count
import Derived.Shelf.Strings.Shaped
import Derived.Shelf.Strconv.AppendUint10
import Derived.Shelf.Strconv.AppendInt10
import Derived.Shelf.Strconv.AppendIntPublic10
import Derived.Shelf.Strings.Split
import Derived.Shelf.Strings.SplitShaped
import Derived.Shelf.Bits.Mul64
import Derived.Shelf.Unicode.DecodeSlow
namespace Go.Proofs.YtanndhoimpnhpaaGreatDoor
open Go.ChangeShapes Go.WideShapes Go.ChangeAt Go.RowKit Lg Cal
noncomputable def runL2:Code:=(((Tryz.f60).body.map loopsOf).getD [])[1]?.getD .skip
set_option maxRecDepth 1000000 in
set_option maxHeartbeats 8000000 in
theorem run_loop2 (W0:World) (B G C H E N m:Nat) (t:Ln.Terms) (evv:Value) (g0:Ln.St) (day0:Int) (bk0:Value) (hf:Nat→Int) (l:List Ln.Ev) (pa:Option Addr) (ecap:Nat) (M0:List En) (Y:Nat→Ln.Dy) (gs:Nat→Ln.St) (hgs:∀ k,gs (k+1) = (Y k).g) (rc:RC W0 B G C H E bk0) (hN:N = 13*m) (hm:m≤3700) (hM:M0.length≤4000000000000) (s0:0≤t.st) (s1:t.st≤105872)
  (hDay:∀ (k:Nat) (W:World) (S:Nat→Prop) (ev fv av:Value) (cy cm cd:Int),k < m→At W G (gl t (gs k) 0 ev fv av)→(l ≠ []→At W E (evs l))→Ok cy cm cd→num cy cm cd = t.st+k→LongIs S W ev (gs k).ea→LongIs S W fv (gs k).fn→S G→(∀ b,S b→b < W.heap.size) →
   Calls Tryz.prog 95 #[.pointer (some ⟨G,0,none⟩),.int .i64 (t.st+k),.agg #[.int .i64 cy,.int .i64 cm,.int .i64 cd],.slice pa l.length ecap] W fun e w'=>e = .returned (.tuple #[])∧∃ r1 r2,DayW S W G t (Y k) 0 r1 r2 (Y k).g.ea (Y k).g.fn w')
  (hst:∃ cy cm cd ev fv av bkv S,Ok cy cm cd∧num cy cm cd = t.st∧RW W0 B G C H E N t evv g0 day0 bk0 hf l M0 (gs 0) cy cm cd ev fv av bkv S W0)
  (c2 c3 c4 c8 c9 c12 c13 c14 c15 c16 c17 c18 c19 c20 c21 c22 c23 c24 c25 c26 c27 c28 c29 c30 c31 c32 c33 c34 c35 c36 c37 c38 c39 c40 c41 c42 c43 c44 c45 c46 c47 c48 c49 c50 c51 c52 c53 c54 c55 c56 c57 c58 c59 c60 c61 c62 c63 c64 c65 c66 c67 c68 c69 c70 c71 c72 c73 c74 c75 c76 c77 c78 c79 c80 c81 c82 c83 c84 c85 c86 c87 c88 c89 c90 c91 c92 c93 c94 c95 c96 c97 c98 c99 c100 c101 c102 c103 c104 c105 c106 c107 c108 c109 c110 c111 c112 c113 c114 c115 c116 c117 c118 c119 c120 c121 c122 c123 c124 c125 c126 c127 c128 c129 c130 c131 c132 c133 c134 c135 c136 c137 c138 c139 c140 c141 c142 c143 c144 c145 c146 c147 c148 c149 c150 c151 c152 c153 c154 c155 c156 c157 c158 c159 c160 c161 c162 c163 c164 c165 c166 c167 c168 c169 c170 c171 c172 c173 c174 c175 c176 c177 c178 c179 c180 c181 c182 c183 c184 c185 c186 c187 c188 c189 c190 c191 c192 c193 c194 c195 c196 c197 c198 c199 c200 c201 c202 c203 c204 c205 c206 c207 c208 c209:Value) (Q0:Exit→Act→World→Prop) (hpan:∀ x (a:Act) o v w,Q0 (.panic x) (a.put o v) w→Q0 (.panic x) a w)
  (hexit:∀ (u11 u12 u13 u117 u118 u119 u120 u121 u122 u123 u124 u125 u126 u127 u128 u129 u130 u131 u132 u133 u134 u135 u136 u137 u138 u139 u140 u141 u142 u143 u144 u145 u146 u147 u148 u149 u150 u151 u152 u153 u154 u155 u156 u157 u158 u159 u160 u161 u162 u163 u164 u165 u166 u167 u168 u169 u170 u171 u172 u173 u174 u175 u176 u177 u178 u179 u180 u181 u182 u183 u184 u185 u186 u187 u188 u189 u190 u191 u192 u193 u194 u195 u196 u197:Value) (wz:World),(∃ cy cm cd ev fv av bkv S,RW W0 B G C H E N t evv g0 day0 bk0 hf l (bookW t.st hf (fun k=>(Y k).am) M0 m) (gs m) cy cm cd ev fv av bkv S wz)→Q0 (.exit 2) ⟨((.pointer (some ⟨B,0,none⟩)) :: (.int .i64 (t.st+m)) :: c2 :: c3 :: c4 :: (.pointer (some ⟨G,0,none⟩)) :: (.slice pa l.length ecap) :: (.slice (some ⟨H,0,none⟩) N N) :: c8 :: c9 :: (.pointer (some ⟨C,0,none⟩)) :: u11 :: u12 :: u13 :: c14 :: c15 :: c16 :: c17 :: c18 :: c19 :: c20 :: c21 :: c22 :: c23 :: c24 :: c25 :: c26 :: c27 :: c28 :: c29 :: c30 :: c31 :: c32 :: c33 :: c34 :: c35 :: c36 :: c37 :: c38 :: c39 :: c40 :: c41 :: c42 :: c43 :: c44 :: c45 :: c46 :: c47 :: c48 :: c49 :: c50 :: c51 :: c52 :: c53 :: c54 :: c55 :: c56 :: c57 :: c58 :: c59 :: c60 :: c61 :: c62 :: c63 :: c64 :: c65 :: c66 :: c67 :: c68 :: c69 :: c70 :: c71 :: c72 :: c73 :: c74 :: c75 :: c76 :: c77 :: c78 :: c79 :: c80 :: c81 :: c82 :: c83 :: c84 :: c85 :: c86 :: c87 :: c88 :: c89 :: c90 :: c91 :: c92 :: c93 :: c94 :: c95 :: c96 :: c97 :: c98 :: c99 :: c100 :: c101 :: c102 :: c103 :: c104 :: c105 :: c106 :: c107 :: c108 :: c109 :: c110 :: c111 :: c112 :: c113 :: c114 :: c115 :: c116 :: u117 :: u118 :: u119 :: u120 :: u121 :: u122 :: u123 :: u124 :: u125 :: u126 :: u127 :: u128 :: u129 :: u130 :: u131 :: u132 :: u133 :: u134 :: u135 :: u136 :: u137 :: u138 :: u139 :: u140 :: u141 :: u142 :: u143 :: u144 :: u145 :: u146 :: u147 :: u148 :: u149 :: u150 :: u151 :: u152 :: u153 :: u154 :: u155 :: u156 :: u157 :: u158 :: u159 :: u160 :: u161 :: u162 :: u163 :: u164 :: u165 :: u166 :: u167 :: u168 :: u169 :: u170 :: u171 :: u172 :: u173 :: u174 :: u175 :: u176 :: u177 :: u178 :: u179 :: u180 :: u181 :: u182 :: u183 :: u184 :: u185 :: u186 :: u187 :: u188 :: u189 :: u190 :: u191 :: u192 :: u193 :: u194 :: u195 :: u196 :: u197 :: c198 :: c199 :: c200 :: c201 :: c202 :: c203 :: c204 :: c205 :: c206 :: c207 :: c208 :: c209 :: []).toArray,[]⟩ wz) :
  Code.wp Tryz.prog (Code.loop runL2) Q0 ⟨((.pointer (some ⟨B,0,none⟩)) :: (.int .i64 (t.st+m)) :: c2 :: c3 :: c4 :: (.pointer (some ⟨G,0,none⟩)) :: (.slice pa l.length ecap) :: (.slice (some ⟨H,0,none⟩) N N) :: c8 :: c9 :: (.pointer (some ⟨C,0,none⟩)) :: (.int .i64 t.st) :: c12 :: c13 :: c14 :: c15 :: c16 :: c17 :: c18 :: c19 :: c20 :: c21 :: c22 :: c23 :: c24 :: c25 :: c26 :: c27 :: c28 :: c29 :: c30 :: c31 :: c32 :: c33 :: c34 :: c35 :: c36 :: c37 :: c38 :: c39 :: c40 :: c41 :: c42 :: c43 :: c44 :: c45 :: c46 :: c47 :: c48 :: c49 :: c50 :: c51 :: c52 :: c53 :: c54 :: c55 :: c56 :: c57 :: c58 :: c59 :: c60 :: c61 :: c62 :: c63 :: c64 :: c65 :: c66 :: c67 :: c68 :: c69 :: c70 :: c71 :: c72 :: c73 :: c74 :: c75 :: c76 :: c77 :: c78 :: c79 :: c80 :: c81 :: c82 :: c83 :: c84 :: c85 :: c86 :: c87 :: c88 :: c89 :: c90 :: c91 :: c92 :: c93 :: c94 :: c95 :: c96 :: c97 :: c98 :: c99 :: c100 :: c101 :: c102 :: c103 :: c104 :: c105 :: c106 :: c107 :: c108 :: c109 :: c110 :: c111 :: c112 :: c113 :: c114 :: c115 :: c116 :: c117 :: c118 :: c119 :: c120 :: c121 :: c122 :: c123 :: c124 :: c125 :: c126 :: c127 :: c128 :: c129 :: c130 :: c131 :: c132 :: c133 :: c134 :: c135 :: c136 :: c137 :: c138 :: c139 :: c140 :: c141 :: c142 :: c143 :: c144 :: c145 :: c146 :: c147 :: c148 :: c149 :: c150 :: c151 :: c152 :: c153 :: c154 :: c155 :: c156 :: c157 :: c158 :: c159 :: c160 :: c161 :: c162 :: c163 :: c164 :: c165 :: c166 :: c167 :: c168 :: c169 :: c170 :: c171 :: c172 :: c173 :: c174 :: c175 :: c176 :: c177 :: c178 :: c179 :: c180 :: c181 :: c182 :: c183 :: c184 :: c185 :: c186 :: c187 :: c188 :: c189 :: c190 :: c191 :: c192 :: c193 :: c194 :: c195 :: c196 :: c197 :: c198 :: c199 :: c200 :: c201 :: c202 :: c203 :: c204 :: c205 :: c206 :: c207 :: c208 :: c209 :: []).toArray,[]⟩ W0:=by
 have HDay:=(show Hid _ from hDay)
 have HSt:=(show Hid _ from hst)
 have HG:=(show Hid _ from hgs)
 have RC0:=(show Hid _ from rc)
 have HN:=(show Hid _ from hN)
 clear hDay hst hgs rc hN
 conv=>arg 2; arg 1; whnf
 go_loopw [11] (fun i wr=>∃ k:Nat,k≤m∧i = .int .i64 (t.st+k)∧∃ cy cm cd ev fv av bkv S,Ok cy cm cd∧num cy cm cd = t.st+k∧RW W0 B G C H E N t evv g0 day0 bk0 hf l (bookW t.st hf (fun k=>(Y k).am) M0 k) (gs k) cy cm cd ev fv av bkv S wr) (fun i _=>(t.st+m - intOf i).toNat)
 case atStart =>
  obtain ⟨cy,cm,cd,ev,fv,av,bkv,S,h1,h2,h3⟩:=HSt.out
  exact ⟨0,Nat.zero_le _,by simp,cy,cm,cd,ev,fv,av,bkv,S,h1,by simpa using h2,h3⟩
 case round =>
  obtain ⟨k,hk,rfl,cy,cm,cd,ev,fv,av,bkv,S,hok,hnum,hw⟩:=hrel
  clear HSt
  by_cases hlt:k < m
  ·have c0':wr.cell? ⟨C,0,none⟩ = some (.int .i64 cy):=hw.ci.cell 0 rfl
   have c1':wr.cell? ⟨C,1,none⟩ = some (.int .i64 cm):=hw.ci.cell 1 rfl
   have c2':wr.cell? ⟨C,2,none⟩ = some (.int .i64 cd):=hw.ci.cell 2 rfl
   have hC:=HDay.out k wr S ev fv av cy cm cd hlt hw.go hw.ee hok hnum hw.l1 hw.l2 hw.sg hw.sl
   have hlen:=bookW_len t.st hf (fun k=>(Y k).am) M0 k
   have HX:Hid (bookW t.st hf (fun k=>(Y k).am) M0 (k+1) = bookW t.st hf (fun k=>(Y k).am) M0 k ++ kindsW (t.st+k) (fun j=>hf (13*k+j)) (Y k).am 12):=rfl
   have hlen2:(bookW t.st hf (fun k=>(Y k).am) M0 k).length+24≤5000000000000:=by omega
   clear hlen
   generalize bookW t.st hf (fun k=>(Y k).am) M0 k = M at *
   have HW:=(show Hid _ from hw)
   have HOK:=(show Hid _ from hok)
   have HNU:=(show Hid _ from hnum)
   clear hw hok hnum
   go_wp2_with fail
   refine hC.mono ?_
   rintro e V ⟨rfl,r1,r2,hD⟩
   clear hC
   obtain ⟨z1,z2,z3,⟨cap,z4⟩,z5,z6,z7⟩:=RW.day RC0.out HW.out hD
   have HD:=(show Hid _ from hD)
   clear hD
   go_wp2_with fail
   refine run_loop3 V B G (wr.heap.size+1) H N cap t evv g0 day0 bkv M (Y k).am hf (t.st+k) k z1 z2 z3 z4 z5 RC0.out.hb RC0.out.gb z6 z7 (by omega) (by have:=HN.out; omega) (by have:=HN.out; omega) hlen2 _ _ _ _ _ _ _ _ _ _ _ _ _ _ _ _ _ _ _ _ _ _ _ _ _ _ _ _ _ _ _ _ _ _ _ _ _ _ _ _ _ _ _ _ _ _ _ _ _ _ _ _ _ _ _ _ _ _ _ _ _ _ _ _ _ _ _ _ _ _ _ _ _ _ _ _ _ _ _ _ _ _ _ _ _ _ _ _ _ _ _ _ _ _ _ _ _ _ _ _ _ _ _ _ _ _ _ _ _ _ _ _ _ _ _ _ _ _ _ _ _ _ _ _ _ _ _ _ _ _ _ _ _ _ _ _ _ _ _ _ _ _ _ _ _ _ _ _ _ _ _ _ _ _ _ _ _ _ _ _ _ _ _ _ _ _ _ _ _ _ _ _ _ _ _ _ _ _ _ _ _ _ _ _ _ _ _ _ _ _ _ _ _ _ _ _ _ _ _ _ _ _ _ _ _ _ ?hp ?_
   case hp=>intro x a o v w h; exact hpan x a o v w h
   intro v12 v13 v127 v128 v129 v130 v131 v132 v133 v134 v135 v136 v137 v138 v139 v140 v141 v142 v143 v144 v145 v146 v147 v148 v149 v150 v151 v152 v153 v154 v155 v156 v157 v158 v159 v160 v161 v162 v163 v164 v165 v166 v167 v168 v169 v170 v171 v172 v173 v174 v175 v176 v177 v178 v179 v180 v181 v182 v183 v184 v185 v186 v187 v188 v189 v190 v191 v192 v193 v194 v195 wz hbk
   obtain ⟨av',bkv',S',hw2⟩:=RW.kinds RC0.out HW.out HD.out hbk
   clear hbk z1 z2 z3 z4 z5 z6 z7 HD HW c0' c1' c2'
   have d0':wz.cell? ⟨C,0,none⟩ = some (.int .i64 cy):=hw2.ci.cell 0 rfl
   have d1':wz.cell? ⟨C,1,none⟩ = some (.int .i64 cm):=hw2.ci.cell 1 rfl
   have d2':wz.cell? ⟨C,2,none⟩ = some (.int .i64 cd):=hw2.ci.cell 2 rfl
   have HW2:=(show Hid _ from hw2)
   clear hw2
   go_wp2_with fail
   refine (next_any cy cm cd _ HOK.out).mono ?_
   rintro e w2 ⟨rfl,hb2⟩
   have hw3:=HW2.out.below RC0.out hb2
   have e0':w2.cell? ⟨C,0,none⟩ = some (.int .i64 cy):=hw3.ci.cell 0 rfl
   have e1':w2.cell? ⟨C,1,none⟩ = some (.int .i64 cm):=hw3.ci.cell 1 rfl
   have e2':w2.cell? ⟨C,2,none⟩ = some (.int .i64 cd):=hw3.ci.cell 2 rfl
   have z0':w2.frozen? ⟨C,0,none⟩ = false:=hw3.ci.free 0 rfl
   have z1':w2.frozen? ⟨C,1,none⟩ = false:=hw3.ci.free 1 rfl
   have z2':w2.frozen? ⟨C,2,none⟩ = false:=hw3.ci.free 2 rfl
   have hw4:=hw3.civ RC0.out (ny cy cm cd) (nm cy cm cd) (nd cy cm cd)
   have HW4:=(show Hid _ from hw4)
   clear hw3 hw4 HW2 hb2 d0' d1' d2'
   go_wp2_with fail
   go_roundw
   case rel =>
    refine ⟨k+1,hlt,by go_num,ny cy cm cd,nm cy cm cd,nd cy cm cd,r1,r2,av',bkv',S',next_ok cy cm cd HOK.out (by have:=HNU.out; omega),by rw [next_num cy cm cd HOK.out,HNU.out]; omega,?_⟩
    rw [HX.out,HG.out k]
    exact HW4.out
   case measure=>simp [intOf]; omega
  ·obtain rfl:k = m:=by omega
   clear hlt HDay
   go_wp2_with fail
   exact ⟨cy,cm,cd,ev,fv,av,bkv,S,hw⟩
theorem dmade_hc (n:Nat):madeCells #[.int .i64 0] n = (hc n (fun _=>0)).toArray:=by
 have h:(madeCells #[.int .i64 0] n).toList = hc n (fun _=>0):=by
  rw [toList_madeCells_one]
  refine List.ext_getElem (by simp [hc]) (fun i h1 h2=>?_)
  simp [hc]
 rw [← h]
theorem dmake (w:World) (n:Nat) (hn:n≤48100):(Instr.makeSlice 38 (.int .i64 (n:Int)) (.int .i64 (n:Int))).run Tryz.prog w = .ok (.slice (some ⟨w.heap.size,0,none⟩) n n) (w.alloc (.cells (hc n (fun _=>0)).toArray 3)):=by
 obtain ⟨i0,hi0,hz0,hz1,hz2⟩:=info_parts infoInt
 have h:=run_make (P:=Tryz.prog) w 38 3 i0 _ Tryz.underlying38 hi0 hz0 .i64 .i64 n n (by omega) (by omega) (by rw [hz2]; omega) (by omega)
 rw [hz1,Nat.mul_one,Int.toNat_natCast,show (Value.int .i64 0).cells = #[.int .i64 0] from rfl,dmade_hc] at h
 exact h
theorem own_at {w:World} {base:Nat} {T:TypeId} {size n cap g:Nat} {xs:List Value} (h:w.ownsRow base T size (.slice (some ⟨g,0,none⟩) n cap) n xs):At w g xs:=by
 intro i v hv
 obtain ⟨hl,⟨hn,_⟩ | ⟨g',cap',cur,he,_,hg,_,_,_,hx⟩⟩:=id h
 ·cases hn
 ·injection he with e1 _ _
  injection e1 with e1
  injection e1 with e1
  subst e1
  have hc:cur[i]? = some v:=by
   rw [← hx] at hv
   have:=(List.getElem?_eq_some_iff.1 hv).1
   rw [List.getElem?_take_of_lt (by rw [List.length_take] at this; omega),Array.getElem?_toList] at hv
   exact hv
  exact ⟨by simp [World.cell?,hg,hc],by simp [World.frozen?,hg]⟩
theorem dl_mid (t:Ln.Terms) (ev:Value) (g:Ln.St) (day:Int) (bk:Value):∀ j u,(tl6 t)[j]? = some u→(dl t ev g day bk)[0+j]? = some u:=by
 intro j u h
 rw [Nat.zero_add]
 match j,h with
 | 0,h=>exact h
 | 1,h=>exact h
 | 2,h=>exact h
 | 3,h=>exact h
 | 4,h=>exact h
 | 5,h=>exact h
theorem gl_mid (t:Ln.Terms) (g:Ln.St) (dy:Int) (ev fv av:Value):∀ j u,(bl8 g dy)[j]? = some u→(gl t g dy ev fv av)[6+j]? = some u:=by
 intro j u h
 match j,h with
 | 0,h=>exact h
 | 1,h=>exact h
 | 2,h=>exact h
 | 3,h=>exact h
 | 4,h=>exact h
 | 5,h=>exact h
 | 6,h=>exact h
 | 7,h=>exact h
theorem dfresh {F:Nat→Prop} {w w1 w2:World} {G:Nat} (h1:Below G w w1) (h2:Keep F w1 w2) (hF:∀ b,F b→G≤b) (hG:G≤w1.heap.size):Below G w w2 :=
 ⟨h2.os.trans h1.os,h2.tape.trans h1.tape,h2.output.trans h1.output,Nat.le_trans h1.size h2.size,fun b hb=>(h2.block b (by omega) (fun x=>by have:=hF b x; omega)).trans (h1.block b hb)⟩
def DocDays (t:Ln.Terms) (m:Nat) (R:List Ln.Ev) (Y:Nat→Ln.Dy) (gs:Nat→Ln.St):Prop :=
 ∀ (G E:Nat) (pa:Option Addr) (ecap:Nat) (k:Nat) (W:World) (S:Nat→Prop) (ev fv av:Value) (cy cm cd:Int),(R ≠ []→pa = some ⟨E,0,none⟩∧¬ E = G)→k < m→At W G (gl t (gs k) 0 ev fv av)→(R ≠ []→At W E (evs R))→Ok cy cm cd→num cy cm cd = t.st+k→LongIs S W ev (gs k).ea→LongIs S W fv (gs k).fn→S G→(∀ b,S b→b < W.heap.size) →
   Calls Tryz.prog 95 #[.pointer (some ⟨G,0,none⟩),.int .i64 (t.st+k),.agg #[.int .i64 cy,.int .i64 cm,.int .i64 cd],.slice pa R.length ecap] W fun e w'=>e = .returned (.tuple #[])∧∃ r1 r2,DayW S W G t (Y k) 0 r1 r2 (Y k).g.ea (Y k).g.fn w'
def RunPost (w:World) (B:Nat) (t:Ln.Terms) (evv:Value) (l:List Ln.Ev) (bk0:Value) (L:List En) (m:Nat) (Y:List Ln.Ev→Nat→Ln.Dy) (gs:List Ln.Ev→Nat→Ln.St) (e:Ending) (w':World):Prop :=
 e = .returned (.int .i64 0)∧∃ R bkv,R.Perm l∧R.Pairwise So.Ah∧At w' B (dl t evv (gs R m) (t.st+m) bkv)∧w'.ownsRow (B+1) 114 3 bkv (bookW t.st (hv t.st L) (fun k=>(Y R k).am) L m).length (ens (bookW t.st (hv t.st L) (fun k=>(Y R k).am) L m))∧OwnNew w bk0 bkv∧Keep (fun b=>b = B∨bk0.ownBlock = some b) w w'
set_option maxRecDepth 1000000 in
set_option maxHeartbeats 8000000 in
theorem refrun_core (w:World) (B E0:Nat) (t:Ln.Terms) (pa:Option Addr) (ecap:Nat) (l:List Ln.Ev) (g0:Ln.St) (day0:Int) (bk0:Value) (L:List En) (m:Nat) (Y:List Ln.Ev→Nat→Ln.Dy) (gs:List Ln.Ev→Nat→Ln.St)
  (hB:At w B (dl t (.slice pa l.length ecap) g0 day0 bk0)) (hE:l ≠ []→pa = some ⟨E0,0,none⟩∧At w E0 (evs l)) (hl:l.length≤40) (hdd:l.Pairwise (fun a b=>¬ a.s = b.s)) (hown:w.ownsRow (B+1) 114 3 bk0 L.length (ens L)) (hL:L.length≤4000000000000)
  (s0:0≤t.st) (s1:t.st≤105872) (hm:m≤3700) (hd:day0≤t.st+m) (hin:∀ e∈L,t.st≤e.d∧e.d < t.st+m∧1≤e.k∧e.k≤12)
  (hg0:∀ R,gs R 0 = Ln.start t) (hgs:∀ R k,gs R (k+1) = (Y R k).g) (hDay:∀ R,R.Perm l→R.Pairwise So.Ah→DocDays t m R (Y R) (gs R)) :
  Calls Tryz.prog 60 #[.pointer (some ⟨B,0,none⟩),.int .i64 (t.st+m)] w (RunPost w B t (.slice pa l.length ecap) l bk0 L m Y gs):=by
 have HB:=hid hB
 have HE:=hid hE
 have HDD:=hid hdd
 have HOwn:=hid hown
 have HIn:=hid hin
 have HG0:=hid hg0
 have HGS:=hid hgs
 have HDay:=hid hDay
 have hBl:B < w.heap.size:=At.lt (v:=.int .i64 t.st) hB
 have c14:w.cell? ⟨B,14,none⟩ = some (.int .i64 day0):=hB.cell 14 rfl
 have c0:w.cell? ⟨B,0,none⟩ = some (.int .i64 t.st):=hB.cell 0 rfl
 have z1:¬ t.st+(m:Int) < day0:=by omega
 have z2:IntKind.i64.wrap (t.st+3700) = t.st+3700:=by rw [IntKind.wrap_i64]; omega
 have z3:¬ t.st+3700 < t.st+(m:Int):=by omega
 clear hB hE hdd hown hin hg0 hgs hDay
 go_enter Tryz.func60,Tryz.ntmps60
 go_upto_region 3 with fail
 clear z1 z2 z3 c14 c0
 refine wp_region_held_drew (S:=fun wx=>At wx B (dl t (.slice pa l.length ecap) g0 day0 bk0)) (by kernel_rfl) HB.out.drew (fun hHeld=>?_)
 refine tkk 0 (.pointer (some ⟨B,0,none⟩)) rfl ?_
 simp only [uP]
 refine tkk 1 (.pointer (some ⟨B,0,none⟩)) rfl ?_
 simp only [uP]
 refine tkk 2 (.pointer (some ⟨B,0,none⟩)) rfl ?_
 simp only [uP]
 refine wpAnyH_take (i:=3) (v:=(.agg (tl6 t).toArray)) rfl (by kernel_rfl) (by kernel_rfl) (by kernel_rfl) (fun _ _ _ h=>h) (yieldsIf_load_mid (by rfl) 23 (.tmp 33) rfl _ _ rfl _ _ (fun _ h=>h.mid 0 _ (dl_mid t _ g0 day0 _)) Tryz.underlying23 rfl (by kernel_rfl)) (by assumption) ?_
 simp only [uP]
 refine tkk 4 (.pointer (some ⟨B,0,none⟩)) rfl ?_
 simp only [uP]
 refine tkk 5 (.pointer (some ⟨B,0,none⟩)) rfl ?_
 simp only [uP]
 refine tkk 6 (.pointer (some ⟨B,0,none⟩)) rfl ?_
 simp only [uP]
 refine tkk 7 (.pointer (some ⟨B,2,none⟩)) rfl ?_
 simp only [uP]
 refine tkh 8 (.int .i64 t.rt) rfl (fun wx hSw=>by (have hc:wx.cell? ⟨B,2,none⟩ = some (.int .i64 t.rt):=hSw.cell 2 rfl; go_simp)) ?_
 simp only [uP]
 refine tkk 9 (.agg (bl8 (Ln.start t) 0).toArray) rfl ?_
 simp only [uP]
 refine tkk 10 (.agg (gl t (Ln.start t) 0 (.slice none 0 0) (.slice none 0 0) (.slice none 0 0)).toArray) rfl ?_
 simp only [uP]
 refine rdy 11 rfl (fun K hK=>?_)
 rw [if_pos (by rfl)]
 have hV1:At (w.drew.alloc (.cells (gl t (Ln.start t) 0 (.slice none 0 0) (.slice none 0 0) (.slice none 0 0)).toArray 166)) w.heap.size (gl t (Ln.start t) 0 (.slice none 0 0) (.slice none 0 0) (.slice none 0 0)):=At.alloc w.drew _ _
 have hb1:Below w.heap.size w (w.drew.alloc (.cells (gl t (Ln.start t) 0 (.slice none 0 0) (.slice none 0 0) (.slice none 0 0)).toArray 166)):=(Below.refl _ _).drew.alloc (Nat.le_refl _) _
 have hs1:(w.drew.alloc (.cells (gl t (Ln.start t) 0 (.slice none 0 0) (.slice none 0 0) (.slice none 0 0)).toArray 166)).heap.size = w.heap.size+1:=Array.size_push _
 refine wp_valD (.pointer (some ⟨w.heap.size,0,none⟩)) (w.drew.alloc (.cells (gl t (Ln.start t) 0 (.slice none 0 0) (.slice none 0 0) (.slice none 0 0)).toArray 166)) (by kernel_rfl) ?_
 refine hK.out _ _ (At.keep (S:=fun _=>False) (v:=.int .i64 t.st) HB.out (Keep.below hb1) (fun x=>x)) (fun hHeld=>?_)
 clear hK K
 try simp only [uP]
 generalize w.drew.alloc (.cells (gl t (Ln.start t) 0 (.slice none 0 0) (.slice none 0 0) (.slice none 0 0)).toArray 166) = V1 at *
 generalize hG:w.heap.size = G at *
 refine tkk 12 (.pointer (some ⟨G,0,none⟩)) rfl ?_
 simp only [uP]
 refine wpAnyH_done (by kernel_rfl) ?_ _
 have HV1:Hid (At V1 G (gl t (Ln.start t) 0 (.slice none 0 0) (.slice none 0 0) (.slice none 0 0))∧Below G w V1):=⟨hV1,hb1⟩
 have HB1:=hid hHeld
 have c6:V1.cell? ⟨B,6,none⟩ = some (.slice pa l.length ecap):=hHeld.cell 6 rfl
 have hSo:=sorted_any V1 pa ecap E0 l hl (fun hne=>⟨(HE.out hne).1,by
  have h1:=(HE.out hne).2
  obtain ⟨x,r,rfl⟩:=List.exists_cons_of_ne_nil hne
  exact At.keep (S:=fun _=>False) (v:=.int .i64 x.d) h1 (Keep.below (by rw [hG]; exact hb1)) (fun x=>x)⟩) HDD.out
 clear hV1 hHeld HB
 go_wp2_with fail
 refine hSo.mono ?_
 rintro e w2 ⟨rv,R,rfl,hor,hperm,hso,hb2⟩
 clear hSo c6
 have hRl:R.length = l.length:=hperm.length_eq
 rw [← hRl] at hor
 obtain ⟨rp,rcap,rfl⟩:=own_slice hor
 obtain ⟨N,hN⟩:∃ N,N = 13*m:=⟨_,rfl⟩
 have HN:=hid hN
 have hN2:N≤48100:=by omega
 have hbw:Below G w w2:=HV1.out.2.trans (hb2.mono (by have:=HV1.out.2.size; omega))
 have HB2:Hid (At w2 B (dl t (.slice pa l.length ecap) g0 day0 bk0)):=At.keep (S:=fun _=>False) (v:=.int .i64 t.st) HB1.out (Keep.below hb2) (fun x=>x)
 have HV2:Hid (At w2 G (gl t (Ln.start t) 0 (.slice none 0 0) (.slice none 0 0) (.slice none 0 0))):=At.keep (S:=fun _=>False) (v:=.int .i64 t.st) HV1.out.1 (Keep.below hb2) (fun x=>x)
 have HOr:=hid hor
 have HBw:Hid (Below G w w2∧G+1≤w2.heap.size):=⟨hbw,by rw [← hs1]; exact hb2.size⟩
 have c0:w2.cell? ⟨B,0,none⟩ = some (.int .i64 t.st):=HB2.out.cell 0 rfl
 have hmk:=dmake w2 N hN2
 have y1:IntKind.i64.wrap (t.st+(m:Int) - t.st) = (m:Int):=by rw [IntKind.wrap_i64]; omega
 have y2:IntKind.i64.wrap (13*(m:Int)) = (N:Int):=by rw [IntKind.wrap_i64,hN]; omega
 have HPS:Hid (R.Perm l∧R.Pairwise So.Ah):=⟨hperm,hso⟩
 clear hperm hso hor hb2 hbw HB1 HV1 hb1 hN hRl
 have hb3:Below w2.heap.size w2 (w2.alloc (.cells (hc N (fun _=>0)).toArray 3)):=(Below.refl _ _).alloc (Nat.le_refl _) _
 have hH3:At (w2.alloc (.cells (hc N (fun _=>0)).toArray 3)) w2.heap.size (hc N (fun _=>0)):=At.alloc w2 _ _
 have hs3:(w2.alloc (.cells (hc N (fun _=>0)).toArray 3)).heap.size = w2.heap.size+1:=Array.size_push _
 go_wp2_with fail
 clear hmk y1 y2 c0
 generalize w2.alloc (.cells (hc N (fun _=>0)).toArray 3) = W3 at *
 generalize hH:w2.heap.size = H at *
 have hb3w:Below H w2 W3:=hb3
 have hGH:G+1≤H:=HBw.out.2
 have hBH:¬ H = B:=by omega
 have hB3:At W3 B (dl t (.slice pa l.length ecap) g0 day0 bk0):=At.keep (S:=fun _=>False) (v:=.int .i64 t.st) HB2.out (Keep.below (by rw [hH]; exact hb3)) (fun x=>x)
 have hV3:At W3 G (gl t (Ln.start t) 0 (.slice none 0 0) (.slice none 0 0) (.slice none 0 0)):=At.keep (S:=fun _=>False) (v:=.int .i64 t.st) HV2.out (Keep.below (by rw [hH]; exact hb3)) (fun x=>x)
 have hw3:Below G w W3:=HBw.out.1.trans (hb3.mono (by omega))
 have hbkl:∀ b,bk0.ownBlock = some b→B+1≤b∧b < G:=fun b hb=>by have:=own_base HOwn.out hb; omega
 have ho3:W3.ownsRow (B+1) 114 3 bk0 L.length (ens L):=own_keep HOwn.out (S:=fun _=>False) (Keep.below (by rw [hG]; exact hw3)) (fun _ _ x=>x)
 have HE3:Hid (∃ E,(R ≠ []→rp = some ⟨E,0,none⟩∧At W3 E (evs R)∧¬ E = H)∧G+1≤E∧E≤H):=by
  by_cases hR:R = []
  ·exact ⟨H,fun h=>absurd hR h,hGH,Nat.le_refl _⟩
  ·obtain ⟨x,r,hxr⟩:=List.exists_cons_of_ne_nil hR
   obtain ⟨ge,cape,he,hge,hgl⟩:=HOr.out.form (by rw [hxr]; simp)
   injection he with e1 _ _
   subst e1
   refine ⟨ge,fun _=>⟨rfl,?_,by omega⟩,by omega,by omega⟩
   have h1:=own_at HOr.out
   rw [hxr] at h1 ⊢
   exact At.keep (S:=fun _=>False) (v:=.int .i64 x.d) h1 (Keep.below (by rw [hH]; exact hb3)) (fun x=>x)
 have HW3:Hid (At W3 B (dl t (.slice pa l.length ecap) g0 day0 bk0)∧At W3 G (gl t (Ln.start t) 0 (.slice none 0 0) (.slice none 0 0) (.slice none 0 0))∧Below G w W3∧W3.ownsRow (B+1) 114 3 bk0 L.length (ens L)∧W3.heap.size = H+1):=⟨hB3,hV3,hw3,ho3,hs3⟩
 clear HB2 HV2 HOr HBw hb3 hb3w hV3 hw3 hs3
 refine run_loop1 W3 B H N t (.slice pa l.length ecap) g0 day0 bk0 (B+1) L hB3 ho3 hH3 hBH (fun b hb=>by have:=hbkl b hb; omega) hN2 (by omega) (fun e he=>by have:=HIn.out e he; have:=HN.out; omega) _ _ _ _ _ _ _ _ _ _ _ _ _ _ _ _ _ _ _ _ _ _ _ _ _ _ _ _ _ _ _ _ _ _ _ _ _ _ _ _ _ _ _ _ _ _ _ _ _ _ _ _ _ _ _ _ _ _ _ _ _ _ _ _ _ _ _ _ _ _ _ _ _ _ _ _ _ _ _ _ _ _ _ _ _ _ _ _ _ _ _ _ _ _ _ _ _ _ _ _ _ _ _ _ _ _ _ _ _ _ _ _ _ _ _ _ _ _ _ _ _ _ _ _ _ _ _ _ _ _ _ _ _ _ _ _ _ _ _ _ _ _ _ _ _ _ _ _ _ _ _ _ _ _ _ _ _ _ _ _ _ _ _ _ _ _ _ _ _ _ _ _ _ _ _ _ _ _ _ _ _ _ _ _ _ _ _ _ _ _ _ _ _ _ _ _ _ _ _ _ _ _ _ _ _ _ _ _ ?hp ?_
 case hp=>intro x a o v w h; cases o <;> exact h
 intro u8 u9 u57 u58 u59 u60 u61 u62 u63 u64 u65 u66 u67 u68 u69 u70 u71 u72 u73 u74 u75 u76 u77 u78 u79 u80 u81 u82 u83 u84 u85 u86 u87 u88 u89 u90 u91 u92 u93 u94 u95 u96 u97 u98 u99 u100 u101 u102 u103 u104 u105 wz hHz hkz
 clear hB3 ho3 hH3
 have hBz:At wz B (dl t (.slice pa l.length ecap) g0 day0 bk0):=At.keep (v:=.int .i64 t.st) HW3.out.1 hkz (fun x=>hBH x.symm)
 have c0:wz.cell? ⟨B,0,none⟩ = some (.int .i64 t.st):=hBz.cell 0 rfl
 have hCi:=refcivil_any t.st wz s0 (by omega)
 go_wp2_with fail
 refine hCi.mono ?_
 rintro e w4 ⟨cy,cm,cd,rfl,hok,hnum,hb4⟩
 clear hCi c0
 have hb5:Below wz.heap.size wz (w4.alloc (.cells #[.int .i64 cy,.int .i64 cm,.int .i64 cd] 169)):=hb4.alloc hb4.size _
 have hC5:At (w4.alloc (.cells #[.int .i64 cy,.int .i64 cm,.int .i64 cd] 169)) w4.heap.size [.int .i64 cy,.int .i64 cm,.int .i64 cd]:=At.alloc w4 [.int .i64 cy,.int .i64 cm,.int .i64 cd] _
 have hs5:(w4.alloc (.cells #[.int .i64 cy,.int .i64 cm,.int .i64 cd] 169)).heap.size = w4.heap.size+1:=Array.size_push _
 have hB5:At (w4.alloc (.cells #[.int .i64 cy,.int .i64 cm,.int .i64 cd] 169)) B (dl t (.slice pa l.length ecap) g0 day0 bk0):=At.keep (S:=fun _=>False) (v:=.int .i64 t.st) hBz (Keep.below hb5) (fun x=>x)
 have c0:(w4.alloc (.cells #[.int .i64 cy,.int .i64 cm,.int .i64 cd] 169)).cell? ⟨B,0,none⟩ = some (.int .i64 t.st):=hB5.cell 0 rfl
 have hH5s:H+1≤w4.heap.size:=by have h1:=hkz.size; have h2:=hb4.size; have h3:=HW3.out.2.2.2.2; omega
 go_wp2_with (first | (refine wpList_store_new rfl 169 (.tmp 10) (.tmp 111) rfl #[.int .i64 cy,.int .i64 cm,.int .i64 cd] _ rfl rfl (by kernel_rfl) rfl (by kernel_rfl) ?_) | fail)
 clear c0
 generalize w4.alloc (.cells #[.int .i64 cy,.int .i64 cm,.int .i64 cd] 169) = W0 at *
 generalize w4.heap.size = C at *
 obtain ⟨E,hE3,hE4,hE5⟩:=HE3.out
 have hk0:Keep (fun b=>b = H) W3 W0:=hkz.trans (Keep.below hb5)
 have HW0:Hid (Below G w W0):=dfresh HW3.out.2.2.1 hk0 (fun b hb=>by omega) (by have:=HW3.out.2.2.2.2; omega)
 have hH0:At W0 H (hc N (hv t.st L)):=fun i v hv=>by
  have h1:=hHz.block (hb5.block H (by have:=hkz.size; have:=HW3.out.2.2.2.2; omega))
  exact h1 i v hv
 have rc:RC W0 B G C H E bk0:=⟨by omega,by omega,by omega,by omega,by omega,by omega,by omega,by omega,by omega,by omega,by omega,by omega,by omega,by omega,fun b hb=>by have:=hbkl b hb; omega⟩
 have HSt:Hid (∃ cy cm cd ev fv av bkv S,Ok cy cm cd∧num cy cm cd = t.st∧RW W0 B G C H E N t (.slice pa l.length ecap) g0 day0 bk0 (hv t.st L) R L (gs R 0) cy cm cd ev fv av bkv S W0):=by
  refine ⟨cy,cm,cd,.slice none 0 0,.slice none 0 0,.slice none 0 0,bk0,fun b=>b = B∨b = G∨b = C∨bk0.ownBlock = some b,hok,hnum,?_⟩
  rw [HG0.out R]
  refine ⟨At.keep (v:=.int .i64 t.st) HW3.out.2.1 hk0 (by omega),.inl ⟨rfl,rfl⟩,.inl ⟨rfl,rfl⟩,.inr (.inl rfl),.inl rfl,.inr (.inr (.inl rfl)),fun b hb=>.inr (.inr (.inr hb)),?_,hB5,own_keep HW3.out.2.2.2.1 hk0 (fun b hb=>by have:=hbkl b hb; omega),.inl rfl,hC5,hH0,?_,Keep.refl _ _⟩
  ·rintro b (rfl | rfl | rfl | hb)
   ·exact rc.bl
   ·exact rc.gl
   ·exact rc.cl
   ·have:=hbkl b hb
    have:=rc.gl
    omega
  ·intro hne
   have h1:=(hE3 hne).2.1
   obtain ⟨x,r,hxr⟩:=List.exists_cons_of_ne_nil hne
   rw [hxr] at h1 ⊢
   exact At.keep (v:=.int .i64 x.d) h1 hk0 (hE3 hne).2.2
 have HDy:Hid (∀ (k:Nat) (W:World) (S:Nat→Prop) (ev fv av:Value) (cy cm cd:Int),k < m→At W G (gl t (gs R k) 0 ev fv av)→(R ≠ []→At W E (evs R))→Ok cy cm cd→num cy cm cd = t.st+k→LongIs S W ev (gs R k).ea→LongIs S W fv (gs R k).fn→S G→(∀ b,S b→b < W.heap.size) →
   Calls Tryz.prog 95 #[.pointer (some ⟨G,0,none⟩),.int .i64 (t.st+k),.agg #[.int .i64 cy,.int .i64 cm,.int .i64 cd],.slice rp R.length rcap] W fun e w'=>e = .returned (.tuple #[])∧∃ r1 r2,DayW S W G t (Y R k) 0 r1 r2 (Y R k).g.ea (Y R k).g.fn w') :=
  fun k W S ev fv av cy cm cd h1 h2 h3 h4 h5 h6 h7 h8 h9=>HDay.out R HPS.out.1 HPS.out.2 G E rp rcap k W S ev fv av cy cm cd (fun hne=>⟨(hE3 hne).1,by omega⟩) h1 h2 h3 h4 h5 h6 h7 h8 h9
 have HF:Hid (∀ (W2:World) (cy cm cd:Int) (ev fv av bkv:Value) (S:Nat→Prop),RW W0 B G C H E N t (.slice pa l.length ecap) g0 day0 bk0 (hv t.st L) R (bookW t.st (hv t.st L) (fun k=>(Y R k).am) L m) (gs R m) cy cm cd ev fv av bkv S W2→∀ W',W' = (W2.setCells B 7 (bl8 (gs R m) 0)).setCell ⟨B,14,none⟩ (.int .i64 (t.st+m))→RunPost w B t (.slice pa l.length ecap) l bk0 L m Y gs (.returned (.int .i64 0)) W'):=by
  rintro W2 cy cm cd ev fv av bkv S hRW W' rfl
  have kS:Keep (fun b=>b = B) W2 ((W2.setCells B 7 (bl8 (gs R m) 0)).setCell ⟨B,14,none⟩ (.int .i64 (t.st+m))):=(Keep.setCells (S:=fun b=>b = B) rfl _ _ _ (Keep.refl _ _)).set (S:=fun b=>b = B) rfl 14 _
  refine ⟨rfl,R,bkv,HPS.out.1,HPS.out.2,(At.setCells (bl8 (gs R m) 0) 7 _ _ hRW.ln (show 7+8≤16 by decide)).set 14 (show 14 < 16 by decide) _,own_keep hRW.ow kS (fun b hb=>by have:=(own_base hRW.ow hb).1; omega),?_,?_⟩
  ·rcases hRW.on with h | ⟨b,h1,h2⟩
   ·exact .inl h
   ·exact .inr ⟨b,h1,by have:=rc.gl; omega⟩
  ·have h0:=HW0.out
   refine ⟨kS.os.trans (hRW.kp.os.trans h0.os),kS.tape.trans (hRW.kp.tape.trans h0.tape),kS.output.trans (hRW.kp.output.trans h0.output),Nat.le_trans h0.size (Nat.le_trans hRW.kp.size kS.size),fun b hb hs=>?_⟩
   have hbG:b < G:=by omega
   have hs0:=h0.size
   have h1:¬ b = B:=fun x=>hs (.inl x)
   rw [kS.block b (by have:=hRW.kp.size; omega) h1,hRW.kp.block b (by omega) ?_,h0.block b hbG]
   rintro (x | x | x | x)
   ·exact h1 x
   ·exact hs (.inr x)
   ·omega
   ·have:=rc.gc
    omega
 clear HW3 HE3 hE3 hBz hB5 hC5 hH0 hk0 hkz hHz hb5 hb4 hok hnum HW0 HDay HG0 HPS HOwn HIn HE HDD hs1 hs5
 refine run_loop2 W0 B G C H E N m t (.slice pa l.length ecap) g0 day0 bk0 (hv t.st L) R rp rcap L (Y R) (gs R) (HGS.out R) rc HN.out hm hL s0 s1 HDy.out HSt.out _ _ _ _ _ _ _ _ _ _ _ _ _ _ _ _ _ _ _ _ _ _ _ _ _ _ _ _ _ _ _ _ _ _ _ _ _ _ _ _ _ _ _ _ _ _ _ _ _ _ _ _ _ _ _ _ _ _ _ _ _ _ _ _ _ _ _ _ _ _ _ _ _ _ _ _ _ _ _ _ _ _ _ _ _ _ _ _ _ _ _ _ _ _ _ _ _ _ _ _ _ _ _ _ _ _ _ _ _ _ _ _ _ _ _ _ _ _ _ _ _ _ _ _ _ _ _ _ _ _ _ _ _ _ _ _ _ _ _ _ _ _ _ _ _ _ _ _ _ _ _ _ _ _ _ _ _ _ _ _ _ _ _ _ _ _ _ _ _ _ _ _ _ _ _ _ _ _ _ _ _ _ _ _ _ _ _ _ _ _ _ _ _ _ _ _ _ _ _ _ _ _ _ _ ?hp ?_
 case hp=>intro x a o v w h; cases o <;> exact h
 intro u11 u12 u13 u117 u118 u119 u120 u121 u122 u123 u124 u125 u126 u127 u128 u129 u130 u131 u132 u133 u134 u135 u136 u137 u138 u139 u140 u141 u142 u143 u144 u145 u146 u147 u148 u149 u150 u151 u152 u153 u154 u155 u156 u157 u158 u159 u160 u161 u162 u163 u164 u165 u166 u167 u168 u169 u170 u171 u172 u173 u174 u175 u176 u177 u178 u179 u180 u181 u182 u183 u184 u185 u186 u187 u188 u189 u190 u191 u192 u193 u194 u195 u196 u197 W2 hRW0
 obtain ⟨dy,dm,dd,ev,fv,av,bkv,S,hRW⟩:=hRW0
 have HPo:Hid (∀ W',W' = (W2.setCells B 7 (bl8 (gs R m) 0)).setCell ⟨B,14,none⟩ (.int .i64 (t.st+m))→RunPost w B t (.slice pa l.length ecap) l bk0 L m Y gs (.returned (.int .i64 0)) W'):=HF.out W2 dy dm dd ev fv av bkv S hRW
 have hgo:=hRW.go
 have hln:=hRW.ln
 clear HF HDy HSt hRW rc
 generalize gs R m = gm at *
 go_upto_region 26 with fail
 refine wp_region_lit ?_
 refine wpList_val (.pointer (some ⟨B,0,none⟩)) W2 rfl rfl ?_
 simp only [uP]
 refine wpList_val (.pointer (some ⟨G,0,none⟩)) W2 rfl rfl ?_
 simp only [uP]
 refine wpList_val (.pointer (some ⟨G,0,none⟩)) W2 rfl rfl ?_
 simp only [uP]
 refine wpList_val (.pointer (some ⟨G,6,none⟩)) W2 rfl (by go_simp) ?_
 simp only [uP]
 refine wpList_load_mid rfl 52 (.tmp 201) rfl G 6 rfl (bl8 gm 0) _ (hgo.mid 6 _ (gl_mid t gm 0 ev fv av)) Tryz.underlying52 rfl (by kernel_rfl) ?_
 simp only [uP]
 refine wpList_val (.pointer (some ⟨B,0,none⟩)) W2 rfl rfl ?_
 simp only [uP]
 refine wpList_val (.pointer (some ⟨B,7,none⟩)) W2 rfl (by go_simp) ?_
 simp only [uP]
 refine wpList_store_mid rfl 52 (.tmp 204) (.tmp 202) rfl B 7 (bl8 gm 0).toArray rfl rfl (hln.there_mid 7 8 (show 7+8≤16 by decide)) (by kernel_rfl) (by kernel_rfl) ?_
 have hl2:=At.setCells (bl8 gm 0) 7 _ _ hln (show 7+8≤16 by decide)
 have q14:(W2.setCells B 7 (bl8 gm 0)).cell? ⟨B,14,none⟩ = some (.int .i64 0):=hl2.cell 14 rfl
 have q15:(W2.setCells B 7 (bl8 gm 0)).frozen? ⟨B,14,none⟩ = false:=hl2.free 14 rfl
 clear hgo hln hl2
 change wpList _ _ _ _ _ (W2.setCells B 7 (bl8 gm 0))
 generalize W2.setCells B 7 (bl8 gm 0) = W4 at *
 go_wp2
 go_ret
 exact HPo.out _ rfl
end Go.Proofs.YtanndhoimpnhpaaGreatDoor
namespace Go.Proofs
open Go.Shelf
def Tryz.lays172_ren:Go.Shelf.Ren:=⟨fun | 172=>129 | 244=>142 | 245=>143 | 247=>158 | 279=>159 | 280=>160 | 281=>161 | 282=>162 | 287=>174 | 316=>175 | 171=>130 | 205=>176 | 321=>181 | 322=>182 | 243=>144 | 246=>163 | 283=>147 | 284=>148 | 285=>149 | 286=>150 | 129=>166 | 317=>167 | 318=>168 | 319=>169 | 320=>170 | 337=>179 | 338=>180 | n=>n,fun | 9=>9 | 3=>3 | 75=>197 | 76=>198 | 4=>4 | 5=>5 | 167=>225 | 37=>101 | 0=>0 | 85=>226 | 2=>2 | 168=>228 | 53=>90 | 175=>239 | 46=>157 | 210=>243 | 127=>251 | 145=>254 | 143=>252 | 21=>21 | 171=>217 | 173=>219 | 212=>233 | 51=>234 | 20=>20 | 213=>235 | 232=>255 | 233=>256 | 80=>47 | n=>n,fun | 15=>6 | 16=>7 | 17=>5 | 18=>10 | 19=>11 | n=>n⟩
def Tryz.laysM246_ren:Go.Shelf.Ren:=⟨fun | 246=>163 | 283=>147 | 284=>148 | 285=>149 | 286=>150 | 129=>166 | 317=>167 | 318=>168 | 319=>169 | 320=>170 | 337=>179 | 338=>180 | n=>n,fun | 2=>2 | 3=>3 | 9=>9 | 4=>4 | 171=>217 | 0=>0 | 53=>90 | 37=>101 | 5=>5 | 173=>219 | 212=>233 | 51=>234 | 20=>20 | 213=>235 | 46=>157 | 232=>255 | 233=>256 | n=>n,fun | 17=>5 | 18=>10 | 19=>11 | n=>n⟩
def Tryz.laysM243_ren:Go.Shelf.Ren:=⟨fun | 243=>144 | 246=>163 | 283=>147 | 284=>148 | 285=>149 | 286=>150 | 129=>166 | 317=>167 | 318=>168 | 319=>169 | 320=>170 | 337=>179 | 338=>180 | n=>n,fun | 3=>3 | 9=>9 | 2=>2 | 4=>4 | 171=>217 | 0=>0 | 53=>90 | 37=>101 | 5=>5 | 173=>219 | 212=>233 | 51=>234 | 20=>20 | 213=>235 | 46=>157 | 232=>255 | 233=>256 | n=>n,fun | 17=>5 | 18=>10 | 19=>11 | n=>n⟩
def Tryz.laysM171_ren:Go.Shelf.Ren:=⟨fun | 171=>130 | 243=>144 | 246=>163 | 283=>147 | 284=>148 | 285=>149 | 286=>150 | 129=>166 | 317=>167 | 318=>168 | 319=>169 | 320=>170 | 337=>179 | 338=>180 | n=>n,fun | 3=>3 | 9=>9 | 2=>2 | 4=>4 | 171=>217 | 0=>0 | 53=>90 | 37=>101 | 5=>5 | 173=>219 | 212=>233 | 51=>234 | 20=>20 | 213=>235 | 46=>157 | 232=>255 | 233=>256 | n=>n,fun | 17=>5 | 18=>10 | 19=>11 | n=>n⟩
theorem Tryz.laysM171:Go.Proofs.LaysM.n171 Tryz.prog Tryz.laysM171_ren:={
 mixed:=by kernel_rfl
 f129:=Tryz.func166.trans (congrArg some (by kernel_rfl))
 f171:=Tryz.func130.trans (congrArg some (by kernel_rfl))
 f243:=Tryz.func144.trans (congrArg some (by kernel_rfl))
 f246:=Tryz.func163.trans (congrArg some (by kernel_rfl))
 f283:=Tryz.func147.trans (congrArg some (by kernel_rfl))
 f284:=Tryz.func148.trans (congrArg some (by kernel_rfl))
 f285:=Tryz.func149.trans (congrArg some (by kernel_rfl))
 f286:=Tryz.func150.trans (congrArg some (by kernel_rfl))
 f317:=Tryz.func167.trans (congrArg some (by kernel_rfl))
 f318:=Tryz.func168.trans (congrArg some (by kernel_rfl))
 f319:=Tryz.func169.trans (congrArg some (by kernel_rfl))
 f320:=Tryz.func170.trans (congrArg some (by kernel_rfl))
 f337:=Tryz.func179.trans (congrArg some (by kernel_rfl))
 f338:=Tryz.func180.trans (congrArg some (by kernel_rfl))
 t0:=Tryz.underlying0
 a0:=Tryz.isAgg0
 z0:=Tryz.sizeOf0
 v0:=Tryz.zeroValue0
 t2:=Tryz.underlying2
 a2:=Tryz.isAgg2
 z2:=Tryz.sizeOf2
 v2:=Tryz.zeroValue2
 t3:=Tryz.underlying3
 a3:=Tryz.isAgg3
 z3:=Tryz.sizeOf3
 v3:=Tryz.zeroValue3
 t4:=Tryz.underlying4
 a4:=Tryz.isAgg4
 z4:=Tryz.sizeOf4
 v4:=Tryz.zeroValue4
 t5:=Tryz.underlying5
 a5:=Tryz.isAgg5
 z5:=Tryz.sizeOf5
 v5:=Tryz.zeroValue5
 t9:=Tryz.underlying9
 a9:=Tryz.isAgg9
 z9:=Tryz.sizeOf9
 v9:=Tryz.zeroValue9
 t20:=Tryz.underlying20
 a20:=Tryz.isAgg20
 z20:=Tryz.sizeOf20
 v20:=Tryz.zeroValue20
 t37:=Tryz.underlying101
 a37:=Tryz.isAgg101
 z37:=Tryz.sizeOf101
 v37:=Tryz.zeroValue101
 t46:=Tryz.underlying157
 a46:=Tryz.isAgg157
 z46:=Tryz.sizeOf157
 v46:=Tryz.zeroValue157
 t51:=Tryz.underlying234
 a51:=Tryz.isAgg234
 z51:=Tryz.sizeOf234
 v51:=Tryz.zeroValue234
 t53:=Tryz.underlying90
 a53:=Tryz.isAgg90
 z53:=Tryz.sizeOf90
 v53:=Tryz.zeroValue90
 t171:=Tryz.underlying217
 a171:=Tryz.isAgg217
 z171:=Tryz.sizeOf217
 v171:=Tryz.zeroValue217
 t173:=Tryz.underlying219
 a173:=Tryz.isAgg219
 z173:=Tryz.sizeOf219
 v173:=Tryz.zeroValue219
 t212:=Tryz.underlying233
 a212:=Tryz.isAgg233
 z212:=Tryz.sizeOf233
 v212:=Tryz.zeroValue233
 t213:=Tryz.underlying235
 a213:=Tryz.isAgg235
 z213:=Tryz.sizeOf235
 t232:=Tryz.underlying255
 a232:=Tryz.isAgg255
 z232:=Tryz.sizeOf255
 v232:=Tryz.zeroValue255
 t233:=Tryz.underlying256
 a233:=Tryz.isAgg256
 z233:=Tryz.sizeOf256
 v233:=Tryz.zeroValue256
 g17:=by kernel_rfl
 g18:=by kernel_rfl
 g19:=by kernel_rfl
 i0:=by kernel_rfl
 i2:=by kernel_rfl
 i3:=by kernel_rfl
 i4:=by kernel_rfl
 i5:=by kernel_rfl
 i9:=by kernel_rfl
 i20:=by kernel_rfl
 i37:=by kernel_rfl
 i46:=by kernel_rfl
 i51:=by kernel_rfl
 i53:=by kernel_rfl
 i171:=by kernel_rfl
 i173:=by kernel_rfl
 i212:=by kernel_rfl
 i232:=by kernel_rfl
 i233:=by kernel_rfl
 m17:=by kernel_rfl
 m18:=by kernel_rfl
 m19:=by kernel_rfl }
open Go.RowKit Go.Sort Go.Lib in
theorem Tryz.strconv_Itoa (n : Int) (h0 : -9223372036854775808 ≤ n) (h1 : n ≤ 9223372036854775807) (w : World) (htab : Lib.TabIs Tryz.prog w "internal/strconv.uint64pow10" .u64 Lib.pow10Tab) :
  Calls Tryz.prog 130 #[.int .i64 n] w fun e w'=>e = .returned (.string ⟨(Lib.itoa n).toArray⟩)∧∃ k os,w' = grow (w.drewN k) os:=Any.strconv_Itoa Tryz.laysM171 n h0 h1 w htab
def Tryz.laysC172_ren:Go.Shelf.Ren:=⟨fun | 172=>129 | 244=>142 | 245=>143 | 247=>158 | 279=>159 | 280=>160 | 281=>161 | 282=>162 | 287=>174 | 316=>175 | 171=>130 | 205=>176 | 321=>181 | 322=>182 | 243=>144 | 246=>163 | 283=>147 | 284=>148 | 285=>149 | 286=>150 | 129=>166 | 317=>167 | 318=>168 | 319=>169 | 320=>170 | 337=>179 | 338=>180 | n=>n,fun | 9=>9 | 3=>3 | 75=>197 | 76=>198 | 4=>4 | 5=>5 | 167=>225 | 37=>101 | 0=>0 | 85=>226 | 2=>2 | 168=>228 | 53=>90 | 175=>239 | 46=>157 | 210=>243 | 127=>251 | 145=>254 | 143=>252 | 21=>21 | 171=>217 | 173=>219 | 212=>233 | 51=>234 | 20=>20 | 213=>235 | 232=>255 | 233=>256 | 80=>47 | n=>n,fun | 15=>6 | 16=>7 | 17=>5 | 18=>10 | 19=>11 | n=>n⟩
theorem Tryz.laysC172:Go.Proofs.LaysC.n172 Tryz.prog Tryz.laysC172_ren:={
 mixed:=by kernel_rfl
 f129:=Tryz.func166.trans (congrArg some (by kernel_rfl))
 f171:=Tryz.func130.trans (congrArg some (by kernel_rfl))
 f172:=Tryz.func129.trans (congrArg some (by kernel_rfl))
 f205:=Tryz.func176.trans (congrArg some (by kernel_rfl))
 f243:=Tryz.func144.trans (congrArg some (by kernel_rfl))
 f244:=Tryz.func142.trans (congrArg some (by kernel_rfl))
 f245:=Tryz.func143.trans (congrArg some (by kernel_rfl))
 f246:=Tryz.func163.trans (congrArg some (by kernel_rfl))
 f247:=Tryz.func158.trans (congrArg some (by kernel_rfl))
 f279:=Tryz.func159.trans (congrArg some (by kernel_rfl))
 f280:=Tryz.func160.trans (congrArg some (by kernel_rfl))
 f281:=Tryz.func161.trans (congrArg some (by kernel_rfl))
 f282:=Tryz.func162.trans (congrArg some (by kernel_rfl))
 f283:=Tryz.func147.trans (congrArg some (by kernel_rfl))
 f284:=Tryz.func148.trans (congrArg some (by kernel_rfl))
 f285:=Tryz.func149.trans (congrArg some (by kernel_rfl))
 f286:=Tryz.func150.trans (congrArg some (by kernel_rfl))
 f287:=Tryz.func174.trans (congrArg some (by kernel_rfl))
 f316:=Tryz.func175.trans (congrArg some (by kernel_rfl))
 f317:=Tryz.func167.trans (congrArg some (by kernel_rfl))
 f318:=Tryz.func168.trans (congrArg some (by kernel_rfl))
 f319:=Tryz.func169.trans (congrArg some (by kernel_rfl))
 f320:=Tryz.func170.trans (congrArg some (by kernel_rfl))
 f321:=Tryz.func181.trans (congrArg some (by kernel_rfl))
 f322:=Tryz.func182.trans (congrArg some (by kernel_rfl))
 f337:=Tryz.func179.trans (congrArg some (by kernel_rfl))
 f338:=Tryz.func180.trans (congrArg some (by kernel_rfl))
 t0:=Tryz.underlying0
 a0:=Tryz.isAgg0
 z0:=Tryz.sizeOf0
 v0:=Tryz.zeroValue0
 t2:=Tryz.underlying2
 a2:=Tryz.isAgg2
 z2:=Tryz.sizeOf2
 v2:=Tryz.zeroValue2
 t3:=Tryz.underlying3
 a3:=Tryz.isAgg3
 z3:=Tryz.sizeOf3
 v3:=Tryz.zeroValue3
 t4:=Tryz.underlying4
 a4:=Tryz.isAgg4
 z4:=Tryz.sizeOf4
 v4:=Tryz.zeroValue4
 t5:=Tryz.underlying5
 a5:=Tryz.isAgg5
 z5:=Tryz.sizeOf5
 v5:=Tryz.zeroValue5
 t9:=Tryz.underlying9
 a9:=Tryz.isAgg9
 z9:=Tryz.sizeOf9
 v9:=Tryz.zeroValue9
 t20:=Tryz.underlying20
 a20:=Tryz.isAgg20
 z20:=Tryz.sizeOf20
 v20:=Tryz.zeroValue20
 t21:=Tryz.underlying21
 a21:=Tryz.isAgg21
 z21:=Tryz.sizeOf21
 v21:=Tryz.zeroValue21
 t37:=Tryz.underlying101
 a37:=Tryz.isAgg101
 z37:=Tryz.sizeOf101
 v37:=Tryz.zeroValue101
 t46:=Tryz.underlying157
 a46:=Tryz.isAgg157
 z46:=Tryz.sizeOf157
 v46:=Tryz.zeroValue157
 t51:=Tryz.underlying234
 a51:=Tryz.isAgg234
 z51:=Tryz.sizeOf234
 v51:=Tryz.zeroValue234
 t53:=Tryz.underlying90
 a53:=Tryz.isAgg90
 z53:=Tryz.sizeOf90
 v53:=Tryz.zeroValue90
 t75:=Tryz.underlying197
 a75:=Tryz.isAgg197
 z75:=Tryz.sizeOf197
 v75:=Tryz.zeroValue197
 t76:=Tryz.underlying198
 a76:=Tryz.isAgg198
 z76:=Tryz.sizeOf198
 v76:=Tryz.zeroValue198
 t85:=Tryz.underlying226
 a85:=Tryz.isAgg226
 z85:=Tryz.sizeOf226
 v85:=Tryz.zeroValue226
 t127:=Tryz.underlying251
 a127:=Tryz.isAgg251
 z127:=Tryz.sizeOf251
 v127:=Tryz.zeroValue251
 t143:=Tryz.underlying252
 a143:=Tryz.isAgg252
 z143:=Tryz.sizeOf252
 v143:=Tryz.zeroValue252
 t145:=Tryz.underlying254
 a145:=Tryz.isAgg254
 z145:=Tryz.sizeOf254
 v145:=Tryz.zeroValue254
 t167:=Tryz.underlying225
 a167:=Tryz.isAgg225
 z167:=Tryz.sizeOf225
 v167:=Tryz.zeroValue225
 t168:=Tryz.underlying228
 a168:=Tryz.isAgg228
 z168:=Tryz.sizeOf228
 v168:=Tryz.zeroValue228
 t171:=Tryz.underlying217
 a171:=Tryz.isAgg217
 z171:=Tryz.sizeOf217
 v171:=Tryz.zeroValue217
 t173:=Tryz.underlying219
 a173:=Tryz.isAgg219
 z173:=Tryz.sizeOf219
 v173:=Tryz.zeroValue219
 t175:=Tryz.underlying239
 a175:=Tryz.isAgg239
 z175:=Tryz.sizeOf239
 v175:=Tryz.zeroValue239
 t210:=Tryz.underlying243
 a210:=Tryz.isAgg243
 z210:=Tryz.sizeOf243
 v210:=Tryz.zeroValue243
 t212:=Tryz.underlying233
 a212:=Tryz.isAgg233
 z212:=Tryz.sizeOf233
 v212:=Tryz.zeroValue233
 t213:=Tryz.underlying235
 a213:=Tryz.isAgg235
 z213:=Tryz.sizeOf235
 t232:=Tryz.underlying255
 a232:=Tryz.isAgg255
 z232:=Tryz.sizeOf255
 v232:=Tryz.zeroValue255
 t233:=Tryz.underlying256
 a233:=Tryz.isAgg256
 z233:=Tryz.sizeOf256
 v233:=Tryz.zeroValue256
 g15:=by kernel_rfl
 g16:=by kernel_rfl
 g17:=by kernel_rfl
 g18:=by kernel_rfl
 g19:=by kernel_rfl
 t80:=Tryz.underlying47
 a80:=Tryz.isAgg47
 z80:=Tryz.sizeOf47
 v80:=Tryz.zeroValue47
 i0:=by kernel_rfl
 i2:=by kernel_rfl
 i3:=by kernel_rfl
 i4:=by kernel_rfl
 i5:=by kernel_rfl
 i9:=by kernel_rfl
 i20:=by kernel_rfl
 i21:=by kernel_rfl
 i37:=by kernel_rfl
 i46:=by kernel_rfl
 i51:=by kernel_rfl
 i53:=by kernel_rfl
 i75:=by kernel_rfl
 i76:=by kernel_rfl
 i80:=by kernel_rfl
 i85:=by kernel_rfl
 i127:=by kernel_rfl
 i143:=by kernel_rfl
 i145:=by kernel_rfl
 i167:=by kernel_rfl
 i168:=by kernel_rfl
 i171:=by kernel_rfl
 i173:=by kernel_rfl
 i175:=by kernel_rfl
 i210:=by kernel_rfl
 i212:=by kernel_rfl
 i232:=by kernel_rfl
 i233:=by kernel_rfl
 m15:=by kernel_rfl
 m16:=by kernel_rfl
 m17:=by kernel_rfl
 m18:=by kernel_rfl
 m19:=by kernel_rfl
 c0:=by kernel_rfl
 c2:=by kernel_rfl
 c3:=by kernel_rfl
 c4:=by kernel_rfl
 c5:=by kernel_rfl
 c9:=by kernel_rfl
 c20:=by kernel_rfl
 c21:=by kernel_rfl
 c37:=by kernel_rfl
 c46:=by kernel_rfl
 c51:=by kernel_rfl
 c53:=by kernel_rfl
 c75:=by kernel_rfl
 c76:=by kernel_rfl
 c80:=by kernel_rfl
 c85:=by kernel_rfl
 c127:=by kernel_rfl
 c143:=by kernel_rfl
 c145:=by kernel_rfl
 c167:=by kernel_rfl
 c168:=by kernel_rfl
 c171:=by kernel_rfl
 c173:=by kernel_rfl
 c175:=by kernel_rfl
 c210:=by kernel_rfl
 c212:=by kernel_rfl
 c213:=by kernel_rfl
 c232:=by kernel_rfl
 c233:=by kernel_rfl }
open Go.RowKit in
theorem Tryz.strconv_Atoi_ok (s:ByteArray) (hmax:s.size≤9223372036854775806) (v:Int) (h:Lib.atoiAll s.data.toList = .ok v) (w:World) :
  Calls Tryz.prog 129 #[.string s] w fun e w'=>e = .returned (.tuple #[.int .i64 v,.nilIface])∧(w' = w∨∃ t,w' = Lib.bytesWorld w 5 t):=Any.strconv_Atoi_ok Tryz.laysC172 s hmax v h w
open Go.RowKit in
theorem Tryz.strconv_Atoi_syntax_var (s : ByteArray) (hlim : s.size ≤ 281474976710656) (h : Lib.atoiAll s.data.toList = .«syntax») (tp : TypeId) (p : Value) (w : World) (hvar : w.var? Tryz.prog "strconv.ErrSyntax" = some #[.iface tp p]) :
  Calls Tryz.prog 129 #[.string s] w fun e w'=>∃ N,e = .returned (.tuple #[.int .i64 0,.iface 228 (.pointer (some ⟨N,0,none⟩))])∧w.heap.size≤N∧w'.heap[N]? = some (.cells #[.string ⟨#[65,116,111,105]⟩,.string s,.iface tp p] 243 (0,0))∧Below w.heap.size w w':=Any.strconv_Atoi_syntax_var Tryz.laysC172 s hlim h tp p w hvar
open Go.RowKit in
theorem Tryz.strconv_Atoi_range_var (s : ByteArray) (hlim : s.size ≤ 281474976710656) (h : Lib.atoiAll s.data.toList = .range) (tp : TypeId) (p : Value) (w : World) (hvar : w.var? Tryz.prog "strconv.ErrRange" = some #[.iface tp p]) :
  Calls Tryz.prog 129 #[.string s] w fun e w'=>∃ N,e = .returned (.tuple #[.int .i64 (Lib.atoiSat s.data.toList),.iface 228 (.pointer (some ⟨N,0,none⟩))])∧w.heap.size≤N∧w'.heap[N]? = some (.cells #[.string ⟨#[65,116,111,105]⟩,.string s,.iface tp p] 243 (0,0))∧Below w.heap.size w w':=Any.strconv_Atoi_range_var Tryz.laysC172 s hlim h tp p w hvar
def Tryz.lays219_ren:Go.Shelf.Ren:=⟨fun | 219=>138 | 217=>151 | 225=>152 | 224=>153 | 267=>154 | 266=>171 | 314=>172 | n=>n,fun | 9=>9 | 3=>3 | 4=>4 | 5=>5 | 46=>157 | 146=>237 | 51=>234 | n=>n,fun | 1=>4 | n=>n⟩
theorem Tryz.lays219:Go.Proofs.Lays.n219 Tryz.prog Tryz.lays219_ren:={
 mixed:=by kernel_rfl
 f217:=Tryz.func151.trans (congrArg some (by kernel_rfl))
 f219:=Tryz.func138.trans (congrArg some (by kernel_rfl))
 f224:=Tryz.func153.trans (congrArg some (by kernel_rfl))
 f225:=Tryz.func152.trans (congrArg some (by kernel_rfl))
 f266:=Tryz.func171.trans (congrArg some (by kernel_rfl))
 f267:=Tryz.func154.trans (congrArg some (by kernel_rfl))
 f314:=Tryz.func172.trans (congrArg some (by kernel_rfl))
 t3:=Tryz.underlying3
 a3:=Tryz.isAgg3
 z3:=Tryz.sizeOf3
 v3:=Tryz.zeroValue3
 t4:=Tryz.underlying4
 a4:=Tryz.isAgg4
 z4:=Tryz.sizeOf4
 v4:=Tryz.zeroValue4
 t5:=Tryz.underlying5
 a5:=Tryz.isAgg5
 z5:=Tryz.sizeOf5
 v5:=Tryz.zeroValue5
 t9:=Tryz.underlying9
 a9:=Tryz.isAgg9
 z9:=Tryz.sizeOf9
 v9:=Tryz.zeroValue9
 t46:=Tryz.underlying157
 a46:=Tryz.isAgg157
 z46:=Tryz.sizeOf157
 v46:=Tryz.zeroValue157
 t51:=Tryz.underlying234
 a51:=Tryz.isAgg234
 z51:=Tryz.sizeOf234
 v51:=Tryz.zeroValue234
 t146:=Tryz.underlying237
 a146:=Tryz.isAgg237
 z146:=Tryz.sizeOf237
 v146:=Tryz.zeroValue237
 g1:=by kernel_rfl }
open Go.RowKit Go.Lib in
theorem Tryz.stringslite_Index_one (s:ByteArray) (c:UInt8) (w:World) :
  Calls Tryz.prog 138 #[.string s,.string ⟨#[c]⟩] w fun e w'=>e = .returned (.int .i64 (Lib.indexByte s.data.toList c))∧w' = w:=Any.stringslite_Index_one Tryz.lays219 s c w
def Tryz.laysM249_ren:Go.Shelf.Ren:=⟨fun | 249=>115 | 288=>136 | 283=>147 | 284=>148 | 285=>149 | 286=>150 | 129=>166 | 317=>167 | 318=>168 | 319=>169 | 320=>170 | 337=>179 | 338=>180 | n=>n,fun | 37=>101 | 2=>2 | 3=>3 | 53=>90 | 4=>4 | 9=>9 | 171=>217 | 0=>0 | 173=>219 | 212=>233 | 51=>234 | 5=>5 | 20=>20 | 213=>235 | 46=>157 | 232=>255 | 233=>256 | n=>n,fun | 17=>5 | 18=>10 | 19=>11 | n=>n⟩
def Tryz.laysM176_ren:Go.Shelf.Ren:=⟨fun | 176=>82 | 249=>115 | 288=>136 | 283=>147 | 284=>148 | 285=>149 | 286=>150 | 129=>166 | 317=>167 | 318=>168 | 319=>169 | 320=>170 | 337=>179 | 338=>180 | n=>n,fun | 37=>101 | 2=>2 | 3=>3 | 53=>90 | 4=>4 | 9=>9 | 171=>217 | 0=>0 | 173=>219 | 212=>233 | 51=>234 | 5=>5 | 20=>20 | 213=>235 | 46=>157 | 232=>255 | 233=>256 | n=>n,fun | 17=>5 | 18=>10 | 19=>11 | n=>n⟩
theorem Tryz.laysM176:Go.Proofs.LaysM.n176 Tryz.prog Tryz.laysM176_ren:={
 mixed:=by kernel_rfl
 f129:=Tryz.func166.trans (congrArg some (by kernel_rfl))
 f176:=Tryz.func82.trans (congrArg some (by kernel_rfl))
 f249:=Tryz.func115.trans (congrArg some (by kernel_rfl))
 f283:=Tryz.func147.trans (congrArg some (by kernel_rfl))
 f284:=Tryz.func148.trans (congrArg some (by kernel_rfl))
 f285:=Tryz.func149.trans (congrArg some (by kernel_rfl))
 f286:=Tryz.func150.trans (congrArg some (by kernel_rfl))
 f288:=Tryz.func136.trans (congrArg some (by kernel_rfl))
 f317:=Tryz.func167.trans (congrArg some (by kernel_rfl))
 f318:=Tryz.func168.trans (congrArg some (by kernel_rfl))
 f319:=Tryz.func169.trans (congrArg some (by kernel_rfl))
 f320:=Tryz.func170.trans (congrArg some (by kernel_rfl))
 f337:=Tryz.func179.trans (congrArg some (by kernel_rfl))
 f338:=Tryz.func180.trans (congrArg some (by kernel_rfl))
 t0:=Tryz.underlying0
 a0:=Tryz.isAgg0
 z0:=Tryz.sizeOf0
 v0:=Tryz.zeroValue0
 t2:=Tryz.underlying2
 a2:=Tryz.isAgg2
 z2:=Tryz.sizeOf2
 v2:=Tryz.zeroValue2
 t3:=Tryz.underlying3
 a3:=Tryz.isAgg3
 z3:=Tryz.sizeOf3
 v3:=Tryz.zeroValue3
 t4:=Tryz.underlying4
 a4:=Tryz.isAgg4
 z4:=Tryz.sizeOf4
 v4:=Tryz.zeroValue4
 t5:=Tryz.underlying5
 a5:=Tryz.isAgg5
 z5:=Tryz.sizeOf5
 v5:=Tryz.zeroValue5
 t9:=Tryz.underlying9
 a9:=Tryz.isAgg9
 z9:=Tryz.sizeOf9
 v9:=Tryz.zeroValue9
 t20:=Tryz.underlying20
 a20:=Tryz.isAgg20
 z20:=Tryz.sizeOf20
 v20:=Tryz.zeroValue20
 t37:=Tryz.underlying101
 a37:=Tryz.isAgg101
 z37:=Tryz.sizeOf101
 v37:=Tryz.zeroValue101
 t46:=Tryz.underlying157
 a46:=Tryz.isAgg157
 z46:=Tryz.sizeOf157
 v46:=Tryz.zeroValue157
 t51:=Tryz.underlying234
 a51:=Tryz.isAgg234
 z51:=Tryz.sizeOf234
 v51:=Tryz.zeroValue234
 t53:=Tryz.underlying90
 a53:=Tryz.isAgg90
 z53:=Tryz.sizeOf90
 v53:=Tryz.zeroValue90
 t171:=Tryz.underlying217
 a171:=Tryz.isAgg217
 z171:=Tryz.sizeOf217
 v171:=Tryz.zeroValue217
 t173:=Tryz.underlying219
 a173:=Tryz.isAgg219
 z173:=Tryz.sizeOf219
 v173:=Tryz.zeroValue219
 t212:=Tryz.underlying233
 a212:=Tryz.isAgg233
 z212:=Tryz.sizeOf233
 v212:=Tryz.zeroValue233
 t213:=Tryz.underlying235
 a213:=Tryz.isAgg235
 z213:=Tryz.sizeOf235
 t232:=Tryz.underlying255
 a232:=Tryz.isAgg255
 z232:=Tryz.sizeOf255
 v232:=Tryz.zeroValue255
 t233:=Tryz.underlying256
 a233:=Tryz.isAgg256
 z233:=Tryz.sizeOf256
 v233:=Tryz.zeroValue256
 g17:=by kernel_rfl
 g18:=by kernel_rfl
 g19:=by kernel_rfl
 i0:=by kernel_rfl
 i2:=by kernel_rfl
 i3:=by kernel_rfl
 i4:=by kernel_rfl
 i5:=by kernel_rfl
 i9:=by kernel_rfl
 i20:=by kernel_rfl
 i37:=by kernel_rfl
 i46:=by kernel_rfl
 i51:=by kernel_rfl
 i53:=by kernel_rfl
 i171:=by kernel_rfl
 i173:=by kernel_rfl
 i212:=by kernel_rfl
 i232:=by kernel_rfl
 i233:=by kernel_rfl
 m17:=by kernel_rfl
 m18:=by kernel_rfl
 m19:=by kernel_rfl }
open Go.RowKit Go.Sort Go.Lib in
theorem Tryz.strconv_AppendInt_10 (B n : Nat) (i : Int) (h0 : -9223372036854775808 ≤ i) (h1 : i ≤ 9223372036854775807) (sv : Value) (xs : List Value) (w : World) (hown : w.ownsRow B 5 1 sv n xs) (hBw : B ≤ w.heap.size) (hlim : n + 21 ≤ 140737488355328) (htab : Lib.TabBelow Tryz.prog B w "internal/strconv.uint64pow10" .u64 Lib.pow10Tab) :
  Calls Tryz.prog 82 #[sv,.int .i64 i,.int .i64 10] w fun e w'=>∃ v',e = .returned v'∧w'.ownsRow B 5 1 v' (n+(Lib.itoa i).length) (xs ++ Lib.byteCells (Lib.itoa i))∧Below B w w'∧Lib.OthersKept 5 none w w':=Any.strconv_AppendInt_10 Tryz.laysM176 B n i h0 h1 sv xs w hown hBw hlim htab
def Tryz.lays221_ren:Go.Shelf.Ren:=⟨fun | 221=>128 | 268=>139 | 138=>140 | 143=>141 | 195=>155 | 197=>156 | 218=>157 | 219=>138 | 260=>173 | 217=>151 | 225=>152 | 224=>153 | 267=>154 | 266=>171 | 314=>172 | n=>n,fun | 9=>9 | 3=>3 | 31=>135 | 4=>4 | 0=>0 | 105=>223 | 21=>21 | 5=>5 | 46=>157 | 119=>246 | 139=>249 | 138=>248 | 146=>237 | 51=>234 | n=>n,fun | 1=>4 | 3=>8 | 4=>9 | n=>n⟩
def Tryz.lays147_ren:Go.Shelf.Ren:=⟨fun | 147=>102 | 221=>128 | 268=>139 | 138=>140 | 143=>141 | 195=>155 | 197=>156 | 218=>157 | 219=>138 | 260=>173 | 217=>151 | 225=>152 | 224=>153 | 267=>154 | 266=>171 | 314=>172 | n=>n,fun | 9=>9 | 3=>3 | 31=>135 | 4=>4 | 0=>0 | 105=>223 | 21=>21 | 5=>5 | 46=>157 | 119=>246 | 139=>249 | 138=>248 | 146=>237 | 51=>234 | n=>n,fun | 1=>4 | 3=>8 | 4=>9 | n=>n⟩
theorem Tryz.lays147:Go.Proofs.Lays.n147 Tryz.prog Tryz.lays147_ren:={
 mixed:=by kernel_rfl
 f138:=Tryz.func140.trans (congrArg some (by kernel_rfl))
 f143:=Tryz.func141.trans (congrArg some (by kernel_rfl))
 f147:=Tryz.func102.trans (congrArg some (by kernel_rfl))
 f195:=Tryz.func155.trans (congrArg some (by kernel_rfl))
 f197:=Tryz.func156.trans (congrArg some (by kernel_rfl))
 f217:=Tryz.func151.trans (congrArg some (by kernel_rfl))
 f218:=Tryz.func157.trans (congrArg some (by kernel_rfl))
 f219:=Tryz.func138.trans (congrArg some (by kernel_rfl))
 f221:=Tryz.func128.trans (congrArg some (by kernel_rfl))
 f224:=Tryz.func153.trans (congrArg some (by kernel_rfl))
 f225:=Tryz.func152.trans (congrArg some (by kernel_rfl))
 f260:=Tryz.func173.trans (congrArg some (by kernel_rfl))
 f266:=Tryz.func171.trans (congrArg some (by kernel_rfl))
 f267:=Tryz.func154.trans (congrArg some (by kernel_rfl))
 f268:=Tryz.func139.trans (congrArg some (by kernel_rfl))
 f314:=Tryz.func172.trans (congrArg some (by kernel_rfl))
 t0:=Tryz.underlying0
 a0:=Tryz.isAgg0
 z0:=Tryz.sizeOf0
 v0:=Tryz.zeroValue0
 t3:=Tryz.underlying3
 a3:=Tryz.isAgg3
 z3:=Tryz.sizeOf3
 v3:=Tryz.zeroValue3
 t4:=Tryz.underlying4
 a4:=Tryz.isAgg4
 z4:=Tryz.sizeOf4
 v4:=Tryz.zeroValue4
 t5:=Tryz.underlying5
 a5:=Tryz.isAgg5
 z5:=Tryz.sizeOf5
 v5:=Tryz.zeroValue5
 t9:=Tryz.underlying9
 a9:=Tryz.isAgg9
 z9:=Tryz.sizeOf9
 v9:=Tryz.zeroValue9
 t21:=Tryz.underlying21
 a21:=Tryz.isAgg21
 z21:=Tryz.sizeOf21
 v21:=Tryz.zeroValue21
 t31:=Tryz.underlying135
 a31:=Tryz.isAgg135
 z31:=Tryz.sizeOf135
 v31:=Tryz.zeroValue135
 t46:=Tryz.underlying157
 a46:=Tryz.isAgg157
 z46:=Tryz.sizeOf157
 v46:=Tryz.zeroValue157
 t51:=Tryz.underlying234
 a51:=Tryz.isAgg234
 z51:=Tryz.sizeOf234
 v51:=Tryz.zeroValue234
 t105:=Tryz.underlying223
 a105:=Tryz.isAgg223
 z105:=Tryz.sizeOf223
 v105:=Tryz.zeroValue223
 t119:=Tryz.underlying246
 a119:=Tryz.isAgg246
 z119:=Tryz.sizeOf246
 t138:=Tryz.underlying248
 a138:=Tryz.isAgg248
 z138:=Tryz.sizeOf248
 v138:=Tryz.zeroValue248
 t139:=Tryz.underlying249
 a139:=Tryz.isAgg249
 z139:=Tryz.sizeOf249
 v139:=Tryz.zeroValue249
 t146:=Tryz.underlying237
 a146:=Tryz.isAgg237
 z146:=Tryz.sizeOf237
 v146:=Tryz.zeroValue237
 g1:=by kernel_rfl
 g3:=by kernel_rfl
 g4:=by kernel_rfl }
open Go.RowKit Go.Lib in
theorem Tryz.strings_SplitN (s sep:ByteArray) (n:Nat) (m:Int) (w:World) (hs:s.size < 4294967281) (hm:w.cell? ⟨4,0,none⟩ = some (.int .i64 m)) (h1:1≤sep.size) (hn:1≤n) (hn63:n≤9223372036854775807) :
  Calls Tryz.prog 102 #[.string s,.string sep,.int .i64 n] w fun e w' =>
   e = .returned (.slice (some ⟨w.heap.size,0,none⟩) (Lib.splitB sep 0 (min n (s.size+1) - 1) s).length (min n (s.size+1)))∧w' = w.alloc (.cells (Lib.cellsOf (Lib.splitB sep 0 (min n (s.size+1) - 1) s) (min n (s.size+1))) 9):=Any.strings_SplitN Tryz.lays147 (by kernel_rfl) s sep n m w hs hm h1 hn hn63
end Go.Proofs
