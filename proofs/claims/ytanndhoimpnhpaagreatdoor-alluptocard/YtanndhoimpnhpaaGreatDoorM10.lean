/- Joined by program: RnA, RnB, RnC. -/
import Derived.Test.YtanndhoimpnhpaaGreatDoorM9
namespace Go.Proofs.YtanndhoimpnhpaaGreatDoor
open Go.ChangeShapes Go.WideShapes Go.ChangeAt Go.RowKit
noncomputable def runL1:Code:=(((Tryz.f60).body.map loopsOf).getD [])[0]?.getD .skip
set_option maxRecDepth 1000000 in
set_option maxHeartbeats 8000000 in
theorem run_loop1 (w:World) (B H N:Nat) (t:Ln.Terms) (evv:Value) (g0:Ln.St) (day0:Int) (bkv:Value) (base:Nat) (L:List En) (hB:At w B (dl t evv g0 day0 bkv)) (hown:w.ownsRow base 114 3 bkv L.length (ens L)) (hH:At w H (hc N (fun _=>0))) (hHB:¬ H = B) (hbH:∀ b,bkv.ownBlock = some b→¬ b = H) (hN:N≤48100) (hL:L.length≤5000000000000)
  (HOk:Hid (∀ e∈L,t.st≤e.d∧e.d≤t.st+3700∧1≤e.k∧e.k≤12∧13*(e.d - t.st)+e.k < N))
  (c1 c2 c3 c4 c5 c6 c9 c10 c11 c12 c13 c14 c15 c16 c17 c18 c19 c20 c21 c22 c23 c24 c25 c26 c27 c28 c29 c30 c31 c32 c33 c34 c35 c36 c37 c38 c39 c40 c41 c42 c43 c44 c45 c46 c47 c48 c49 c50 c51 c52 c53 c54 c55 c56 c57 c58 c59 c60 c61 c62 c63 c64 c65 c66 c67 c68 c69 c70 c71 c72 c73 c74 c75 c76 c77 c78 c79 c80 c81 c82 c83 c84 c85 c86 c87 c88 c89 c90 c91 c92 c93 c94 c95 c96 c97 c98 c99 c100 c101 c102 c103 c104 c105 c106 c107 c108 c109 c110 c111 c112 c113 c114 c115 c116 c117 c118 c119 c120 c121 c122 c123 c124 c125 c126 c127 c128 c129 c130 c131 c132 c133 c134 c135 c136 c137 c138 c139 c140 c141 c142 c143 c144 c145 c146 c147 c148 c149 c150 c151 c152 c153 c154 c155 c156 c157 c158 c159 c160 c161 c162 c163 c164 c165 c166 c167 c168 c169 c170 c171 c172 c173 c174 c175 c176 c177 c178 c179 c180 c181 c182 c183 c184 c185 c186 c187 c188 c189 c190 c191 c192 c193 c194 c195 c196 c197 c198 c199 c200 c201 c202 c203 c204 c205 c206 c207 c208 c209:Value) (Q0:Exit→Act→World→Prop) (hpan:∀ x (a:Act) o v w,Q0 (.panic x) (a.put o v) w→Q0 (.panic x) a w)
  (hexit:∀ (u8 u9 u57 u58 u59 u60 u61 u62 u63 u64 u65 u66 u67 u68 u69 u70 u71 u72 u73 u74 u75 u76 u77 u78 u79 u80 u81 u82 u83 u84 u85 u86 u87 u88 u89 u90 u91 u92 u93 u94 u95 u96 u97 u98 u99 u100 u101 u102 u103 u104 u105:Value) (wz:World),At wz H (hc N (hv t.st L))→Keep (fun b=>b = H) w wz→Q0 (.exit 0) ⟨((.pointer (some ⟨B,0,none⟩)) :: c1 :: c2 :: c3 :: c4 :: c5 :: c6 :: (.slice (some ⟨H,0,none⟩) N N) :: u8 :: u9 :: c10 :: c11 :: c12 :: c13 :: c14 :: c15 :: c16 :: c17 :: c18 :: c19 :: c20 :: c21 :: c22 :: c23 :: c24 :: c25 :: c26 :: c27 :: c28 :: c29 :: c30 :: c31 :: c32 :: c33 :: c34 :: c35 :: c36 :: c37 :: c38 :: c39 :: c40 :: c41 :: c42 :: c43 :: c44 :: c45 :: c46 :: c47 :: c48 :: c49 :: c50 :: c51 :: c52 :: c53 :: c54 :: c55 :: c56 :: u57 :: u58 :: u59 :: u60 :: u61 :: u62 :: u63 :: u64 :: u65 :: u66 :: u67 :: u68 :: u69 :: u70 :: u71 :: u72 :: u73 :: u74 :: u75 :: u76 :: u77 :: u78 :: u79 :: u80 :: u81 :: u82 :: u83 :: u84 :: u85 :: u86 :: u87 :: u88 :: u89 :: u90 :: u91 :: u92 :: u93 :: u94 :: u95 :: u96 :: u97 :: u98 :: u99 :: u100 :: u101 :: u102 :: u103 :: u104 :: u105 :: c106 :: c107 :: c108 :: c109 :: c110 :: c111 :: c112 :: c113 :: c114 :: c115 :: c116 :: c117 :: c118 :: c119 :: c120 :: c121 :: c122 :: c123 :: c124 :: c125 :: c126 :: c127 :: c128 :: c129 :: c130 :: c131 :: c132 :: c133 :: c134 :: c135 :: c136 :: c137 :: c138 :: c139 :: c140 :: c141 :: c142 :: c143 :: c144 :: c145 :: c146 :: c147 :: c148 :: c149 :: c150 :: c151 :: c152 :: c153 :: c154 :: c155 :: c156 :: c157 :: c158 :: c159 :: c160 :: c161 :: c162 :: c163 :: c164 :: c165 :: c166 :: c167 :: c168 :: c169 :: c170 :: c171 :: c172 :: c173 :: c174 :: c175 :: c176 :: c177 :: c178 :: c179 :: c180 :: c181 :: c182 :: c183 :: c184 :: c185 :: c186 :: c187 :: c188 :: c189 :: c190 :: c191 :: c192 :: c193 :: c194 :: c195 :: c196 :: c197 :: c198 :: c199 :: c200 :: c201 :: c202 :: c203 :: c204 :: c205 :: c206 :: c207 :: c208 :: c209 :: []).toArray,[]⟩ wz) :
  Code.wp Tryz.prog (Code.loop runL1) Q0 ⟨((.pointer (some ⟨B,0,none⟩)) :: c1 :: c2 :: c3 :: c4 :: c5 :: c6 :: (.slice (some ⟨H,0,none⟩) N N) :: (.int .i64 0) :: c9 :: c10 :: c11 :: c12 :: c13 :: c14 :: c15 :: c16 :: c17 :: c18 :: c19 :: c20 :: c21 :: c22 :: c23 :: c24 :: c25 :: c26 :: c27 :: c28 :: c29 :: c30 :: c31 :: c32 :: c33 :: c34 :: c35 :: c36 :: c37 :: c38 :: c39 :: c40 :: c41 :: c42 :: c43 :: c44 :: c45 :: c46 :: c47 :: c48 :: c49 :: c50 :: c51 :: c52 :: c53 :: c54 :: c55 :: c56 :: c57 :: c58 :: c59 :: c60 :: c61 :: c62 :: c63 :: c64 :: c65 :: c66 :: c67 :: c68 :: c69 :: c70 :: c71 :: c72 :: c73 :: c74 :: c75 :: c76 :: c77 :: c78 :: c79 :: c80 :: c81 :: c82 :: c83 :: c84 :: c85 :: c86 :: c87 :: c88 :: c89 :: c90 :: c91 :: c92 :: c93 :: c94 :: c95 :: c96 :: c97 :: c98 :: c99 :: c100 :: c101 :: c102 :: c103 :: c104 :: c105 :: c106 :: c107 :: c108 :: c109 :: c110 :: c111 :: c112 :: c113 :: c114 :: c115 :: c116 :: c117 :: c118 :: c119 :: c120 :: c121 :: c122 :: c123 :: c124 :: c125 :: c126 :: c127 :: c128 :: c129 :: c130 :: c131 :: c132 :: c133 :: c134 :: c135 :: c136 :: c137 :: c138 :: c139 :: c140 :: c141 :: c142 :: c143 :: c144 :: c145 :: c146 :: c147 :: c148 :: c149 :: c150 :: c151 :: c152 :: c153 :: c154 :: c155 :: c156 :: c157 :: c158 :: c159 :: c160 :: c161 :: c162 :: c163 :: c164 :: c165 :: c166 :: c167 :: c168 :: c169 :: c170 :: c171 :: c172 :: c173 :: c174 :: c175 :: c176 :: c177 :: c178 :: c179 :: c180 :: c181 :: c182 :: c183 :: c184 :: c185 :: c186 :: c187 :: c188 :: c189 :: c190 :: c191 :: c192 :: c193 :: c194 :: c195 :: c196 :: c197 :: c198 :: c199 :: c200 :: c201 :: c202 :: c203 :: c204 :: c205 :: c206 :: c207 :: c208 :: c209 :: []).toArray,[]⟩ w:=by
 conv=>arg 2; arg 1; whnf
 have HB:=(show Hid _ from hB)
 have HO:=(show Hid _ from hown)
 have HH:=(show Hid _ from hH)
 clear hB hown hH
 go_loopw [8] (fun i wr=>∃ k:Nat,k≤L.length∧i = .int .i64 k∧At wr H (hc N (hv t.st (L.take k)))∧Keep (fun b=>b = H) w wr) (fun i _=>L.length - (intOf i).toNat)
 case atStart=>exact ⟨0,by omega,rfl,HH.out,Keep.refl _ _⟩
 case round =>
  obtain ⟨k,hk,rfl,hat,hkp⟩:=hrel
  have hBw:At wr B (dl t evv g0 day0 bkv):=At.keep (v:=.int .i64 t.st) HB.out hkp (fun h=>hHB h.symm)
  have c_0:wr.cell? ⟨B,0,none⟩ = some (.int .i64 t.st):=hBw.cell 0 rfl
  have c_15:wr.cell? ⟨B,15,none⟩ = some bkv:=hBw.cell 15 rfl
  obtain ⟨p0,cap0,rfl⟩:=own_slice HO.out
  by_cases hlt:k < L.length
  ·have hO2:w.ownsRow base 114 3 (.slice p0 L.length cap0) L.length (ens L):=HO.out
   obtain ⟨g,cap2,hform,hgb,hgl⟩:=hO2.form (by omega)
   obtain ⟨rfl,rfl⟩:p0 = some ⟨g,0,none⟩∧cap0 = cap2:=by
    injection hform with a b c
    exact ⟨a,c⟩
   obtain ⟨q0,q1,q2⟩:=en_range hO2 rfl k hlt
   have hgH:¬ g = H:=hbH g rfl
   have hkg:=hkp.block g (World.block_lt_of_cell? _ _ q0) hgH
   have r0:wr.drew.cell? ⟨g,k*3,none⟩ = some (.int .i64 L[k].d):=(World.cell?_of_block (w:=w) (a:=⟨g,k*3,none⟩) hkg).trans q0
   have r1:wr.drew.cell? ⟨g,k*3+1,none⟩ = some (.int .i64 L[k].k):=(World.cell?_of_block (w:=w) (a:=⟨g,k*3+1,none⟩) hkg).trans q1
   have r2:wr.drew.cell? ⟨g,k*3+2,none⟩ = some (.int .i64 L[k].a):=(World.cell?_of_block (w:=w) (a:=⟨g,k*3+2,none⟩) hkg).trans q2
   obtain ⟨o0,o1,o2,o3,o4⟩:=HOk.out L[k] (List.getElem_mem hlt)
   have HV:=(show Hid _ from hv_take t.st L k hlt)
   clear hO2 hform q0 q1 q2 hkg
   generalize hed:L[k].d = ed at *
   generalize hek:L[k].k = ek at *
   generalize hea:L[k].a = ea at *
   obtain ⟨j,hj⟩:∃ j:Nat,13*(ed - t.st)+ek = (j:Int):=⟨(13*(ed - t.st)+ek).toNat,by omega⟩
   have hjN:j < N:=by omega
   have x1:IntKind.i64.wrap (ed - t.st) = ed - t.st:=by rw [IntKind.wrap_i64]; omega
   have x2:IntKind.i64.wrap (13*(ed - t.st)) = 13*(ed - t.st):=by rw [IntKind.wrap_i64]; omega
   have x3:IntKind.i64.wrap (13*(ed - t.st)+ek) = (j:Int):=by rw [hj,IntKind.wrap_i64]; omega
   have x4:IntKind.i64.wrap (j:Int) = j:=by rw [IntKind.wrap_i64]; omega
   have d_0:wr.drew.cell? ⟨B,0,none⟩ = some (.int .i64 t.st):=c_0
   have d_15:wr.drew.cell? ⟨B,15,none⟩ = some (.slice (some ⟨g,0,none⟩) L.length cap0):=c_15
   go_wp2_with fail
   clear c_0 c_15
   refine wp_region_held_drew (S:=fun wz=>wz = wr.drew) (by kernel_rfl) rfl (fun hHeld=>?_)
   refine wpAnyH_take (i:=0) (v:=.pointer (some ⟨B,0,none⟩)) rfl (by kernel_rfl) (by kernel_rfl) (by kernel_rfl) (fun _ _ _ h=>hpan _ _ _ _ _ h) (Or.inl ⟨by rfl,fun wx hSw=>by (subst hSw; go_simp)⟩) (by assumption) ?_
   simp only [uP]
   refine wpAnyH_take (i:=1) (v:=.pointer (some ⟨B,0,none⟩)) rfl (by kernel_rfl) (by kernel_rfl) (by kernel_rfl) (fun _ _ _ h=>hpan _ _ _ _ _ h) (Or.inl ⟨by rfl,fun wx hSw=>by (subst hSw; go_simp)⟩) (by assumption) ?_
   simp only [uP]
   refine wpAnyH_take (i:=2) (v:=.pointer (some ⟨B,15,none⟩)) rfl (by kernel_rfl) (by kernel_rfl) (by kernel_rfl) (fun _ _ _ h=>hpan _ _ _ _ _ h) (Or.inl ⟨by rfl,fun wx hSw=>by (subst hSw; go_simp)⟩) (by assumption) ?_
   simp only [uP]
   refine wpAnyH_take (i:=3) (v:=.slice (some ⟨g,0,none⟩) L.length cap0) rfl (by kernel_rfl) (by kernel_rfl) (by kernel_rfl) (fun _ _ _ h=>hpan _ _ _ _ _ h) (Or.inl ⟨by rfl,fun wx hSw=>by (subst hSw; go_simp)⟩) (by assumption) ?_
   simp only [uP]
   refine wpAnyH_take (i:=4) (v:=.int .i64 k) rfl (by kernel_rfl) (by kernel_rfl) (by kernel_rfl) (fun _ _ _ h=>hpan _ _ _ _ _ h) (Or.inl ⟨by rfl,fun wx hSw=>by (subst hSw; go_simp)⟩) (by assumption) ?_
   simp only [uP]
   refine wpAnyH_take (i:=5) (v:=.pointer (some ⟨g,k*3,none⟩)) rfl (by kernel_rfl) (by kernel_rfl) (by kernel_rfl) (fun _ _ _ h=>hpan _ _ _ _ _ h) (Or.inl ⟨by rfl,fun wx hSw=>by (subst hSw; go_simp)⟩) (by assumption) ?_
   simp only [uP]
   refine wpAnyH_take (i:=6) (v:=.pointer (some ⟨g,k*3,none⟩)) rfl (by kernel_rfl) (by kernel_rfl) (by kernel_rfl) (fun _ _ _ h=>hpan _ _ _ _ _ h) (Or.inl ⟨by rfl,fun wx hSw=>by (subst hSw; go_simp)⟩) (by assumption) ?_
   simp only [uP]
   refine wpAnyH_take (i:=7) (v:=.int .i64 ed) rfl (by kernel_rfl) (by kernel_rfl) (by kernel_rfl) (fun _ _ _ h=>hpan _ _ _ _ _ h) (Or.inl ⟨by rfl,fun wx hSw=>by (subst hSw; go_simp)⟩) (by assumption) ?_
   simp only [uP]
   refine wpAnyH_take (i:=8) (v:=.pointer (some ⟨B,0,none⟩)) rfl (by kernel_rfl) (by kernel_rfl) (by kernel_rfl) (fun _ _ _ h=>hpan _ _ _ _ _ h) (Or.inl ⟨by rfl,fun wx hSw=>by (subst hSw; go_simp)⟩) (by assumption) ?_
   simp only [uP]
   refine wpAnyH_take (i:=9) (v:=.pointer (some ⟨B,0,none⟩)) rfl (by kernel_rfl) (by kernel_rfl) (by kernel_rfl) (fun _ _ _ h=>hpan _ _ _ _ _ h) (Or.inl ⟨by rfl,fun wx hSw=>by (subst hSw; go_simp)⟩) (by assumption) ?_
   simp only [uP]
   refine wpAnyH_take (i:=10) (v:=.pointer (some ⟨B,0,none⟩)) rfl (by kernel_rfl) (by kernel_rfl) (by kernel_rfl) (fun _ _ _ h=>hpan _ _ _ _ _ h) (Or.inl ⟨by rfl,fun wx hSw=>by (subst hSw; go_simp)⟩) (by assumption) ?_
   simp only [uP]
   refine wpAnyH_take (i:=11) (v:=.pointer (some ⟨B,0,none⟩)) rfl (by kernel_rfl) (by kernel_rfl) (by kernel_rfl) (fun _ _ _ h=>hpan _ _ _ _ _ h) (Or.inl ⟨by rfl,fun wx hSw=>by (subst hSw; go_simp)⟩) (by assumption) ?_
   simp only [uP]
   refine wpAnyH_take (i:=12) (v:=.int .i64 t.st) rfl (by kernel_rfl) (by kernel_rfl) (by kernel_rfl) (fun _ _ _ h=>hpan _ _ _ _ _ h) (Or.inl ⟨by rfl,fun wx hSw=>by (subst hSw; go_simp)⟩) (by assumption) ?_
   simp only [uP]
   refine wpAnyH_take (i:=13) (v:=.int .i64 (ed - t.st)) rfl (by kernel_rfl) (by kernel_rfl) (by kernel_rfl) (fun _ _ _ h=>hpan _ _ _ _ _ h) (Or.inl ⟨by rfl,fun wx hSw=>by (subst hSw; go_simp)⟩) (by assumption) ?_
   simp only [uP]
   refine wpAnyH_take (i:=14) (v:=.int .i64 (13*(ed - t.st))) rfl (by kernel_rfl) (by kernel_rfl) (by kernel_rfl) (fun _ _ _ h=>hpan _ _ _ _ _ h) (Or.inl ⟨by rfl,fun wx hSw=>by (subst hSw; go_simp)⟩) (by assumption) ?_
   simp only [uP]
   refine wpAnyH_take (i:=15) (v:=.pointer (some ⟨B,0,none⟩)) rfl (by kernel_rfl) (by kernel_rfl) (by kernel_rfl) (fun _ _ _ h=>hpan _ _ _ _ _ h) (Or.inl ⟨by rfl,fun wx hSw=>by (subst hSw; go_simp)⟩) (by assumption) ?_
   simp only [uP]
   refine wpAnyH_take (i:=16) (v:=.pointer (some ⟨B,0,none⟩)) rfl (by kernel_rfl) (by kernel_rfl) (by kernel_rfl) (fun _ _ _ h=>hpan _ _ _ _ _ h) (Or.inl ⟨by rfl,fun wx hSw=>by (subst hSw; go_simp)⟩) (by assumption) ?_
   simp only [uP]
   refine wpAnyH_take (i:=17) (v:=.pointer (some ⟨B,15,none⟩)) rfl (by kernel_rfl) (by kernel_rfl) (by kernel_rfl) (fun _ _ _ h=>hpan _ _ _ _ _ h) (Or.inl ⟨by rfl,fun wx hSw=>by (subst hSw; go_simp)⟩) (by assumption) ?_
   simp only [uP]
   refine wpAnyH_take (i:=18) (v:=.slice (some ⟨g,0,none⟩) L.length cap0) rfl (by kernel_rfl) (by kernel_rfl) (by kernel_rfl) (fun _ _ _ h=>hpan _ _ _ _ _ h) (Or.inl ⟨by rfl,fun wx hSw=>by (subst hSw; go_simp)⟩) (by assumption) ?_
   simp only [uP]
   refine wpAnyH_take (i:=19) (v:=.int .i64 k) rfl (by kernel_rfl) (by kernel_rfl) (by kernel_rfl) (fun _ _ _ h=>hpan _ _ _ _ _ h) (Or.inl ⟨by rfl,fun wx hSw=>by (subst hSw; go_simp)⟩) (by assumption) ?_
   simp only [uP]
   refine wpAnyH_take (i:=20) (v:=.pointer (some ⟨g,k*3,none⟩)) rfl (by kernel_rfl) (by kernel_rfl) (by kernel_rfl) (fun _ _ _ h=>hpan _ _ _ _ _ h) (Or.inl ⟨by rfl,fun wx hSw=>by (subst hSw; go_simp)⟩) (by assumption) ?_
   simp only [uP]
   refine wpAnyH_take (i:=21) (v:=.pointer (some ⟨g,k*3+1,none⟩)) rfl (by kernel_rfl) (by kernel_rfl) (by kernel_rfl) (fun _ _ _ h=>hpan _ _ _ _ _ h) (Or.inl ⟨by rfl,fun wx hSw=>by (subst hSw; go_simp)⟩) (by assumption) ?_
   simp only [uP]
   refine wpAnyH_take (i:=22) (v:=.int .i64 ek) rfl (by kernel_rfl) (by kernel_rfl) (by kernel_rfl) (fun _ _ _ h=>hpan _ _ _ _ _ h) (Or.inl ⟨by rfl,fun wx hSw=>by (subst hSw; go_simp)⟩) (by assumption) ?_
   simp only [uP]
   refine wpAnyH_take (i:=23) (v:=.int .i64 j) rfl (by kernel_rfl) (by kernel_rfl) (by kernel_rfl) (fun _ _ _ h=>hpan _ _ _ _ _ h) (Or.inl ⟨by rfl,fun wx hSw=>by (subst hSw; go_simp)⟩) (by assumption) ?_
   simp only [uP]
   refine wpAnyH_take (i:=24) (v:=.int .i64 j) rfl (by kernel_rfl) (by kernel_rfl) (by kernel_rfl) (fun _ _ _ h=>hpan _ _ _ _ _ h) (Or.inl ⟨by rfl,fun wx hSw=>by (subst hSw; go_simp)⟩) (by assumption) ?_
   simp only [uP]
   refine wpAnyH_done (by kernel_rfl) ?_ _
   clear hHeld
   have aH:At wr.drew.drew H (hc N (hv t.st (L.take k))):=hat.drew.drew
   have kH:Keep (fun b=>b = H) w wr.drew.drew:=hkp.drew.drew
   have y0:wr.drew.drew.cell? ⟨H,j,none⟩ = some (.int .i64 (hv t.st (L.take k) j)):=aH.cell j (hc_at N _ j hjN)
   have y1:wr.drew.drew.frozen? ⟨H,j,none⟩ = false:=aH.free j (hc_at N _ j hjN)
   have y2:wr.drew.drew.cell? ⟨B,15,none⟩ = some (.slice (some ⟨g,0,none⟩) L.length cap0):=d_15
   have y3:wr.drew.drew.cell? ⟨g,k*3+2,none⟩ = some (.int .i64 ea):=r2
   clear d_0 d_15 r0 r1 r2 x1 x2 x3 x4
   go_wp2_with fail
   have HX:Hid (hv t.st (L.take (k+1)) j = IntKind.i64.wrap (hv t.st (L.take k) j+ea)):=by show _ = _; rw [HV.out j,if_pos hj]
   generalize hxx:hv t.st (L.take k) j = x at *
   refine wp_region_held_drew (S:=fun wz=>wz.cell? ⟨B,15,none⟩ = some (.slice (some ⟨g,0,none⟩) L.length cap0)∧wz.cell? ⟨g,k*3+2,none⟩ = some (.int .i64 ea)) (by kernel_rfl) ⟨y2,y3⟩ (fun hHeld=>?_)
   generalize wr.drew.drew = U at *
   refine wpAnyH_take (i:=0) (v:=.slice (some ⟨H,0,none⟩) N N) rfl (by kernel_rfl) (by kernel_rfl) (by kernel_rfl) (fun _ _ _ h=>hpan _ _ _ _ _ h) (Or.inl ⟨by rfl,fun wx hSw=>by (obtain ⟨_,_⟩:=hSw; go_simp)⟩) (by assumption) ?_
   simp only [uP]
   refine wpAnyH_take (i:=1) (v:=.int .i64 j) rfl (by kernel_rfl) (by kernel_rfl) (by kernel_rfl) (fun _ _ _ h=>hpan _ _ _ _ _ h) (Or.inl ⟨by rfl,fun wx hSw=>by (obtain ⟨_,_⟩:=hSw; go_simp)⟩) (by assumption) ?_
   simp only [uP]
   refine wpAnyH_take (i:=2) (v:=.slice (some ⟨H,0,none⟩) N N) rfl (by kernel_rfl) (by kernel_rfl) (by kernel_rfl) (fun _ _ _ h=>hpan _ _ _ _ _ h) (Or.inl ⟨by rfl,fun wx hSw=>by (obtain ⟨_,_⟩:=hSw; go_simp)⟩) (by assumption) ?_
   simp only [uP]
   refine wpAnyH_take (i:=3) (v:=.int .i64 j) rfl (by kernel_rfl) (by kernel_rfl) (by kernel_rfl) (fun _ _ _ h=>hpan _ _ _ _ _ h) (Or.inl ⟨by rfl,fun wx hSw=>by (obtain ⟨_,_⟩:=hSw; go_simp)⟩) (by assumption) ?_
   simp only [uP]
   refine wpAnyH_take (i:=4) (v:=.pointer (some ⟨H,j,none⟩)) rfl (by kernel_rfl) (by kernel_rfl) (by kernel_rfl) (fun _ _ _ h=>hpan _ _ _ _ _ h) (Or.inl ⟨by rfl,fun wx hSw=>by (obtain ⟨_,_⟩:=hSw; go_simp)⟩) (by assumption) ?_
   simp only [uP]
   refine wpAnyH_take (i:=6) (v:=.pointer (some ⟨B,0,none⟩)) rfl (by kernel_rfl) (by kernel_rfl) (by kernel_rfl) (fun _ _ _ h=>hpan _ _ _ _ _ h) (Or.inl ⟨by rfl,fun wx hSw=>by (obtain ⟨_,_⟩:=hSw; go_simp)⟩) (by assumption) ?_
   simp only [uP]
   refine wpAnyH_take (i:=7) (v:=.pointer (some ⟨B,0,none⟩)) rfl (by kernel_rfl) (by kernel_rfl) (by kernel_rfl) (fun _ _ _ h=>hpan _ _ _ _ _ h) (Or.inl ⟨by rfl,fun wx hSw=>by (obtain ⟨_,_⟩:=hSw; go_simp)⟩) (by assumption) ?_
   simp only [uP]
   refine wpAnyH_take (i:=8) (v:=.pointer (some ⟨B,15,none⟩)) rfl (by kernel_rfl) (by kernel_rfl) (by kernel_rfl) (fun _ _ _ h=>hpan _ _ _ _ _ h) (Or.inl ⟨by rfl,fun wx hSw=>by (obtain ⟨_,_⟩:=hSw; go_simp)⟩) (by assumption) ?_
   simp only [uP]
   refine wpAnyH_take (i:=9) (v:=.slice (some ⟨g,0,none⟩) L.length cap0) rfl (by kernel_rfl) (by kernel_rfl) (by kernel_rfl) (fun _ _ _ h=>hpan _ _ _ _ _ h) (Or.inl ⟨by rfl,fun wx hSw=>by (obtain ⟨_,_⟩:=hSw; go_simp)⟩) (by assumption) ?_
   simp only [uP]
   refine wpAnyH_take (i:=10) (v:=.int .i64 k) rfl (by kernel_rfl) (by kernel_rfl) (by kernel_rfl) (fun _ _ _ h=>hpan _ _ _ _ _ h) (Or.inl ⟨by rfl,fun wx hSw=>by (obtain ⟨_,_⟩:=hSw; go_simp)⟩) (by assumption) ?_
   simp only [uP]
   refine wpAnyH_take (i:=11) (v:=.pointer (some ⟨g,k*3,none⟩)) rfl (by kernel_rfl) (by kernel_rfl) (by kernel_rfl) (fun _ _ _ h=>hpan _ _ _ _ _ h) (Or.inl ⟨by rfl,fun wx hSw=>by (obtain ⟨_,_⟩:=hSw; go_simp)⟩) (by assumption) ?_
   simp only [uP]
   refine wpAnyH_take (i:=12) (v:=.pointer (some ⟨g,k*3+2,none⟩)) rfl (by kernel_rfl) (by kernel_rfl) (by kernel_rfl) (fun _ _ _ h=>hpan _ _ _ _ _ h) (Or.inl ⟨by rfl,fun wx hSw=>by (obtain ⟨_,_⟩:=hSw; go_simp)⟩) (by assumption) ?_
   simp only [uP]
   refine wpAnyH_take (i:=13) (v:=.int .i64 ea) rfl (by kernel_rfl) (by kernel_rfl) (by kernel_rfl) (fun _ _ _ h=>hpan _ _ _ _ _ h) (Or.inl ⟨by rfl,fun wx hSw=>by (obtain ⟨_,_⟩:=hSw; go_simp)⟩) (by assumption) ?_
   simp only [uP]
   refine rdy 5 rfl (fun K hK=>?_)
   go_simp
   refine hK.out _ _ hHeld (fun _=>?_)
   clear hK K
   refine wpAnyH_take (i:=14) (v:=.int .i64 (IntKind.i64.wrap (x+ea))) rfl (by kernel_rfl) (by kernel_rfl) (by kernel_rfl) (fun _ _ _ h=>hpan _ _ _ _ _ h) (Or.inl ⟨by rfl,fun wx hSw=>by (obtain ⟨_,_⟩:=hSw; go_simp)⟩) (by assumption) ?_
   simp only [uP]
   refine wpAnyH_take (i:=15) (v:=.pointer (some ⟨H,j,none⟩)) rfl (by kernel_rfl) (by kernel_rfl) (by kernel_rfl) (fun _ _ _ h=>hpan _ _ _ _ _ h) (Or.inl ⟨by rfl,fun wx hSw=>by (obtain ⟨_,_⟩:=hSw; go_simp)⟩) (by assumption) ?_
   simp only [uP]
   refine rdy 16 rfl (fun K hK=>?_)
   go_simp
   have aN:At (U.setCell ⟨H,j,none⟩ (.int .i64 (IntKind.i64.wrap (x+ea)))) H (hc N (hv t.st (L.take (k+1)))):=by
    have:=aH.set j (by rw [hc_len]; exact hjN) (.int .i64 (IntKind.i64.wrap (x+ea)))
    rw [hc_set N (hv t.st (L.take k)) (hv t.st (L.take (k+1))) j _ (fun i hi=>?_)] at this
    ·exact this
    ·by_cases hij:i = j
     ·subst hij; rw [if_pos rfl,HX.out]
     ·rw [if_neg hij,HV.out i,if_neg (by omega)]
   have kN:Keep (fun b=>b = H) w (U.setCell ⟨H,j,none⟩ (.int .i64 (IntKind.i64.wrap (x+ea)))):=kH.set (S:=fun b=>b = H) rfl j _
   have z2:(U.setCell ⟨H,j,none⟩ (.int .i64 (IntKind.i64.wrap (x+ea)))).cell? ⟨B,15,none⟩ = some (.slice (some ⟨g,0,none⟩) L.length cap0):=by
    rw [World.cell?_setCell_other _ _ _ _ (fun q=>hHB (by injection q))]; exact y2
   have z3:(U.setCell ⟨H,j,none⟩ (.int .i64 (IntKind.i64.wrap (x+ea)))).cell? ⟨g,k*3+2,none⟩ = some (.int .i64 ea):=by
    rw [World.cell?_setCell_other _ _ _ _ (fun q=>hgH (by injection q with q; exact q.symm))]; exact y3
   refine hK.out _ _ ⟨z2,z3⟩ (fun _=>?_)
   clear hK K
   generalize U.setCell ⟨H,j,none⟩ (.int .i64 (IntKind.i64.wrap (x+ea))) = U2 at *
   refine wpAnyH_done (by kernel_rfl) ?_ _
   go_wp2_with fail
   go_roundw
   case rel=>exact ⟨k+1,by omega,by go_num,aN,kN⟩
   case measure=>simp [intOf]; omega
  ·obtain rfl:k = L.length:=by omega
   rw [List.take_length] at hat
   clear hlt HB HO HH HOk hbH hBw
   go_wp2_with fail
   exact hexit _ _ _ _ _ _ _ _ _ _ _ _ _ _ _ _ _ _ _ _ _ _ _ _ _ _ _ _ _ _ _ _ _ _ _ _ _ _ _ _ _ _ _ _ _ _ _ _ _ _ _ _ hat hkp
def BkW (V:World) (B:Nat) (t:Ln.Terms) (evv:Value) (g0:Ln.St) (day0:Int) (bk0:Value) (L:List En) (wz:World):Prop :=
 ∃ bkv,At wz B (dl t evv g0 day0 bkv)∧wz.ownsRow (B+1) 114 3 bkv L.length (ens L)∧OwnNew V bk0 bkv∧Keep (fun b=>b = B∨bk0.ownBlock = some b) V wz
theorem al_hc (am:Nat→Int):al am = hc 13 am:=rfl
theorem BkW.put {V U1 w':World} {B:Nat} {t:Ln.Terms} {evv:Value} {g0:Ln.St} {day0:Int} {bk0 bkv v':Value} {L:List En} (e:En) (hA:At U1 B (dl t evv g0 day0 bkv)) (hk:Keep (fun b=>b = B∨bk0.ownBlock = some b) V U1) (ho:OwnNew V bk0 bkv)
  (h0:∀ b,bkv.ownBlock = some b→¬ b = B) (h2:w'.ownsRow (B+1) 114 3 v' (L.length+1) (ens L ++ [.int .i64 e.d,.int .i64 e.k,.int .i64 e.a])) (h3:U1.grownBy w' bkv.ownBlock) (hat:v'.ownBlock = bkv.ownBlock∨v'.ownBlock = some U1.heap.size) :
  At w' B (dl t evv g0 day0 bkv)∧Keep (fun b=>b = B∨bk0.ownBlock = some b) V w'∧BkW V B t evv g0 day0 bk0 (L ++ [e]) (w'.setCell ⟨B,15,none⟩ v'):=by
 have kp3:Keep (fun b=>some b = bkv.ownBlock) U1 w':=⟨h3.os,h3.tape,h3.output,h3.size,fun k hk hs=>h3.block k hk hs⟩
 have aw:At w' B (dl t evv g0 day0 bkv):=At.keep (v:=.int .i64 t.st) hA kp3 (fun h=>h0 B h.symm rfl)
 have kv:Keep (fun b=>b = B∨bk0.ownBlock = some b) V w':=by
  refine ⟨h3.os.trans hk.os,h3.tape.trans hk.tape,h3.output.trans hk.output,Nat.le_trans hk.size h3.size,fun k hkv hs=>?_⟩
  refine (h3.block k (Nat.lt_of_lt_of_le hkv hk.size) (fun hkb=>?_)).trans (hk.block k hkv hs)
  rcases ho with h4 | ⟨b,h5,h6⟩
  ·exact hs (.inr (h4.symm.trans hkb.symm))
  ·rw [h5] at hkb
   cases hkb
   omega
 refine ⟨aw,kv,v',aw.set 15 (show 15 < 16 by decide) _,?_,?_,kv.set (S:=fun b=>b = B∨bk0.ownBlock = some b) (.inl rfl) 15 _⟩
 ·rw [ens_append,List.length_append]
  exact ownsRow_setCell_below h2 (Nat.lt_succ_self B) _
 ·rcases hat with h | h
  ·rcases ho with h4 | ⟨b,h5,h6⟩
   ·exact .inl (h.trans h4)
   ·exact .inr ⟨b,h.trans h5,h6⟩
  ·exact .inr ⟨_,h,hk.size⟩
theorem BkW.keep {V wz:World} {B:Nat} {t:Ln.Terms} {evv:Value} {g0:Ln.St} {day0:Int} {bk0:Value} {L:List En} (h:BkW V B t evv g0 day0 bk0 L wz):Keep (fun b=>b = B∨bk0.ownBlock = some b) V wz:=by
 obtain ⟨_,_,_,_,h⟩:=h
 exact h
noncomputable def runL3:Code:=(((Tryz.f60).body.map loopsOf).getD [])[2]?.getD .skip
set_option maxRecDepth 1000000 in
set_option maxHeartbeats 8000000 in
theorem run_loop3 (V:World) (B G A H N cap:Nat) (t:Ln.Terms) (evv:Value) (g0:Ln.St) (day0:Int) (bk0:Value) (L:List En) (am hf:Nat→Int) (n:Int) (m:Nat) (hB:At V B (dl t evv g0 day0 bk0)) (hown:V.ownsRow (B+1) 114 3 bk0 L.length (ens L)) (hH:At V H (hc N hf)) (hG:V.cell? ⟨G,17,none⟩ = some (.slice (some ⟨A,0,none⟩) 13 cap)) (hA:At V A (al am))
  (hHB:¬ H = B) (hGB:¬ G = B) (hAB:¬ A = B) (hbk:∀ b,bk0.ownBlock = some b→¬ b = H∧¬ b = G∧¬ b = A) (hn:n - t.st = m) (hm:13*m+13≤N) (hN:N≤48100) (hL:L.length+24≤5000000000000)
  (c1 c2 c3 c4 c6 c8 c9 c10 c13 c14 c15 c16 c17 c18 c19 c20 c21 c22 c23 c24 c25 c26 c27 c28 c29 c30 c31 c32 c33 c34 c35 c36 c37 c38 c39 c40 c41 c42 c43 c44 c45 c46 c47 c48 c49 c50 c51 c52 c53 c54 c55 c56 c57 c58 c59 c60 c61 c62 c63 c64 c65 c66 c67 c68 c69 c70 c71 c72 c73 c74 c75 c76 c77 c78 c79 c80 c81 c82 c83 c84 c85 c86 c87 c88 c89 c90 c91 c92 c93 c94 c95 c96 c97 c98 c99 c100 c101 c102 c103 c104 c105 c106 c107 c108 c109 c110 c111 c112 c113 c114 c115 c116 c117 c118 c119 c120 c121 c122 c123 c124 c125 c126 c127 c128 c129 c130 c131 c132 c133 c134 c135 c136 c137 c138 c139 c140 c141 c142 c143 c144 c145 c146 c147 c148 c149 c150 c151 c152 c153 c154 c155 c156 c157 c158 c159 c160 c161 c162 c163 c164 c165 c166 c167 c168 c169 c170 c171 c172 c173 c174 c175 c176 c177 c178 c179 c180 c181 c182 c183 c184 c185 c186 c187 c188 c189 c190 c191 c192 c193 c194 c195 c196 c197 c198 c199 c200 c201 c202 c203 c204 c205 c206 c207 c208 c209:Value) (Q0:Exit→Act→World→Prop) (hpan:∀ x (a:Act) o v w,Q0 (.panic x) (a.put o v) w→Q0 (.panic x) a w)
  (hexit:∀ (u12 u13 u127 u128 u129 u130 u131 u132 u133 u134 u135 u136 u137 u138 u139 u140 u141 u142 u143 u144 u145 u146 u147 u148 u149 u150 u151 u152 u153 u154 u155 u156 u157 u158 u159 u160 u161 u162 u163 u164 u165 u166 u167 u168 u169 u170 u171 u172 u173 u174 u175 u176 u177 u178 u179 u180 u181 u182 u183 u184 u185 u186 u187 u188 u189 u190 u191 u192 u193 u194 u195:Value) (wz:World),BkW V B t evv g0 day0 bk0 (L ++ kindsW n (fun j=>hf (13*m+j)) am 12) wz→Q0 (.exit 4) ⟨((.pointer (some ⟨B,0,none⟩)) :: c1 :: c2 :: c3 :: c4 :: (.pointer (some ⟨G,0,none⟩)) :: c6 :: (.slice (some ⟨H,0,none⟩) N N) :: c8 :: c9 :: c10 :: (.int .i64 n) :: u12 :: u13 :: c14 :: c15 :: c16 :: c17 :: c18 :: c19 :: c20 :: c21 :: c22 :: c23 :: c24 :: c25 :: c26 :: c27 :: c28 :: c29 :: c30 :: c31 :: c32 :: c33 :: c34 :: c35 :: c36 :: c37 :: c38 :: c39 :: c40 :: c41 :: c42 :: c43 :: c44 :: c45 :: c46 :: c47 :: c48 :: c49 :: c50 :: c51 :: c52 :: c53 :: c54 :: c55 :: c56 :: c57 :: c58 :: c59 :: c60 :: c61 :: c62 :: c63 :: c64 :: c65 :: c66 :: c67 :: c68 :: c69 :: c70 :: c71 :: c72 :: c73 :: c74 :: c75 :: c76 :: c77 :: c78 :: c79 :: c80 :: c81 :: c82 :: c83 :: c84 :: c85 :: c86 :: c87 :: c88 :: c89 :: c90 :: c91 :: c92 :: c93 :: c94 :: c95 :: c96 :: c97 :: c98 :: c99 :: c100 :: c101 :: c102 :: c103 :: c104 :: c105 :: c106 :: c107 :: c108 :: c109 :: c110 :: c111 :: c112 :: c113 :: c114 :: c115 :: c116 :: c117 :: c118 :: c119 :: c120 :: c121 :: c122 :: c123 :: c124 :: c125 :: c126 :: u127 :: u128 :: u129 :: u130 :: u131 :: u132 :: u133 :: u134 :: u135 :: u136 :: u137 :: u138 :: u139 :: u140 :: u141 :: u142 :: u143 :: u144 :: u145 :: u146 :: u147 :: u148 :: u149 :: u150 :: u151 :: u152 :: u153 :: u154 :: u155 :: u156 :: u157 :: u158 :: u159 :: u160 :: u161 :: u162 :: u163 :: u164 :: u165 :: u166 :: u167 :: u168 :: u169 :: u170 :: u171 :: u172 :: u173 :: u174 :: u175 :: u176 :: u177 :: u178 :: u179 :: u180 :: u181 :: u182 :: u183 :: u184 :: u185 :: u186 :: u187 :: u188 :: u189 :: u190 :: u191 :: u192 :: u193 :: u194 :: u195 :: c196 :: c197 :: c198 :: c199 :: c200 :: c201 :: c202 :: c203 :: c204 :: c205 :: c206 :: c207 :: c208 :: c209 :: []).toArray,[]⟩ wz) :
  Code.wp Tryz.prog (Code.loop runL3) Q0 ⟨((.pointer (some ⟨B,0,none⟩)) :: c1 :: c2 :: c3 :: c4 :: (.pointer (some ⟨G,0,none⟩)) :: c6 :: (.slice (some ⟨H,0,none⟩) N N) :: c8 :: c9 :: c10 :: (.int .i64 n) :: (.int .i64 1) :: c13 :: c14 :: c15 :: c16 :: c17 :: c18 :: c19 :: c20 :: c21 :: c22 :: c23 :: c24 :: c25 :: c26 :: c27 :: c28 :: c29 :: c30 :: c31 :: c32 :: c33 :: c34 :: c35 :: c36 :: c37 :: c38 :: c39 :: c40 :: c41 :: c42 :: c43 :: c44 :: c45 :: c46 :: c47 :: c48 :: c49 :: c50 :: c51 :: c52 :: c53 :: c54 :: c55 :: c56 :: c57 :: c58 :: c59 :: c60 :: c61 :: c62 :: c63 :: c64 :: c65 :: c66 :: c67 :: c68 :: c69 :: c70 :: c71 :: c72 :: c73 :: c74 :: c75 :: c76 :: c77 :: c78 :: c79 :: c80 :: c81 :: c82 :: c83 :: c84 :: c85 :: c86 :: c87 :: c88 :: c89 :: c90 :: c91 :: c92 :: c93 :: c94 :: c95 :: c96 :: c97 :: c98 :: c99 :: c100 :: c101 :: c102 :: c103 :: c104 :: c105 :: c106 :: c107 :: c108 :: c109 :: c110 :: c111 :: c112 :: c113 :: c114 :: c115 :: c116 :: c117 :: c118 :: c119 :: c120 :: c121 :: c122 :: c123 :: c124 :: c125 :: c126 :: c127 :: c128 :: c129 :: c130 :: c131 :: c132 :: c133 :: c134 :: c135 :: c136 :: c137 :: c138 :: c139 :: c140 :: c141 :: c142 :: c143 :: c144 :: c145 :: c146 :: c147 :: c148 :: c149 :: c150 :: c151 :: c152 :: c153 :: c154 :: c155 :: c156 :: c157 :: c158 :: c159 :: c160 :: c161 :: c162 :: c163 :: c164 :: c165 :: c166 :: c167 :: c168 :: c169 :: c170 :: c171 :: c172 :: c173 :: c174 :: c175 :: c176 :: c177 :: c178 :: c179 :: c180 :: c181 :: c182 :: c183 :: c184 :: c185 :: c186 :: c187 :: c188 :: c189 :: c190 :: c191 :: c192 :: c193 :: c194 :: c195 :: c196 :: c197 :: c198 :: c199 :: c200 :: c201 :: c202 :: c203 :: c204 :: c205 :: c206 :: c207 :: c208 :: c209 :: []).toArray,[]⟩ V:=by
 obtain ⟨i0,hi,hz0,hz1,hz2⟩:=info_parts infoEn
 have hHl:H < V.heap.size:=World.block_lt_of_cell? _ _ (hH.cell 0 (hc_at N hf 0 (by omega)))
 have hGl:G < V.heap.size:=World.block_lt_of_cell? _ _ hG
 have hAl:A < V.heap.size:=At.lt (v:=.int .i64 (am 0)) hA
 have HF:Hid (∀ wz,Keep (fun b=>b = B∨bk0.ownBlock = some b) V wz→(∀ i,i < N→wz.cell? ⟨H,i,none⟩ = some (.int .i64 (hf i)))∧wz.cell? ⟨G,17,none⟩ = some (.slice (some ⟨A,0,none⟩) 13 cap)∧(∀ i,i < 13→wz.cell? ⟨A,i,none⟩ = some (.int .i64 (am i)))):=by
  intro wz hk
  have kH:=hk.block H hHl (fun h=>h.elim hHB (fun h=>(hbk H h).1 rfl))
  have kG:=hk.block G hGl (fun h=>h.elim hGB (fun h=>(hbk G h).2.1 rfl))
  have kA:=hk.block A hAl (fun h=>h.elim hAB (fun h=>(hbk A h).2.2 rfl))
  refine ⟨fun i hi=>?_,?_,fun i hi=>?_⟩
  ·exact (World.cell?_of_block (w:=V) (a:=⟨H,i,none⟩) kH).trans (hH.cell i (hc_at N hf i hi))
  ·exact (World.cell?_of_block (w:=V) (a:=⟨G,17,none⟩) kG).trans hG
  ·exact (World.cell?_of_block (w:=V) (a:=⟨A,i,none⟩) kA).trans (hA.cell i (by rw [al_hc]; exact hc_at 13 am i hi))
 have HS:Hid (BkW V B t evv g0 day0 bk0 L V):=⟨bk0,hB,hown,.inl rfl,Keep.refl _ _⟩
 clear hB hown hH hG hA
 conv=>arg 2; arg 1; whnf
 go_loopw [12] (fun i wr=>∃ q:Nat,q≤12∧i = .int .i64 ((q:Int)+1)∧BkW V B t evv g0 day0 bk0 (L ++ kindsW n (fun j=>hf (13*m+j)) am q) wr) (fun i _=>20 - (intOf i).toNat)
 case atStart=>exact ⟨0,by omega,rfl,by rw [kindsW,List.append_nil]; exact HS.out⟩
 case round =>
  obtain ⟨q,hq,rfl,hbw⟩:=hrel
  clear HS
  by_cases hlt:q < 12
  ·have HK:Hid (kindsW n (fun j=>hf (13*m+j)) am (q+1) = kindsW n (fun j=>hf (13*m+j)) am q ++ kindW n (q+1) (hf (13*m+(q+1))) (am (q+1))):=rfl
   have hlen:=kindsW_len n (fun j=>hf (13*m+j)) am q
   have hll:(L ++ kindsW n (fun j=>hf (13*m+j)) am q).length+2≤5000000000000:=by rw [List.length_append]; omega
   have HKL:Hid (L ++ kindsW n (fun j=>hf (13*m+j)) am (q+1) = (L ++ kindsW n (fun j=>hf (13*m+j)) am q) ++ kindW n (q+1) (hf (13*m+(q+1))) (am (q+1))):=by show _ = _; rw [HK.out,List.append_assoc]
   clear HK hlen
   generalize L ++ kindsW n (fun j=>hf (13*m+j)) am q = M at *
   obtain ⟨bkv,hAr,hor,hon,hkr⟩:=id hbw
   obtain ⟨f1,f2,f3⟩:=HF.out wr hkr
   have c_h:=f1 (13*m+(q+1)) (by omega)
   have c_a:=f3 (q+1) (by omega)
   have c_0:wr.cell? ⟨B,0,none⟩ = some (.int .i64 t.st):=hAr.cell 0 rfl
   clear f1 f3 hAr hor hon hkr
   obtain ⟨i,hi13⟩:∃ i:Nat,13*m+(q+1) = i:=⟨_,rfl⟩
   rw [hi13] at c_h HKL
   have hiN:i < N:=by omega
   have x1:IntKind.i64.wrap (n - t.st) = (m:Int):=by rw [hn,IntKind.wrap_i64]; omega
   have x2:IntKind.i64.wrap (13*(m:Int)) = 13*(m:Int):=by rw [IntKind.wrap_i64]; omega
   have x3:IntKind.i64.wrap (13*(m:Int)+((q:Int)+1)) = (i:Int):=by rw [show 13*(m:Int)+((q:Int)+1) = i by omega,IntKind.wrap_i64]; omega
   generalize hf i = is at *
   generalize hav:am (q+1) = av at *
   obtain ⟨r,hr⟩:∃ r:Nat,r = q+1:=⟨_,rfl⟩
   have hr2:((q:Int)+1) = (r:Int):=by omega
   rw [hr2] at x3 ⊢
   rw [← hr] at c_a
   have hr12:r≤12:=by omega
   have hr0:1≤r:=by omega
   have hr14:¬ 13≤(r:Int):=by omega
   have HR:=(show Hid _ from hr)
   have HAV:Hid (am r = av):=by show am r = av; rw [hr]; exact hav
   have HR2:Hid (((r:Int)+1 = ((q+1:Nat):Int)+1)):=by show (r:Int)+1 = ((q+1:Nat):Int)+1; omega
   have HQ:=(show Hid _ from hlt)
   have r1:IntKind.i64.wrap ((r:Int)+1) = (r:Int)+1:=by rw [IntKind.wrap_i64]; omega
   clear hr hr2 hi13 hn hlt hq hav
   by_cases he:is = av
   ·have p1:(is == av) = true:=by simp [he]
    have HE:Hid (kindW n (q+1) is av = []):=by show kindW n (q+1) is av = []; unfold kindW; rw [if_pos he]
    clear he
    go_wp2_with fail
    go_roundw
    case rel=>exact ⟨q+1,HQ.out,by rw [HR2.out],by rw [HKL.out,HE.out,List.append_nil]; exact hbw⟩
    case measure=>simp [intOf]; omega
   ·have p1:(is == av) = false:=by simp [he]
    obtain ⟨X1,hX1⟩:∃ X:List En,X = if is = 0 then [] else [⟨n,r,wrap64 (-is)⟩]:=⟨_,rfl⟩
    obtain ⟨X2,hX2⟩:∃ X:List En,X = if av = 0 then [] else [⟨n,r,av⟩]:=⟨_,rfl⟩
    have HE:Hid (kindW n (q+1) is av = X1 ++ X2):=by show kindW n (q+1) is av = _; unfold kindW; rw [if_neg he,hX1,hX2,HR.out]
    have hX1l:X1.length≤1:=by rw [hX1]; split <;> simp
    clear he
    go_upto_if 154 with fail
    go_cut [] from 127 to 168 (fun wx=>BkW V B t evv g0 day0 bk0 (M ++ X1) wx)
    case first =>
     clear HE hX2 HKL c_h c_a f2 x1 x2 x3 p1
     by_cases hz:is = 0
     ·have p2:(is != 0) = false:=by simp [hz]
      rw [if_pos hz] at hX1
      subst hX1
      clear hz
      go_wp2_with fail
      go_meet
      case rel=>rw [List.append_nil]; exact hbw
     ·have p2:(is != 0) = true:=by simp [hz]
      rw [if_neg hz] at hX1
      subst hX1
      clear hz
      obtain ⟨bkv,hAr,hor,hon,hkr⟩:=hbw
      have c_15:wr.cell? ⟨B,15,none⟩ = some bkv:=hAr.cell 15 rfl
      have z_15:wr.frozen? ⟨B,15,none⟩ = false:=hAr.free 15 rfl
      have hBl:B < wr.heap.size:=At.lt (v:=.int .i64 t.st) hAr
      obtain ⟨p0,cap0,rfl⟩:=own_slice hor
      go_wp2_with (at_builtin; refine wpList_append_own_at _ rfl _ _ 54 rfl (B+1) 114 i0 (.agg #[.int .i64 0,.int .i64 0,.int .i64 0]) 3 24 Tryz.underlying54 hi hz0 hz1 hz2 rfl (by decide) _ _ _ rfl (hor.alloc _) ⟨wr.heap.size,0,none⟩ 1 1 [.int .i64 n,.int .i64 r,.int .i64 (wrap64 (-is))] rfl rfl ?c1 ?c2 ?c3 ?c4 ?c5 ?_)
      case c2=>exact ⟨rfl,rfl,rfl⟩
      case c3=>unfold maxLen; omega
      case c4=>omega
      case c5=>omega
      ·intro v' w' h2 h3 _ hat
       have hput:=BkW.put ⟨n,r,wrap64 (-is)⟩ (At.over (v:=.int .i64 t.st) hAr _) (hkr.trans (Keep.below ((Below.refl _ _).alloc (Nat.le_refl _) _))) hon (fun b hb=>by have:=own_base hor hb; omega) h2 h3 (by simpa using hat)
       obtain ⟨aw,_,hput⟩:=hput
       obtain ⟨g',cap',rfl,_,_⟩:=h2.form (by omega)
       have y6:w'.cell? ⟨B,15,none⟩ = some (.slice p0 M.length cap0):=aw.cell 15 rfl
       have y7:w'.frozen? ⟨B,15,none⟩ = false:=aw.free 15 rfl
       clear h2 h3 hat aw
       go_wp2_with fail
       go_meet
       case rel=>exact hput
    case rest =>
     rename_i wc
     have hM2:(M ++ X1).length+1≤5000000000000:=by rw [List.length_append]; omega
     have HE3:Hid (L ++ kindsW n (fun j=>hf (13*m+j)) am (q+1) = (M ++ X1) ++ X2):=by show _ = _; rw [HKL.out,HE.out,List.append_assoc]
     clear hbw HE HKL hX1 hX1l c_h c_a c_0 f2 x1 x2 x3 p1
     generalize M ++ X1 = M2 at *
     obtain ⟨bkv,hAr,hor,hon,hkr⟩:=id hcut
     have c_a:=(HF.out wc hkr).2.2 r (by omega)
     have c_g:=(HF.out wc hkr).2.1
     have avv:am r = av:=HAV.out
     rw [avv] at c_a
     by_cases hz:av = 0
     ·have p2:(av != 0) = false:=by simp [hz]
      rw [if_pos hz] at hX2
      subst hX2
      clear hz
      rw [List.append_nil] at HE3
      clear hor hon hAr hkr HF
      go_wp2_with fail
      go_roundw
      case rel=>exact ⟨q+1,HQ.out,by rw [HR2.out],by rw [HE3.out]; exact hcut⟩
      case measure=>simp [intOf]; omega
     ·have p2:(av != 0) = true:=by simp [hz]
      rw [if_neg hz] at hX2
      subst hX2
      clear hz
      have HSS:Hid (∀ wz,Keep (fun b=>b = B∨bk0.ownBlock = some b) V wz→wz.cell? ⟨G,17,none⟩ = some (.slice (some ⟨A,0,none⟩) 13 cap)∧wz.cell? ⟨A,r,none⟩ = some (.int .i64 av)):=fun wz hk=>⟨(HF.out wz hk).2.1,by rw [← avv]; exact (HF.out wz hk).2.2 r (by omega)⟩
      obtain ⟨p0,cap0,rfl⟩:=own_slice hor
      have hBl:B < wc.heap.size:=At.lt (v:=.int .i64 t.st) hAr
      have oU:=hor.drew
      have aU:At wc.drew B (dl t evv g0 day0 (.slice p0 M2.length cap0)):=hAr.drew
      have kU:=hkr.drew
      clear hcut hAr hor hkr HF
      go_wp2_with fail
      refine wp_region_held_drew (S:=fun wz=>wz.cell? ⟨G,17,none⟩ = some (.slice (some ⟨A,0,none⟩) 13 cap)∧wz.cell? ⟨A,r,none⟩ = some (.int .i64 av)) (by kernel_rfl) (HSS.out _ kU) (fun hHeld=>?_)
      have hUl:B < wc.drew.heap.size:=hBl
      clear c_a c_g hBl
      generalize wc.drew = U at *
      have u6:U.cell? ⟨B,15,none⟩ = some (.slice p0 M2.length cap0):=aU.cell 15 rfl
      have oU1:=oU.alloc (.cells #[.int .i64 n,.int .i64 r,.int .i64 av] 114)
      have aU1:At (U.alloc (.cells #[.int .i64 n,.int .i64 r,.int .i64 av] 114)) B (dl t evv g0 day0 (.slice p0 M2.length cap0)):=At.over (v:=.int .i64 t.st) aU _
      have nU1:At (U.alloc (.cells #[.int .i64 n,.int .i64 r,.int .i64 av] 114)) U.heap.size [.int .i64 n,.int .i64 r,.int .i64 av]:=At.alloc U _ _
      have kU1:Keep (fun b=>b = B∨bk0.ownBlock = some b) V (U.alloc (.cells #[.int .i64 n,.int .i64 r,.int .i64 av] 114)):=kU.trans (Keep.below ((Below.refl _ _).alloc (Nat.le_refl _) _))
      have u7:(U.alloc (.cells #[.int .i64 n,.int .i64 r,.int .i64 av] 114)).cell? ⟨B,15,none⟩ = some (.slice p0 M2.length cap0):=aU1.cell 15 rfl
      have gsz:B+1≤(U.alloc (.cells #[.int .i64 n,.int .i64 r,.int .i64 av] 114)).heap.size:=by simp; omega
      refine wpAnyH_take (i:=0) (v:=.pointer (some ⟨B,0,none⟩)) rfl (by kernel_rfl) (by kernel_rfl) (by kernel_rfl) (fun _ _ _ h=>hpan _ _ _ _ _ h) (Or.inl ⟨by rfl,fun wx hSw=>by (obtain ⟨_,_⟩:=hSw; go_simp)⟩) (by assumption) ?_
      simp only [uP]
      refine wpAnyH_take (i:=1) (v:=.pointer (some ⟨B,0,none⟩)) rfl (by kernel_rfl) (by kernel_rfl) (by kernel_rfl) (fun _ _ _ h=>hpan _ _ _ _ _ h) (Or.inl ⟨by rfl,fun wx hSw=>by (obtain ⟨_,_⟩:=hSw; go_simp)⟩) (by assumption) ?_
      simp only [uP]
      refine wpAnyH_take (i:=2) (v:=.pointer (some ⟨B,0,none⟩)) rfl (by kernel_rfl) (by kernel_rfl) (by kernel_rfl) (fun _ _ _ h=>hpan _ _ _ _ _ h) (Or.inl ⟨by rfl,fun wx hSw=>by (obtain ⟨_,_⟩:=hSw; go_simp)⟩) (by assumption) ?_
      simp only [uP]
      refine wpAnyH_take (i:=3) (v:=.pointer (some ⟨B,15,none⟩)) rfl (by kernel_rfl) (by kernel_rfl) (by kernel_rfl) (fun _ _ _ h=>hpan _ _ _ _ _ h) (Or.inl ⟨by rfl,fun wx hSw=>by (obtain ⟨_,_⟩:=hSw; go_simp)⟩) (by assumption) ?_
      simp only [uP]
      refine wpAnyH_take (i:=5) (v:=.int .i64 n) rfl (by kernel_rfl) (by kernel_rfl) (by kernel_rfl) (fun _ _ _ h=>hpan _ _ _ _ _ h) (Or.inl ⟨by rfl,fun wx hSw=>by (obtain ⟨_,_⟩:=hSw; go_simp)⟩) (by assumption) ?_
      simp only [uP]
      refine wpAnyH_take (i:=6) (v:=.int .i64 r) rfl (by kernel_rfl) (by kernel_rfl) (by kernel_rfl) (fun _ _ _ h=>hpan _ _ _ _ _ h) (Or.inl ⟨by rfl,fun wx hSw=>by (obtain ⟨_,_⟩:=hSw; go_simp)⟩) (by assumption) ?_
      simp only [uP]
      refine wpAnyH_take (i:=7) (v:=.pointer (some ⟨G,0,none⟩)) rfl (by kernel_rfl) (by kernel_rfl) (by kernel_rfl) (fun _ _ _ h=>hpan _ _ _ _ _ h) (Or.inl ⟨by rfl,fun wx hSw=>by (obtain ⟨_,_⟩:=hSw; go_simp)⟩) (by assumption) ?_
      simp only [uP]
      refine wpAnyH_take (i:=8) (v:=.pointer (some ⟨G,0,none⟩)) rfl (by kernel_rfl) (by kernel_rfl) (by kernel_rfl) (fun _ _ _ h=>hpan _ _ _ _ _ h) (Or.inl ⟨by rfl,fun wx hSw=>by (obtain ⟨_,_⟩:=hSw; go_simp)⟩) (by assumption) ?_
      simp only [uP]
      refine wpAnyH_take (i:=9) (v:=.pointer (some ⟨G,17,none⟩)) rfl (by kernel_rfl) (by kernel_rfl) (by kernel_rfl) (fun _ _ _ h=>hpan _ _ _ _ _ h) (Or.inl ⟨by rfl,fun wx hSw=>by (obtain ⟨_,_⟩:=hSw; go_simp)⟩) (by assumption) ?_
      simp only [uP]
      refine wpAnyH_take (i:=10) (v:=.slice (some ⟨A,0,none⟩) 13 cap) rfl (by kernel_rfl) (by kernel_rfl) (by kernel_rfl) (fun _ _ _ h=>hpan _ _ _ _ _ h) (Or.inl ⟨by rfl,fun wx hSw=>by (obtain ⟨_,_⟩:=hSw; go_simp)⟩) (by assumption) ?_
      simp only [uP]
      refine wpAnyH_take (i:=11) (v:=.int .i64 r) rfl (by kernel_rfl) (by kernel_rfl) (by kernel_rfl) (fun _ _ _ h=>hpan _ _ _ _ _ h) (Or.inl ⟨by rfl,fun wx hSw=>by (obtain ⟨_,_⟩:=hSw; go_simp)⟩) (by assumption) ?_
      simp only [uP]
      refine wpAnyH_take (i:=12) (v:=.pointer (some ⟨A,r,none⟩)) rfl (by kernel_rfl) (by kernel_rfl) (by kernel_rfl) (fun _ _ _ h=>hpan _ _ _ _ _ h) (Or.inl ⟨by rfl,fun wx hSw=>by (obtain ⟨_,_⟩:=hSw; go_simp)⟩) (by assumption) ?_
      simp only [uP]
      refine wpAnyH_take (i:=13) (v:=.int .i64 av) rfl (by kernel_rfl) (by kernel_rfl) (by kernel_rfl) (fun _ _ _ h=>hpan _ _ _ _ _ h) (Or.inl ⟨by rfl,fun wx hSw=>by (obtain ⟨_,_⟩:=hSw; go_simp)⟩) (by assumption) ?_
      simp only [uP]
      refine wpAnyH_take (i:=14) (v:=.agg #[.int .i64 n,.int .i64 r,.int .i64 av]) rfl (by kernel_rfl) (by kernel_rfl) (by kernel_rfl) (fun _ _ _ h=>hpan _ _ _ _ _ h) (Or.inl ⟨by rfl,fun wx hSw=>by (obtain ⟨_,_⟩:=hSw; go_simp)⟩) (by assumption) ?_
      simp only [uP]
      refine wpAnyH_ready (rs:=[4,15]) (by kernel_rfl) (by simp) ?_
      refine AllReadyH.cons rfl (fun K hK=>?_) (AllReadyH.cons rfl (fun K hK=>?_) AllReadyH.nil)
      ·go_simp
       refine hK.out _ _ hHeld (fun _=>?_)
       clear hK K
       refine rdy 15 rfl (fun K hK=>?_)
       rw [if_pos (by rfl)]
       refine wp_valD (.slice (some ⟨U.heap.size,0,none⟩) 1 1) (U.alloc (.cells #[.int .i64 n,.int .i64 r,.int .i64 av] 114)) (by kernel_rfl) ?_
       refine hK.out _ _ (HSS.out _ kU1) (fun _=>?_)
       clear hK K u6 u7 oU aU kU hHeld
       simp only [uP]
       generalize U.alloc (.cells #[.int .i64 n,.int .i64 r,.int .i64 av] 114) = U1 at *
       generalize U.heap.size = NN at *
       refine rdy 16 rfl (fun K hK=>?_)
       rw [if_pos (by rfl)]
       refine wp_append_at U1 (.tmp 181) (.tmp 192) 54 rfl (B+1) 114 i0 (.agg #[.int .i64 0,.int .i64 0,.int .i64 0]) 3 24 Tryz.underlying54 hi hz0 hz1 hz2 rfl (by decide) _ _ _ rfl oU1 ⟨NN,0,none⟩ 1 1 [.int .i64 n,.int .i64 r,.int .i64 av] rfl rfl ?_ ?_ ?_ ?_ ?_ ?_
       ·intro j u hj
        have:=(nU1 j u hj).1
        by_cases j0:j = 0
        ·subst j0; simpa [Addr.add] using this
        ·simpa [Addr.add,j0] using this
       ·intro u hu
        simp at hu
        rcases hu with rfl | rfl | rfl <;> rfl
       ·unfold maxLen; omega
       ·omega
       ·omega
       intro v' w' h2 h3 hat
       have hput:=BkW.put ⟨n,r,av⟩ aU1 kU1 hon (fun b hb=>by have:=own_base oU1 hb; omega) h2 h3 hat
       obtain ⟨aw,kw,hput⟩:=hput
       obtain ⟨g',cap',rfl,_,_⟩:=h2.form (by omega)
       have sw:=HSS.out w' kw
       refine hK.out _ _ sw (fun _=>?_)
       clear hK K
       simp only [uP]
       refine wpAnyH_take (i:=17) (v:=.pointer (some ⟨B,0,none⟩)) rfl (by kernel_rfl) (by kernel_rfl) (by kernel_rfl) (fun _ _ _ h=>hpan _ _ _ _ _ h) (Or.inl ⟨by rfl,fun wx hSw=>by (obtain ⟨_,_⟩:=hSw; go_simp)⟩) (by assumption) ?_
       simp only [uP]
       refine wpAnyH_take (i:=18) (v:=.pointer (some ⟨B,15,none⟩)) rfl (by kernel_rfl) (by kernel_rfl) (by kernel_rfl) (fun _ _ _ h=>hpan _ _ _ _ _ h) (Or.inl ⟨by rfl,fun wx hSw=>by (obtain ⟨_,_⟩:=hSw; go_simp)⟩) (by assumption) ?_
       simp only [uP]
       refine rdy 19 rfl (fun K hK=>?_)
       have y6:w'.cell? ⟨B,15,none⟩ = some (.slice p0 M2.length cap0):=aw.cell 15 rfl
       have y7:w'.frozen? ⟨B,15,none⟩ = false:=aw.free 15 rfl
       go_simp
       have sw2:=HSS.out _ hput.keep
       refine hK.out _ _ sw2 (fun _=>?_)
       clear hK K h2 h3 sw sw2 y6 y7 kw aw hat oU1 aU1 nU1 kU1 gsz
       generalize w'.setCell ⟨B,15,none⟩ (.slice (some ⟨g',0,none⟩) (M2.length+1) cap') = w9 at *
       refine wpAnyH_done (by kernel_rfl) ?_ _
       go_wp2_with fail
       go_roundw
       case rel=>exact ⟨q+1,HQ.out,by rw [HR2.out],by rw [HE3.out]; exact hput⟩
       case measure=>simp [intOf]; omega
      ·rw [if_pos (by rfl)]
       refine wp_valD (.slice (some ⟨U.heap.size,0,none⟩) 1 1) (U.alloc (.cells #[.int .i64 n,.int .i64 r,.int .i64 av] 114)) (by kernel_rfl) ?_
       refine hK.out _ _ (HSS.out _ kU1) (fun hHeld2=>?_)
       clear hK K u6
       simp only [uP]
       refine rdy 4 rfl (fun K hK=>?_)
       go_simp
       refine hK.out _ _ hHeld2 (fun _=>?_)
       clear hK K u7 oU aU kU hHeld hHeld2
       generalize U.alloc (.cells #[.int .i64 n,.int .i64 r,.int .i64 av] 114) = U1 at *
       generalize U.heap.size = NN at *
       refine rdy 16 rfl (fun K hK=>?_)
       rw [if_pos (by rfl)]
       refine wp_append_at U1 (.tmp 181) (.tmp 192) 54 rfl (B+1) 114 i0 (.agg #[.int .i64 0,.int .i64 0,.int .i64 0]) 3 24 Tryz.underlying54 hi hz0 hz1 hz2 rfl (by decide) _ _ _ rfl oU1 ⟨NN,0,none⟩ 1 1 [.int .i64 n,.int .i64 r,.int .i64 av] rfl rfl ?_ ?_ ?_ ?_ ?_ ?_
       ·intro j u hj
        have:=(nU1 j u hj).1
        by_cases j0:j = 0
        ·subst j0; simpa [Addr.add] using this
        ·simpa [Addr.add,j0] using this
       ·intro u hu
        simp at hu
        rcases hu with rfl | rfl | rfl <;> rfl
       ·unfold maxLen; omega
       ·omega
       ·omega
       intro v' w' h2 h3 hat
       have hput:=BkW.put ⟨n,r,av⟩ aU1 kU1 hon (fun b hb=>by have:=own_base oU1 hb; omega) h2 h3 hat
       obtain ⟨aw,kw,hput⟩:=hput
       obtain ⟨g',cap',rfl,_,_⟩:=h2.form (by omega)
       have sw:=HSS.out w' kw
       refine hK.out _ _ sw (fun _=>?_)
       clear hK K
       simp only [uP]
       refine wpAnyH_take (i:=17) (v:=.pointer (some ⟨B,0,none⟩)) rfl (by kernel_rfl) (by kernel_rfl) (by kernel_rfl) (fun _ _ _ h=>hpan _ _ _ _ _ h) (Or.inl ⟨by rfl,fun wx hSw=>by (obtain ⟨_,_⟩:=hSw; go_simp)⟩) (by assumption) ?_
       simp only [uP]
       refine wpAnyH_take (i:=18) (v:=.pointer (some ⟨B,15,none⟩)) rfl (by kernel_rfl) (by kernel_rfl) (by kernel_rfl) (fun _ _ _ h=>hpan _ _ _ _ _ h) (Or.inl ⟨by rfl,fun wx hSw=>by (obtain ⟨_,_⟩:=hSw; go_simp)⟩) (by assumption) ?_
       simp only [uP]
       refine rdy 19 rfl (fun K hK=>?_)
       have y6:w'.cell? ⟨B,15,none⟩ = some (.slice p0 M2.length cap0):=aw.cell 15 rfl
       have y7:w'.frozen? ⟨B,15,none⟩ = false:=aw.free 15 rfl
       go_simp
       have sw2:=HSS.out _ hput.keep
       refine hK.out _ _ sw2 (fun _=>?_)
       clear hK K h2 h3 sw sw2 y6 y7 kw aw hat oU1 aU1 nU1 kU1 gsz
       generalize w'.setCell ⟨B,15,none⟩ (.slice (some ⟨g',0,none⟩) (M2.length+1) cap') = w9 at *
       refine wpAnyH_done (by kernel_rfl) ?_ _
       go_wp2_with fail
       go_roundw
       case rel=>exact ⟨q+1,HQ.out,by rw [HR2.out],by rw [HE3.out]; exact hput⟩
       case measure=>simp [intOf]; omega
  ·obtain rfl:q = 12:=by omega
   clear hlt HF
   go_wp2_with fail
   exact hbw
end Go.Proofs.YtanndhoimpnhpaaGreatDoor
namespace Go.Proofs.YtanndhoimpnhpaaGreatDoor
open Go.ChangeShapes Go.WideShapes Go.ChangeAt Go.RowKit Lg
structure RC (W0:World) (B G C H E:Nat) (bk0:Value):Prop where
 gb:¬ G = B
 cb:¬ C = B
 hb:¬ H = B
 eb:¬ E = B
 gc:¬ G = C
 gh:¬ G = H
 ge:¬ G = E
 ch:¬ C = H
 ce:¬ C = E
 gl:G < W0.heap.size
 cl:C < W0.heap.size
 hl:H < W0.heap.size
 el:E < W0.heap.size
 bl:B < W0.heap.size
 bk:∀ b,bk0.ownBlock = some b→¬ b = B∧¬ b = G∧¬ b = C∧¬ b = H∧¬ b = E
structure RW (W0:World) (B G C H E N:Nat) (t:Ln.Terms) (evv:Value) (g0:Ln.St) (day0:Int) (bk0:Value) (hf:Nat→Int) (l:List Ln.Ev) (M:List En) (g:Ln.St) (cy cm cd:Int) (ev fv av bkv:Value) (S:Nat→Prop) (wr:World):Prop where
 go:At wr G (gl t g 0 ev fv av)
 l1:LongIs S wr ev g.ea
 l2:LongIs S wr fv g.fn
 sg:S G
 sb:S B
 sc:S C
 sk:∀ b,bkv.ownBlock = some b→S b
 sl:∀ b,S b→b < wr.heap.size
 ln:At wr B (dl t evv g0 day0 bkv)
 ow:wr.ownsRow (B+1) 114 3 bkv M.length (ens M)
 on:OwnNew W0 bk0 bkv
 ci:At wr C [.int .i64 cy,.int .i64 cm,.int .i64 cd]
 ha:At wr H (hc N hf)
 ee:l ≠ []→At wr E (evs l)
 kp:Keep (fun b=>b = B∨bk0.ownBlock = some b∨b = G∨b = C) W0 wr
theorem RW.day {W0:World} {B G C H E N:Nat} {t:Ln.Terms} {evv:Value} {g0:Ln.St} {day0:Int} {bk0:Value} {hf:Nat→Int} {l:List Ln.Ev} {M:List En} {g:Ln.St} {cy cm cd:Int} {ev fv av bkv:Value} {S:Nat→Prop} {wr V:World} (rc:RC W0 B G C H E bk0) (rw0:RW W0 B G C H E N t evv g0 day0 bk0 hf l M g cy cm cd ev fv av bkv S wr)
  {y:Ln.Dy} {r1 r2:Value} (hD:DayW S wr G t y 0 r1 r2 y.g.ea y.g.fn V) :
  At V B (dl t evv g0 day0 bkv)∧V.ownsRow (B+1) 114 3 bkv M.length (ens M)∧At V H (hc N hf)∧(∃ cap,V.cell? ⟨G,17,none⟩ = some (.slice (some ⟨wr.heap.size+1,0,none⟩) 13 cap))∧At V (wr.heap.size+1) (al y.am)∧¬ wr.heap.size+1 = B ∧
   (∀ b,bkv.ownBlock = some b→¬ b = H∧¬ b = G∧¬ b = wr.heap.size+1):=by
 have h0:=rw0.kp.size
 have hbl:=rc.bl
 have hhl:=rc.hl
 have nG:=rw0.on.apart rc.gl (fun b hb=>(rc.bk b hb).2.1)
 have nH:=rw0.on.apart rc.hl (fun b hb=>(rc.bk b hb).2.2.2.1)
 have nA:∀ b,bkv.ownBlock = some b→¬ b = wr.heap.size+1:=fun b hb=>by have:=(own_base rw0.ow hb).2; omega
 obtain ⟨ne,⟨cap,hg⟩,hA⟩:=hD.gon
 refine ⟨At.keep (v:=.int .i64 t.st) rw0.ln hD.kp ?_,own_keep rw0.ow hD.kp ?_,rw0.ha.block (hD.kp.block H (by omega) ?_),⟨cap,hg.cell 17 rfl⟩,hA,by omega,fun b hb=>⟨nH b hb,nG b hb,nA b hb⟩⟩
 ·rintro (h | h)
  ·exact rc.gb h.symm
  ·omega
 ·rintro b hb (h | h)
  ·exact nG b hb h
  ·exact nA b hb h
 ·rintro (h | h)
  ·exact rc.gh h.symm
  ·omega
theorem RW.kinds {W0:World} {B G C H E N:Nat} {t:Ln.Terms} {evv:Value} {g0:Ln.St} {day0:Int} {bk0:Value} {hf:Nat→Int} {l:List Ln.Ev} {M:List En} {g:Ln.St} {cy cm cd:Int} {ev fv av bkv:Value} {S:Nat→Prop} {wr V:World} (rc:RC W0 B G C H E bk0) (rw0:RW W0 B G C H E N t evv g0 day0 bk0 hf l M g cy cm cd ev fv av bkv S wr)
  {y:Ln.Dy} {r1 r2:Value} (hD:DayW S wr G t y 0 r1 r2 y.g.ea y.g.fn V) {M':List En} {wz:World} (hb:BkW V B t evv g0 day0 bkv M' wz) :
  ∃ av' bkv' S',RW W0 B G C H E N t evv g0 day0 bk0 hf l M' y.g cy cm cd r1 r2 av' bkv' S' wz:=by
 obtain ⟨bkv',hB,hO,hN,hK⟩:=hb
 have h0:=rw0.kp.size
 have h1:=hD.kp.size
 have h2:=hK.size
 have hbl:=rc.bl
 have hhl:=rc.hl
 have hgl:=rc.gl
 have hcl:=rc.cl
 have hel:=rc.el
 have nG:=rw0.on.apart rc.gl (fun b hb=>(rc.bk b hb).2.1)
 have nC:=rw0.on.apart rc.cl (fun b hb=>(rc.bk b hb).2.2.1)
 have nH:=rw0.on.apart rc.hl (fun b hb=>(rc.bk b hb).2.2.2.1)
 have nE:=rw0.on.apart rc.el (fun b hb=>(rc.bk b hb).2.2.2.2)
 obtain ⟨ne,⟨cap,hg⟩,hA⟩:=hD.gon
 have kk:∀ X,X < W0.heap.size→¬ X = G→¬ X = B→(∀ b,bkv.ownBlock = some b→¬ b = X)→wz.heap[X]? = wr.heap[X]?:=by
  intro X hX xg xb xk
  have e1:=hK.block X (by omega) (fun h=>h.elim xb (fun h=>xk X h rfl))
  have e2:=hD.kp.block X (by omega) (fun h=>h.elim xg (by omega))
  exact e1.trans e2
 have kS:Keep (DS S wr) V wz:=hK.mono (fun b _ h=>by
  rcases h with rfl | h
  ·exact .inl rw0.sb
  ·exact .inl (rw0.sk b h))
 have more:∀ {v:Value} {x:Int},LongIs (DS S wr) V v x→LongIs (fun b=>DS S wr b∨bkv'.ownBlock = some b) wz v x:=by
  intro v x h
  have hm:LongIs (fun b=>DS S wr b∨bkv'.ownBlock = some b) V v x:=h.more (fun b hb hT=>by
   rcases hT with hT | hT
   ·exact hT
   ·rcases hN with hN | ⟨c,hc1,hc2⟩
    ·exact .inl (rw0.sk b (hN.symm.trans hT))
    ·rw [hc1] at hT
     cases hT
     omega)
  exact hm.keep (kS.mono (fun b _ h=>.inl h))
 refine ⟨_,bkv',fun b=>DS S wr b∨bkv'.ownBlock = some b,hg.block (hK.block G (by omega) (fun h=>h.elim rc.gb (fun h=>nG G h rfl))),more hD.l1,more hD.l2,.inl (.inl rw0.sg),.inl (.inl rw0.sb),.inl (.inl rw0.sc),fun b hb=>.inr hb,?_,hB,hO,?_,rw0.ci.block (kk C hcl (fun h=>rc.gc h.symm) rc.cb nC),rw0.ha.block (kk H hhl (fun h=>rc.gh h.symm) rc.hb nH),fun hl=>(rw0.ee hl).block (kk E hel (fun h=>rc.ge h.symm) rc.eb nE),?_⟩
 ·rintro b ((h | h) | h)
  ·have:=rw0.sl b h; omega
  ·have:wr.heap.size+1 < V.heap.size:=At.lt (v:=.int .i64 (y.am 0)) hA
   omega
  ·exact (own_base hO h).2
 ·rcases hN with hN | ⟨c,hc1,hc2⟩
  ·rcases rw0.on with h | ⟨c,hc1,hc2⟩
   ·exact .inl (hN.trans h)
   ·exact .inr ⟨c,hN.trans hc1,hc2⟩
  ·exact .inr ⟨c,hc1,by omega⟩
 ·refine ⟨hK.os.trans (hD.kp.os.trans rw0.kp.os),hK.tape.trans (hD.kp.tape.trans rw0.kp.tape),hK.output.trans (hD.kp.output.trans rw0.kp.output),by omega,fun X hX hs=>?_⟩
  have xk:∀ b,bkv.ownBlock = some b→¬ b = X:=rw0.on.apart hX (fun b hb hbx=>hs (.inr (.inl (by rw [← hbx]; exact hb))))
  exact (kk X hX (fun h=>hs (.inr (.inr (.inl h)))) (fun h=>hs (.inl h)) xk).trans (rw0.kp.block X hX hs)
theorem RW.below {W0:World} {B G C H E N:Nat} {t:Ln.Terms} {evv:Value} {g0:Ln.St} {day0:Int} {bk0:Value} {hf:Nat→Int} {l:List Ln.Ev} {M:List En} {g:Ln.St} {cy cm cd:Int} {ev fv av bkv:Value} {S:Nat→Prop} {wr V:World} (rc:RC W0 B G C H E bk0) (h:RW W0 B G C H E N t evv g0 day0 bk0 hf l M g cy cm cd ev fv av bkv S wr) (hb:Below wr.heap.size wr V):RW W0 B G C H E N t evv g0 day0 bk0 hf l M g cy cm cd ev fv av bkv S V:=by
 have h0:=h.kp.size
 have hhl:=rc.hl
 have hel:=rc.el
 have hk:∀ X,Keep X wr V:=fun X=>Keep.below hb
 exact ⟨At.keep (v:=.int .i64 t.st) h.go (hk (fun _=>False)) (fun x=>x),h.l1.keep (hk _),h.l2.keep (hk _),h.sg,h.sb,h.sc,h.sk,fun b hs=>Nat.lt_of_lt_of_le (h.sl b hs) hb.size,At.keep (v:=.int .i64 t.st) h.ln (hk (fun _=>False)) (fun x=>x),own_keep h.ow (hk (fun _=>False)) (fun _ _ x=>x),h.on,
  At.keep h.ci (hk (fun _=>False)) (fun x=>x),h.ha.block (hb.block H (by omega)),fun hl=>(h.ee hl).block (hb.block E (by omega)),h.kp.trans (hk _)⟩
theorem RW.civ {W0:World} {B G C H E N:Nat} {t:Ln.Terms} {evv:Value} {g0:Ln.St} {day0:Int} {bk0:Value} {hf:Nat→Int} {l:List Ln.Ev} {M:List En} {g:Ln.St} {cy cm cd:Int} {ev fv av bkv:Value} {S:Nat→Prop} {wr:World} (rc:RC W0 B G C H E bk0) (h:RW W0 B G C H E N t evv g0 day0 bk0 hf l M g cy cm cd ev fv av bkv S wr) (a b c:Int) :
  RW W0 B G C H E N t evv g0 day0 bk0 hf l M g a b c ev fv av bkv S (((wr.setCell ⟨C,0,none⟩ (.int .i64 a)).setCell ⟨C,1,none⟩ (.int .i64 b)).setCell ⟨C,2,none⟩ (.int .i64 c)):=by
 have h0:=h.kp.size
 have hhl:=rc.hl
 have hel:=rc.el
 have hci:At (((wr.setCell ⟨C,0,none⟩ (.int .i64 a)).setCell ⟨C,1,none⟩ (.int .i64 b)).setCell ⟨C,2,none⟩ (.int .i64 c)) C [.int .i64 a,.int .i64 b,.int .i64 c]:=((h.ci.set 0 (show 0 < 3 by decide) (.int .i64 a)).set 1 (show 1 < 3 by decide) (.int .i64 b)).set 2 (show 2 < 3 by decide) (.int .i64 c)
 have hk:Keep (fun b=>b = C) wr (((wr.setCell ⟨C,0,none⟩ (.int .i64 a)).setCell ⟨C,1,none⟩ (.int .i64 b)).setCell ⟨C,2,none⟩ (.int .i64 c)):=(((Keep.refl (fun b=>b = C) wr).set (S:=fun b=>b = C) rfl 0 _).set (S:=fun b=>b = C) rfl 1 _).set (S:=fun b=>b = C) rfl 2 _
 have nC:=h.on.apart rc.cl (fun b hb=>(rc.bk b hb).2.2.1)
 generalize (((wr.setCell ⟨C,0,none⟩ (.int .i64 a)).setCell ⟨C,1,none⟩ (.int .i64 b)).setCell ⟨C,2,none⟩ (.int .i64 c)) = V at *
 have hS:Keep S wr V:=hk.mono (fun b _ e=>by rw [e]; exact h.sc)
 exact ⟨At.keep (v:=.int .i64 t.st) h.go hk rc.gc,h.l1.keep hS,h.l2.keep hS,h.sg,h.sb,h.sc,h.sk,fun b hs=>Nat.lt_of_lt_of_le (h.sl b hs) hk.size,At.keep (v:=.int .i64 t.st) h.ln hk (fun e=>rc.cb e.symm),own_keep h.ow hk nC,h.on,
  hci,h.ha.block (hk.block H (by omega) (fun e=>rc.ch e.symm)),fun hl=>(h.ee hl).block (hk.block E (by omega) (fun e=>rc.ce e.symm)),h.kp.trans (hk.mono (fun _ _ e=>.inr (.inr (.inr e))))⟩
end Go.Proofs.YtanndhoimpnhpaaGreatDoor
