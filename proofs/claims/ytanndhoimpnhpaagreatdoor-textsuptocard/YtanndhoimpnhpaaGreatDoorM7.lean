/- Joined by program: Bw, Wr, Pt, PvA, PvB. -/
import Derived.Test.YtanndhoimpnhpaaGreatDoorM6
import Derived.Test.YtanndhoimpnhpaaGreatDoorM1
import Derived.Test.YtanndhoimpnhpaaGreatDoorM3
import Derived.Deep.RegionLawGrows
import Derived.Deep.RegionHeld3
import Derived.Deep.QuietTactic
import Derived.Deep.CutRange
import Derived.Test.YtanndhoimpnhpaaGreatDoorM2
import Derived.Test.YtanndhoimpnhpaaGreatDoorProg
import Derived.WalkKit
namespace Go.Proofs.YtanndhoimpnhpaaGreatDoor
open Go.ChangeShapes Go.WideShapes Go.RowKit Go.WideMaps Go.Maps
def sumOf (l : List En) (d k : Int) : Int := l.foldl (fun s e => if d = e.d ∧ k = e.k then wrap64 (s + e.a) else s) 0
theorem sumOf_snoc (l : List En) (e : En) (d k : Int) : sumOf (l ++ [e]) d k = if d = e.d ∧ k = e.k then wrap64 (sumOf l d k + e.a) else sumOf l d k := by
  unfold sumOf
  rw [List.foldl_append]
  rfl
theorem wrap64_i64 (n : Int) : I64 (wrap64 n) := by
  unfold I64 wrap64
  omega
theorem infoEntry : (Tryz.prog.info? 114).map (fun i => (i.zero, i.size, i.bytes)) = some (some (.agg #[.int .i64 0, .int .i64 0, .int .i64 0]), 3, 24) := by kernel_rfl
structure BkIs (w : World) (P : Nat) (bkv : Value) (Mb : Nat) (L : List En) : Prop where
  pl : At w P [bkv, .map (some Mb)]
  ow : w.ownsRow (P + 1) 114 3 bkv L.length (ens L)
  mp : MapIs w Mb L.length (sumOf L)
  lt : Mb < P
def BkS (P Mb : Nat) (bkv : Value) (b : Nat) : Prop := b = P ∨ b = Mb ∨ bkv.ownBlock = some b
theorem BkIs.own {w : World} {P : Nat} {bkv : Value} {Mb : Nat} {L : List En} (h : BkIs w P bkv Mb L) {b : Nat} (hb : bkv.ownBlock = some b) : P < b ∧ b < w.heap.size := own_base h.ow hb
theorem BkIs.keep {S : Nat → Prop} {w w' : World} {P : Nat} {bkv : Value} {Mb : Nat} {L : List En} (h : BkIs w P bkv Mb L) (hk : Keep S w w') (hs : ∀ b, BkS P Mb bkv b → ¬ S b) : BkIs w' P bkv Mb L :=
  ⟨At.keep h.pl hk (hs P (.inl rfl)), own_keep h.ow hk (fun b hb => hs b (.inr (.inr hb))), h.mp.block (hk.block Mb h.mp.lt (hs Mb (.inr (.inl rfl)))), h.lt⟩
end Go.Proofs.YtanndhoimpnhpaaGreatDoor
namespace Go.Proofs.YtanndhoimpnhpaaGreatDoor
open Go.ChangeShapes Go.WideShapes Go.RowKit Go.WideMaps Go.Maps
set_option maxRecDepth 100000 in
set_option maxHeartbeats 4000000 in
theorem write_any (w : World) (P : Nat) (bkv : Value) (Mb : Nat) (L : List En) (h : BkIs w P bkv Mb L) (hL : L.length + 1 ≤ 5000000000000) (d k a : Int) (hd : I64 d) (hk : I64 k) (ha : I64 a) :
    Calls Tryz.prog 81 #[.pointer (some ⟨P, 0, none⟩), .agg #[.int .i64 d, .int .i64 k, .int .i64 a]] w fun e w' => e = .returned (.tuple #[]) ∧ ∃ bkv', BkIs w' P bkv' Mb (L ++ if a = 0 then [] else [⟨d, k, a⟩]) ∧ OwnNew w bkv bkv' ∧ Keep (BkS P Mb bkv) w w' := by
  obtain ⟨i0, hi, hz0, hz1, hz2⟩ := info_parts infoEntry
  have HB : Hid (BkIs w P bkv Mb L) := h
  clear h
  by_cases hz : a = 0
  · subst hz
    go_enter Tryz.func81, Tryz.ntmps81
    go_wp2
    refine bodyPost_ret (results_none rfl _ _ _) rfl ?_
    have kk : Keep (fun _ => False) w (w.alloc (.cells #[.int .i64 d, .int .i64 k, .int .i64 0] 114)) := Keep.below ((Below.refl _ _).alloc (Nat.le_refl _) _)
    refine ⟨rfl, bkv, ?_, .inl rfl, kk.mono (fun _ _ h => h.elim)⟩
    exact HB.out.keep kk (fun _ _ h => h)
  · have hzb : (a == 0) = false := by simp [hz]
    have HI : Hid (I64 d ∧ I64 k ∧ I64 a) := ⟨hd, hk, ha⟩
    have HZ : Hid (¬ a = 0) := hz
    clear hd hk ha hz
    go_enter Tryz.func81, Tryz.ntmps81
    go_upto_region 2 with fail
    have HE : Hid (At (w.alloc (.cells #[.int .i64 d, .int .i64 k, .int .i64 a] 114)) w.heap.size [.int .i64 d, .int .i64 k, .int .i64 a]) := At.alloc w _ _
    have HK0 : Hid (Keep (fun _ => False) w (w.alloc (.cells #[.int .i64 d, .int .i64 k, .int .i64 a] 114))) := Keep.below ((Below.refl _ _).alloc (Nat.le_refl _) _)
    have HPE : Hid (∀ b, BkS P Mb bkv b → ¬ b = w.heap.size) := fun b hb hE => by
      have h1 := At.lt HB.out.pl
      have h2 := HB.out.lt
      rcases hb with hb | hb | hb
      · omega
      · omega
      · have := (HB.out.own hb).2; omega
    generalize w.alloc (.cells #[.int .i64 d, .int .i64 k, .int .i64 a] 114) = V at *
    generalize w.heap.size = E at *
    go_cut [] from 7 to 16 (fun wx => ∃ bkv2, At wx P [bkv2, .map (some Mb)] ∧ wx.ownsRow (P + 1) 114 3 bkv2 (L.length + 1) (ens L ++ [.int .i64 d, .int .i64 k, .int .i64 a]) ∧ MapIs wx Mb L.length (sumOf L) ∧ At wx E [.int .i64 d, .int .i64 k, .int .i64 a] ∧ Keep (BkS P Mb bkv) V wx ∧ OwnNew V bkv bkv2)
    case first =>
      have hb := HB.out.keep HK0.out (fun _ _ h => h)
      have HSS : Hid (∀ wz, Keep (BkS P Mb bkv) V wz → At wz E [.int .i64 d, .int .i64 k, .int .i64 a]) := fun wz hk => At.keep HE.out hk (fun h => HPE.out E h rfl)
      obtain ⟨p0, cap0, rfl⟩ := own_slice hb.ow
      have oU := hb.ow.drew
      have aU : At V.drew P [.slice p0 L.length cap0, .map (some Mb)] := hb.pl.drew
      have mU : MapIs V.drew Mb L.length (sumOf L) := hb.mp
      have kU : Keep (BkS P Mb (.slice p0 L.length cap0)) V V.drew := (Keep.refl _ _).drew
      have hPl : P < V.drew.heap.size := At.lt aU
      have hMP := hb.lt
      clear hb
      refine wp_region_held_drew (S := fun wz => At wz E [.int .i64 d, .int .i64 k, .int .i64 a]) (by kernel_rfl) (HSS.out _ kU) (fun hHeld => ?_)
      generalize V.drew = U at *
      have u6 : U.cell? ⟨P, 0, none⟩ = some (.slice p0 L.length cap0) := aU.cell 0 rfl
      have oU1 := oU.alloc (.cells #[.int .i64 d, .int .i64 k, .int .i64 a] 114)
      have aU1 : At (U.alloc (.cells #[.int .i64 d, .int .i64 k, .int .i64 a] 114)) P [.slice p0 L.length cap0, .map (some Mb)] := At.over aU _
      have mU1 : MapIs (U.alloc (.cells #[.int .i64 d, .int .i64 k, .int .i64 a] 114)) Mb L.length (sumOf L) := mU.block (Keep.below (S := fun _ => False) ((Below.refl _ _).alloc (Nat.le_refl _) _) |>.block Mb mU.lt (fun h => h))
      have nU1 : At (U.alloc (.cells #[.int .i64 d, .int .i64 k, .int .i64 a] 114)) U.heap.size [.int .i64 d, .int .i64 k, .int .i64 a] := At.alloc U _ _
      have kU1 : Keep (BkS P Mb (.slice p0 L.length cap0)) V (U.alloc (.cells #[.int .i64 d, .int .i64 k, .int .i64 a] 114)) := kU.trans (Keep.below ((Below.refl _ _).alloc (Nat.le_refl _) _))
      have u7 : (U.alloc (.cells #[.int .i64 d, .int .i64 k, .int .i64 a] 114)).cell? ⟨P, 0, none⟩ = some (.slice p0 L.length cap0) := aU1.cell 0 rfl
      have gsz : P + 1 ≤ (U.alloc (.cells #[.int .i64 d, .int .i64 k, .int .i64 a] 114)).heap.size := by simp; omega
      refine wpAnyH_take (i := 0) (v := (.pointer (some ⟨P, 0, none⟩))) rfl (by kernel_rfl) (by kernel_rfl) (by kernel_rfl) (fun _ _ _ h => h) (Or.inl ⟨by rfl, fun wx hSw => by go_simp⟩) (by assumption) ?_
      simp only [Act.put, List.getElem_toArray, List.getElem_cons_zero, List.setIfInBounds_toArray, List.set_cons_zero, List.set_cons_succ]
      refine wpAnyH_take (i := 1) (v := (.pointer (some ⟨P, 0, none⟩))) rfl (by kernel_rfl) (by kernel_rfl) (by kernel_rfl) (fun _ _ _ h => h) (Or.inl ⟨by rfl, fun wx hSw => by go_simp⟩) (by assumption) ?_
      simp only [Act.put, List.getElem_toArray, List.getElem_cons_succ, List.getElem_cons_zero, List.setIfInBounds_toArray, List.set_cons_zero, List.set_cons_succ]
      refine wpAnyH_take (i := 2) (v := (.pointer (some ⟨P, 0, none⟩))) rfl (by kernel_rfl) (by kernel_rfl) (by kernel_rfl) (fun _ _ _ h => h) (Or.inl ⟨by rfl, fun wx hSw => by go_simp⟩) (by assumption) ?_
      simp only [Act.put, List.getElem_toArray, List.getElem_cons_succ, List.getElem_cons_zero, List.setIfInBounds_toArray, List.set_cons_zero, List.set_cons_succ]
      refine wpAnyH_take (i := 3) (v := (.pointer (some ⟨P, 0, none⟩))) rfl (by kernel_rfl) (by kernel_rfl) (by kernel_rfl) (fun _ _ _ h => h) (Or.inl ⟨by rfl, fun wx hSw => by go_simp⟩) (by assumption) ?_
      simp only [Act.put, List.getElem_toArray, List.getElem_cons_succ, List.getElem_cons_zero, List.setIfInBounds_toArray, List.set_cons_zero, List.set_cons_succ]
      refine wpAnyH_take (i := 5) (v := (.agg #[.int .i64 d, .int .i64 k, .int .i64 a])) rfl (by kernel_rfl) (by kernel_rfl) (by kernel_rfl) (fun _ _ _ h => h) (yieldsIf_load_mid (by rfl) 114 (.tmp 3) rfl _ _ rfl _ _ (fun _ h => At.range h) Tryz.underlying114 rfl (by kernel_rfl)) (by assumption) ?_
      simp only [Act.put, List.getElem_toArray, List.getElem_cons_succ, List.getElem_cons_zero, List.setIfInBounds_toArray, List.set_cons_zero, List.set_cons_succ]
      refine wpAnyH_ready (rs := [4, 6]) (by kernel_rfl) (by simp) ?_
      refine AllReadyH.cons rfl (fun K hK => ?_) (AllReadyH.cons rfl (fun K hK => ?_) AllReadyH.nil)
      · go_simp
        refine hK.out _ _ hHeld (fun _ => ?_)
        clear hK K
        refine wpAnyH_ready (rs := [6]) (by kernel_rfl) (by simp) ?_
        refine AllReadyH.cons rfl (fun K hK => ?_) AllReadyH.nil
        rw [if_pos (by rfl)]
        refine wp_valD (.slice (some ⟨U.heap.size, 0, none⟩) 1 1) (U.alloc (.cells #[.int .i64 d, .int .i64 k, .int .i64 a] 114)) (by kernel_rfl) ?_
        refine hK.out _ _ (HSS.out _ kU1) (fun _ => ?_)
        clear hK K u6 u7 oU aU kU hHeld
        simp only [Act.put, List.getElem_toArray, List.getElem_cons_succ, List.getElem_cons_zero, List.setIfInBounds_toArray, List.set_cons_zero, List.set_cons_succ]
        generalize U.alloc (.cells #[.int .i64 d, .int .i64 k, .int .i64 a] 114) = U1 at *
        generalize hNN : U.heap.size = NN at *
        refine wpAnyH_ready (rs := [7]) (by kernel_rfl) (by simp) ?_
        refine AllReadyH.cons rfl (fun K hK => ?_) AllReadyH.nil
        rw [if_pos (by rfl)]
        refine wp_append_at U1 (.tmp 11) (.tmp 13) 54 rfl (P + 1) 114 i0 (.agg #[.int .i64 0, .int .i64 0, .int .i64 0]) 3 24 Tryz.underlying54 hi hz0 hz1 hz2 rfl (by decide) _ _ _ rfl oU1 ⟨NN, 0, none⟩ 1 1 [.int .i64 d, .int .i64 k, .int .i64 a] rfl rfl ?_ ?_ ?_ ?_ ?_ ?_
        · intro j u hj
          have := (nU1 j u hj).1
          by_cases j0 : j = 0
          · subst j0; simpa [Addr.add] using this
          · simpa [Addr.add, j0] using this
        · intro u hu
          simp at hu
          rcases hu with rfl | rfl | rfl <;> rfl
        · unfold maxLen; omega
        · omega
        · omega
        intro v' w' h2 h3 hat
        have kp3 : Keep (fun b => some b = (Value.slice p0 L.length cap0).ownBlock) U1 w' := ⟨h3.os, h3.tape, h3.output, h3.size, fun j hj hs => h3.block j hj hs⟩
        have kv : Keep (BkS P Mb (.slice p0 L.length cap0)) V w' := kU1.trans (kp3.mono (fun b _ h => .inr (.inr h.symm)))
        have aw : At w' P [.slice p0 L.length cap0, .map (some Mb)] := At.keep aU1 kp3 (fun h => by have := (own_base oU1 h.symm).1; omega)
        obtain ⟨g', cap', rfl, _, _⟩ := h2.form (by omega)
        refine hK.out _ _ (HSS.out w' kv) (fun _ => ?_)
        clear hK K
        simp only [Act.put, List.getElem_toArray, List.getElem_cons_succ, List.getElem_cons_zero, List.setIfInBounds_toArray, List.set_cons_zero, List.set_cons_succ]
        refine wpAnyH_take (i := 8) (v := (.pointer (some ⟨P, 0, none⟩))) rfl (by kernel_rfl) (by kernel_rfl) (by kernel_rfl) (fun _ _ _ h => h) (Or.inl ⟨by rfl, fun wx hSw => by go_simp⟩) (by assumption) ?_
        simp only [Act.put, List.getElem_toArray, List.getElem_cons_succ, List.getElem_cons_zero, List.setIfInBounds_toArray, List.set_cons_zero, List.set_cons_succ]
        refine wpAnyH_take (i := 9) (v := (.pointer (some ⟨P, 0, none⟩))) rfl (by kernel_rfl) (by kernel_rfl) (by kernel_rfl) (fun _ _ _ h => h) (Or.inl ⟨by rfl, fun wx hSw => by go_simp⟩) (by assumption) ?_
        simp only [Act.put, List.getElem_toArray, List.getElem_cons_succ, List.getElem_cons_zero, List.setIfInBounds_toArray, List.set_cons_zero, List.set_cons_succ]
        refine wpAnyH_ready (rs := [10]) (by kernel_rfl) (by simp) ?_
        refine AllReadyH.cons rfl (fun K hK => ?_) AllReadyH.nil
        have y6 : w'.cell? ⟨P, 0, none⟩ = some (.slice p0 L.length cap0) := aw.cell 0 rfl
        have y7 : w'.frozen? ⟨P, 0, none⟩ = false := aw.free 0 rfl
        go_simp
        have kv2 := kv.set (S := BkS P Mb (.slice p0 L.length cap0)) (.inl rfl) 0 (.slice (some ⟨g', 0, none⟩) (L.length + 1) cap')
        have aw2 : At (w'.setCell ⟨P, 0, none⟩ (.slice (some ⟨g', 0, none⟩) (L.length + 1) cap')) P [.slice (some ⟨g', 0, none⟩) (L.length + 1) cap', .map (some Mb)] := aw.set 0 (show 0 < 2 by decide) _
        have ow2 : (w'.setCell ⟨P, 0, none⟩ (.slice (some ⟨g', 0, none⟩) (L.length + 1) cap')).ownsRow (P + 1) 114 3 (.slice (some ⟨g', 0, none⟩) (L.length + 1) cap') (L.length + 1) (ens L ++ [.int .i64 d, .int .i64 k, .int .i64 a]) := ownsRow_setCell_below h2 (Nat.lt_succ_self P) _
        have kp4 : Keep (fun b => b = P ∨ some b = (Value.slice p0 L.length cap0).ownBlock) U1 (w'.setCell ⟨P, 0, none⟩ (.slice (some ⟨g', 0, none⟩) (L.length + 1) cap')) := (kp3.mono (fun b _ h => .inr h)).set (S := fun b => b = P ∨ some b = (Value.slice p0 L.length cap0).ownBlock) (.inl rfl) 0 _
        refine hK.out _ _ (HSS.out _ kv2) (fun _ => ?_)
        have mp2 := mU1.block (kp4.block Mb mU1.lt (fun h => h.elim (fun h => by omega) (fun h => by have := (own_base oU1 h.symm).1; omega)))
        have hnew : OwnNew V (.slice p0 L.length cap0) (.slice (some ⟨g', 0, none⟩) (L.length + 1) cap') := hat.elim .inl (fun h => .inr ⟨_, h, kU1.size⟩)
        clear hK K h2 h3 y6 y7 aw kv hat oU1 aU1 nU1 kU1 kp3 kp4 mU1
        generalize w'.setCell ⟨P, 0, none⟩ (.slice (some ⟨g', 0, none⟩) (L.length + 1) cap') = w9 at *
        refine wpAnyH_done (by kernel_rfl) ?_ _
        go_wp2_with fail
        go_meet
        case rel => exact ⟨_, aw2, ow2, mp2, HSS.out _ kv2, kv2, hnew⟩
      · rw [if_pos (by rfl)]
        refine wp_valD (.slice (some ⟨U.heap.size, 0, none⟩) 1 1) (U.alloc (.cells #[.int .i64 d, .int .i64 k, .int .i64 a] 114)) (by kernel_rfl) ?_
        refine hK.out _ _ (HSS.out _ kU1) (fun hHeld2 => ?_)
        clear hK K u6
        simp only [Act.put, List.getElem_toArray, List.getElem_cons_succ, List.getElem_cons_zero, List.setIfInBounds_toArray, List.set_cons_zero, List.set_cons_succ]
        refine wpAnyH_ready (rs := [4]) (by kernel_rfl) (by simp) ?_
        refine AllReadyH.cons rfl (fun K hK => ?_) AllReadyH.nil
        go_simp
        refine hK.out _ _ hHeld2 (fun _ => ?_)
        clear hK K u7 oU aU kU hHeld hHeld2
        generalize U.alloc (.cells #[.int .i64 d, .int .i64 k, .int .i64 a] 114) = U1 at *
        generalize hNN : U.heap.size = NN at *
        refine wpAnyH_ready (rs := [7]) (by kernel_rfl) (by simp) ?_
        refine AllReadyH.cons rfl (fun K hK => ?_) AllReadyH.nil
        rw [if_pos (by rfl)]
        refine wp_append_at U1 (.tmp 11) (.tmp 13) 54 rfl (P + 1) 114 i0 (.agg #[.int .i64 0, .int .i64 0, .int .i64 0]) 3 24 Tryz.underlying54 hi hz0 hz1 hz2 rfl (by decide) _ _ _ rfl oU1 ⟨NN, 0, none⟩ 1 1 [.int .i64 d, .int .i64 k, .int .i64 a] rfl rfl ?_ ?_ ?_ ?_ ?_ ?_
        · intro j u hj
          have := (nU1 j u hj).1
          by_cases j0 : j = 0
          · subst j0; simpa [Addr.add] using this
          · simpa [Addr.add, j0] using this
        · intro u hu
          simp at hu
          rcases hu with rfl | rfl | rfl <;> rfl
        · unfold maxLen; omega
        · omega
        · omega
        intro v' w' h2 h3 hat
        have kp3 : Keep (fun b => some b = (Value.slice p0 L.length cap0).ownBlock) U1 w' := ⟨h3.os, h3.tape, h3.output, h3.size, fun j hj hs => h3.block j hj hs⟩
        have kv : Keep (BkS P Mb (.slice p0 L.length cap0)) V w' := kU1.trans (kp3.mono (fun b _ h => .inr (.inr h.symm)))
        have aw : At w' P [.slice p0 L.length cap0, .map (some Mb)] := At.keep aU1 kp3 (fun h => by have := (own_base oU1 h.symm).1; omega)
        obtain ⟨g', cap', rfl, _, _⟩ := h2.form (by omega)
        refine hK.out _ _ (HSS.out w' kv) (fun _ => ?_)
        clear hK K
        simp only [Act.put, List.getElem_toArray, List.getElem_cons_succ, List.getElem_cons_zero, List.setIfInBounds_toArray, List.set_cons_zero, List.set_cons_succ]
        refine wpAnyH_take (i := 8) (v := (.pointer (some ⟨P, 0, none⟩))) rfl (by kernel_rfl) (by kernel_rfl) (by kernel_rfl) (fun _ _ _ h => h) (Or.inl ⟨by rfl, fun wx hSw => by go_simp⟩) (by assumption) ?_
        simp only [Act.put, List.getElem_toArray, List.getElem_cons_succ, List.getElem_cons_zero, List.setIfInBounds_toArray, List.set_cons_zero, List.set_cons_succ]
        refine wpAnyH_take (i := 9) (v := (.pointer (some ⟨P, 0, none⟩))) rfl (by kernel_rfl) (by kernel_rfl) (by kernel_rfl) (fun _ _ _ h => h) (Or.inl ⟨by rfl, fun wx hSw => by go_simp⟩) (by assumption) ?_
        simp only [Act.put, List.getElem_toArray, List.getElem_cons_succ, List.getElem_cons_zero, List.setIfInBounds_toArray, List.set_cons_zero, List.set_cons_succ]
        refine wpAnyH_ready (rs := [10]) (by kernel_rfl) (by simp) ?_
        refine AllReadyH.cons rfl (fun K hK => ?_) AllReadyH.nil
        have y6 : w'.cell? ⟨P, 0, none⟩ = some (.slice p0 L.length cap0) := aw.cell 0 rfl
        have y7 : w'.frozen? ⟨P, 0, none⟩ = false := aw.free 0 rfl
        go_simp
        have kv2 := kv.set (S := BkS P Mb (.slice p0 L.length cap0)) (.inl rfl) 0 (.slice (some ⟨g', 0, none⟩) (L.length + 1) cap')
        have aw2 : At (w'.setCell ⟨P, 0, none⟩ (.slice (some ⟨g', 0, none⟩) (L.length + 1) cap')) P [.slice (some ⟨g', 0, none⟩) (L.length + 1) cap', .map (some Mb)] := aw.set 0 (show 0 < 2 by decide) _
        have ow2 : (w'.setCell ⟨P, 0, none⟩ (.slice (some ⟨g', 0, none⟩) (L.length + 1) cap')).ownsRow (P + 1) 114 3 (.slice (some ⟨g', 0, none⟩) (L.length + 1) cap') (L.length + 1) (ens L ++ [.int .i64 d, .int .i64 k, .int .i64 a]) := ownsRow_setCell_below h2 (Nat.lt_succ_self P) _
        have kp4 : Keep (fun b => b = P ∨ some b = (Value.slice p0 L.length cap0).ownBlock) U1 (w'.setCell ⟨P, 0, none⟩ (.slice (some ⟨g', 0, none⟩) (L.length + 1) cap')) := (kp3.mono (fun b _ h => .inr h)).set (S := fun b => b = P ∨ some b = (Value.slice p0 L.length cap0).ownBlock) (.inl rfl) 0 _
        refine hK.out _ _ (HSS.out _ kv2) (fun _ => ?_)
        have mp2 := mU1.block (kp4.block Mb mU1.lt (fun h => h.elim (fun h => by omega) (fun h => by have := (own_base oU1 h.symm).1; omega)))
        have hnew : OwnNew V (.slice p0 L.length cap0) (.slice (some ⟨g', 0, none⟩) (L.length + 1) cap') := hat.elim .inl (fun h => .inr ⟨_, h, kU1.size⟩)
        clear hK K h2 h3 y6 y7 aw kv hat oU1 aU1 nU1 kU1 kp3 kp4 mU1
        generalize w'.setCell ⟨P, 0, none⟩ (.slice (some ⟨g', 0, none⟩) (L.length + 1) cap') = w9 at *
        refine wpAnyH_done (by kernel_rfl) ?_ _
        go_wp2_with fail
        go_meet
        case rel => exact ⟨_, aw2, ow2, mp2, HSS.out _ kv2, kv2, hnew⟩
    case rest =>
      obtain ⟨bkv2, a2, o2, m2, e2, k2, n2⟩ := hcut
      obtain ⟨hd, hk, ha⟩ := HI.out
      have hP := At.lt HB.out.pl
      have hMP := HB.out.lt
      have hPM : ¬ P = Mb := by omega
      have hEM : ¬ E = Mb := fun e => HPE.out Mb (.inr (.inl rfl)) e.symm
      have ap : wc.drew.cell? ⟨P, 1, none⟩ = some (.map (some Mb)) := a2.cell 1 rfl
      have aE : At wc.drew E [.int .i64 d, .int .i64 k, .int .i64 a] := e2.drew
      have md : MapIs wc.drew Mb L.length (sumOf L) := m2
      obtain ⟨v0, st, es1, clock1, hen, kd, hlk2, hsto⟩ := md.store (by unfold maxLen; omega) d k hd hk
      have hlk1 := md.look d k hd hk
      obtain ⟨w5, hst, hmp, hgr⟩ := hsto (wrap64 (sumOf L d k + a)) (wrap64_i64 _)
      have k5 : Keep (fun b => b = Mb) wc w5 := (Keep.refl _ _).drew.trans (keep_grown hgr)
      have HT : Hid (∃ bkv', BkIs w5 P bkv' Mb (L ++ [⟨d, k, a⟩]) ∧ OwnNew w bkv bkv' ∧ Keep (BkS P Mb bkv) w w5) := by
        refine ⟨bkv2, ⟨At.keep a2 k5 hPM, ?_, ?_, hMP⟩, ?_, ?_⟩
        · rw [ens_append, List.length_append]
          exact own_keep o2 k5 (fun b hb e => by have := (own_base o2 hb).1; omega)
        · rw [List.length_append]
          have hs : sumOf (L ++ [⟨d, k, a⟩]) = fun x y => if x = d ∧ y = k then wrap64 (sumOf L d k + a) else sumOf L x y := by
            funext x y
            rw [sumOf_snoc]
            by_cases hx : x = d ∧ y = k
            · rw [if_pos hx, if_pos hx, hx.1, hx.2]
            · rw [if_neg hx, if_neg hx]
          rw [hs]
          exact hmp
        · rcases n2 with h | ⟨b, h1, h2⟩
          · exact .inl h
          · exact .inr ⟨b, h1, Nat.le_trans HK0.out.size h2⟩
        · exact (HK0.out.mono (fun _ _ h => h.elim)).trans (k2.trans (k5.mono (fun b _ h => .inr (.inl h))))
      have hs1 : wc.drew.cell? ⟨P, 1, none⟩ = some (.map (some Mb)) ∧ At wc.drew E [.int .i64 d, .int .i64 k, .int .i64 a] := ⟨ap, aE⟩
      have hs2 : (ChangeMaps.setBlock wc.drew Mb (.map es1 clock1)).cell? ⟨P, 1, none⟩ = some (.map (some Mb)) ∧ At (ChangeMaps.setBlock wc.drew Mb (.map es1 clock1)) E [.int .i64 d, .int .i64 k, .int .i64 a] := ⟨(At.keep a2.drew kd hPM).cell 1 rfl, At.keep aE kd hEM⟩
      have hs5 : w5.cell? ⟨P, 1, none⟩ = some (.map (some Mb)) ∧ At w5 E [.int .i64 d, .int .i64 k, .int .i64 a] := ⟨(At.keep a2 k5 hPM).cell 1 rfl, At.keep e2 k5 hEM⟩
      clear a2 o2 m2 e2 k2 n2 ap aE md hmp hgr k5 hsto kd
      go_wp2_with fail
      refine wp_region_held_drew (S := fun wz => wz.cell? ⟨P, 1, none⟩ = some (.map (some Mb)) ∧ At wz E [.int .i64 d, .int .i64 k, .int .i64 a]) (by kernel_rfl) hs1 (fun hHeld => ?_)
      generalize wc.drew = U at *
      generalize ChangeMaps.setBlock U Mb (.map es1 clock1) = U2 at *
      refine wpAnyH_take (i := 0) (v := (.pointer (some ⟨P, 0, none⟩))) rfl (by kernel_rfl) (by kernel_rfl) (by kernel_rfl) (fun _ _ _ h => h) (Or.inl ⟨by rfl, fun wx hSw => by go_simp⟩) (by assumption) ?_
      simp only [Act.put, List.getElem_toArray, List.getElem_cons_zero, List.setIfInBounds_toArray, List.set_cons_zero, List.set_cons_succ]
      refine wpAnyH_take (i := 1) (v := (.pointer (some ⟨P, 0, none⟩))) rfl (by kernel_rfl) (by kernel_rfl) (by kernel_rfl) (fun _ _ _ h => h) (Or.inl ⟨by rfl, fun wx hSw => by go_simp⟩) (by assumption) ?_
      simp only [Act.put, List.getElem_toArray, List.getElem_cons_succ, List.getElem_cons_zero, List.setIfInBounds_toArray, List.set_cons_zero, List.set_cons_succ]
      refine wpAnyH_take (i := 2) (v := (.pointer (some ⟨P, 1, none⟩))) rfl (by kernel_rfl) (by kernel_rfl) (by kernel_rfl) (fun _ _ _ h => h) (Or.inl ⟨by rfl, fun wx hSw => by go_simp⟩) (by assumption) ?_
      simp only [Act.put, List.getElem_toArray, List.getElem_cons_succ, List.getElem_cons_zero, List.setIfInBounds_toArray, List.set_cons_zero, List.set_cons_succ]
      refine wpAnyH_take (i := 3) (v := (.map (some Mb))) rfl (by kernel_rfl) (by kernel_rfl) (by kernel_rfl) (fun _ _ _ h => h) (Or.inl ⟨by rfl, fun wx hSw => by (have h1 := hSw.1; go_simp)⟩) (by assumption) ?_
      simp only [Act.put, List.getElem_toArray, List.getElem_cons_succ, List.getElem_cons_zero, List.setIfInBounds_toArray, List.set_cons_zero, List.set_cons_succ]
      refine wpAnyH_take (i := 4) (v := (.pointer (some ⟨E, 0, none⟩))) rfl (by kernel_rfl) (by kernel_rfl) (by kernel_rfl) (fun _ _ _ h => h) (Or.inl ⟨by rfl, fun wx hSw => by go_simp⟩) (by assumption) ?_
      simp only [Act.put, List.getElem_toArray, List.getElem_cons_succ, List.getElem_cons_zero, List.setIfInBounds_toArray, List.set_cons_zero, List.set_cons_succ]
      refine wpAnyH_take (i := 5) (v := (.int .i64 d)) rfl (by kernel_rfl) (by kernel_rfl) (by kernel_rfl) (fun _ _ _ h => h) (Or.inl ⟨by rfl, fun wx hSw => by (have h1 := hSw.2.cell 0 rfl; go_simp)⟩) (by assumption) ?_
      simp only [Act.put, List.getElem_toArray, List.getElem_cons_succ, List.getElem_cons_zero, List.setIfInBounds_toArray, List.set_cons_zero, List.set_cons_succ]
      refine wpAnyH_take (i := 6) (v := (.pointer (some ⟨E, 1, none⟩))) rfl (by kernel_rfl) (by kernel_rfl) (by kernel_rfl) (fun _ _ _ h => h) (Or.inl ⟨by rfl, fun wx hSw => by go_simp⟩) (by assumption) ?_
      simp only [Act.put, List.getElem_toArray, List.getElem_cons_succ, List.getElem_cons_zero, List.setIfInBounds_toArray, List.set_cons_zero, List.set_cons_succ]
      refine wpAnyH_take (i := 7) (v := (.int .i64 k)) rfl (by kernel_rfl) (by kernel_rfl) (by kernel_rfl) (fun _ _ _ h => h) (Or.inl ⟨by rfl, fun wx hSw => by (have h1 := hSw.2.cell 1 rfl; go_simp)⟩) (by assumption) ?_
      simp only [Act.put, List.getElem_toArray, List.getElem_cons_succ, List.getElem_cons_zero, List.setIfInBounds_toArray, List.set_cons_zero, List.set_cons_succ]
      refine wpAnyH_take (i := 8) (v := (.agg #[.int .i64 d, .int .i64 k])) rfl (by kernel_rfl) (by kernel_rfl) (by kernel_rfl) (fun _ _ _ h => h) (Or.inl ⟨by rfl, fun wx hSw => by go_simp⟩) (by assumption) ?_
      simp only [Act.put, List.getElem_toArray, List.getElem_cons_succ, List.getElem_cons_zero, List.setIfInBounds_toArray, List.set_cons_zero, List.set_cons_succ]
      refine wpAnyH_take (i := 10) (v := (.pointer (some ⟨E, 2, none⟩))) rfl (by kernel_rfl) (by kernel_rfl) (by kernel_rfl) (fun _ _ _ h => h) (Or.inl ⟨by rfl, fun wx hSw => by go_simp⟩) (by assumption) ?_
      simp only [Act.put, List.getElem_toArray, List.getElem_cons_succ, List.getElem_cons_zero, List.setIfInBounds_toArray, List.set_cons_zero, List.set_cons_succ]
      refine wpAnyH_take (i := 11) (v := (.int .i64 a)) rfl (by kernel_rfl) (by kernel_rfl) (by kernel_rfl) (fun _ _ _ h => h) (Or.inl ⟨by rfl, fun wx hSw => by (have h1 := hSw.2.cell 2 rfl; go_simp)⟩) (by assumption) ?_
      simp only [Act.put, List.getElem_toArray, List.getElem_cons_succ, List.getElem_cons_zero, List.setIfInBounds_toArray, List.set_cons_zero, List.set_cons_succ]
      refine wpAnyH_ready (rs := [9, 13]) (by kernel_rfl) (by simp) ?_
      refine AllReadyH.cons rfl (fun K hK => ?_) (AllReadyH.cons rfl (fun K hK => ?_) AllReadyH.nil)
      · rw [if_pos (by rfl)]
        refine wp_lookup_run (.tmp 20) (.tmp 25) 146 rfl _ _ rfl rfl hlk1 ?_
        refine hK.out _ _ hs1 (fun _ => ?_)
        clear hK K
        simp only [Act.put, List.getElem_toArray, List.getElem_cons_succ, List.getElem_cons_zero, List.setIfInBounds_toArray, List.set_cons_zero, List.set_cons_succ]
        refine wpAnyH_take (i := 12) (v := (.int .i64 (wrap64 (sumOf L d k + a)))) rfl (by kernel_rfl) (by kernel_rfl) (by kernel_rfl) (fun _ _ _ h => h) (Or.inl ⟨by rfl, fun wx hSw => by (go_simp; simp only [IntKind.wrap_i64, wrap64])⟩) (by assumption) ?_
        simp only [Act.put, List.getElem_toArray, List.getElem_cons_succ, List.getElem_cons_zero, List.setIfInBounds_toArray, List.set_cons_zero, List.set_cons_succ]
        refine wpAnyH_ready (rs := [13]) (by kernel_rfl) (by simp) ?_
        refine AllReadyH.cons rfl (fun K hK => ?_) AllReadyH.nil
        rw [if_pos (by rfl)]
        refine wp_entry_run (.tmp 20) (.tmp 25) 146 rfl _ _ rfl rfl hen ?_
        refine hK.out _ _ hs2 (fun _ => ?_)
        clear hK K
        simp only [Act.put, List.getElem_toArray, List.getElem_cons_succ, List.getElem_cons_zero, List.setIfInBounds_toArray, List.set_cons_zero, List.set_cons_succ]
        refine wpAnyH_take (i := 14) (v := (.int .i64 st)) rfl (by kernel_rfl) (by kernel_rfl) (by kernel_rfl) (fun _ _ _ h => h) (Or.inl ⟨by rfl, fun wx hSw => by go_simp⟩) (by assumption) ?_
        simp only [Act.put, List.getElem_toArray, List.getElem_cons_succ, List.getElem_cons_zero, List.setIfInBounds_toArray, List.set_cons_zero, List.set_cons_succ]
        refine wpAnyH_ready (rs := [15]) (by kernel_rfl) (by simp) ?_
        refine AllReadyH.cons rfl (fun K hK => ?_) AllReadyH.nil
        rw [if_pos (by rfl)]
        refine wp_entryStore_run (.tmp 20) (.tmp 31) (.tmp 29) 146 rfl _ _ _ rfl rfl rfl hst ?_
        refine hK.out _ _ hs5 (fun _ => ?_)
        clear hK K
        refine wpAnyH_done (by kernel_rfl) ?_ _
        go_wp2
        go_end0
        exact ⟨rfl, HT.out⟩
      · rw [if_pos (by rfl)]
        refine wp_entry_run (.tmp 20) (.tmp 25) 146 rfl _ _ rfl rfl hen ?_
        refine hK.out _ _ hs2 (fun _ => ?_)
        clear hK K
        simp only [Act.put, List.getElem_toArray, List.getElem_cons_succ, List.getElem_cons_zero, List.setIfInBounds_toArray, List.set_cons_zero, List.set_cons_succ]
        refine wpAnyH_take (i := 14) (v := (.int .i64 st)) rfl (by kernel_rfl) (by kernel_rfl) (by kernel_rfl) (fun _ _ _ h => h) (Or.inl ⟨by rfl, fun wx hSw => by go_simp⟩) (by assumption) ?_
        simp only [Act.put, List.getElem_toArray, List.getElem_cons_succ, List.getElem_cons_zero, List.setIfInBounds_toArray, List.set_cons_zero, List.set_cons_succ]
        refine wpAnyH_ready (rs := [9]) (by kernel_rfl) (by simp) ?_
        refine AllReadyH.cons rfl (fun K hK => ?_) AllReadyH.nil
        rw [if_pos (by rfl)]
        refine wp_lookup_run (.tmp 20) (.tmp 25) 146 rfl _ _ rfl rfl hlk2 ?_
        refine hK.out _ _ hs2 (fun _ => ?_)
        clear hK K
        simp only [Act.put, List.getElem_toArray, List.getElem_cons_succ, List.getElem_cons_zero, List.setIfInBounds_toArray, List.set_cons_zero, List.set_cons_succ]
        refine wpAnyH_take (i := 12) (v := (.int .i64 (wrap64 (sumOf L d k + a)))) rfl (by kernel_rfl) (by kernel_rfl) (by kernel_rfl) (fun _ _ _ h => h) (Or.inl ⟨by rfl, fun wx hSw => by (go_simp; simp only [IntKind.wrap_i64, wrap64])⟩) (by assumption) ?_
        simp only [Act.put, List.getElem_toArray, List.getElem_cons_succ, List.getElem_cons_zero, List.setIfInBounds_toArray, List.set_cons_zero, List.set_cons_succ]
        refine wpAnyH_ready (rs := [15]) (by kernel_rfl) (by simp) ?_
        refine AllReadyH.cons rfl (fun K hK => ?_) AllReadyH.nil
        rw [if_pos (by rfl)]
        refine wp_entryStore_run (.tmp 20) (.tmp 31) (.tmp 29) 146 rfl _ _ _ rfl rfl rfl hst ?_
        refine hK.out _ _ hs5 (fun _ => ?_)
        clear hK K
        refine wpAnyH_done (by kernel_rfl) ?_ _
        go_wp2
        go_end0
        exact ⟨rfl, HT.out⟩
end Go.Proofs.YtanndhoimpnhpaaGreatDoor
namespace Go.Proofs.YtanndhoimpnhpaaGreatDoor
open Go.ChangeShapes Go.WideShapes Go.RowKit Go.WideMaps Go.Maps
end Go.Proofs.YtanndhoimpnhpaaGreatDoor
namespace Go.Proofs.YtanndhoimpnhpaaGreatDoor
open Go.RowKit
def EvAt (w : World) (E : Nat) (p : Option Addr) (l : List Ln.Ev) : Prop :=
  ∀ k (hk : k < l.length), ∃ o, p = some ⟨E, o, none⟩ ∧ E < w.heap.size ∧ w.cell? ⟨E, o + k * 4, none⟩ = some (.int .i64 l[k].d) ∧ w.cell? ⟨E, o + k * 4 + 1, none⟩ = some (.int .i64 l[k].k) ∧ w.cell? ⟨E, o + k * 4 + 2, none⟩ = some (.int .i64 l[k].s) ∧ w.cell? ⟨E, o + k * 4 + 3, none⟩ = some (.int .i64 l[k].a)
def EvV (w : World) (E : Nat) (v : Value) (l : List Ln.Ev) : Prop := ∃ p cap, v = .slice p l.length cap ∧ l.length ≤ cap ∧ EvAt w E p l
theorem EvAt.keep {S : Nat → Prop} {w w' : World} {E : Nat} {p : Option Addr} {l : List Ln.Ev} (h : EvAt w E p l) (hk : Keep S w w') (hs : l ≠ [] → ¬ S E) : EvAt w' E p l := by
  intro k hkl
  obtain ⟨o, rfl, hl, c0, c1, c2, c3⟩ := h k hkl
  have hb := hk.block E hl (hs (fun e => by subst e; exact absurd hkl (Nat.not_lt_zero k)))
  exact ⟨o, rfl, Nat.lt_of_lt_of_le hl hk.size, (World.cell?_of_block (w := w) (a := ⟨E, o + k * 4, none⟩) hb).trans c0, (World.cell?_of_block (w := w) (a := ⟨E, o + k * 4 + 1, none⟩) hb).trans c1, (World.cell?_of_block (w := w) (a := ⟨E, o + k * 4 + 2, none⟩) hb).trans c2, (World.cell?_of_block (w := w) (a := ⟨E, o + k * 4 + 3, none⟩) hb).trans c3⟩
theorem EvV.keep {S : Nat → Prop} {w w' : World} {E : Nat} {v : Value} {l : List Ln.Ev} (h : EvV w E v l) (hk : Keep S w w') (hs : l ≠ [] → ¬ S E) : EvV w' E v l := by
  obtain ⟨p, cap, h1, h2, h3⟩ := h
  exact ⟨p, cap, h1, h2, h3.keep hk hs⟩
end Go.Proofs.YtanndhoimpnhpaaGreatDoor
namespace Go.Proofs.YtanndhoimpnhpaaGreatDoor
open Go.ChangeShapes Go.WideShapes Go.RowKit Go.WideMaps Go.Maps Cal
def ll (t : Ln.Terms) (v : Value) (g : Ln.St) (day : Int) (bk : Value) : List Value :=
  [.int .i64 t.st, .int .i64 t.pr, .int .i64 t.rt, .int .i64 t.fi, .int .i64 t.ba, .int .i64 t.du, v, .int .i64 g.pr, .int .i64 g.it, .int .i64 g.du, .int .i64 g.la, .int .i64 g.fi, .int .i64 g.cr, .int .i64 g.rt, .int .i64 day, bk]
theorem keepO {w W W' : World} {B : Nat} {l : List Value} {v : Value} (hb : Below W.heap.size W W') (h : At W B (v :: l) ∧ Below w.heap.size w W) : At W' B (v :: l) ∧ Below w.heap.size w W' :=
  ⟨h.1.keep (S := fun _ => False) (Keep.below hb) (fun x => x), h.2.trans (hb.mono h.2.size)⟩
theorem new_any (w : World) :
    Calls Tryz.prog 55 #[] w fun e w' => (∃ P Mb, e = .returned (.pointer (some ⟨P, 0, none⟩)) ∧ w.heap.size ≤ Mb ∧ BkIs w' P (.slice none 0 0) Mb []) ∧ Below w.heap.size w w' := by
  have hmm := @run_makeMap Tryz.prog
  go_enter Tryz.func55, Tryz.ntmps55
  go_wp2
  go_ret
  have e1 : (w.alloc (.map #[] 0)).heap.size = w.heap.size + 1 := by simp
  have b1 : Below w.heap.size w (w.alloc (.map #[] 0)) := (Below.refl _ _).alloc (Nat.le_refl _) _
  have m1 : MapIs (w.alloc (.map #[] 0)) w.heap.size 0 (fun _ _ => 0) := MapIs.made w
  have a2 : At ((w.alloc (.map #[] 0)).alloc (.cells #[.slice none 0 0, .map (some w.heap.size)] 148)) (w.alloc (.map #[] 0)).heap.size [.slice none 0 0, .map (some w.heap.size)] := At.alloc _ _ _
  have b2 : Below (w.alloc (.map #[] 0)).heap.size (w.alloc (.map #[] 0)) ((w.alloc (.map #[] 0)).alloc (.cells #[.slice none 0 0, .map (some w.heap.size)] 148)) := (Below.refl _ _).alloc (Nat.le_refl _) _
  rw [e1] at a2
  refine ⟨⟨w.heap.size + 1, w.heap.size, rfl, Nat.le_refl _, a2, ⟨rfl, .inl ⟨rfl, rfl⟩⟩, m1.block (b2.block _ (by omega)), Nat.lt_succ_self _⟩, b1.trans (b2.mono (by omega))⟩
theorem open_bad (t : Ln.Terms) (w : World) (h : rtB t = false) :
    Calls Tryz.prog 23 #[tmV t] w fun e w' => e = .returned (.tuple #[.pointer none, .int .i64 3]) ∧ Below w.heap.size w w' := by
  have hR := fun W => right_any t W
  rw [h] at hR
  unfold tmV at *
  have b0 : Below w.heap.size w (w.alloc (.cells (tml t).toArray 23)) := (Below.refl _ _).alloc (Nat.le_refl _) _
  go_enter Tryz.func23, Tryz.ntmps23
  go_wp2_with fail
  refine (hR _).mono ?_
  rintro e w1 ⟨rfl, hb1⟩
  have b1 := b0.trans (hb1.mono b0.size)
  clear hR hb1 b0
  go_wp2
  go_ret2
  exact ⟨rfl, b1⟩
set_option maxRecDepth 10000 in
set_option maxHeartbeats 2000000 in
theorem open_good (t : Ln.Terms) (w : World) (h : rtB t = true) :
    Calls Tryz.prog 23 #[tmV t] w fun e w' => (∃ B P Mb, e = .returned (.tuple #[.pointer (some ⟨B, 0, none⟩), .int .i64 0]) ∧ w.heap.size ≤ B ∧ w.heap.size ≤ Mb ∧ P < B ∧ At w' B (ll t (.slice none 0 0) (Ln.start t) t.st (.pointer (some ⟨P, 0, none⟩))) ∧ BkIs w' P (.slice none 0 0) Mb []) ∧ Below w.heap.size w w' := by
  have hR := fun W => right_any t W
  rw [h] at hR
  have hF := fun W => first_any t W
  have hB := fun W => balance_any t (Ln.start t) 0 0 0 t.st W (Int.le_refl _) (by show (0 : Int) ≤ _; decide)
  have a0 : At (w.alloc (.cells (tml t).toArray 23)) w.heap.size (tml t) := At.alloc w (tml t) _
  have b0 : Below w.heap.size w (w.alloc (.cells (tml t).toArray 23)) := (Below.refl _ _).alloc (Nat.le_refl _) _
  unfold tmV at *
  go_enter Tryz.func23, Tryz.ntmps23
  go_wp2_with fail
  refine (hR _).mono ?_
  rintro e w1 ⟨rfl, hb1⟩
  obtain ⟨a1, b1⟩ := keepO (v := .int .i64 t.st) hb1 ⟨a0, b0⟩
  clear hR hb1 b0 a0
  go_wp2_with fail
  refine wp_region_held_drew (S := fun wx => At wx w.heap.size (tml t) ∧ Below w.heap.size w wx) (by kernel_rfl) ⟨a1.drew, b1.drew⟩ (fun hHeld => ?_)
  refine wpAnyH_take (i := 0) (v := (.agg (tml t).toArray)) rfl (by kernel_rfl) (by kernel_rfl) (by kernel_rfl) (fun _ _ _ h => h) (yieldsIf_load_mid (by rfl) 23 (.tmp 1) rfl _ _ rfl _ _ (fun _ h => h.1.range) Tryz.underlying23 rfl (by kernel_rfl)) (by assumption) ?_
  simp only [Act.put, List.getElem_toArray, List.getElem_cons_zero, List.setIfInBounds_toArray, List.set_cons_zero, List.set_cons_succ]
  refine wpAnyH_take (i := 1) (v := (.agg (tml t).toArray)) rfl (by kernel_rfl) (by kernel_rfl) (by kernel_rfl) (fun _ _ _ h => h) (yieldsIf_load_mid (by rfl) 23 (.tmp 1) rfl _ _ rfl _ _ (fun _ h => h.1.range) Tryz.underlying23 rfl (by kernel_rfl)) (by assumption) ?_
  simp only [Act.put, List.getElem_toArray, List.getElem_cons_succ, List.getElem_cons_zero, List.setIfInBounds_toArray, List.set_cons_zero, List.set_cons_succ]
  refine wpAnyH_take (i := 3) (v := (.pointer (some ⟨w.heap.size, 0, none⟩))) rfl (by kernel_rfl) (by kernel_rfl) (by kernel_rfl) (fun _ _ _ h => h) (Or.inl ⟨by rfl, fun wx hSw => by (dsimp only at hSw; go_simp)⟩) (by assumption) ?_
  simp only [Act.put, List.getElem_toArray, List.getElem_cons_succ, List.getElem_cons_zero, List.setIfInBounds_toArray, List.set_cons_zero, List.set_cons_succ]
  refine wpAnyH_take (i := 4) (v := (.int .i64 t.st)) rfl (by kernel_rfl) (by kernel_rfl) (by kernel_rfl) (fun _ _ _ h => h) (Or.inl ⟨by rfl, fun wx hSw => by (have hc : wx.cell? ⟨w.heap.size, 0, none⟩ = some (.int .i64 t.st) := hSw.1.cell 0 rfl; go_simp)⟩) (by assumption) ?_
  simp only [Act.put, List.getElem_toArray, List.getElem_cons_succ, List.getElem_cons_zero, List.setIfInBounds_toArray, List.set_cons_zero, List.set_cons_succ]
  clear a1 b1
  refine wpAnyH_ready (rs := [2]) (by kernel_rfl) (by simp) ?_
  refine AllReadyH.cons rfl (fun K hK => ?_) AllReadyH.nil
  go_simp
  refine (hF _).mono ?_
  rintro e w2 ⟨rfl, hb2⟩
  go_wp2_with fail
  refine hK.out _ _ (keepO (v := .int .i64 t.st) hb2 hHeld) (fun hHeld' => ?_)
  clear hK K hHeld hb2
  refine wpAnyH_ready (rs := [5]) (by kernel_rfl) (by simp) ?_
  refine AllReadyH.cons rfl (fun K hK => ?_) AllReadyH.nil
  go_simp
  refine (hB _).mono ?_
  rintro e w3 ⟨rfl, hb3⟩
  go_wp2_with fail
  refine hK.out _ _ (keepO (v := .int .i64 t.st) hb3 hHeld') (fun hHeld'' => ?_)
  clear hK K hHeld' hb3
  refine wpAnyH_ready (rs := [6]) (by kernel_rfl) (by simp) ?_
  refine AllReadyH.cons rfl (fun K hK => ?_) AllReadyH.nil
  have hsz := hHeld''.2.size
  go_simp
  refine (new_any _).mono ?_
  rintro e w5 ⟨⟨P, Mb, rfl, hMw, hbk⟩, hb4⟩
  go_wp2_with fail
  refine hK.out _ _ (keepO (v := .int .i64 t.st) hb4 hHeld'') (fun hHeld''' => ?_)
  clear hK K hHeld'' hb4
  have hMw : w.heap.size ≤ Mb := Nat.le_trans hsz hMw
  refine wpAnyH_take (i := 7) (v := (.agg (ll t (.slice none 0 0) (Ln.start t) t.st (.pointer (some ⟨P, 0, none⟩))).toArray)) rfl (by kernel_rfl) (by kernel_rfl) (by kernel_rfl) (fun _ _ _ h => h) (Or.inl ⟨by rfl, fun wx hSw => by kernel_rfl⟩) (by assumption) ?_
  simp only [Act.put, List.getElem_toArray, List.getElem_cons_succ, List.getElem_cons_zero, List.setIfInBounds_toArray, List.set_cons_zero, List.set_cons_succ]
  refine wpAnyH_ready (rs := [8]) (by kernel_rfl) (by simp) ?_
  refine AllReadyH.cons rfl (fun K hK => ?_) AllReadyH.nil
  have a4 : At (w5.alloc (.cells (ll t (.slice none 0 0) (Ln.start t) t.st (.pointer (some ⟨P, 0, none⟩))).toArray 84)) w5.heap.size (ll t (.slice none 0 0) (Ln.start t) t.st (.pointer (some ⟨P, 0, none⟩))) := At.alloc w5 _ _
  have b4 := hHeld'''.2.size
  have hbk4 := hbk.keep (S := fun _ => False) (Keep.below (S := fun _ => False) ((Below.refl _ _).alloc (Nat.le_refl _) (.cells (ll t (.slice none 0 0) (Ln.start t) t.st (.pointer (some ⟨P, 0, none⟩))).toArray 84))) (fun _ _ h => h)
  have hPB : P < w5.heap.size := At.lt hbk.pl
  rw [if_pos (by rfl)]
  refine wp_valD (.pointer (some ⟨w5.heap.size, 0, none⟩)) (w5.alloc (.cells (ll t (.slice none 0 0) (Ln.start t) t.st (.pointer (some ⟨P, 0, none⟩))).toArray 84)) (by kernel_rfl) ?_
  refine hK.out _ _ (keepO (v := .int .i64 t.st) ((Below.refl _ _).alloc (Nat.le_refl _) _) hHeld''') (fun hHeld4 => ?_)
  clear hK K hHeld''' hbk
  generalize w5.alloc (.cells (ll t (.slice none 0 0) (Ln.start t) t.st (.pointer (some ⟨P, 0, none⟩))).toArray 84) = w4 at *
  generalize w5.heap.size = B at *
  simp only [Act.put, List.getElem_toArray, List.getElem_cons_succ, List.getElem_cons_zero, List.setIfInBounds_toArray, List.set_cons_zero, List.set_cons_succ]
  refine wpAnyH_take (i := 9) (v := (.pointer (some ⟨B, 0, none⟩))) rfl (by kernel_rfl) (by kernel_rfl) (by kernel_rfl) (fun _ _ _ h => h) (Or.inl ⟨by rfl, fun wx hSw => by (dsimp only at hSw; go_simp)⟩) (by assumption) ?_
  simp only [Act.put, List.getElem_toArray, List.getElem_cons_succ, List.getElem_cons_zero, List.setIfInBounds_toArray, List.set_cons_zero, List.set_cons_succ]
  refine wpAnyH_take (i := 10) (v := (.int .i64 0)) rfl (by kernel_rfl) (by kernel_rfl) (by kernel_rfl) (fun _ _ _ h => h) (Or.inl ⟨by rfl, fun wx hSw => by (dsimp only at hSw; go_simp)⟩) (by assumption) ?_
  simp only [Act.put, List.getElem_toArray, List.getElem_cons_succ, List.getElem_cons_zero, List.setIfInBounds_toArray, List.set_cons_zero, List.set_cons_succ]
  refine wpAnyH_done (by kernel_rfl) ?_ _
  have b5 := hHeld4.2
  clear hHeld4
  go_wp2
  go_ret2
  exact ⟨⟨B, P, Mb, rfl, b4, hMw, hPB, a4, hbk4⟩, b5⟩
end Go.Proofs.YtanndhoimpnhpaaGreatDoor
