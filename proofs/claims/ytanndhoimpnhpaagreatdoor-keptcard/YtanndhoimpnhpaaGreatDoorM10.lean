/- Joined by program: Wr, Pt. -/
import Derived.Test.YtanndhoimpnhpaaGreatDoorM9
import Derived.Deep.RegionHeld3
import Derived.Deep.QuietTactic
import Derived.Deep.CutRange
import Derived.Test.YtanndhoimpnhpaaGreatDoorM6
namespace Go.Proofs.YtanndhoimpnhpaaGreatDoor
open Go.ChangeShapes Go.WideShapes Go.RowKit Go.WideMaps Go.Maps
set_option maxRecDepth 100000 in
set_option maxHeartbeats 4000000 in
theorem write_any (w : World) (P : Nat) (bkv : Value) (Mb : Nat) (L : List En) (h : BkIs w P bkv Mb L) (hL : L.length + 1 ≤ 5000000000000) (d k a : Int) (hd : I64 d) (hk : I64 k) (ha : I64 a) :
    Calls Tryz.prog 81 #[.pointer (some ⟨P, 0, none⟩), .agg #[.int .i64 d, .int .i64 k, .int .i64 a]] w fun e w' => e = .returned (.tuple #[]) ∧ ∃ bkv', BkIs w' P bkv' Mb (L ++ if a = 0 then [] else [⟨d, k, a⟩]) ∧ OwnNew w bkv bkv' ∧ Keep (BkS P Mb bkv) w w' := by
  obtain ⟨i0, hi, hz0, hz1, hz2⟩ := info_parts infoEntry
  have HB : Hid (BkIs w P bkv Mb L) := h
  clear h
  by_cases hz : a = 0
  · subst hz
    go_enter Tryz.func81, Tryz.ntmps81
    go_wp2
    refine bodyPost_ret (results_none rfl _ _ _) rfl ?_
    have kk : Keep (fun _ => False) w (w.alloc (.cells #[.int .i64 d, .int .i64 k, .int .i64 0] 114)) := Keep.below ((Below.refl _ _).alloc (Nat.le_refl _) _)
    refine ⟨rfl, bkv, ?_, .inl rfl, kk.mono (fun _ _ h => h.elim)⟩
    exact HB.out.keep kk (fun _ _ h => h)
  · have hzb : (a == 0) = false := by simp [hz]
    have HI : Hid (I64 d ∧ I64 k ∧ I64 a) := ⟨hd, hk, ha⟩
    have HZ : Hid (¬ a = 0) := hz
    clear hd hk ha hz
    go_enter Tryz.func81, Tryz.ntmps81
    go_upto_region 2 with fail
    have HE : Hid (At (w.alloc (.cells #[.int .i64 d, .int .i64 k, .int .i64 a] 114)) w.heap.size [.int .i64 d, .int .i64 k, .int .i64 a]) := At.alloc w _ _
    have HK0 : Hid (Keep (fun _ => False) w (w.alloc (.cells #[.int .i64 d, .int .i64 k, .int .i64 a] 114))) := Keep.below ((Below.refl _ _).alloc (Nat.le_refl _) _)
    have HPE : Hid (∀ b, BkS P Mb bkv b → ¬ b = w.heap.size) := fun b hb hE => by
      have h1 := At.lt HB.out.pl
      have h2 := HB.out.lt
      rcases hb with hb | hb | hb
      · omega
      · omega
      · have := (HB.out.own hb).2; omega
    generalize w.alloc (.cells #[.int .i64 d, .int .i64 k, .int .i64 a] 114) = V at *
    generalize w.heap.size = E at *
    go_cut [] from 7 to 16 (fun wx => ∃ bkv2, At wx P [bkv2, .map (some Mb)] ∧ wx.ownsRow (P + 1) 114 3 bkv2 (L.length + 1) (ens L ++ [.int .i64 d, .int .i64 k, .int .i64 a]) ∧ MapIs wx Mb L.length (sumOf L) ∧ At wx E [.int .i64 d, .int .i64 k, .int .i64 a] ∧ Keep (BkS P Mb bkv) V wx ∧ OwnNew V bkv bkv2)
    case first =>
      have hb := HB.out.keep HK0.out (fun _ _ h => h)
      have HSS : Hid (∀ wz, Keep (BkS P Mb bkv) V wz → At wz E [.int .i64 d, .int .i64 k, .int .i64 a]) := fun wz hk => At.keep HE.out hk (fun h => HPE.out E h rfl)
      obtain ⟨p0, cap0, rfl⟩ := own_slice hb.ow
      have oU := hb.ow.drew
      have aU : At V.drew P [.slice p0 L.length cap0, .map (some Mb)] := hb.pl.drew
      have mU : MapIs V.drew Mb L.length (sumOf L) := hb.mp
      have kU : Keep (BkS P Mb (.slice p0 L.length cap0)) V V.drew := (Keep.refl _ _).drew
      have hPl : P < V.drew.heap.size := At.lt aU
      have hMP := hb.lt
      clear hb
      refine wp_region_held_drew (S := fun wz => At wz E [.int .i64 d, .int .i64 k, .int .i64 a]) (by kernel_rfl) (HSS.out _ kU) (fun hHeld => ?_)
      generalize V.drew = U at *
      have u6 : U.cell? ⟨P, 0, none⟩ = some (.slice p0 L.length cap0) := aU.cell 0 rfl
      have oU1 := oU.alloc (.cells #[.int .i64 d, .int .i64 k, .int .i64 a] 114)
      have aU1 : At (U.alloc (.cells #[.int .i64 d, .int .i64 k, .int .i64 a] 114)) P [.slice p0 L.length cap0, .map (some Mb)] := At.over aU _
      have mU1 : MapIs (U.alloc (.cells #[.int .i64 d, .int .i64 k, .int .i64 a] 114)) Mb L.length (sumOf L) := mU.block (Keep.below (S := fun _ => False) ((Below.refl _ _).alloc (Nat.le_refl _) _) |>.block Mb mU.lt (fun h => h))
      have nU1 : At (U.alloc (.cells #[.int .i64 d, .int .i64 k, .int .i64 a] 114)) U.heap.size [.int .i64 d, .int .i64 k, .int .i64 a] := At.alloc U _ _
      have kU1 : Keep (BkS P Mb (.slice p0 L.length cap0)) V (U.alloc (.cells #[.int .i64 d, .int .i64 k, .int .i64 a] 114)) := kU.trans (Keep.below ((Below.refl _ _).alloc (Nat.le_refl _) _))
      have u7 : (U.alloc (.cells #[.int .i64 d, .int .i64 k, .int .i64 a] 114)).cell? ⟨P, 0, none⟩ = some (.slice p0 L.length cap0) := aU1.cell 0 rfl
      have gsz : P + 1 ≤ (U.alloc (.cells #[.int .i64 d, .int .i64 k, .int .i64 a] 114)).heap.size := by simp; omega
      refine wpAnyH_take (i := 0) (v := (.pointer (some ⟨P, 0, none⟩))) rfl (by kernel_rfl) (by kernel_rfl) (by kernel_rfl) (fun _ _ _ h => h) (Or.inl ⟨by rfl, fun wx hSw => by go_simp⟩) (by assumption) ?_
      simp only [Act.put, List.getElem_toArray, List.getElem_cons_zero, List.setIfInBounds_toArray, List.set_cons_zero, List.set_cons_succ]
      refine wpAnyH_take (i := 1) (v := (.pointer (some ⟨P, 0, none⟩))) rfl (by kernel_rfl) (by kernel_rfl) (by kernel_rfl) (fun _ _ _ h => h) (Or.inl ⟨by rfl, fun wx hSw => by go_simp⟩) (by assumption) ?_
      simp only [Act.put, List.getElem_toArray, List.getElem_cons_succ, List.getElem_cons_zero, List.setIfInBounds_toArray, List.set_cons_zero, List.set_cons_succ]
      refine wpAnyH_take (i := 2) (v := (.pointer (some ⟨P, 0, none⟩))) rfl (by kernel_rfl) (by kernel_rfl) (by kernel_rfl) (fun _ _ _ h => h) (Or.inl ⟨by rfl, fun wx hSw => by go_simp⟩) (by assumption) ?_
      simp only [Act.put, List.getElem_toArray, List.getElem_cons_succ, List.getElem_cons_zero, List.setIfInBounds_toArray, List.set_cons_zero, List.set_cons_succ]
      refine wpAnyH_take (i := 3) (v := (.pointer (some ⟨P, 0, none⟩))) rfl (by kernel_rfl) (by kernel_rfl) (by kernel_rfl) (fun _ _ _ h => h) (Or.inl ⟨by rfl, fun wx hSw => by go_simp⟩) (by assumption) ?_
      simp only [Act.put, List.getElem_toArray, List.getElem_cons_succ, List.getElem_cons_zero, List.setIfInBounds_toArray, List.set_cons_zero, List.set_cons_succ]
      refine wpAnyH_take (i := 5) (v := (.agg #[.int .i64 d, .int .i64 k, .int .i64 a])) rfl (by kernel_rfl) (by kernel_rfl) (by kernel_rfl) (fun _ _ _ h => h) (yieldsIf_load_mid (by rfl) 114 (.tmp 3) rfl _ _ rfl _ _ (fun _ h => At.range h) Tryz.underlying114 rfl (by kernel_rfl)) (by assumption) ?_
      simp only [Act.put, List.getElem_toArray, List.getElem_cons_succ, List.getElem_cons_zero, List.setIfInBounds_toArray, List.set_cons_zero, List.set_cons_succ]
      refine wpAnyH_ready (rs := [4, 6]) (by kernel_rfl) (by simp) ?_
      refine AllReadyH.cons rfl (fun K hK => ?_) (AllReadyH.cons rfl (fun K hK => ?_) AllReadyH.nil)
      · go_simp
        refine hK.out _ _ hHeld (fun _ => ?_)
        clear hK K
        refine wpAnyH_ready (rs := [6]) (by kernel_rfl) (by simp) ?_
        refine AllReadyH.cons rfl (fun K hK => ?_) AllReadyH.nil
        rw [if_pos (by rfl)]
        refine wp_valD (.slice (some ⟨U.heap.size, 0, none⟩) 1 1) (U.alloc (.cells #[.int .i64 d, .int .i64 k, .int .i64 a] 114)) (by kernel_rfl) ?_
        refine hK.out _ _ (HSS.out _ kU1) (fun _ => ?_)
        clear hK K u6 u7 oU aU kU hHeld
        simp only [Act.put, List.getElem_toArray, List.getElem_cons_succ, List.getElem_cons_zero, List.setIfInBounds_toArray, List.set_cons_zero, List.set_cons_succ]
        generalize U.alloc (.cells #[.int .i64 d, .int .i64 k, .int .i64 a] 114) = U1 at *
        generalize hNN : U.heap.size = NN at *
        refine wpAnyH_ready (rs := [7]) (by kernel_rfl) (by simp) ?_
        refine AllReadyH.cons rfl (fun K hK => ?_) AllReadyH.nil
        rw [if_pos (by rfl)]
        refine wp_append_at U1 (.tmp 11) (.tmp 13) 54 rfl (P + 1) 114 i0 (.agg #[.int .i64 0, .int .i64 0, .int .i64 0]) 3 24 Tryz.underlying54 hi hz0 hz1 hz2 rfl (by decide) _ _ _ rfl oU1 ⟨NN, 0, none⟩ 1 1 [.int .i64 d, .int .i64 k, .int .i64 a] rfl rfl ?_ ?_ ?_ ?_ ?_ ?_
        · intro j u hj
          have := (nU1 j u hj).1
          by_cases j0 : j = 0
          · subst j0; simpa [Addr.add] using this
          · simpa [Addr.add, j0] using this
        · intro u hu
          simp at hu
          rcases hu with rfl | rfl | rfl <;> rfl
        · unfold maxLen; omega
        · omega
        · omega
        intro v' w' h2 h3 hat
        have kp3 : Keep (fun b => some b = (Value.slice p0 L.length cap0).ownBlock) U1 w' := ⟨h3.os, h3.tape, h3.output, h3.size, fun j hj hs => h3.block j hj hs⟩
        have kv : Keep (BkS P Mb (.slice p0 L.length cap0)) V w' := kU1.trans (kp3.mono (fun b _ h => .inr (.inr h.symm)))
        have aw : At w' P [.slice p0 L.length cap0, .map (some Mb)] := At.keep aU1 kp3 (fun h => by have := (own_base oU1 h.symm).1; omega)
        obtain ⟨g', cap', rfl, _, _⟩ := h2.form (by omega)
        refine hK.out _ _ (HSS.out w' kv) (fun _ => ?_)
        clear hK K
        simp only [Act.put, List.getElem_toArray, List.getElem_cons_succ, List.getElem_cons_zero, List.setIfInBounds_toArray, List.set_cons_zero, List.set_cons_succ]
        refine wpAnyH_take (i := 8) (v := (.pointer (some ⟨P, 0, none⟩))) rfl (by kernel_rfl) (by kernel_rfl) (by kernel_rfl) (fun _ _ _ h => h) (Or.inl ⟨by rfl, fun wx hSw => by go_simp⟩) (by assumption) ?_
        simp only [Act.put, List.getElem_toArray, List.getElem_cons_succ, List.getElem_cons_zero, List.setIfInBounds_toArray, List.set_cons_zero, List.set_cons_succ]
        refine wpAnyH_take (i := 9) (v := (.pointer (some ⟨P, 0, none⟩))) rfl (by kernel_rfl) (by kernel_rfl) (by kernel_rfl) (fun _ _ _ h => h) (Or.inl ⟨by rfl, fun wx hSw => by go_simp⟩) (by assumption) ?_
        simp only [Act.put, List.getElem_toArray, List.getElem_cons_succ, List.getElem_cons_zero, List.setIfInBounds_toArray, List.set_cons_zero, List.set_cons_succ]
        refine wpAnyH_ready (rs := [10]) (by kernel_rfl) (by simp) ?_
        refine AllReadyH.cons rfl (fun K hK => ?_) AllReadyH.nil
        have y6 : w'.cell? ⟨P, 0, none⟩ = some (.slice p0 L.length cap0) := aw.cell 0 rfl
        have y7 : w'.frozen? ⟨P, 0, none⟩ = false := aw.free 0 rfl
        go_simp
        have kv2 := kv.set (S := BkS P Mb (.slice p0 L.length cap0)) (.inl rfl) 0 (.slice (some ⟨g', 0, none⟩) (L.length + 1) cap')
        have aw2 : At (w'.setCell ⟨P, 0, none⟩ (.slice (some ⟨g', 0, none⟩) (L.length + 1) cap')) P [.slice (some ⟨g', 0, none⟩) (L.length + 1) cap', .map (some Mb)] := aw.set 0 (show 0 < 2 by decide) _
        have ow2 : (w'.setCell ⟨P, 0, none⟩ (.slice (some ⟨g', 0, none⟩) (L.length + 1) cap')).ownsRow (P + 1) 114 3 (.slice (some ⟨g', 0, none⟩) (L.length + 1) cap') (L.length + 1) (ens L ++ [.int .i64 d, .int .i64 k, .int .i64 a]) := ownsRow_setCell_below h2 (Nat.lt_succ_self P) _
        have kp4 : Keep (fun b => b = P ∨ some b = (Value.slice p0 L.length cap0).ownBlock) U1 (w'.setCell ⟨P, 0, none⟩ (.slice (some ⟨g', 0, none⟩) (L.length + 1) cap')) := (kp3.mono (fun b _ h => .inr h)).set (S := fun b => b = P ∨ some b = (Value.slice p0 L.length cap0).ownBlock) (.inl rfl) 0 _
        refine hK.out _ _ (HSS.out _ kv2) (fun _ => ?_)
        have mp2 := mU1.block (kp4.block Mb mU1.lt (fun h => h.elim (fun h => by omega) (fun h => by have := (own_base oU1 h.symm).1; omega)))
        have hnew : OwnNew V (.slice p0 L.length cap0) (.slice (some ⟨g', 0, none⟩) (L.length + 1) cap') := hat.elim .inl (fun h => .inr ⟨_, h, kU1.size⟩)
        clear hK K h2 h3 y6 y7 aw kv hat oU1 aU1 nU1 kU1 kp3 kp4 mU1
        generalize w'.setCell ⟨P, 0, none⟩ (.slice (some ⟨g', 0, none⟩) (L.length + 1) cap') = w9 at *
        refine wpAnyH_done (by kernel_rfl) ?_ _
        go_wp2_with fail
        go_meet
        case rel => exact ⟨_, aw2, ow2, mp2, HSS.out _ kv2, kv2, hnew⟩
      · rw [if_pos (by rfl)]
        refine wp_valD (.slice (some ⟨U.heap.size, 0, none⟩) 1 1) (U.alloc (.cells #[.int .i64 d, .int .i64 k, .int .i64 a] 114)) (by kernel_rfl) ?_
        refine hK.out _ _ (HSS.out _ kU1) (fun hHeld2 => ?_)
        clear hK K u6
        simp only [Act.put, List.getElem_toArray, List.getElem_cons_succ, List.getElem_cons_zero, List.setIfInBounds_toArray, List.set_cons_zero, List.set_cons_succ]
        refine wpAnyH_ready (rs := [4]) (by kernel_rfl) (by simp) ?_
        refine AllReadyH.cons rfl (fun K hK => ?_) AllReadyH.nil
        go_simp
        refine hK.out _ _ hHeld2 (fun _ => ?_)
        clear hK K u7 oU aU kU hHeld hHeld2
        generalize U.alloc (.cells #[.int .i64 d, .int .i64 k, .int .i64 a] 114) = U1 at *
        generalize hNN : U.heap.size = NN at *
        refine wpAnyH_ready (rs := [7]) (by kernel_rfl) (by simp) ?_
        refine AllReadyH.cons rfl (fun K hK => ?_) AllReadyH.nil
        rw [if_pos (by rfl)]
        refine wp_append_at U1 (.tmp 11) (.tmp 13) 54 rfl (P + 1) 114 i0 (.agg #[.int .i64 0, .int .i64 0, .int .i64 0]) 3 24 Tryz.underlying54 hi hz0 hz1 hz2 rfl (by decide) _ _ _ rfl oU1 ⟨NN, 0, none⟩ 1 1 [.int .i64 d, .int .i64 k, .int .i64 a] rfl rfl ?_ ?_ ?_ ?_ ?_ ?_
        · intro j u hj
          have := (nU1 j u hj).1
          by_cases j0 : j = 0
          · subst j0; simpa [Addr.add] using this
          · simpa [Addr.add, j0] using this
        · intro u hu
          simp at hu
          rcases hu with rfl | rfl | rfl <;> rfl
        · unfold maxLen; omega
        · omega
        · omega
        intro v' w' h2 h3 hat
        have kp3 : Keep (fun b => some b = (Value.slice p0 L.length cap0).ownBlock) U1 w' := ⟨h3.os, h3.tape, h3.output, h3.size, fun j hj hs => h3.block j hj hs⟩
        have kv : Keep (BkS P Mb (.slice p0 L.length cap0)) V w' := kU1.trans (kp3.mono (fun b _ h => .inr (.inr h.symm)))
        have aw : At w' P [.slice p0 L.length cap0, .map (some Mb)] := At.keep aU1 kp3 (fun h => by have := (own_base oU1 h.symm).1; omega)
        obtain ⟨g', cap', rfl, _, _⟩ := h2.form (by omega)
        refine hK.out _ _ (HSS.out w' kv) (fun _ => ?_)
        clear hK K
        simp only [Act.put, List.getElem_toArray, List.getElem_cons_succ, List.getElem_cons_zero, List.setIfInBounds_toArray, List.set_cons_zero, List.set_cons_succ]
        refine wpAnyH_take (i := 8) (v := (.pointer (some ⟨P, 0, none⟩))) rfl (by kernel_rfl) (by kernel_rfl) (by kernel_rfl) (fun _ _ _ h => h) (Or.inl ⟨by rfl, fun wx hSw => by go_simp⟩) (by assumption) ?_
        simp only [Act.put, List.getElem_toArray, List.getElem_cons_succ, List.getElem_cons_zero, List.setIfInBounds_toArray, List.set_cons_zero, List.set_cons_succ]
        refine wpAnyH_take (i := 9) (v := (.pointer (some ⟨P, 0, none⟩))) rfl (by kernel_rfl) (by kernel_rfl) (by kernel_rfl) (fun _ _ _ h => h) (Or.inl ⟨by rfl, fun wx hSw => by go_simp⟩) (by assumption) ?_
        simp only [Act.put, List.getElem_toArray, List.getElem_cons_succ, List.getElem_cons_zero, List.setIfInBounds_toArray, List.set_cons_zero, List.set_cons_succ]
        refine wpAnyH_ready (rs := [10]) (by kernel_rfl) (by simp) ?_
        refine AllReadyH.cons rfl (fun K hK => ?_) AllReadyH.nil
        have y6 : w'.cell? ⟨P, 0, none⟩ = some (.slice p0 L.length cap0) := aw.cell 0 rfl
        have y7 : w'.frozen? ⟨P, 0, none⟩ = false := aw.free 0 rfl
        go_simp
        have kv2 := kv.set (S := BkS P Mb (.slice p0 L.length cap0)) (.inl rfl) 0 (.slice (some ⟨g', 0, none⟩) (L.length + 1) cap')
        have aw2 : At (w'.setCell ⟨P, 0, none⟩ (.slice (some ⟨g', 0, none⟩) (L.length + 1) cap')) P [.slice (some ⟨g', 0, none⟩) (L.length + 1) cap', .map (some Mb)] := aw.set 0 (show 0 < 2 by decide) _
        have ow2 : (w'.setCell ⟨P, 0, none⟩ (.slice (some ⟨g', 0, none⟩) (L.length + 1) cap')).ownsRow (P + 1) 114 3 (.slice (some ⟨g', 0, none⟩) (L.length + 1) cap') (L.length + 1) (ens L ++ [.int .i64 d, .int .i64 k, .int .i64 a]) := ownsRow_setCell_below h2 (Nat.lt_succ_self P) _
        have kp4 : Keep (fun b => b = P ∨ some b = (Value.slice p0 L.length cap0).ownBlock) U1 (w'.setCell ⟨P, 0, none⟩ (.slice (some ⟨g', 0, none⟩) (L.length + 1) cap')) := (kp3.mono (fun b _ h => .inr h)).set (S := fun b => b = P ∨ some b = (Value.slice p0 L.length cap0).ownBlock) (.inl rfl) 0 _
        refine hK.out _ _ (HSS.out _ kv2) (fun _ => ?_)
        have mp2 := mU1.block (kp4.block Mb mU1.lt (fun h => h.elim (fun h => by omega) (fun h => by have := (own_base oU1 h.symm).1; omega)))
        have hnew : OwnNew V (.slice p0 L.length cap0) (.slice (some ⟨g', 0, none⟩) (L.length + 1) cap') := hat.elim .inl (fun h => .inr ⟨_, h, kU1.size⟩)
        clear hK K h2 h3 y6 y7 aw kv hat oU1 aU1 nU1 kU1 kp3 kp4 mU1
        generalize w'.setCell ⟨P, 0, none⟩ (.slice (some ⟨g', 0, none⟩) (L.length + 1) cap') = w9 at *
        refine wpAnyH_done (by kernel_rfl) ?_ _
        go_wp2_with fail
        go_meet
        case rel => exact ⟨_, aw2, ow2, mp2, HSS.out _ kv2, kv2, hnew⟩
    case rest =>
      obtain ⟨bkv2, a2, o2, m2, e2, k2, n2⟩ := hcut
      obtain ⟨hd, hk, ha⟩ := HI.out
      have hP := At.lt HB.out.pl
      have hMP := HB.out.lt
      have hPM : ¬ P = Mb := by omega
      have hEM : ¬ E = Mb := fun e => HPE.out Mb (.inr (.inl rfl)) e.symm
      have ap : wc.drew.cell? ⟨P, 1, none⟩ = some (.map (some Mb)) := a2.cell 1 rfl
      have aE : At wc.drew E [.int .i64 d, .int .i64 k, .int .i64 a] := e2.drew
      have md : MapIs wc.drew Mb L.length (sumOf L) := m2
      obtain ⟨v0, st, es1, clock1, hen, kd, hlk2, hsto⟩ := md.store (by unfold maxLen; omega) d k hd hk
      have hlk1 := md.look d k hd hk
      obtain ⟨w5, hst, hmp, hgr⟩ := hsto (wrap64 (sumOf L d k + a)) (wrap64_i64 _)
      have k5 : Keep (fun b => b = Mb) wc w5 := (Keep.refl _ _).drew.trans (keep_grown hgr)
      have HT : Hid (∃ bkv', BkIs w5 P bkv' Mb (L ++ [⟨d, k, a⟩]) ∧ OwnNew w bkv bkv' ∧ Keep (BkS P Mb bkv) w w5) := by
        refine ⟨bkv2, ⟨At.keep a2 k5 hPM, ?_, ?_, hMP⟩, ?_, ?_⟩
        · rw [ens_append, List.length_append]
          exact own_keep o2 k5 (fun b hb e => by have := (own_base o2 hb).1; omega)
        · rw [List.length_append]
          have hs : sumOf (L ++ [⟨d, k, a⟩]) = fun x y => if x = d ∧ y = k then wrap64 (sumOf L d k + a) else sumOf L x y := by
            funext x y
            rw [sumOf_snoc]
            by_cases hx : x = d ∧ y = k
            · rw [if_pos hx, if_pos hx, hx.1, hx.2]
            · rw [if_neg hx, if_neg hx]
          rw [hs]
          exact hmp
        · rcases n2 with h | ⟨b, h1, h2⟩
          · exact .inl h
          · exact .inr ⟨b, h1, Nat.le_trans HK0.out.size h2⟩
        · exact (HK0.out.mono (fun _ _ h => h.elim)).trans (k2.trans (k5.mono (fun b _ h => .inr (.inl h))))
      have hs1 : wc.drew.cell? ⟨P, 1, none⟩ = some (.map (some Mb)) ∧ At wc.drew E [.int .i64 d, .int .i64 k, .int .i64 a] := ⟨ap, aE⟩
      have hs2 : (ChangeMaps.setBlock wc.drew Mb (.map es1 clock1)).cell? ⟨P, 1, none⟩ = some (.map (some Mb)) ∧ At (ChangeMaps.setBlock wc.drew Mb (.map es1 clock1)) E [.int .i64 d, .int .i64 k, .int .i64 a] := ⟨(At.keep a2.drew kd hPM).cell 1 rfl, At.keep aE kd hEM⟩
      have hs5 : w5.cell? ⟨P, 1, none⟩ = some (.map (some Mb)) ∧ At w5 E [.int .i64 d, .int .i64 k, .int .i64 a] := ⟨(At.keep a2 k5 hPM).cell 1 rfl, At.keep e2 k5 hEM⟩
      clear a2 o2 m2 e2 k2 n2 ap aE md hmp hgr k5 hsto kd
      go_wp2_with fail
      refine wp_region_held_drew (S := fun wz => wz.cell? ⟨P, 1, none⟩ = some (.map (some Mb)) ∧ At wz E [.int .i64 d, .int .i64 k, .int .i64 a]) (by kernel_rfl) hs1 (fun hHeld => ?_)
      generalize wc.drew = U at *
      generalize ChangeMaps.setBlock U Mb (.map es1 clock1) = U2 at *
      refine wpAnyH_take (i := 0) (v := (.pointer (some ⟨P, 0, none⟩))) rfl (by kernel_rfl) (by kernel_rfl) (by kernel_rfl) (fun _ _ _ h => h) (Or.inl ⟨by rfl, fun wx hSw => by go_simp⟩) (by assumption) ?_
      simp only [Act.put, List.getElem_toArray, List.getElem_cons_zero, List.setIfInBounds_toArray, List.set_cons_zero, List.set_cons_succ]
      refine wpAnyH_take (i := 1) (v := (.pointer (some ⟨P, 0, none⟩))) rfl (by kernel_rfl) (by kernel_rfl) (by kernel_rfl) (fun _ _ _ h => h) (Or.inl ⟨by rfl, fun wx hSw => by go_simp⟩) (by assumption) ?_
      simp only [Act.put, List.getElem_toArray, List.getElem_cons_succ, List.getElem_cons_zero, List.setIfInBounds_toArray, List.set_cons_zero, List.set_cons_succ]
      refine wpAnyH_take (i := 2) (v := (.pointer (some ⟨P, 1, none⟩))) rfl (by kernel_rfl) (by kernel_rfl) (by kernel_rfl) (fun _ _ _ h => h) (Or.inl ⟨by rfl, fun wx hSw => by go_simp⟩) (by assumption) ?_
      simp only [Act.put, List.getElem_toArray, List.getElem_cons_succ, List.getElem_cons_zero, List.setIfInBounds_toArray, List.set_cons_zero, List.set_cons_succ]
      refine wpAnyH_take (i := 3) (v := (.map (some Mb))) rfl (by kernel_rfl) (by kernel_rfl) (by kernel_rfl) (fun _ _ _ h => h) (Or.inl ⟨by rfl, fun wx hSw => by (have h1 := hSw.1; go_simp)⟩) (by assumption) ?_
      simp only [Act.put, List.getElem_toArray, List.getElem_cons_succ, List.getElem_cons_zero, List.setIfInBounds_toArray, List.set_cons_zero, List.set_cons_succ]
      refine wpAnyH_take (i := 4) (v := (.pointer (some ⟨E, 0, none⟩))) rfl (by kernel_rfl) (by kernel_rfl) (by kernel_rfl) (fun _ _ _ h => h) (Or.inl ⟨by rfl, fun wx hSw => by go_simp⟩) (by assumption) ?_
      simp only [Act.put, List.getElem_toArray, List.getElem_cons_succ, List.getElem_cons_zero, List.setIfInBounds_toArray, List.set_cons_zero, List.set_cons_succ]
      refine wpAnyH_take (i := 5) (v := (.int .i64 d)) rfl (by kernel_rfl) (by kernel_rfl) (by kernel_rfl) (fun _ _ _ h => h) (Or.inl ⟨by rfl, fun wx hSw => by (have h1 := hSw.2.cell 0 rfl; go_simp)⟩) (by assumption) ?_
      simp only [Act.put, List.getElem_toArray, List.getElem_cons_succ, List.getElem_cons_zero, List.setIfInBounds_toArray, List.set_cons_zero, List.set_cons_succ]
      refine wpAnyH_take (i := 6) (v := (.pointer (some ⟨E, 1, none⟩))) rfl (by kernel_rfl) (by kernel_rfl) (by kernel_rfl) (fun _ _ _ h => h) (Or.inl ⟨by rfl, fun wx hSw => by go_simp⟩) (by assumption) ?_
      simp only [Act.put, List.getElem_toArray, List.getElem_cons_succ, List.getElem_cons_zero, List.setIfInBounds_toArray, List.set_cons_zero, List.set_cons_succ]
      refine wpAnyH_take (i := 7) (v := (.int .i64 k)) rfl (by kernel_rfl) (by kernel_rfl) (by kernel_rfl) (fun _ _ _ h => h) (Or.inl ⟨by rfl, fun wx hSw => by (have h1 := hSw.2.cell 1 rfl; go_simp)⟩) (by assumption) ?_
      simp only [Act.put, List.getElem_toArray, List.getElem_cons_succ, List.getElem_cons_zero, List.setIfInBounds_toArray, List.set_cons_zero, List.set_cons_succ]
      refine wpAnyH_take (i := 8) (v := (.agg #[.int .i64 d, .int .i64 k])) rfl (by kernel_rfl) (by kernel_rfl) (by kernel_rfl) (fun _ _ _ h => h) (Or.inl ⟨by rfl, fun wx hSw => by go_simp⟩) (by assumption) ?_
      simp only [Act.put, List.getElem_toArray, List.getElem_cons_succ, List.getElem_cons_zero, List.setIfInBounds_toArray, List.set_cons_zero, List.set_cons_succ]
      refine wpAnyH_take (i := 10) (v := (.pointer (some ⟨E, 2, none⟩))) rfl (by kernel_rfl) (by kernel_rfl) (by kernel_rfl) (fun _ _ _ h => h) (Or.inl ⟨by rfl, fun wx hSw => by go_simp⟩) (by assumption) ?_
      simp only [Act.put, List.getElem_toArray, List.getElem_cons_succ, List.getElem_cons_zero, List.setIfInBounds_toArray, List.set_cons_zero, List.set_cons_succ]
      refine wpAnyH_take (i := 11) (v := (.int .i64 a)) rfl (by kernel_rfl) (by kernel_rfl) (by kernel_rfl) (fun _ _ _ h => h) (Or.inl ⟨by rfl, fun wx hSw => by (have h1 := hSw.2.cell 2 rfl; go_simp)⟩) (by assumption) ?_
      simp only [Act.put, List.getElem_toArray, List.getElem_cons_succ, List.getElem_cons_zero, List.setIfInBounds_toArray, List.set_cons_zero, List.set_cons_succ]
      refine wpAnyH_ready (rs := [9, 13]) (by kernel_rfl) (by simp) ?_
      refine AllReadyH.cons rfl (fun K hK => ?_) (AllReadyH.cons rfl (fun K hK => ?_) AllReadyH.nil)
      · rw [if_pos (by rfl)]
        refine wp_lookup_run (.tmp 20) (.tmp 25) 146 rfl _ _ rfl rfl hlk1 ?_
        refine hK.out _ _ hs1 (fun _ => ?_)
        clear hK K
        simp only [Act.put, List.getElem_toArray, List.getElem_cons_succ, List.getElem_cons_zero, List.setIfInBounds_toArray, List.set_cons_zero, List.set_cons_succ]
        refine wpAnyH_take (i := 12) (v := (.int .i64 (wrap64 (sumOf L d k + a)))) rfl (by kernel_rfl) (by kernel_rfl) (by kernel_rfl) (fun _ _ _ h => h) (Or.inl ⟨by rfl, fun wx hSw => by (go_simp; simp only [IntKind.wrap_i64, wrap64])⟩) (by assumption) ?_
        simp only [Act.put, List.getElem_toArray, List.getElem_cons_succ, List.getElem_cons_zero, List.setIfInBounds_toArray, List.set_cons_zero, List.set_cons_succ]
        refine wpAnyH_ready (rs := [13]) (by kernel_rfl) (by simp) ?_
        refine AllReadyH.cons rfl (fun K hK => ?_) AllReadyH.nil
        rw [if_pos (by rfl)]
        refine wp_entry_run (.tmp 20) (.tmp 25) 146 rfl _ _ rfl rfl hen ?_
        refine hK.out _ _ hs2 (fun _ => ?_)
        clear hK K
        simp only [Act.put, List.getElem_toArray, List.getElem_cons_succ, List.getElem_cons_zero, List.setIfInBounds_toArray, List.set_cons_zero, List.set_cons_succ]
        refine wpAnyH_take (i := 14) (v := (.int .i64 st)) rfl (by kernel_rfl) (by kernel_rfl) (by kernel_rfl) (fun _ _ _ h => h) (Or.inl ⟨by rfl, fun wx hSw => by go_simp⟩) (by assumption) ?_
        simp only [Act.put, List.getElem_toArray, List.getElem_cons_succ, List.getElem_cons_zero, List.setIfInBounds_toArray, List.set_cons_zero, List.set_cons_succ]
        refine wpAnyH_ready (rs := [15]) (by kernel_rfl) (by simp) ?_
        refine AllReadyH.cons rfl (fun K hK => ?_) AllReadyH.nil
        rw [if_pos (by rfl)]
        refine wp_entryStore_run (.tmp 20) (.tmp 31) (.tmp 29) 146 rfl _ _ _ rfl rfl rfl hst ?_
        refine hK.out _ _ hs5 (fun _ => ?_)
        clear hK K
        refine wpAnyH_done (by kernel_rfl) ?_ _
        go_wp2
        go_end0
        exact ⟨rfl, HT.out⟩
      · rw [if_pos (by rfl)]
        refine wp_entry_run (.tmp 20) (.tmp 25) 146 rfl _ _ rfl rfl hen ?_
        refine hK.out _ _ hs2 (fun _ => ?_)
        clear hK K
        simp only [Act.put, List.getElem_toArray, List.getElem_cons_succ, List.getElem_cons_zero, List.setIfInBounds_toArray, List.set_cons_zero, List.set_cons_succ]
        refine wpAnyH_take (i := 14) (v := (.int .i64 st)) rfl (by kernel_rfl) (by kernel_rfl) (by kernel_rfl) (fun _ _ _ h => h) (Or.inl ⟨by rfl, fun wx hSw => by go_simp⟩) (by assumption) ?_
        simp only [Act.put, List.getElem_toArray, List.getElem_cons_succ, List.getElem_cons_zero, List.setIfInBounds_toArray, List.set_cons_zero, List.set_cons_succ]
        refine wpAnyH_ready (rs := [9]) (by kernel_rfl) (by simp) ?_
        refine AllReadyH.cons rfl (fun K hK => ?_) AllReadyH.nil
        rw [if_pos (by rfl)]
        refine wp_lookup_run (.tmp 20) (.tmp 25) 146 rfl _ _ rfl rfl hlk2 ?_
        refine hK.out _ _ hs2 (fun _ => ?_)
        clear hK K
        simp only [Act.put, List.getElem_toArray, List.getElem_cons_succ, List.getElem_cons_zero, List.setIfInBounds_toArray, List.set_cons_zero, List.set_cons_succ]
        refine wpAnyH_take (i := 12) (v := (.int .i64 (wrap64 (sumOf L d k + a)))) rfl (by kernel_rfl) (by kernel_rfl) (by kernel_rfl) (fun _ _ _ h => h) (Or.inl ⟨by rfl, fun wx hSw => by (go_simp; simp only [IntKind.wrap_i64, wrap64])⟩) (by assumption) ?_
        simp only [Act.put, List.getElem_toArray, List.getElem_cons_succ, List.getElem_cons_zero, List.setIfInBounds_toArray, List.set_cons_zero, List.set_cons_succ]
        refine wpAnyH_ready (rs := [15]) (by kernel_rfl) (by simp) ?_
        refine AllReadyH.cons rfl (fun K hK => ?_) AllReadyH.nil
        rw [if_pos (by rfl)]
        refine wp_entryStore_run (.tmp 20) (.tmp 31) (.tmp 29) 146 rfl _ _ _ rfl rfl rfl hst ?_
        refine hK.out _ _ hs5 (fun _ => ?_)
        clear hK K
        refine wpAnyH_done (by kernel_rfl) ?_ _
        go_wp2
        go_end0
        exact ⟨rfl, HT.out⟩
end Go.Proofs.YtanndhoimpnhpaaGreatDoor
namespace Go.Proofs.YtanndhoimpnhpaaGreatDoor
open Go.ChangeShapes Go.WideShapes Go.RowKit Go.WideMaps Go.Maps
theorem sumOf_append (l m : List En) (d k : Int) (h : ∀ e ∈ m, ¬ (d = e.d ∧ k = e.k)) : sumOf (l ++ m) d k = sumOf l d k := by
  unfold sumOf
  rw [List.foldl_append]
  generalize l.foldl (fun s e => if d = e.d ∧ k = e.k then wrap64 (s + e.a) else s) 0 = s
  induction m generalizing s with
  | nil => rfl
  | cons e r ih =>
    rw [List.foldl_cons, if_neg (h e (by simp))]
    exact ih (fun x hx => h x (by simp [hx])) s
theorem kindW_mem {n : Int} {k : Nat} {is am : Int} {e : En} (h : e ∈ kindW n k is am) : e.d = n ∧ e.k = k := by
  unfold kindW at h
  split at h
  · simp at h
  · rcases List.mem_append.1 h with h | h
    · split at h
      · simp at h
      · simp at h; subst h; exact ⟨rfl, rfl⟩
    · split at h
      · simp at h
      · simp at h; subst h; exact ⟨rfl, rfl⟩
theorem kindsW_mem {n : Int} {h am : Nat → Int} {e : En} : ∀ {j : Nat}, e ∈ kindsW n h am j → e.d = n ∧ 1 ≤ e.k ∧ e.k ≤ j
  | 0, he => by simp [kindsW] at he
  | j + 1, he => by
    rcases List.mem_append.1 he with he | he
    · have := kindsW_mem he
      omega
    · have := kindW_mem he
      omega
theorem sumOf_kinds (L : List En) (n : Int) (h am : Nat → Int) (j k : Nat) (hk : j < k) : sumOf (L ++ kindsW n h am j) n k = sumOf L n k :=
  sumOf_append _ _ _ _ (fun e he hh => by have := kindsW_mem he; omega)
theorem OwnNew.comp {V wr : World} {a b c : Value} (h : OwnNew V a b) (k : OwnNew wr b c) (hs : V.heap.size ≤ wr.heap.size) : OwnNew V a c := by
  rcases k with k | ⟨x, k1, k2⟩
  · rcases h with h | ⟨x, h1, h2⟩
    · exact .inl (k.trans h)
    · exact .inr ⟨x, k.trans h1, h2⟩
  · exact .inr ⟨x, k1, Nat.le_trans hs k2⟩
theorem BkS.comp {V wr w' : World} {P Mb : Nat} {bkv bkvr : Value} (ho : OwnNew V bkv bkvr) (hk : Keep (BkS P Mb bkv) V wr) (h2 : Keep (BkS P Mb bkvr) wr w') : Keep (BkS P Mb bkv) V w' := by
  refine ⟨h2.os.trans hk.os, h2.tape.trans hk.tape, h2.output.trans hk.output, Nat.le_trans hk.size h2.size, fun b hb hs => ?_⟩
  refine (h2.block b (Nat.lt_of_lt_of_le hb hk.size) (fun h => ?_)).trans (hk.block b hb hs)
  rcases h with h | h | h
  · exact hs (.inl h)
  · exact hs (.inr (.inl h))
  · rcases ho with h4 | ⟨c, h5, h6⟩
    · exact hs (.inr (.inr (h4.symm.trans h)))
    · rw [h5] at h
      cases h
      omega
def PtW (V : World) (P Mb : Nat) (bkv : Value) (A : Nat) (am : Nat → Int) (M : List En) (wr : World) : Prop :=
  ∃ bkvr, BkIs wr P bkvr Mb M ∧ OwnNew V bkv bkvr ∧ Keep (BkS P Mb bkv) V wr ∧ At wr A (hc 13 am)
theorem PtW.write {V : World} {P Mb : Nat} {bkv : Value} {A : Nat} {am : Nat → Int} {M : List En} {wr w' : World} {bkvr bkv' : Value} {N : List En} (h : PtW V P Mb bkv A am M wr) (hA : ¬ BkS P Mb bkv A) (hAl : A < V.heap.size) (ho : OwnNew V bkv bkvr) (h1 : BkIs w' P bkv' Mb N) (h2 : OwnNew wr bkvr bkv') (h3 : Keep (BkS P Mb bkvr) wr w') : PtW V P Mb bkv A am N w' := by
  obtain ⟨_, _, _, hk, ha⟩ := h
  have hk' := BkS.comp ho hk h3
  refine ⟨bkv', h1, ho.comp h2 hk.size, hk', ha.block ((hk'.block A hAl hA).trans (hk.block A hAl hA).symm)⟩
set_option maxRecDepth 100000 in
set_option maxHeartbeats 4000000 in
theorem putright_any (w : World) (P : Nat) (bkv : Value) (Mb : Nat) (L : List En) (h : BkIs w P bkv Mb L) (hL : L.length + 24 ≤ 5000000000000) (n : Int) (hn : I64 n) (am : Nat → Int) (ha : ∀ k, 1 ≤ k → k ≤ 12 → I64 (am k)) :
    Calls Tryz.prog 40 #[.pointer (some ⟨P, 0, none⟩), .int .i64 n, amV am] w fun e w' => e = .returned (.tuple #[]) ∧ ∃ bkv', BkIs w' P bkv' Mb (L ++ kindsW n (fun k => sumOf L n k) am 12) ∧ OwnNew w bkv bkv' ∧ Keep (BkS P Mb bkv) w w' := by
  have HB : Hid (BkIs w P bkv Mb L) := h
  have HA : Hid (∀ k, 1 ≤ k → k ≤ 12 → I64 (am k)) := ha
  have HN : Hid (I64 n) := hn
  clear h ha hn
  unfold amV
  go_enter Tryz.func40, Tryz.ntmps40
  go_wp2_with fail
  have HE : Hid (PtW (w.alloc (.cells (hc 13 am).toArray 96)) P Mb bkv w.heap.size am L (w.alloc (.cells (hc 13 am).toArray 96))) := ⟨bkv, HB.out.keep (Keep.below (S := fun _ => False) ((Below.refl _ _).alloc (Nat.le_refl _) _)) (fun _ _ h => h), .inl rfl, Keep.refl _ _, At.alloc w _ _⟩
  have HK0 : Hid (Keep (fun _ => False) w (w.alloc (.cells (hc 13 am).toArray 96))) := Keep.below ((Below.refl _ _).alloc (Nat.le_refl _) _)
  have HAl : Hid (w.heap.size < (w.alloc (.cells (hc 13 am).toArray 96)).heap.size) := by show _ < _; simp
  have HPE : Hid (¬ BkS P Mb bkv w.heap.size) := fun hb => by
    have h1 := At.lt HB.out.pl
    have h2 := HB.out.lt
    rcases hb with hb | hb | hb
    · omega
    · omega
    · have := (HB.out.own hb).2; omega
  change Code.wp _ _ _ _ (w.alloc (.cells (hc 13 am).toArray 96))
  generalize w.alloc (.cells (hc 13 am).toArray 96) = V at *
  generalize w.heap.size = A at *
  go_loopw [6] (fun i wr => ∃ q : Nat, q ≤ 12 ∧ i = .int .i64 (q + 1) ∧ PtW V P Mb bkv A am (L ++ kindsW n (fun k => sumOf L n k) am q) wr) (fun i _ => (13 - intOf i).toNat)
  case atStart => exact ⟨0, by omega, rfl, by rw [kindsW, List.append_nil]; exact HE.out⟩
  case round =>
    obtain ⟨q, hq, rfl, hw⟩ := hrel
    by_cases hlt : q < 12
    · have HW : Hid (PtW V P Mb bkv A am (L ++ kindsW n (fun k => sumOf L n k) am q) wr) := hw
      obtain ⟨bkvr, hb, ho, hk, hat⟩ := hw
      have c1 : wr.cell? ⟨P, 1, none⟩ = some (.map (some Mb)) := hb.pl.cell 1 rfl
      have hlk := hb.mp.look n (q + 1) HN.out (by unfold I64; omega)
      have hsm : sumOf (L ++ kindsW n (fun k => sumOf L n k) am q) n (q + 1) = sumOf L n (q + 1) := sumOf_kinds L n _ am q (q + 1) (by omega)
      rw [hsm] at hlk
      have ca : wr.cell? ⟨A, q + 1, none⟩ = some (.int .i64 (am (q + 1))) := hat.cell (q + 1) (hc_at 13 am (q + 1) (by omega))
      have HKW : Hid (L ++ kindsW n (fun k => sumOf L n k) am (q + 1) = (L ++ kindsW n (fun k => sumOf L n k) am q) ++ kindW n (q + 1) (sumOf L n (q + 1)) (am (q + 1))) := by
        show _ = _
        rw [kindsW, List.append_assoc]
        rfl
      have hlen : (L ++ kindsW n (fun k => sumOf L n k) am q).length + 2 ≤ 5000000000000 := by
        have := kindsW_len n (fun k => sumOf L n k) am q
        rw [List.length_append]
        omega
      have hsi := sumOf_i64 L n (q + 1)
      have hai := HA.out (q + 1) (by omega) (by omega)
      have HBr : Hid (BkIs wr P bkvr Mb (L ++ kindsW n (fun k => sumOf L n k) am q)) := hb
      have HOr : Hid (OwnNew V bkv bkvr) := ho
      clear hb ho hk hat hsm
      generalize L ++ kindsW n (fun k => sumOf L n k) am q = M at *
      generalize sumOf L n (q + 1) = is at *
      generalize hav : am (q + 1) = av at *
      have hav : Hid (am (q + 1) = av) := hav
      by_cases heq : is = av
      · have heb : (is == av) = true := by simp [heq]
        go_wp2_with fail
        refine ⟨⟨q + 1, by omega, by simp, ?_⟩, by simp [intOf]; omega⟩
        rw [HKW.out, show kindW n (q + 1) is av = [] by unfold kindW; rw [if_pos heq], List.append_nil]
        exact HW.out
      · have heb : (is == av) = false := by simp [heq]
        have HEQ : Hid (¬ is = av) := heq
        clear heq
        go_wp2_with fail
        refine (write_any wr P bkvr Mb M HBr.out (by omega) n (q + 1) (wrap64 (-is)) HN.out (by unfold I64; omega) (wrap64_i64 _)).mono ?_
        rintro e w1 ⟨rfl, bkv1, hb1, ho1, hk1⟩
        have hw1 := PtW.write HW.out HPE.out HAl.out HOr.out hb1 ho1 hk1
        have HO1 : Hid (OwnNew V bkv bkv1) := HOr.out.comp ho1 (by obtain ⟨_, _, _, hk, _⟩ := HW.out; exact hk.size)
        have HW1 : Hid (PtW V P Mb bkv A am (M ++ if wrap64 (-is) = 0 then [] else [⟨n, q + 1, wrap64 (-is)⟩]) w1) := hw1
        have hlen1 : (M ++ if wrap64 (-is) = 0 then [] else [(⟨n, q + 1, wrap64 (-is)⟩ : En)]).length + 1 ≤ 5000000000000 := by
          rw [List.length_append]
          split
          · simp; omega
          · simp; omega
        have HB1 : Hid (BkIs w1 P bkv1 Mb (M ++ if wrap64 (-is) = 0 then [] else [⟨n, q + 1, wrap64 (-is)⟩])) := hb1
        have ca1 : w1.cell? ⟨A, q + 1, none⟩ = some (.int .i64 av) := by
          obtain ⟨_, _, _, _, hat⟩ := hw1
          rw [← hav.out]
          exact hat.cell (q + 1) (hc_at 13 am (q + 1) (by omega))
        clear hw1 hb1 ho1 hk1
        have HKK : Hid (M ++ kindW n (q + 1) is av = (M ++ if wrap64 (-is) = 0 then [] else [⟨n, q + 1, wrap64 (-is)⟩]) ++ if av = 0 then [] else [⟨n, q + 1, av⟩]) := by
          show _ = _
          unfold kindW
          rw [if_neg HEQ.out, List.append_assoc]
          have hz : wrap64 (-is) = 0 ↔ is = 0 := by
            have := hsi
            unfold I64 at this
            unfold wrap64
            omega
          by_cases h0 : is = 0
          · rw [if_pos h0, if_pos (hz.2 h0)]
            rfl
          · rw [if_neg h0, if_neg (fun h => h0 (hz.1 h))]
            rfl
        generalize (M ++ if wrap64 (-is) = 0 then [] else [(⟨n, q + 1, wrap64 (-is)⟩ : En)]) = M1 at *
        go_wp2_with fail
        refine (write_any w1 P bkv1 Mb M1 HB1.out hlen1 n (q + 1) av HN.out (by unfold I64; omega) hai).mono ?_
        rintro e w2 ⟨rfl, bkv2, hb2, ho2, hk2⟩
        have hw2 := PtW.write HW1.out HPE.out HAl.out HO1.out hb2 ho2 hk2
        clear hb2 ho2 hk2
        have HW2 : Hid (PtW V P Mb bkv A am (M1 ++ if av = 0 then [] else [⟨n, q + 1, av⟩]) w2) := hw2
        clear hw2
        go_wp2_with fail
        refine ⟨⟨q + 1, by omega, by simp, ?_⟩, by simp [intOf]; omega⟩
        rw [HKW.out, HKK.out]
        exact HW2.out
    · obtain rfl : q = 12 := by omega
      go_wp2_with fail
      go_end0
      obtain ⟨bkvr, hb, ho, hk, hat⟩ := hw
      refine ⟨rfl, bkvr, hb, ?_, ?_⟩
      · rcases ho with h | ⟨b, h1, h2⟩
        · exact .inl h
        · exact .inr ⟨b, h1, Nat.le_trans HK0.out.size h2⟩
      · exact (HK0.out.mono (fun _ _ h => h.elim)).trans hk
end Go.Proofs.YtanndhoimpnhpaaGreatDoor
