/- Joined by program: Wr, Pt, PvA, PvB, PrK. -/
import Derived.Test.YtanndhoimpnhpaaGreatDoorM15
import Derived.Deep.RegionHeld3
import Derived.Deep.QuietTactic
import Derived.Deep.CutRange
import Derived.Test.YtanndhoimpnhpaaGreatDoorM5
import Derived.Test.YtanndhoimpnhpaaGreatDoorProg
import Derived.WalkKit
import Derived.Test.YtanndhoimpnhpaaGreatDoorM2
import Derived.Test.YtanndhoimpnhpaaGreatDoorM1
import Derived.Test.YtanndhoimpnhpaaGreatDoorM6
namespace Go.Proofs.YtanndhoimpnhpaaGreatDoor
open Go.ChangeShapes Go.WideShapes Go.RowKit Go.WideMaps Go.Maps
set_option maxRecDepth 100000 in
set_option maxHeartbeats 4000000 in
theorem write_any (w : World) (P : Nat) (bkv : Value) (Mb : Nat) (L : List En) (h : BkIs w P bkv Mb L) (hL : L.length + 1 ≤ 5000000000000) (d k a : Int) (hd : I64 d) (hk : I64 k) (ha : I64 a) :
    Calls Tryz.prog 81 #[.pointer (some ⟨P, 0, none⟩), .agg #[.int .i64 d, .int .i64 k, .int .i64 a]] w fun e w' => e = .returned (.tuple #[]) ∧ ∃ bkv', BkIs w' P bkv' Mb (L ++ if a = 0 then [] else [⟨d, k, a⟩]) ∧ OwnNew w bkv bkv' ∧ Keep (BkS P Mb bkv) w w' := by
  obtain ⟨i0, hi, hz0, hz1, hz2⟩ := info_parts infoEntry
  have HB : Hid (BkIs w P bkv Mb L) := h
  clear h
  by_cases hz : a = 0
  · subst hz
    go_enter Tryz.func81, Tryz.ntmps81
    go_wp2
    refine bodyPost_ret (results_none rfl _ _ _) rfl ?_
    have kk : Keep (fun _ => False) w (w.alloc (.cells #[.int .i64 d, .int .i64 k, .int .i64 0] 114)) := Keep.below ((Below.refl _ _).alloc (Nat.le_refl _) _)
    refine ⟨rfl, bkv, ?_, .inl rfl, kk.mono (fun _ _ h => h.elim)⟩
    exact HB.out.keep kk (fun _ _ h => h)
  · have hzb : (a == 0) = false := by simp [hz]
    have HI : Hid (I64 d ∧ I64 k ∧ I64 a) := ⟨hd, hk, ha⟩
    have HZ : Hid (¬ a = 0) := hz
    clear hd hk ha hz
    go_enter Tryz.func81, Tryz.ntmps81
    go_upto_region 2 with fail
    have HE : Hid (At (w.alloc (.cells #[.int .i64 d, .int .i64 k, .int .i64 a] 114)) w.heap.size [.int .i64 d, .int .i64 k, .int .i64 a]) := At.alloc w _ _
    have HK0 : Hid (Keep (fun _ => False) w (w.alloc (.cells #[.int .i64 d, .int .i64 k, .int .i64 a] 114))) := Keep.below ((Below.refl _ _).alloc (Nat.le_refl _) _)
    have HPE : Hid (∀ b, BkS P Mb bkv b → ¬ b = w.heap.size) := fun b hb hE => by
      have h1 := At.lt HB.out.pl
      have h2 := HB.out.lt
      rcases hb with hb | hb | hb
      · omega
      · omega
      · have := (HB.out.own hb).2; omega
    generalize w.alloc (.cells #[.int .i64 d, .int .i64 k, .int .i64 a] 114) = V at *
    generalize w.heap.size = E at *
    go_cut [] from 7 to 16 (fun wx => ∃ bkv2, At wx P [bkv2, .map (some Mb)] ∧ wx.ownsRow (P + 1) 114 3 bkv2 (L.length + 1) (ens L ++ [.int .i64 d, .int .i64 k, .int .i64 a]) ∧ MapIs wx Mb L.length (sumOf L) ∧ At wx E [.int .i64 d, .int .i64 k, .int .i64 a] ∧ Keep (BkS P Mb bkv) V wx ∧ OwnNew V bkv bkv2)
    case first =>
      have hb := HB.out.keep HK0.out (fun _ _ h => h)
      have HSS : Hid (∀ wz, Keep (BkS P Mb bkv) V wz → At wz E [.int .i64 d, .int .i64 k, .int .i64 a]) := fun wz hk => At.keep HE.out hk (fun h => HPE.out E h rfl)
      obtain ⟨p0, cap0, rfl⟩ := own_slice hb.ow
      have oU := hb.ow.drew
      have aU : At V.drew P [.slice p0 L.length cap0, .map (some Mb)] := hb.pl.drew
      have mU : MapIs V.drew Mb L.length (sumOf L) := hb.mp
      have kU : Keep (BkS P Mb (.slice p0 L.length cap0)) V V.drew := (Keep.refl _ _).drew
      have hPl : P < V.drew.heap.size := At.lt aU
      have hMP := hb.lt
      clear hb
      refine wp_region_held_drew (S := fun wz => At wz E [.int .i64 d, .int .i64 k, .int .i64 a]) (by kernel_rfl) (HSS.out _ kU) (fun hHeld => ?_)
      generalize V.drew = U at *
      have u6 : U.cell? ⟨P, 0, none⟩ = some (.slice p0 L.length cap0) := aU.cell 0 rfl
      have oU1 := oU.alloc (.cells #[.int .i64 d, .int .i64 k, .int .i64 a] 114)
      have aU1 : At (U.alloc (.cells #[.int .i64 d, .int .i64 k, .int .i64 a] 114)) P [.slice p0 L.length cap0, .map (some Mb)] := At.over aU _
      have mU1 : MapIs (U.alloc (.cells #[.int .i64 d, .int .i64 k, .int .i64 a] 114)) Mb L.length (sumOf L) := mU.block (Keep.below (S := fun _ => False) ((Below.refl _ _).alloc (Nat.le_refl _) _) |>.block Mb mU.lt (fun h => h))
      have nU1 : At (U.alloc (.cells #[.int .i64 d, .int .i64 k, .int .i64 a] 114)) U.heap.size [.int .i64 d, .int .i64 k, .int .i64 a] := At.alloc U _ _
      have kU1 : Keep (BkS P Mb (.slice p0 L.length cap0)) V (U.alloc (.cells #[.int .i64 d, .int .i64 k, .int .i64 a] 114)) := kU.trans (Keep.below ((Below.refl _ _).alloc (Nat.le_refl _) _))
      have u7 : (U.alloc (.cells #[.int .i64 d, .int .i64 k, .int .i64 a] 114)).cell? ⟨P, 0, none⟩ = some (.slice p0 L.length cap0) := aU1.cell 0 rfl
      have gsz : P + 1 ≤ (U.alloc (.cells #[.int .i64 d, .int .i64 k, .int .i64 a] 114)).heap.size := by simp; omega
      refine wpAnyH_take (i := 0) (v := (.pointer (some ⟨P, 0, none⟩))) rfl (by kernel_rfl) (by kernel_rfl) (by kernel_rfl) (fun _ _ _ h => h) (Or.inl ⟨by rfl, fun wx hSw => by go_simp⟩) (by assumption) ?_
      simp only [Act.put, List.getElem_toArray, List.getElem_cons_zero, List.setIfInBounds_toArray, List.set_cons_zero, List.set_cons_succ]
      refine wpAnyH_take (i := 1) (v := (.pointer (some ⟨P, 0, none⟩))) rfl (by kernel_rfl) (by kernel_rfl) (by kernel_rfl) (fun _ _ _ h => h) (Or.inl ⟨by rfl, fun wx hSw => by go_simp⟩) (by assumption) ?_
      simp only [Act.put, List.getElem_toArray, List.getElem_cons_succ, List.getElem_cons_zero, List.setIfInBounds_toArray, List.set_cons_zero, List.set_cons_succ]
      refine wpAnyH_take (i := 2) (v := (.pointer (some ⟨P, 0, none⟩))) rfl (by kernel_rfl) (by kernel_rfl) (by kernel_rfl) (fun _ _ _ h => h) (Or.inl ⟨by rfl, fun wx hSw => by go_simp⟩) (by assumption) ?_
      simp only [Act.put, List.getElem_toArray, List.getElem_cons_succ, List.getElem_cons_zero, List.setIfInBounds_toArray, List.set_cons_zero, List.set_cons_succ]
      refine wpAnyH_take (i := 3) (v := (.pointer (some ⟨P, 0, none⟩))) rfl (by kernel_rfl) (by kernel_rfl) (by kernel_rfl) (fun _ _ _ h => h) (Or.inl ⟨by rfl, fun wx hSw => by go_simp⟩) (by assumption) ?_
      simp only [Act.put, List.getElem_toArray, List.getElem_cons_succ, List.getElem_cons_zero, List.setIfInBounds_toArray, List.set_cons_zero, List.set_cons_succ]
      refine wpAnyH_take (i := 5) (v := (.agg #[.int .i64 d, .int .i64 k, .int .i64 a])) rfl (by kernel_rfl) (by kernel_rfl) (by kernel_rfl) (fun _ _ _ h => h) (yieldsIf_load_mid (by rfl) 114 (.tmp 3) rfl _ _ rfl _ _ (fun _ h => At.range h) Tryz.underlying114 rfl (by kernel_rfl)) (by assumption) ?_
      simp only [Act.put, List.getElem_toArray, List.getElem_cons_succ, List.getElem_cons_zero, List.setIfInBounds_toArray, List.set_cons_zero, List.set_cons_succ]
      refine wpAnyH_ready (rs := [4, 6]) (by kernel_rfl) (by simp) ?_
      refine AllReadyH.cons rfl (fun K hK => ?_) (AllReadyH.cons rfl (fun K hK => ?_) AllReadyH.nil)
      · go_simp
        refine hK.out _ _ hHeld (fun _ => ?_)
        clear hK K
        refine wpAnyH_ready (rs := [6]) (by kernel_rfl) (by simp) ?_
        refine AllReadyH.cons rfl (fun K hK => ?_) AllReadyH.nil
        rw [if_pos (by rfl)]
        refine wp_valD (.slice (some ⟨U.heap.size, 0, none⟩) 1 1) (U.alloc (.cells #[.int .i64 d, .int .i64 k, .int .i64 a] 114)) (by kernel_rfl) ?_
        refine hK.out _ _ (HSS.out _ kU1) (fun _ => ?_)
        clear hK K u6 u7 oU aU kU hHeld
        simp only [Act.put, List.getElem_toArray, List.getElem_cons_succ, List.getElem_cons_zero, List.setIfInBounds_toArray, List.set_cons_zero, List.set_cons_succ]
        generalize U.alloc (.cells #[.int .i64 d, .int .i64 k, .int .i64 a] 114) = U1 at *
        generalize hNN : U.heap.size = NN at *
        refine wpAnyH_ready (rs := [7]) (by kernel_rfl) (by simp) ?_
        refine AllReadyH.cons rfl (fun K hK => ?_) AllReadyH.nil
        rw [if_pos (by rfl)]
        refine wp_append_at U1 (.tmp 11) (.tmp 13) 54 rfl (P + 1) 114 i0 (.agg #[.int .i64 0, .int .i64 0, .int .i64 0]) 3 24 Tryz.underlying54 hi hz0 hz1 hz2 rfl (by decide) _ _ _ rfl oU1 ⟨NN, 0, none⟩ 1 1 [.int .i64 d, .int .i64 k, .int .i64 a] rfl rfl ?_ ?_ ?_ ?_ ?_ ?_
        · intro j u hj
          have := (nU1 j u hj).1
          by_cases j0 : j = 0
          · subst j0; simpa [Addr.add] using this
          · simpa [Addr.add, j0] using this
        · intro u hu
          simp at hu
          rcases hu with rfl | rfl | rfl <;> rfl
        · unfold maxLen; omega
        · omega
        · omega
        intro v' w' h2 h3 hat
        have kp3 : Keep (fun b => some b = (Value.slice p0 L.length cap0).ownBlock) U1 w' := ⟨h3.os, h3.tape, h3.output, h3.size, fun j hj hs => h3.block j hj hs⟩
        have kv : Keep (BkS P Mb (.slice p0 L.length cap0)) V w' := kU1.trans (kp3.mono (fun b _ h => .inr (.inr h.symm)))
        have aw : At w' P [.slice p0 L.length cap0, .map (some Mb)] := At.keep aU1 kp3 (fun h => by have := (own_base oU1 h.symm).1; omega)
        obtain ⟨g', cap', rfl, _, _⟩ := h2.form (by omega)
        refine hK.out _ _ (HSS.out w' kv) (fun _ => ?_)
        clear hK K
        simp only [Act.put, List.getElem_toArray, List.getElem_cons_succ, List.getElem_cons_zero, List.setIfInBounds_toArray, List.set_cons_zero, List.set_cons_succ]
        refine wpAnyH_take (i := 8) (v := (.pointer (some ⟨P, 0, none⟩))) rfl (by kernel_rfl) (by kernel_rfl) (by kernel_rfl) (fun _ _ _ h => h) (Or.inl ⟨by rfl, fun wx hSw => by go_simp⟩) (by assumption) ?_
        simp only [Act.put, List.getElem_toArray, List.getElem_cons_succ, List.getElem_cons_zero, List.setIfInBounds_toArray, List.set_cons_zero, List.set_cons_succ]
        refine wpAnyH_take (i := 9) (v := (.pointer (some ⟨P, 0, none⟩))) rfl (by kernel_rfl) (by kernel_rfl) (by kernel_rfl) (fun _ _ _ h => h) (Or.inl ⟨by rfl, fun wx hSw => by go_simp⟩) (by assumption) ?_
        simp only [Act.put, List.getElem_toArray, List.getElem_cons_succ, List.getElem_cons_zero, List.setIfInBounds_toArray, List.set_cons_zero, List.set_cons_succ]
        refine wpAnyH_ready (rs := [10]) (by kernel_rfl) (by simp) ?_
        refine AllReadyH.cons rfl (fun K hK => ?_) AllReadyH.nil
        have y6 : w'.cell? ⟨P, 0, none⟩ = some (.slice p0 L.length cap0) := aw.cell 0 rfl
        have y7 : w'.frozen? ⟨P, 0, none⟩ = false := aw.free 0 rfl
        go_simp
        have kv2 := kv.set (S := BkS P Mb (.slice p0 L.length cap0)) (.inl rfl) 0 (.slice (some ⟨g', 0, none⟩) (L.length + 1) cap')
        have aw2 : At (w'.setCell ⟨P, 0, none⟩ (.slice (some ⟨g', 0, none⟩) (L.length + 1) cap')) P [.slice (some ⟨g', 0, none⟩) (L.length + 1) cap', .map (some Mb)] := aw.set 0 (show 0 < 2 by decide) _
        have ow2 : (w'.setCell ⟨P, 0, none⟩ (.slice (some ⟨g', 0, none⟩) (L.length + 1) cap')).ownsRow (P + 1) 114 3 (.slice (some ⟨g', 0, none⟩) (L.length + 1) cap') (L.length + 1) (ens L ++ [.int .i64 d, .int .i64 k, .int .i64 a]) := ownsRow_setCell_below h2 (Nat.lt_succ_self P) _
        have kp4 : Keep (fun b => b = P ∨ some b = (Value.slice p0 L.length cap0).ownBlock) U1 (w'.setCell ⟨P, 0, none⟩ (.slice (some ⟨g', 0, none⟩) (L.length + 1) cap')) := (kp3.mono (fun b _ h => .inr h)).set (S := fun b => b = P ∨ some b = (Value.slice p0 L.length cap0).ownBlock) (.inl rfl) 0 _
        refine hK.out _ _ (HSS.out _ kv2) (fun _ => ?_)
        have mp2 := mU1.block (kp4.block Mb mU1.lt (fun h => h.elim (fun h => by omega) (fun h => by have := (own_base oU1 h.symm).1; omega)))
        have hnew : OwnNew V (.slice p0 L.length cap0) (.slice (some ⟨g', 0, none⟩) (L.length + 1) cap') := hat.elim .inl (fun h => .inr ⟨_, h, kU1.size⟩)
        clear hK K h2 h3 y6 y7 aw kv hat oU1 aU1 nU1 kU1 kp3 kp4 mU1
        generalize w'.setCell ⟨P, 0, none⟩ (.slice (some ⟨g', 0, none⟩) (L.length + 1) cap') = w9 at *
        refine wpAnyH_done (by kernel_rfl) ?_ _
        go_wp2_with fail
        go_meet
        case rel => exact ⟨_, aw2, ow2, mp2, HSS.out _ kv2, kv2, hnew⟩
      · rw [if_pos (by rfl)]
        refine wp_valD (.slice (some ⟨U.heap.size, 0, none⟩) 1 1) (U.alloc (.cells #[.int .i64 d, .int .i64 k, .int .i64 a] 114)) (by kernel_rfl) ?_
        refine hK.out _ _ (HSS.out _ kU1) (fun hHeld2 => ?_)
        clear hK K u6
        simp only [Act.put, List.getElem_toArray, List.getElem_cons_succ, List.getElem_cons_zero, List.setIfInBounds_toArray, List.set_cons_zero, List.set_cons_succ]
        refine wpAnyH_ready (rs := [4]) (by kernel_rfl) (by simp) ?_
        refine AllReadyH.cons rfl (fun K hK => ?_) AllReadyH.nil
        go_simp
        refine hK.out _ _ hHeld2 (fun _ => ?_)
        clear hK K u7 oU aU kU hHeld hHeld2
        generalize U.alloc (.cells #[.int .i64 d, .int .i64 k, .int .i64 a] 114) = U1 at *
        generalize hNN : U.heap.size = NN at *
        refine wpAnyH_ready (rs := [7]) (by kernel_rfl) (by simp) ?_
        refine AllReadyH.cons rfl (fun K hK => ?_) AllReadyH.nil
        rw [if_pos (by rfl)]
        refine wp_append_at U1 (.tmp 11) (.tmp 13) 54 rfl (P + 1) 114 i0 (.agg #[.int .i64 0, .int .i64 0, .int .i64 0]) 3 24 Tryz.underlying54 hi hz0 hz1 hz2 rfl (by decide) _ _ _ rfl oU1 ⟨NN, 0, none⟩ 1 1 [.int .i64 d, .int .i64 k, .int .i64 a] rfl rfl ?_ ?_ ?_ ?_ ?_ ?_
        · intro j u hj
          have := (nU1 j u hj).1
          by_cases j0 : j = 0
          · subst j0; simpa [Addr.add] using this
          · simpa [Addr.add, j0] using this
        · intro u hu
          simp at hu
          rcases hu with rfl | rfl | rfl <;> rfl
        · unfold maxLen; omega
        · omega
        · omega
        intro v' w' h2 h3 hat
        have kp3 : Keep (fun b => some b = (Value.slice p0 L.length cap0).ownBlock) U1 w' := ⟨h3.os, h3.tape, h3.output, h3.size, fun j hj hs => h3.block j hj hs⟩
        have kv : Keep (BkS P Mb (.slice p0 L.length cap0)) V w' := kU1.trans (kp3.mono (fun b _ h => .inr (.inr h.symm)))
        have aw : At w' P [.slice p0 L.length cap0, .map (some Mb)] := At.keep aU1 kp3 (fun h => by have := (own_base oU1 h.symm).1; omega)
        obtain ⟨g', cap', rfl, _, _⟩ := h2.form (by omega)
        refine hK.out _ _ (HSS.out w' kv) (fun _ => ?_)
        clear hK K
        simp only [Act.put, List.getElem_toArray, List.getElem_cons_succ, List.getElem_cons_zero, List.setIfInBounds_toArray, List.set_cons_zero, List.set_cons_succ]
        refine wpAnyH_take (i := 8) (v := (.pointer (some ⟨P, 0, none⟩))) rfl (by kernel_rfl) (by kernel_rfl) (by kernel_rfl) (fun _ _ _ h => h) (Or.inl ⟨by rfl, fun wx hSw => by go_simp⟩) (by assumption) ?_
        simp only [Act.put, List.getElem_toArray, List.getElem_cons_succ, List.getElem_cons_zero, List.setIfInBounds_toArray, List.set_cons_zero, List.set_cons_succ]
        refine wpAnyH_take (i := 9) (v := (.pointer (some ⟨P, 0, none⟩))) rfl (by kernel_rfl) (by kernel_rfl) (by kernel_rfl) (fun _ _ _ h => h) (Or.inl ⟨by rfl, fun wx hSw => by go_simp⟩) (by assumption) ?_
        simp only [Act.put, List.getElem_toArray, List.getElem_cons_succ, List.getElem_cons_zero, List.setIfInBounds_toArray, List.set_cons_zero, List.set_cons_succ]
        refine wpAnyH_ready (rs := [10]) (by kernel_rfl) (by simp) ?_
        refine AllReadyH.cons rfl (fun K hK => ?_) AllReadyH.nil
        have y6 : w'.cell? ⟨P, 0, none⟩ = some (.slice p0 L.length cap0) := aw.cell 0 rfl
        have y7 : w'.frozen? ⟨P, 0, none⟩ = false := aw.free 0 rfl
        go_simp
        have kv2 := kv.set (S := BkS P Mb (.slice p0 L.length cap0)) (.inl rfl) 0 (.slice (some ⟨g', 0, none⟩) (L.length + 1) cap')
        have aw2 : At (w'.setCell ⟨P, 0, none⟩ (.slice (some ⟨g', 0, none⟩) (L.length + 1) cap')) P [.slice (some ⟨g', 0, none⟩) (L.length + 1) cap', .map (some Mb)] := aw.set 0 (show 0 < 2 by decide) _
        have ow2 : (w'.setCell ⟨P, 0, none⟩ (.slice (some ⟨g', 0, none⟩) (L.length + 1) cap')).ownsRow (P + 1) 114 3 (.slice (some ⟨g', 0, none⟩) (L.length + 1) cap') (L.length + 1) (ens L ++ [.int .i64 d, .int .i64 k, .int .i64 a]) := ownsRow_setCell_below h2 (Nat.lt_succ_self P) _
        have kp4 : Keep (fun b => b = P ∨ some b = (Value.slice p0 L.length cap0).ownBlock) U1 (w'.setCell ⟨P, 0, none⟩ (.slice (some ⟨g', 0, none⟩) (L.length + 1) cap')) := (kp3.mono (fun b _ h => .inr h)).set (S := fun b => b = P ∨ some b = (Value.slice p0 L.length cap0).ownBlock) (.inl rfl) 0 _
        refine hK.out _ _ (HSS.out _ kv2) (fun _ => ?_)
        have mp2 := mU1.block (kp4.block Mb mU1.lt (fun h => h.elim (fun h => by omega) (fun h => by have := (own_base oU1 h.symm).1; omega)))
        have hnew : OwnNew V (.slice p0 L.length cap0) (.slice (some ⟨g', 0, none⟩) (L.length + 1) cap') := hat.elim .inl (fun h => .inr ⟨_, h, kU1.size⟩)
        clear hK K h2 h3 y6 y7 aw kv hat oU1 aU1 nU1 kU1 kp3 kp4 mU1
        generalize w'.setCell ⟨P, 0, none⟩ (.slice (some ⟨g', 0, none⟩) (L.length + 1) cap') = w9 at *
        refine wpAnyH_done (by kernel_rfl) ?_ _
        go_wp2_with fail
        go_meet
        case rel => exact ⟨_, aw2, ow2, mp2, HSS.out _ kv2, kv2, hnew⟩
    case rest =>
      obtain ⟨bkv2, a2, o2, m2, e2, k2, n2⟩ := hcut
      obtain ⟨hd, hk, ha⟩ := HI.out
      have hP := At.lt HB.out.pl
      have hMP := HB.out.lt
      have hPM : ¬ P = Mb := by omega
      have hEM : ¬ E = Mb := fun e => HPE.out Mb (.inr (.inl rfl)) e.symm
      have ap : wc.drew.cell? ⟨P, 1, none⟩ = some (.map (some Mb)) := a2.cell 1 rfl
      have aE : At wc.drew E [.int .i64 d, .int .i64 k, .int .i64 a] := e2.drew
      have md : MapIs wc.drew Mb L.length (sumOf L) := m2
      obtain ⟨v0, st, es1, clock1, hen, kd, hlk2, hsto⟩ := md.store (by unfold maxLen; omega) d k hd hk
      have hlk1 := md.look d k hd hk
      obtain ⟨w5, hst, hmp, hgr⟩ := hsto (wrap64 (sumOf L d k + a)) (wrap64_i64 _)
      have k5 : Keep (fun b => b = Mb) wc w5 := (Keep.refl _ _).drew.trans (keep_grown hgr)
      have HT : Hid (∃ bkv', BkIs w5 P bkv' Mb (L ++ [⟨d, k, a⟩]) ∧ OwnNew w bkv bkv' ∧ Keep (BkS P Mb bkv) w w5) := by
        refine ⟨bkv2, ⟨At.keep a2 k5 hPM, ?_, ?_, hMP⟩, ?_, ?_⟩
        · rw [ens_append, List.length_append]
          exact own_keep o2 k5 (fun b hb e => by have := (own_base o2 hb).1; omega)
        · rw [List.length_append]
          have hs : sumOf (L ++ [⟨d, k, a⟩]) = fun x y => if x = d ∧ y = k then wrap64 (sumOf L d k + a) else sumOf L x y := by
            funext x y
            rw [sumOf_snoc]
            by_cases hx : x = d ∧ y = k
            · rw [if_pos hx, if_pos hx, hx.1, hx.2]
            · rw [if_neg hx, if_neg hx]
          rw [hs]
          exact hmp
        · rcases n2 with h | ⟨b, h1, h2⟩
          · exact .inl h
          · exact .inr ⟨b, h1, Nat.le_trans HK0.out.size h2⟩
        · exact (HK0.out.mono (fun _ _ h => h.elim)).trans (k2.trans (k5.mono (fun b _ h => .inr (.inl h))))
      have hs1 : wc.drew.cell? ⟨P, 1, none⟩ = some (.map (some Mb)) ∧ At wc.drew E [.int .i64 d, .int .i64 k, .int .i64 a] := ⟨ap, aE⟩
      have hs2 : (ChangeMaps.setBlock wc.drew Mb (.map es1 clock1)).cell? ⟨P, 1, none⟩ = some (.map (some Mb)) ∧ At (ChangeMaps.setBlock wc.drew Mb (.map es1 clock1)) E [.int .i64 d, .int .i64 k, .int .i64 a] := ⟨(At.keep a2.drew kd hPM).cell 1 rfl, At.keep aE kd hEM⟩
      have hs5 : w5.cell? ⟨P, 1, none⟩ = some (.map (some Mb)) ∧ At w5 E [.int .i64 d, .int .i64 k, .int .i64 a] := ⟨(At.keep a2 k5 hPM).cell 1 rfl, At.keep e2 k5 hEM⟩
      clear a2 o2 m2 e2 k2 n2 ap aE md hmp hgr k5 hsto kd
      go_wp2_with fail
      refine wp_region_held_drew (S := fun wz => wz.cell? ⟨P, 1, none⟩ = some (.map (some Mb)) ∧ At wz E [.int .i64 d, .int .i64 k, .int .i64 a]) (by kernel_rfl) hs1 (fun hHeld => ?_)
      generalize wc.drew = U at *
      generalize ChangeMaps.setBlock U Mb (.map es1 clock1) = U2 at *
      refine wpAnyH_take (i := 0) (v := (.pointer (some ⟨P, 0, none⟩))) rfl (by kernel_rfl) (by kernel_rfl) (by kernel_rfl) (fun _ _ _ h => h) (Or.inl ⟨by rfl, fun wx hSw => by go_simp⟩) (by assumption) ?_
      simp only [Act.put, List.getElem_toArray, List.getElem_cons_zero, List.setIfInBounds_toArray, List.set_cons_zero, List.set_cons_succ]
      refine wpAnyH_take (i := 1) (v := (.pointer (some ⟨P, 0, none⟩))) rfl (by kernel_rfl) (by kernel_rfl) (by kernel_rfl) (fun _ _ _ h => h) (Or.inl ⟨by rfl, fun wx hSw => by go_simp⟩) (by assumption) ?_
      simp only [Act.put, List.getElem_toArray, List.getElem_cons_succ, List.getElem_cons_zero, List.setIfInBounds_toArray, List.set_cons_zero, List.set_cons_succ]
      refine wpAnyH_take (i := 2) (v := (.pointer (some ⟨P, 1, none⟩))) rfl (by kernel_rfl) (by kernel_rfl) (by kernel_rfl) (fun _ _ _ h => h) (Or.inl ⟨by rfl, fun wx hSw => by go_simp⟩) (by assumption) ?_
      simp only [Act.put, List.getElem_toArray, List.getElem_cons_succ, List.getElem_cons_zero, List.setIfInBounds_toArray, List.set_cons_zero, List.set_cons_succ]
      refine wpAnyH_take (i := 3) (v := (.map (some Mb))) rfl (by kernel_rfl) (by kernel_rfl) (by kernel_rfl) (fun _ _ _ h => h) (Or.inl ⟨by rfl, fun wx hSw => by (have h1 := hSw.1; go_simp)⟩) (by assumption) ?_
      simp only [Act.put, List.getElem_toArray, List.getElem_cons_succ, List.getElem_cons_zero, List.setIfInBounds_toArray, List.set_cons_zero, List.set_cons_succ]
      refine wpAnyH_take (i := 4) (v := (.pointer (some ⟨E, 0, none⟩))) rfl (by kernel_rfl) (by kernel_rfl) (by kernel_rfl) (fun _ _ _ h => h) (Or.inl ⟨by rfl, fun wx hSw => by go_simp⟩) (by assumption) ?_
      simp only [Act.put, List.getElem_toArray, List.getElem_cons_succ, List.getElem_cons_zero, List.setIfInBounds_toArray, List.set_cons_zero, List.set_cons_succ]
      refine wpAnyH_take (i := 5) (v := (.int .i64 d)) rfl (by kernel_rfl) (by kernel_rfl) (by kernel_rfl) (fun _ _ _ h => h) (Or.inl ⟨by rfl, fun wx hSw => by (have h1 := hSw.2.cell 0 rfl; go_simp)⟩) (by assumption) ?_
      simp only [Act.put, List.getElem_toArray, List.getElem_cons_succ, List.getElem_cons_zero, List.setIfInBounds_toArray, List.set_cons_zero, List.set_cons_succ]
      refine wpAnyH_take (i := 6) (v := (.pointer (some ⟨E, 1, none⟩))) rfl (by kernel_rfl) (by kernel_rfl) (by kernel_rfl) (fun _ _ _ h => h) (Or.inl ⟨by rfl, fun wx hSw => by go_simp⟩) (by assumption) ?_
      simp only [Act.put, List.getElem_toArray, List.getElem_cons_succ, List.getElem_cons_zero, List.setIfInBounds_toArray, List.set_cons_zero, List.set_cons_succ]
      refine wpAnyH_take (i := 7) (v := (.int .i64 k)) rfl (by kernel_rfl) (by kernel_rfl) (by kernel_rfl) (fun _ _ _ h => h) (Or.inl ⟨by rfl, fun wx hSw => by (have h1 := hSw.2.cell 1 rfl; go_simp)⟩) (by assumption) ?_
      simp only [Act.put, List.getElem_toArray, List.getElem_cons_succ, List.getElem_cons_zero, List.setIfInBounds_toArray, List.set_cons_zero, List.set_cons_succ]
      refine wpAnyH_take (i := 8) (v := (.agg #[.int .i64 d, .int .i64 k])) rfl (by kernel_rfl) (by kernel_rfl) (by kernel_rfl) (fun _ _ _ h => h) (Or.inl ⟨by rfl, fun wx hSw => by go_simp⟩) (by assumption) ?_
      simp only [Act.put, List.getElem_toArray, List.getElem_cons_succ, List.getElem_cons_zero, List.setIfInBounds_toArray, List.set_cons_zero, List.set_cons_succ]
      refine wpAnyH_take (i := 10) (v := (.pointer (some ⟨E, 2, none⟩))) rfl (by kernel_rfl) (by kernel_rfl) (by kernel_rfl) (fun _ _ _ h => h) (Or.inl ⟨by rfl, fun wx hSw => by go_simp⟩) (by assumption) ?_
      simp only [Act.put, List.getElem_toArray, List.getElem_cons_succ, List.getElem_cons_zero, List.setIfInBounds_toArray, List.set_cons_zero, List.set_cons_succ]
      refine wpAnyH_take (i := 11) (v := (.int .i64 a)) rfl (by kernel_rfl) (by kernel_rfl) (by kernel_rfl) (fun _ _ _ h => h) (Or.inl ⟨by rfl, fun wx hSw => by (have h1 := hSw.2.cell 2 rfl; go_simp)⟩) (by assumption) ?_
      simp only [Act.put, List.getElem_toArray, List.getElem_cons_succ, List.getElem_cons_zero, List.setIfInBounds_toArray, List.set_cons_zero, List.set_cons_succ]
      refine wpAnyH_ready (rs := [9, 13]) (by kernel_rfl) (by simp) ?_
      refine AllReadyH.cons rfl (fun K hK => ?_) (AllReadyH.cons rfl (fun K hK => ?_) AllReadyH.nil)
      · rw [if_pos (by rfl)]
        refine wp_lookup_run (.tmp 20) (.tmp 25) 146 rfl _ _ rfl rfl hlk1 ?_
        refine hK.out _ _ hs1 (fun _ => ?_)
        clear hK K
        simp only [Act.put, List.getElem_toArray, List.getElem_cons_succ, List.getElem_cons_zero, List.setIfInBounds_toArray, List.set_cons_zero, List.set_cons_succ]
        refine wpAnyH_take (i := 12) (v := (.int .i64 (wrap64 (sumOf L d k + a)))) rfl (by kernel_rfl) (by kernel_rfl) (by kernel_rfl) (fun _ _ _ h => h) (Or.inl ⟨by rfl, fun wx hSw => by (go_simp; simp only [IntKind.wrap_i64, wrap64])⟩) (by assumption) ?_
        simp only [Act.put, List.getElem_toArray, List.getElem_cons_succ, List.getElem_cons_zero, List.setIfInBounds_toArray, List.set_cons_zero, List.set_cons_succ]
        refine wpAnyH_ready (rs := [13]) (by kernel_rfl) (by simp) ?_
        refine AllReadyH.cons rfl (fun K hK => ?_) AllReadyH.nil
        rw [if_pos (by rfl)]
        refine wp_entry_run (.tmp 20) (.tmp 25) 146 rfl _ _ rfl rfl hen ?_
        refine hK.out _ _ hs2 (fun _ => ?_)
        clear hK K
        simp only [Act.put, List.getElem_toArray, List.getElem_cons_succ, List.getElem_cons_zero, List.setIfInBounds_toArray, List.set_cons_zero, List.set_cons_succ]
        refine wpAnyH_take (i := 14) (v := (.int .i64 st)) rfl (by kernel_rfl) (by kernel_rfl) (by kernel_rfl) (fun _ _ _ h => h) (Or.inl ⟨by rfl, fun wx hSw => by go_simp⟩) (by assumption) ?_
        simp only [Act.put, List.getElem_toArray, List.getElem_cons_succ, List.getElem_cons_zero, List.setIfInBounds_toArray, List.set_cons_zero, List.set_cons_succ]
        refine wpAnyH_ready (rs := [15]) (by kernel_rfl) (by simp) ?_
        refine AllReadyH.cons rfl (fun K hK => ?_) AllReadyH.nil
        rw [if_pos (by rfl)]
        refine wp_entryStore_run (.tmp 20) (.tmp 31) (.tmp 29) 146 rfl _ _ _ rfl rfl rfl hst ?_
        refine hK.out _ _ hs5 (fun _ => ?_)
        clear hK K
        refine wpAnyH_done (by kernel_rfl) ?_ _
        go_wp2
        go_end0
        exact ⟨rfl, HT.out⟩
      · rw [if_pos (by rfl)]
        refine wp_entry_run (.tmp 20) (.tmp 25) 146 rfl _ _ rfl rfl hen ?_
        refine hK.out _ _ hs2 (fun _ => ?_)
        clear hK K
        simp only [Act.put, List.getElem_toArray, List.getElem_cons_succ, List.getElem_cons_zero, List.setIfInBounds_toArray, List.set_cons_zero, List.set_cons_succ]
        refine wpAnyH_take (i := 14) (v := (.int .i64 st)) rfl (by kernel_rfl) (by kernel_rfl) (by kernel_rfl) (fun _ _ _ h => h) (Or.inl ⟨by rfl, fun wx hSw => by go_simp⟩) (by assumption) ?_
        simp only [Act.put, List.getElem_toArray, List.getElem_cons_succ, List.getElem_cons_zero, List.setIfInBounds_toArray, List.set_cons_zero, List.set_cons_succ]
        refine wpAnyH_ready (rs := [9]) (by kernel_rfl) (by simp) ?_
        refine AllReadyH.cons rfl (fun K hK => ?_) AllReadyH.nil
        rw [if_pos (by rfl)]
        refine wp_lookup_run (.tmp 20) (.tmp 25) 146 rfl _ _ rfl rfl hlk2 ?_
        refine hK.out _ _ hs2 (fun _ => ?_)
        clear hK K
        simp only [Act.put, List.getElem_toArray, List.getElem_cons_succ, List.getElem_cons_zero, List.setIfInBounds_toArray, List.set_cons_zero, List.set_cons_succ]
        refine wpAnyH_take (i := 12) (v := (.int .i64 (wrap64 (sumOf L d k + a)))) rfl (by kernel_rfl) (by kernel_rfl) (by kernel_rfl) (fun _ _ _ h => h) (Or.inl ⟨by rfl, fun wx hSw => by (go_simp; simp only [IntKind.wrap_i64, wrap64])⟩) (by assumption) ?_
        simp only [Act.put, List.getElem_toArray, List.getElem_cons_succ, List.getElem_cons_zero, List.setIfInBounds_toArray, List.set_cons_zero, List.set_cons_succ]
        refine wpAnyH_ready (rs := [15]) (by kernel_rfl) (by simp) ?_
        refine AllReadyH.cons rfl (fun K hK => ?_) AllReadyH.nil
        rw [if_pos (by rfl)]
        refine wp_entryStore_run (.tmp 20) (.tmp 31) (.tmp 29) 146 rfl _ _ _ rfl rfl rfl hst ?_
        refine hK.out _ _ hs5 (fun _ => ?_)
        clear hK K
        refine wpAnyH_done (by kernel_rfl) ?_ _
        go_wp2
        go_end0
        exact ⟨rfl, HT.out⟩
end Go.Proofs.YtanndhoimpnhpaaGreatDoor
namespace Go.Proofs.YtanndhoimpnhpaaGreatDoor
open Go.ChangeShapes Go.WideShapes Go.RowKit Go.WideMaps Go.Maps
theorem sumOf_append (l m : List En) (d k : Int) (h : ∀ e ∈ m, ¬ (d = e.d ∧ k = e.k)) : sumOf (l ++ m) d k = sumOf l d k := by
  unfold sumOf
  rw [List.foldl_append]
  generalize l.foldl (fun s e => if d = e.d ∧ k = e.k then wrap64 (s + e.a) else s) 0 = s
  induction m generalizing s with
  | nil => rfl
  | cons e r ih =>
    rw [List.foldl_cons, if_neg (h e (by simp))]
    exact ih (fun x hx => h x (by simp [hx])) s
theorem kindW_mem {n : Int} {k : Nat} {is am : Int} {e : En} (h : e ∈ kindW n k is am) : e.d = n ∧ e.k = k := by
  unfold kindW at h
  split at h
  · simp at h
  · rcases List.mem_append.1 h with h | h
    · split at h
      · simp at h
      · simp at h; subst h; exact ⟨rfl, rfl⟩
    · split at h
      · simp at h
      · simp at h; subst h; exact ⟨rfl, rfl⟩
theorem kindsW_mem {n : Int} {h am : Nat → Int} {e : En} : ∀ {j : Nat}, e ∈ kindsW n h am j → e.d = n ∧ 1 ≤ e.k ∧ e.k ≤ j
  | 0, he => by simp [kindsW] at he
  | j + 1, he => by
    rcases List.mem_append.1 he with he | he
    · have := kindsW_mem he
      omega
    · have := kindW_mem he
      omega
theorem sumOf_kinds (L : List En) (n : Int) (h am : Nat → Int) (j k : Nat) (hk : j < k) : sumOf (L ++ kindsW n h am j) n k = sumOf L n k :=
  sumOf_append _ _ _ _ (fun e he hh => by have := kindsW_mem he; omega)
theorem OwnNew.comp {V wr : World} {a b c : Value} (h : OwnNew V a b) (k : OwnNew wr b c) (hs : V.heap.size ≤ wr.heap.size) : OwnNew V a c := by
  rcases k with k | ⟨x, k1, k2⟩
  · rcases h with h | ⟨x, h1, h2⟩
    · exact .inl (k.trans h)
    · exact .inr ⟨x, k.trans h1, h2⟩
  · exact .inr ⟨x, k1, Nat.le_trans hs k2⟩
theorem BkS.comp {V wr w' : World} {P Mb : Nat} {bkv bkvr : Value} (ho : OwnNew V bkv bkvr) (hk : Keep (BkS P Mb bkv) V wr) (h2 : Keep (BkS P Mb bkvr) wr w') : Keep (BkS P Mb bkv) V w' := by
  refine ⟨h2.os.trans hk.os, h2.tape.trans hk.tape, h2.output.trans hk.output, Nat.le_trans hk.size h2.size, fun b hb hs => ?_⟩
  refine (h2.block b (Nat.lt_of_lt_of_le hb hk.size) (fun h => ?_)).trans (hk.block b hb hs)
  rcases h with h | h | h
  · exact hs (.inl h)
  · exact hs (.inr (.inl h))
  · rcases ho with h4 | ⟨c, h5, h6⟩
    · exact hs (.inr (.inr (h4.symm.trans h)))
    · rw [h5] at h
      cases h
      omega
def PtW (V : World) (P Mb : Nat) (bkv : Value) (A : Nat) (am : Nat → Int) (M : List En) (wr : World) : Prop :=
  ∃ bkvr, BkIs wr P bkvr Mb M ∧ OwnNew V bkv bkvr ∧ Keep (BkS P Mb bkv) V wr ∧ At wr A (hc 13 am)
theorem PtW.write {V : World} {P Mb : Nat} {bkv : Value} {A : Nat} {am : Nat → Int} {M : List En} {wr w' : World} {bkvr bkv' : Value} {N : List En} (h : PtW V P Mb bkv A am M wr) (hA : ¬ BkS P Mb bkv A) (hAl : A < V.heap.size) (ho : OwnNew V bkv bkvr) (h1 : BkIs w' P bkv' Mb N) (h2 : OwnNew wr bkvr bkv') (h3 : Keep (BkS P Mb bkvr) wr w') : PtW V P Mb bkv A am N w' := by
  obtain ⟨_, _, _, hk, ha⟩ := h
  have hk' := BkS.comp ho hk h3
  refine ⟨bkv', h1, ho.comp h2 hk.size, hk', ha.block ((hk'.block A hAl hA).trans (hk.block A hAl hA).symm)⟩
set_option maxRecDepth 100000 in
set_option maxHeartbeats 4000000 in
theorem putright_any (w : World) (P : Nat) (bkv : Value) (Mb : Nat) (L : List En) (h : BkIs w P bkv Mb L) (hL : L.length + 24 ≤ 5000000000000) (n : Int) (hn : I64 n) (am : Nat → Int) (ha : ∀ k, 1 ≤ k → k ≤ 12 → I64 (am k)) :
    Calls Tryz.prog 40 #[.pointer (some ⟨P, 0, none⟩), .int .i64 n, amV am] w fun e w' => e = .returned (.tuple #[]) ∧ ∃ bkv', BkIs w' P bkv' Mb (L ++ kindsW n (fun k => sumOf L n k) am 12) ∧ OwnNew w bkv bkv' ∧ Keep (BkS P Mb bkv) w w' := by
  have HB : Hid (BkIs w P bkv Mb L) := h
  have HA : Hid (∀ k, 1 ≤ k → k ≤ 12 → I64 (am k)) := ha
  have HN : Hid (I64 n) := hn
  clear h ha hn
  unfold amV
  go_enter Tryz.func40, Tryz.ntmps40
  go_wp2_with fail
  have HE : Hid (PtW (w.alloc (.cells (hc 13 am).toArray 96)) P Mb bkv w.heap.size am L (w.alloc (.cells (hc 13 am).toArray 96))) := ⟨bkv, HB.out.keep (Keep.below (S := fun _ => False) ((Below.refl _ _).alloc (Nat.le_refl _) _)) (fun _ _ h => h), .inl rfl, Keep.refl _ _, At.alloc w _ _⟩
  have HK0 : Hid (Keep (fun _ => False) w (w.alloc (.cells (hc 13 am).toArray 96))) := Keep.below ((Below.refl _ _).alloc (Nat.le_refl _) _)
  have HAl : Hid (w.heap.size < (w.alloc (.cells (hc 13 am).toArray 96)).heap.size) := by show _ < _; simp
  have HPE : Hid (¬ BkS P Mb bkv w.heap.size) := fun hb => by
    have h1 := At.lt HB.out.pl
    have h2 := HB.out.lt
    rcases hb with hb | hb | hb
    · omega
    · omega
    · have := (HB.out.own hb).2; omega
  change Code.wp _ _ _ _ (w.alloc (.cells (hc 13 am).toArray 96))
  generalize w.alloc (.cells (hc 13 am).toArray 96) = V at *
  generalize w.heap.size = A at *
  go_loopw [6] (fun i wr => ∃ q : Nat, q ≤ 12 ∧ i = .int .i64 (q + 1) ∧ PtW V P Mb bkv A am (L ++ kindsW n (fun k => sumOf L n k) am q) wr) (fun i _ => (13 - intOf i).toNat)
  case atStart => exact ⟨0, by omega, rfl, by rw [kindsW, List.append_nil]; exact HE.out⟩
  case round =>
    obtain ⟨q, hq, rfl, hw⟩ := hrel
    by_cases hlt : q < 12
    · have HW : Hid (PtW V P Mb bkv A am (L ++ kindsW n (fun k => sumOf L n k) am q) wr) := hw
      obtain ⟨bkvr, hb, ho, hk, hat⟩ := hw
      have c1 : wr.cell? ⟨P, 1, none⟩ = some (.map (some Mb)) := hb.pl.cell 1 rfl
      have hlk := hb.mp.look n (q + 1) HN.out (by unfold I64; omega)
      have hsm : sumOf (L ++ kindsW n (fun k => sumOf L n k) am q) n (q + 1) = sumOf L n (q + 1) := sumOf_kinds L n _ am q (q + 1) (by omega)
      rw [hsm] at hlk
      have ca : wr.cell? ⟨A, q + 1, none⟩ = some (.int .i64 (am (q + 1))) := hat.cell (q + 1) (hc_at 13 am (q + 1) (by omega))
      have HKW : Hid (L ++ kindsW n (fun k => sumOf L n k) am (q + 1) = (L ++ kindsW n (fun k => sumOf L n k) am q) ++ kindW n (q + 1) (sumOf L n (q + 1)) (am (q + 1))) := by
        show _ = _
        rw [kindsW, List.append_assoc]
        rfl
      have hlen : (L ++ kindsW n (fun k => sumOf L n k) am q).length + 2 ≤ 5000000000000 := by
        have := kindsW_len n (fun k => sumOf L n k) am q
        rw [List.length_append]
        omega
      have hsi := sumOf_i64 L n (q + 1)
      have hai := HA.out (q + 1) (by omega) (by omega)
      have HBr : Hid (BkIs wr P bkvr Mb (L ++ kindsW n (fun k => sumOf L n k) am q)) := hb
      have HOr : Hid (OwnNew V bkv bkvr) := ho
      clear hb ho hk hat hsm
      generalize L ++ kindsW n (fun k => sumOf L n k) am q = M at *
      generalize sumOf L n (q + 1) = is at *
      generalize hav : am (q + 1) = av at *
      have hav : Hid (am (q + 1) = av) := hav
      by_cases heq : is = av
      · have heb : (is == av) = true := by simp [heq]
        go_wp2_with fail
        refine ⟨⟨q + 1, by omega, by simp, ?_⟩, by simp [intOf]; omega⟩
        rw [HKW.out, show kindW n (q + 1) is av = [] by unfold kindW; rw [if_pos heq], List.append_nil]
        exact HW.out
      · have heb : (is == av) = false := by simp [heq]
        have HEQ : Hid (¬ is = av) := heq
        clear heq
        go_wp2_with fail
        refine (write_any wr P bkvr Mb M HBr.out (by omega) n (q + 1) (wrap64 (-is)) HN.out (by unfold I64; omega) (wrap64_i64 _)).mono ?_
        rintro e w1 ⟨rfl, bkv1, hb1, ho1, hk1⟩
        have hw1 := PtW.write HW.out HPE.out HAl.out HOr.out hb1 ho1 hk1
        have HO1 : Hid (OwnNew V bkv bkv1) := HOr.out.comp ho1 (by obtain ⟨_, _, _, hk, _⟩ := HW.out; exact hk.size)
        have HW1 : Hid (PtW V P Mb bkv A am (M ++ if wrap64 (-is) = 0 then [] else [⟨n, q + 1, wrap64 (-is)⟩]) w1) := hw1
        have hlen1 : (M ++ if wrap64 (-is) = 0 then [] else [(⟨n, q + 1, wrap64 (-is)⟩ : En)]).length + 1 ≤ 5000000000000 := by
          rw [List.length_append]
          split
          · simp; omega
          · simp; omega
        have HB1 : Hid (BkIs w1 P bkv1 Mb (M ++ if wrap64 (-is) = 0 then [] else [⟨n, q + 1, wrap64 (-is)⟩])) := hb1
        have ca1 : w1.cell? ⟨A, q + 1, none⟩ = some (.int .i64 av) := by
          obtain ⟨_, _, _, _, hat⟩ := hw1
          rw [← hav.out]
          exact hat.cell (q + 1) (hc_at 13 am (q + 1) (by omega))
        clear hw1 hb1 ho1 hk1
        have HKK : Hid (M ++ kindW n (q + 1) is av = (M ++ if wrap64 (-is) = 0 then [] else [⟨n, q + 1, wrap64 (-is)⟩]) ++ if av = 0 then [] else [⟨n, q + 1, av⟩]) := by
          show _ = _
          unfold kindW
          rw [if_neg HEQ.out, List.append_assoc]
          have hz : wrap64 (-is) = 0 ↔ is = 0 := by
            have := hsi
            unfold I64 at this
            unfold wrap64
            omega
          by_cases h0 : is = 0
          · rw [if_pos h0, if_pos (hz.2 h0)]
            rfl
          · rw [if_neg h0, if_neg (fun h => h0 (hz.1 h))]
            rfl
        generalize (M ++ if wrap64 (-is) = 0 then [] else [(⟨n, q + 1, wrap64 (-is)⟩ : En)]) = M1 at *
        go_wp2_with fail
        refine (write_any w1 P bkv1 Mb M1 HB1.out hlen1 n (q + 1) av HN.out (by unfold I64; omega) hai).mono ?_
        rintro e w2 ⟨rfl, bkv2, hb2, ho2, hk2⟩
        have hw2 := PtW.write HW1.out HPE.out HAl.out HO1.out hb2 ho2 hk2
        clear hb2 ho2 hk2
        have HW2 : Hid (PtW V P Mb bkv A am (M1 ++ if av = 0 then [] else [⟨n, q + 1, av⟩]) w2) := hw2
        clear hw2
        go_wp2_with fail
        refine ⟨⟨q + 1, by omega, by simp, ?_⟩, by simp [intOf]; omega⟩
        rw [HKW.out, HKK.out]
        exact HW2.out
    · obtain rfl : q = 12 := by omega
      go_wp2_with fail
      go_end0
      obtain ⟨bkvr, hb, ho, hk, hat⟩ := hw
      refine ⟨rfl, bkvr, hb, ?_, ?_⟩
      · rcases ho with h | ⟨b, h1, h2⟩
        · exact .inl h
        · exact .inr ⟨b, h1, Nat.le_trans HK0.out.size h2⟩
      · exact (HK0.out.mono (fun _ _ h => h.elim)).trans hk
end Go.Proofs.YtanndhoimpnhpaaGreatDoor
namespace Go.Proofs.YtanndhoimpnhpaaGreatDoor
open Go.RowKit
def EvAt (w : World) (E : Nat) (p : Option Addr) (l : List Ln.Ev) : Prop :=
  ∀ k (hk : k < l.length), ∃ o, p = some ⟨E, o, none⟩ ∧ E < w.heap.size ∧ w.cell? ⟨E, o + k * 4, none⟩ = some (.int .i64 l[k].d) ∧ w.cell? ⟨E, o + k * 4 + 1, none⟩ = some (.int .i64 l[k].k) ∧ w.cell? ⟨E, o + k * 4 + 2, none⟩ = some (.int .i64 l[k].s) ∧ w.cell? ⟨E, o + k * 4 + 3, none⟩ = some (.int .i64 l[k].a)
def EvV (w : World) (E : Nat) (v : Value) (l : List Ln.Ev) : Prop := ∃ p cap, v = .slice p l.length cap ∧ l.length ≤ cap ∧ EvAt w E p l
theorem EvAt.keep {S : Nat → Prop} {w w' : World} {E : Nat} {p : Option Addr} {l : List Ln.Ev} (h : EvAt w E p l) (hk : Keep S w w') (hs : l ≠ [] → ¬ S E) : EvAt w' E p l := by
  intro k hkl
  obtain ⟨o, rfl, hl, c0, c1, c2, c3⟩ := h k hkl
  have hb := hk.block E hl (hs (fun e => by subst e; exact absurd hkl (Nat.not_lt_zero k)))
  exact ⟨o, rfl, Nat.lt_of_lt_of_le hl hk.size, (World.cell?_of_block (w := w) (a := ⟨E, o + k * 4, none⟩) hb).trans c0, (World.cell?_of_block (w := w) (a := ⟨E, o + k * 4 + 1, none⟩) hb).trans c1, (World.cell?_of_block (w := w) (a := ⟨E, o + k * 4 + 2, none⟩) hb).trans c2, (World.cell?_of_block (w := w) (a := ⟨E, o + k * 4 + 3, none⟩) hb).trans c3⟩
theorem EvV.keep {S : Nat → Prop} {w w' : World} {E : Nat} {v : Value} {l : List Ln.Ev} (h : EvV w E v l) (hk : Keep S w w') (hs : l ≠ [] → ¬ S E) : EvV w' E v l := by
  obtain ⟨p, cap, h1, h2, h3⟩ := h
  exact ⟨p, cap, h1, h2, h3.keep hk hs⟩
theorem EvAt.take {w : World} {E : Nat} {p : Option Addr} {l m : List Ln.Ev} (h : EvAt w E p (l ++ m)) : EvAt w E p l := by
  intro k hk
  obtain ⟨o, h1⟩ := h k (by rw [List.length_append]; omega)
  rw [List.getElem_append_left hk] at h1
  exact ⟨o, h1⟩
theorem EvAt.drop {w : World} {E o : Nat} {l m : List Ln.Ev} (h : EvAt w E (some ⟨E, o, none⟩) (l ++ m)) : EvAt w E (some ⟨E, o + l.length * 4, none⟩) m := by
  intro k hk
  obtain ⟨o', h0, h1⟩ := h (l.length + k) (by rw [List.length_append]; omega)
  injection h0 with h0
  injection h0 with e1 e2
  subst e2
  rw [List.getElem_append_right (by omega)] at h1
  simp only [Nat.add_sub_cancel_left] at h1
  have e : o + (l.length + k) * 4 = o + l.length * 4 + k * 4 := by omega
  rw [e] at h1
  exact ⟨o + l.length * 4, rfl, h1⟩
theorem EvV.cut {w : World} {E : Nat} {v : Value} {l m : List Ln.Ev} (h : EvV w E v (l ++ m)) :
    ∃ v1 v2, (∀ W : World, (Instr.sliceAt 42 v none (some (.int .i64 l.length)) none).run Tryz.prog W = .ok v1 W) ∧ EvV w E v1 l ∧ (∀ W : World, (Instr.sliceAt 42 v (some (.int .i64 l.length)) none none).run Tryz.prog W = .ok v2 W) ∧ EvV w E v2 m := by
  obtain ⟨p, cap, rfl, hc, hat⟩ := h
  have hl : (l ++ m).length = l.length + m.length := List.length_append
  rw [hl] at hc
  refine ⟨.slice p l.length cap, .slice (if cap = l.length then p else p.map (·.add (l.length * 4))) m.length (cap - l.length), ?_, ⟨p, cap, rfl, by omega, hat.take⟩, ?_, _, _, rfl, by omega, ?_⟩
  · intro W
    have hp : (if cap = 0 then p else Option.map (fun x => x.add 0) p) = p := by
      split
      · rfl
      · cases p <;> simp [Addr.add]
    simp [Instr.sliceAt, run_underlying Tryz.underlying42, Instr.slice, Instr.sliceBounds, Instr.sliceBound, asIntOf, Result.andThen, show l.length ≤ cap by omega, hp]
  · intro W
    have hx : (0 : Int) ≤ l.length ∧ (l.length : Int) ≤ l.length + m.length := by omega
    simp [Instr.sliceAt, run_underlying Tryz.underlying42, Instr.slice, Instr.sliceBounds, Instr.sliceBound, asIntOf, Result.andThen, hx, hl]
  · by_cases hm : m = []
    · subst hm
      intro k hk
      exact absurd hk (Nat.not_lt_zero k)
    · have hml : 0 < m.length := List.length_pos_iff.2 hm
      rw [if_neg (by omega)]
      obtain ⟨o, rfl, _⟩ := hat 0 (by omega)
      have := hat.drop
      by_cases hz : l.length = 0
      · simpa [Addr.add, hz] using this
      · have h4 : ¬ l.length * 4 = 0 := by omega
        simpa [Addr.add, h4] using this
def cnt (d : Int) : List Ln.Ev → Nat
  | [] => 0
  | e :: r => if e.d = d then cnt d r + 1 else 0
theorem cnt_le (d : Int) : ∀ l : List Ln.Ev, cnt d l ≤ l.length
  | [] => Nat.le_refl _
  | e :: r => by
    have := cnt_le d r
    simp only [cnt, List.length_cons]
    split <;> omega
theorem cnt_lt (d : Int) : ∀ (l : List Ln.Ev) (k : Nat), k < cnt d l → ∃ h : k < l.length, l[k].d = d
  | [], k, h => absurd h (Nat.not_lt_zero k)
  | e :: r, k, h => by
    simp only [cnt] at h
    by_cases he : e.d = d
    · rw [if_pos he] at h
      match k, h with
      | 0, _ => exact ⟨by simp, he⟩
      | k + 1, h =>
        obtain ⟨h1, h2⟩ := cnt_lt d r k (by omega)
        exact ⟨by simp; omega, h2⟩
    · rw [if_neg he] at h
      exact absurd h (Nat.not_lt_zero k)
theorem cnt_end (d : Int) : ∀ (l : List Ln.Ev) (h : cnt d l < l.length), ¬ l[cnt d l].d = d
  | [], h => absurd h (Nat.not_lt_zero _)
  | e :: r, h => by
    by_cases he : e.d = d
    · have e1 : cnt d (e :: r) = cnt d r + 1 := by simp only [cnt]; rw [if_pos he]
      have h2 : cnt d r < r.length := by rw [e1] at h; simpa using h
      have := cnt_end d r h2
      simp only [e1, List.getElem_cons_succ]
      exact this
    · have e1 : cnt d (e :: r) = 0 := by simp only [cnt]; rw [if_neg he]
      simp only [e1, List.getElem_cons_zero]
      exact he
theorem cnt_is (d : Int) (l : List Ln.Ev) (k : Nat) (hk : k ≤ l.length) (h1 : ∀ j (hj : j < l.length), j < k → l[j].d = d) (h2 : ∀ h : k < l.length, ¬ l[k].d = d) : cnt d l = k := by
  have hle := cnt_le d l
  rcases Nat.lt_trichotomy (cnt d l) k with h | h | h
  · exact absurd (h1 _ (by omega) h) (cnt_end d l (by omega))
  · exact h
  · obtain ⟨h3, h4⟩ := cnt_lt d l k h
    exact absurd h4 (h2 h3)
set_option maxHeartbeats 1000000 in
theorem countOfDay_any (w : World) (E : Nat) (v : Value) (l : List Ln.Ev) (h : EvV w E v l) (hl : l.length ≤ 1000000) (d : Int) :
    Calls Tryz.prog 38 #[v, .int .i64 d] w fun e w' => e = .returned (.int .i64 (cnt d l)) ∧ w' = w := by
  obtain ⟨p, cap, rfl, hc, hat⟩ := h
  have HAt : Hid (EvAt w E p l) := hat
  clear hat
  go_enter Tryz.func38, Tryz.ntmps38
  go_wp2
  go_loop [5] (fun i => ∃ k : Nat, k ≤ l.length ∧ i = .int .i64 k ∧ ∀ j (hj : j < l.length), j < k → l[j].d = d) (fun i => (l.length - intOf i).toNat)
  case atStart => exact ⟨0, Nat.zero_le _, rfl, fun j _ h => absurd h (Nat.not_lt_zero j)⟩
  case round =>
    obtain ⟨k, hk, rfl, hlow⟩ := hrel
    have HL : Hid (∀ j (hj : j < l.length), j < k → l[j].d = d) := hlow
    clear hlow
    by_cases hlt : k < l.length
    · obtain ⟨o, rfl, _, c0, _, _, _⟩ := HAt.out k hlt
      have HC : Hid (¬ l[k].d = d → cnt d l = k) := fun hne => cnt_is d l k hk HL.out (fun _ => hne)
      have HD : Hid (l[k].d = d → ∀ j (hj : j < l.length), j < k + 1 → l[j].d = d) := fun he j hj hjk => by
        by_cases e : j = k
        · subst e; exact he
        · exact HL.out j hj (by omega)
      clear HL
      generalize l[k].d = x at *
      by_cases hx : x = d
      · have hxb : (x == d) = true := by simp [hx]
        have HX := HD.out hx
        go_wp2
        exact ⟨⟨k + 1, hlt, rfl, HX⟩, by simp [intOf]; omega⟩
      · have hxb : (x == d) = false := by simp [hx]
        have HX : Hid (cnt d l = k) := HC.out hx
        go_wp2
        go_ret
        exact ⟨by rw [HX.out]; rfl, rfl⟩
    · obtain rfl : k = l.length := by omega
      have HX : Hid (cnt d l = l.length) := cnt_is d l l.length (Nat.le_refl _) HL.out (fun h => absurd h hlt)
      go_wp2
      go_ret
      exact ⟨by rw [HX.out]; rfl, rfl⟩
end Go.Proofs.YtanndhoimpnhpaaGreatDoor
namespace Go.Proofs.YtanndhoimpnhpaaGreatDoor
open Go.ChangeShapes Go.WideShapes Go.RowKit Go.WideMaps Go.Maps Cal
def ll (t : Ln.Terms) (v : Value) (g : Ln.St) (day : Int) (bk : Value) : List Value :=
  [.int .i64 t.st, .int .i64 t.pr, .int .i64 t.rt, .int .i64 t.fi, .int .i64 t.ba, .int .i64 t.du, v, .int .i64 g.pr, .int .i64 g.it, .int .i64 g.du, .int .i64 g.la, .int .i64 g.fi, .int .i64 g.cr, .int .i64 g.rt, .int .i64 day, bk]
theorem keepO {w W W' : World} {B : Nat} {l : List Value} {v : Value} (hb : Below W.heap.size W W') (h : At W B (v :: l) ∧ Below w.heap.size w W) : At W' B (v :: l) ∧ Below w.heap.size w W' :=
  ⟨h.1.keep (S := fun _ => False) (Keep.below hb) (fun x => x), h.2.trans (hb.mono h.2.size)⟩
theorem new_any (w : World) :
    Calls Tryz.prog 55 #[] w fun e w' => (∃ P Mb, e = .returned (.pointer (some ⟨P, 0, none⟩)) ∧ w.heap.size ≤ Mb ∧ BkIs w' P (.slice none 0 0) Mb []) ∧ Below w.heap.size w w' := by
  have hmm := @run_makeMap Tryz.prog
  go_enter Tryz.func55, Tryz.ntmps55
  go_wp2
  go_ret
  have e1 : (w.alloc (.map #[] 0)).heap.size = w.heap.size + 1 := by simp
  have b1 : Below w.heap.size w (w.alloc (.map #[] 0)) := (Below.refl _ _).alloc (Nat.le_refl _) _
  have m1 : MapIs (w.alloc (.map #[] 0)) w.heap.size 0 (fun _ _ => 0) := MapIs.made w
  have a2 : At ((w.alloc (.map #[] 0)).alloc (.cells #[.slice none 0 0, .map (some w.heap.size)] 148)) (w.alloc (.map #[] 0)).heap.size [.slice none 0 0, .map (some w.heap.size)] := At.alloc _ _ _
  have b2 : Below (w.alloc (.map #[] 0)).heap.size (w.alloc (.map #[] 0)) ((w.alloc (.map #[] 0)).alloc (.cells #[.slice none 0 0, .map (some w.heap.size)] 148)) := (Below.refl _ _).alloc (Nat.le_refl _) _
  rw [e1] at a2
  refine ⟨⟨w.heap.size + 1, w.heap.size, rfl, Nat.le_refl _, a2, ⟨rfl, .inl ⟨rfl, rfl⟩⟩, m1.block (b2.block _ (by omega)), Nat.lt_succ_self _⟩, b1.trans (b2.mono (by omega))⟩
theorem open_bad (t : Ln.Terms) (w : World) (h : rtB t = false) :
    Calls Tryz.prog 23 #[tmV t] w fun e w' => e = .returned (.tuple #[.pointer none, .int .i64 3]) ∧ Below w.heap.size w w' := by
  have hR := fun W => right_any t W
  rw [h] at hR
  unfold tmV at *
  have b0 : Below w.heap.size w (w.alloc (.cells (tml t).toArray 23)) := (Below.refl _ _).alloc (Nat.le_refl _) _
  go_enter Tryz.func23, Tryz.ntmps23
  go_wp2_with fail
  refine (hR _).mono ?_
  rintro e w1 ⟨rfl, hb1⟩
  have b1 := b0.trans (hb1.mono b0.size)
  clear hR hb1 b0
  go_wp2
  go_ret2
  exact ⟨rfl, b1⟩
set_option maxRecDepth 10000 in
set_option maxHeartbeats 2000000 in
theorem open_good (t : Ln.Terms) (w : World) (h : rtB t = true) :
    Calls Tryz.prog 23 #[tmV t] w fun e w' => (∃ B P Mb, e = .returned (.tuple #[.pointer (some ⟨B, 0, none⟩), .int .i64 0]) ∧ w.heap.size ≤ B ∧ w.heap.size ≤ Mb ∧ P < B ∧ At w' B (ll t (.slice none 0 0) (Ln.start t) t.st (.pointer (some ⟨P, 0, none⟩))) ∧ BkIs w' P (.slice none 0 0) Mb []) ∧ Below w.heap.size w w' := by
  have hR := fun W => right_any t W
  rw [h] at hR
  have hF := fun W => first_any t W
  have hB := fun W => balance_any t (Ln.start t) 0 0 0 t.st W (Int.le_refl _) (by show (0 : Int) ≤ _; decide)
  have a0 : At (w.alloc (.cells (tml t).toArray 23)) w.heap.size (tml t) := At.alloc w (tml t) _
  have b0 : Below w.heap.size w (w.alloc (.cells (tml t).toArray 23)) := (Below.refl _ _).alloc (Nat.le_refl _) _
  unfold tmV at *
  go_enter Tryz.func23, Tryz.ntmps23
  go_wp2_with fail
  refine (hR _).mono ?_
  rintro e w1 ⟨rfl, hb1⟩
  obtain ⟨a1, b1⟩ := keepO (v := .int .i64 t.st) hb1 ⟨a0, b0⟩
  clear hR hb1 b0 a0
  go_wp2_with fail
  refine wp_region_held_drew (S := fun wx => At wx w.heap.size (tml t) ∧ Below w.heap.size w wx) (by kernel_rfl) ⟨a1.drew, b1.drew⟩ (fun hHeld => ?_)
  refine wpAnyH_take (i := 0) (v := (.agg (tml t).toArray)) rfl (by kernel_rfl) (by kernel_rfl) (by kernel_rfl) (fun _ _ _ h => h) (yieldsIf_load_mid (by rfl) 23 (.tmp 1) rfl _ _ rfl _ _ (fun _ h => h.1.range) Tryz.underlying23 rfl (by kernel_rfl)) (by assumption) ?_
  simp only [Act.put, List.getElem_toArray, List.getElem_cons_zero, List.setIfInBounds_toArray, List.set_cons_zero, List.set_cons_succ]
  refine wpAnyH_take (i := 1) (v := (.agg (tml t).toArray)) rfl (by kernel_rfl) (by kernel_rfl) (by kernel_rfl) (fun _ _ _ h => h) (yieldsIf_load_mid (by rfl) 23 (.tmp 1) rfl _ _ rfl _ _ (fun _ h => h.1.range) Tryz.underlying23 rfl (by kernel_rfl)) (by assumption) ?_
  simp only [Act.put, List.getElem_toArray, List.getElem_cons_succ, List.getElem_cons_zero, List.setIfInBounds_toArray, List.set_cons_zero, List.set_cons_succ]
  refine wpAnyH_take (i := 3) (v := (.pointer (some ⟨w.heap.size, 0, none⟩))) rfl (by kernel_rfl) (by kernel_rfl) (by kernel_rfl) (fun _ _ _ h => h) (Or.inl ⟨by rfl, fun wx hSw => by (dsimp only at hSw; go_simp)⟩) (by assumption) ?_
  simp only [Act.put, List.getElem_toArray, List.getElem_cons_succ, List.getElem_cons_zero, List.setIfInBounds_toArray, List.set_cons_zero, List.set_cons_succ]
  refine wpAnyH_take (i := 4) (v := (.int .i64 t.st)) rfl (by kernel_rfl) (by kernel_rfl) (by kernel_rfl) (fun _ _ _ h => h) (Or.inl ⟨by rfl, fun wx hSw => by (have hc : wx.cell? ⟨w.heap.size, 0, none⟩ = some (.int .i64 t.st) := hSw.1.cell 0 rfl; go_simp)⟩) (by assumption) ?_
  simp only [Act.put, List.getElem_toArray, List.getElem_cons_succ, List.getElem_cons_zero, List.setIfInBounds_toArray, List.set_cons_zero, List.set_cons_succ]
  clear a1 b1
  refine wpAnyH_ready (rs := [2]) (by kernel_rfl) (by simp) ?_
  refine AllReadyH.cons rfl (fun K hK => ?_) AllReadyH.nil
  go_simp
  refine (hF _).mono ?_
  rintro e w2 ⟨rfl, hb2⟩
  go_wp2_with fail
  refine hK.out _ _ (keepO (v := .int .i64 t.st) hb2 hHeld) (fun hHeld' => ?_)
  clear hK K hHeld hb2
  refine wpAnyH_ready (rs := [5]) (by kernel_rfl) (by simp) ?_
  refine AllReadyH.cons rfl (fun K hK => ?_) AllReadyH.nil
  go_simp
  refine (hB _).mono ?_
  rintro e w3 ⟨rfl, hb3⟩
  go_wp2_with fail
  refine hK.out _ _ (keepO (v := .int .i64 t.st) hb3 hHeld') (fun hHeld'' => ?_)
  clear hK K hHeld' hb3
  refine wpAnyH_ready (rs := [6]) (by kernel_rfl) (by simp) ?_
  refine AllReadyH.cons rfl (fun K hK => ?_) AllReadyH.nil
  have hsz := hHeld''.2.size
  go_simp
  refine (new_any _).mono ?_
  rintro e w5 ⟨⟨P, Mb, rfl, hMw, hbk⟩, hb4⟩
  go_wp2_with fail
  refine hK.out _ _ (keepO (v := .int .i64 t.st) hb4 hHeld'') (fun hHeld''' => ?_)
  clear hK K hHeld'' hb4
  have hMw : w.heap.size ≤ Mb := Nat.le_trans hsz hMw
  refine wpAnyH_take (i := 7) (v := (.agg (ll t (.slice none 0 0) (Ln.start t) t.st (.pointer (some ⟨P, 0, none⟩))).toArray)) rfl (by kernel_rfl) (by kernel_rfl) (by kernel_rfl) (fun _ _ _ h => h) (Or.inl ⟨by rfl, fun wx hSw => by kernel_rfl⟩) (by assumption) ?_
  simp only [Act.put, List.getElem_toArray, List.getElem_cons_succ, List.getElem_cons_zero, List.setIfInBounds_toArray, List.set_cons_zero, List.set_cons_succ]
  refine wpAnyH_ready (rs := [8]) (by kernel_rfl) (by simp) ?_
  refine AllReadyH.cons rfl (fun K hK => ?_) AllReadyH.nil
  have a4 : At (w5.alloc (.cells (ll t (.slice none 0 0) (Ln.start t) t.st (.pointer (some ⟨P, 0, none⟩))).toArray 84)) w5.heap.size (ll t (.slice none 0 0) (Ln.start t) t.st (.pointer (some ⟨P, 0, none⟩))) := At.alloc w5 _ _
  have b4 := hHeld'''.2.size
  have hbk4 := hbk.keep (S := fun _ => False) (Keep.below (S := fun _ => False) ((Below.refl _ _).alloc (Nat.le_refl _) (.cells (ll t (.slice none 0 0) (Ln.start t) t.st (.pointer (some ⟨P, 0, none⟩))).toArray 84))) (fun _ _ h => h)
  have hPB : P < w5.heap.size := At.lt hbk.pl
  rw [if_pos (by rfl)]
  refine wp_valD (.pointer (some ⟨w5.heap.size, 0, none⟩)) (w5.alloc (.cells (ll t (.slice none 0 0) (Ln.start t) t.st (.pointer (some ⟨P, 0, none⟩))).toArray 84)) (by kernel_rfl) ?_
  refine hK.out _ _ (keepO (v := .int .i64 t.st) ((Below.refl _ _).alloc (Nat.le_refl _) _) hHeld''') (fun hHeld4 => ?_)
  clear hK K hHeld''' hbk
  generalize w5.alloc (.cells (ll t (.slice none 0 0) (Ln.start t) t.st (.pointer (some ⟨P, 0, none⟩))).toArray 84) = w4 at *
  generalize w5.heap.size = B at *
  simp only [Act.put, List.getElem_toArray, List.getElem_cons_succ, List.getElem_cons_zero, List.setIfInBounds_toArray, List.set_cons_zero, List.set_cons_succ]
  refine wpAnyH_take (i := 9) (v := (.pointer (some ⟨B, 0, none⟩))) rfl (by kernel_rfl) (by kernel_rfl) (by kernel_rfl) (fun _ _ _ h => h) (Or.inl ⟨by rfl, fun wx hSw => by (dsimp only at hSw; go_simp)⟩) (by assumption) ?_
  simp only [Act.put, List.getElem_toArray, List.getElem_cons_succ, List.getElem_cons_zero, List.setIfInBounds_toArray, List.set_cons_zero, List.set_cons_succ]
  refine wpAnyH_take (i := 10) (v := (.int .i64 0)) rfl (by kernel_rfl) (by kernel_rfl) (by kernel_rfl) (fun _ _ _ h => h) (Or.inl ⟨by rfl, fun wx hSw => by (dsimp only at hSw; go_simp)⟩) (by assumption) ?_
  simp only [Act.put, List.getElem_toArray, List.getElem_cons_succ, List.getElem_cons_zero, List.setIfInBounds_toArray, List.set_cons_zero, List.set_cons_succ]
  refine wpAnyH_done (by kernel_rfl) ?_ _
  have b5 := hHeld4.2
  clear hHeld4
  go_wp2
  go_ret2
  exact ⟨⟨B, P, Mb, rfl, b4, hMw, hPB, a4, hbk4⟩, b5⟩
end Go.Proofs.YtanndhoimpnhpaaGreatDoor
namespace Go.Proofs.YtanndhoimpnhpaaGreatDoor
open Go.RowKit Cal
theorem pass_any (w : World) (t : Ln.Terms) (n : Int) (g : Ln.St) (c i f : Int) (l : List Ln.Ev) (p : Option Addr) (cap : Nat)
    (hev : ∀ k (hk : k < l.length), ∃ E o, p = some ⟨E, o, none⟩ ∧ E < w.heap.size ∧ w.cell? ⟨E, o + k * 4, none⟩ = some (.int .i64 l[k].d) ∧ w.cell? ⟨E, o + k * 4 + 1, none⟩ = some (.int .i64 l[k].k) ∧ w.cell? ⟨E, o + k * 4 + 2, none⟩ = some (.int .i64 l[k].s) ∧ w.cell? ⟨E, o + k * 4 + 3, none⟩ = some (.int .i64 l[k].a))
    (hll : l.length ≤ 1000000) (hm : Mv w) (hg : 1 < w.heap.size) (n0 : 0 ≤ n) (n1 : n ≤ 109572) (L : Int) (s : Nat) (hI : Ln.Inv t L s g) (ht : Ln.OkT t) (hl : ∀ e ∈ l, Ln.OkE t e) (hn : ∀ e ∈ l, e.d = n)
    (wt : Nat) (hwt : wtOf t.ba n = wt) (hw3 : wt ≤ 3) (hs : s + wt ≤ 4320) (hL : L + (if n = t.st then t.pr else 0) + Ln.lents n l ≤ 4100000000000) (hfn : (Ln.day t n (cdOf n) wt l g).g.fn / Ln.den t ≤ 8000000000000000000) :
    Calls Tryz.prog 39 #[stV t g c i f, tmV t, .int .i64 n, .slice p l.length cap] w fun e w' => (∃ c' i' f', e = .returned (.tuple #[stV t (Ln.day t n (cdOf n) wt l g).g c' i' f', amV (Ln.day t n (cdOf n) wt l g).am])) ∧ Below w.heap.size w w' := by
  have hd := Ln.den_bd t
  have hlen := Ln.lents_nn n l hl
  have hpr := ht.pr0
  have hL0 := hI.L0
  have hif : 0 ≤ (if n = t.st then t.pr else 0) := by split <;> omega
  have I0 := hI.early n (cdOf n) ht
  have A0 := Ln.Am.early (n := n) hI (by omega) (by omega) ht (cdOf n)
  have If := Ln.Inv.events n l I0 hl
  have fe := Ln.events_fn n l (Ln.early t n (cdOf n) g)
  rw [Ln.early_fn] at fe
  have hfn' : ((l.foldl (Ln.event n) (Ln.early t n (cdOf n) g)).g.fn + (l.foldl (Ln.event n) (Ln.early t n (cdOf n) g)).g.la * (t.fi * wt)) / Ln.den t ≤ 8000000000000000000 := hfn
  have hw0 : (0 : Int) ≤ wt := by omega
  have m2 : 0 ≤ (l.foldl (Ln.event n) (Ln.early t n (cdOf n) g)).g.la * (t.fi * wt) := Int.mul_nonneg If.la (Int.mul_nonneg ht.fi0 hw0)
  have hg0 : g.fn / Ln.den t ≤ 8000000000000000000 := Int.le_trans (Int.ediv_le_ediv (by omega) (by omega)) hfn'
  have Af := Ln.Am.events n l A0 I0 (by omega) (by rw [Ln.early_fn]; exact hg0) hL hl
  refine pass_core w t n g c i f l p cap (Ln.early t n (cdOf n) g) _ hev hll ?_ ?_ ?_
  · intro W P kW hP hp
    exact pbegin_any W P t n g n0 (by omega) hp (hm.keep kW (fun x => x)) (by omega) L s hI (by omega) (by omega) hg0 ht
  · intro W P k hk kW hP hp
    have hlk : ∀ e ∈ l.take k, Ln.OkE t e := fun e he => hl e (List.mem_of_mem_take he)
    have hmem : l[k] ∈ l := List.getElem_mem hk
    have e1 : Ln.lents n l = Ln.lents n (l.take k) + (Ln.lent n l[k] + Ln.lents n (l.drop (k + 1))) := by
      have : l = l.take k ++ (l[k] :: l.drop (k + 1)) := by rw [List.getElem_cons_drop, List.take_append_drop]
      conv => lhs; rw [this]
      rw [Ln.lents_append]
      rfl
    have e2 : Ln.lent n l[k] = l[k].a := by
      unfold Ln.lent
      rw [if_pos (hn _ hmem)]
    have e3 := Ln.lents_nn n (l.drop (k + 1)) (fun e he => hl e (List.mem_of_mem_drop he))
    have e4 := (hl _ hmem).a0
    have Ik := Ln.Inv.events n (l.take k) I0 hlk
    have fk := Ln.events_fn n (l.take k) (Ln.early t n (cdOf n) g)
    rw [Ln.early_fn] at fk
    have Ak := Ln.Am.events n (l.take k) A0 I0 (by omega) (by rw [Ln.early_fn]; exact hg0) (by omega) hlk
    rw [foldl_take n _ l k hk]
    exact happen_any W P t n _ hp (hm.keep kW (by omega)) (by omega) n0 (by omega) _ s l[k] Ik (by omega) (by omega) (by rw [fk]; exact hg0) Ak (hl _ hmem) (hn _ hmem)
  · intro W P kW hP hp
    exact pend_any W P t n _ hp (hm.keep kW (by omega)) (by omega) n0 n1 _ s If wt hwt hw3 hs hL hfn' ht Af
end Go.Proofs.YtanndhoimpnhpaaGreatDoor
