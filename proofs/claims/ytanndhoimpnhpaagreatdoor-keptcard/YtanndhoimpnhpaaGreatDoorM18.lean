import Derived.Test.YtanndhoimpnhpaaGreatDoorM17
import Derived.Test.YtanndhoimpnhpaaGreatDoorM14
namespace Go.Proofs.YtanndhoimpnhpaaGreatDoor
open Go.RowKit Cal
def GoodE (t : Ln.Terms) (e : Ln.Ev) : Prop := evF t e = 0 ∧ e.d < t.st + 900 ∧ (Lit.int .i64 e.s).wf = true
theorem goodE {t : Ln.Terms} {d k s a : Int} (h1 : t.st ≤ d) (h2 : d < t.st + 900) (k1 : 1 ≤ k) (k5 : k ≤ 5) (hf : fitsB k a = true) (hs : (Lit.int .i64 s).wf = true) : GoodE t ⟨d, k, s, a⟩ := by
  refine ⟨?_, h2, hs⟩
  unfold evF
  rw [if_neg (by show ¬ (k < 1 ∨ 5 < k); omega), if_neg (by show ¬ (d < t.st ∨ t.st + 3700 < d); omega), if_neg (by show ¬ fitsB k a = false; rw [hf]; decide)]
structure EvOut (w : World) (t : Ln.Terms) (v : Value) (O : List Ln.Ev) (wx : World) : Prop where
  ow : wx.ownsRow (w.heap.size + 1) 50 4 v O.length (evs O)
  tm : At wx w.heap.size (tml t)
  bl : Below w.heap.size w wx
  le : O.length ≤ 40
  ok : ∀ e ∈ O, GoodE t e
  ds : O.Pairwise (fun a b => ¬ a.s = b.s)
theorem EvOut.keep {S : Nat → Prop} {w wx wy : World} {t : Ln.Terms} {v : Value} {O : List Ln.Ev} (h : EvOut w t v O wx) (hk : Keep S wx wy) (h1 : ∀ b, b < wx.heap.size → ¬ S b) : EvOut w t v O wy :=
  ⟨own_keep h.ow hk (fun b hb => h1 b (own_base h.ow hb).2), At.keep (v := .int .i64 t.st) h.tm hk (h1 _ (At.lt (v := .int .i64 t.st) h.tm)), ⟨hk.os.trans h.bl.os, hk.tape.trans h.bl.tape, hk.output.trans h.bl.output, Nat.le_trans h.bl.size hk.size, fun b hb => (hk.block b (Nat.lt_of_lt_of_le hb h.bl.size) (h1 b (Nat.lt_of_lt_of_le hb h.bl.size))).trans (h.bl.block b hb)⟩, h.le, h.ok, h.ds⟩
theorem EvOut.drew {w wx : World} {t : Ln.Terms} {v : Value} {O : List Ln.Ev} (h : EvOut w t v O wx) : EvOut w t v O wx.drew :=
  h.keep (S := fun _ => False) (Keep.refl _ _).drew (fun _ _ x => x)
structure EvGo (w : World) (t : Ln.Terms) (v : Value) (O : List Ln.Ev) (N : Nat) (e : Ln.Ev) (wx : World) : Prop where
  out : EvOut w t v O wx
  at_ : At wx N (evl e)
  ap : ∀ b, v.ownBlock = some b → ¬ b = N
  gt : w.heap.size < N
theorem EvGo.drew {w wx : World} {t : Ln.Terms} {v : Value} {O : List Ln.Ev} {N : Nat} {e : Ln.Ev} (h : EvGo w t v O N e wx) : EvGo w t v O N e wx.drew := ⟨h.out.drew, h.at_.drew, h.ap, h.gt⟩
theorem EvGo.set {w wx : World} {t : Ln.Terms} {v : Value} {O : List Ln.Ev} {N : Nat} {d k s a0 : Int} (h : EvGo w t v O N ⟨d, k, s, a0⟩ wx) (a : Int) : EvGo w t v O N ⟨d, k, s, a⟩ (wx.setCell ⟨N, 3, none⟩ (.int .i64 a)) := by
  have kk : Keep (fun b => b = N) wx (wx.setCell ⟨N, 3, none⟩ (.int .i64 a)) := (Keep.refl _ _).set (S := fun b => b = N) rfl 3 _
  have hgt := h.gt
  refine ⟨⟨own_keep h.out.ow kk (fun b hb => h.ap b hb), At.keep (v := .int .i64 t.st) h.out.tm kk (by omega), ?_, h.out.le, h.out.ok, h.out.ds⟩, h.at_.set 3 (show 3 < 4 by decide) _, h.ap, h.gt⟩
  exact ⟨kk.os.trans h.out.bl.os, kk.tape.trans h.out.bl.tape, kk.output.trans h.out.bl.output, Nat.le_trans h.out.bl.size kk.size, fun b hb => (kk.block b (Nat.lt_of_lt_of_le hb h.out.bl.size) (by omega)).trans (h.out.bl.block b hb)⟩
theorem EvGo.made {w V : World} {t : Ln.Terms} {v : Value} {O : List Ln.Ev} (h : EvOut w t v O V) (e : Ln.Ev) : EvGo w t v O V.heap.size e ((V.alloc (.cells (evl ⟨0, 0, 0, 0⟩).toArray 50)).setCells V.heap.size 0 (evl e)) := by
  have k1 : Keep (fun b => b = V.heap.size) V (V.alloc (.cells (evl ⟨0, 0, 0, 0⟩).toArray 50)) := Keep.below ((Below.refl _ _).alloc (Nat.le_refl _) _)
  have k2 : Keep (fun b => b = V.heap.size) V ((V.alloc (.cells (evl ⟨0, 0, 0, 0⟩).toArray 50)).setCells V.heap.size 0 (evl e)) := Keep.setCells (S := fun b => b = V.heap.size) rfl _ _ _ k1
  have a1 : At (V.alloc (.cells (evl ⟨0, 0, 0, 0⟩).toArray 50)) V.heap.size (evl ⟨0, 0, 0, 0⟩) := At.alloc V _ _
  have hl := At.lt (v := .int .i64 t.st) h.tm
  exact ⟨h.keep k2 (fun b hb => by omega), At.setCells_same a1 rfl, fun b hb => by have := (own_base h.ow hb).2; omega, hl⟩
def EvsPost (w : World) (t : Ln.Terms) (e : Ending) (w' : World) : Prop := ∃ vv O, e = .returned vv ∧ EvOut w t vv O w'
set_option maxRecDepth 10000 in
set_option maxHeartbeats 8000000 in
theorem events_any (w : World) (t : Ln.Terms) (ht : Ln.OkT t) (v : Value) (Eb : Nat) (rs : List Ln.Ev) (h : EvV w Eb v rs) (hrl : rs.length ≤ 9223372036854775807) (hwf : ∀ r ∈ rs, (Lit.int .i64 r.d).wf = true ∧ (Lit.int .i64 r.k).wf = true ∧ (Lit.int .i64 r.s).wf = true ∧ (Lit.int .i64 r.a).wf = true) :
    Calls Tryz.prog 14 #[tmV t, v] w (EvsPost w t) := by
  obtain ⟨i0, hi0, hz0, hz1, hz2⟩ := info_parts infoEvp
  obtain ⟨p, cap, rfl, hcap, hat⟩ := h
  have HAt : Hid (EvAt w Eb p rs) := hat
  have HW : Hid (∀ r ∈ rs, (Lit.int .i64 r.d).wf = true ∧ (Lit.int .i64 r.k).wf = true ∧ (Lit.int .i64 r.s).wf = true ∧ (Lit.int .i64 r.a).wf = true) := hwf
  have s0 := ht.st0
  have s1 := ht.st1
  have HI : Hid (Tryz.prog.info? 50 = some i0 ∧ i0.zero = some (.agg #[.int .i64 0, .int .i64 0, .int .i64 0, .int .i64 0]) ∧ i0.size = 4 ∧ i0.bytes = 32) := ⟨hi0, hz0, hz1, hz2⟩
  have HV0 : Hid (EvOut w t (.slice none 0 0) [] (w.alloc (.cells (tml t).toArray 23))) := ⟨World.ownsRow_nil _ _ _ _, At.alloc w (tml t) _, (Below.refl _ _).alloc (Nat.le_refl _) _, by simp, fun e he => by simp at he, List.Pairwise.nil⟩
  clear hat hwf hi0 hz0 hz1 hz2
  unfold tmV
  go_enter Tryz.func14, Tryz.ntmps14
  go_upto_region 1 with fail
  change Code.wp _ _ _ _ (w.alloc (.cells (tml t).toArray 23))
  generalize w.alloc (.cells (tml t).toArray 23) = V at *
  go_wp2
  go_loopw [5, 6, 7, 8, 9] (fun s5 s6 _ _ _ wr => ∃ (k : Nat) (O : List Ln.Ev), k ≤ rs.length ∧ s6 = .int .i64 k ∧ EvOut w t s5 O wr) (fun _ s6 _ _ _ _ => (rs.length - intOf s6).toNat)
  case atStart => exact ⟨0, [], Nat.zero_le _, rfl, HV0.out⟩
  case round =>
    obtain ⟨k, O, hk, rfl, hO⟩ := hrel
    obtain ⟨op, ocap, rfl⟩ := own_slice hO.ow
    have HO : Hid (EvOut w t (.slice op O.length ocap) O wr) := hO
    have hO40 := hO.le
    clear hO
    by_cases hlt : k < rs.length ∧ O.length < 40
    · obtain ⟨hkl, hol⟩ := hlt
      obtain ⟨o, rfl, hEl, hr⟩ := HAt.out.range k hkl
      have HR : Hid (∀ wx, Below w.heap.size w wx → wx.rangeAt Eb (o + k * 4) (evl rs[k])) := fun wx hx j u hu => (World.cell?_of_block (w := w) (a := ⟨Eb, o + k * 4 + j, none⟩) (hx.block Eb hEl)).trans (hr j u hu)
      obtain ⟨w1, w2, w3, w4⟩ := HW.out rs[k] (List.getElem_mem hkl)
      clear hr
      generalize rs[k] = r at *
      obtain ⟨rd, rk, rsq, ra⟩ := r
      have z1 : (k : Int) < (rs.length : Int) := by omega
      have z2 : (O.length : Int) < 40 := by omega
      obtain ⟨x0, xa0, xb0, hx0⟩ := pick_all rd 900 w1 (by decide) (by decide)
      obtain ⟨x1, xa1, xb1, hx1⟩ := pick_all rk 5 w2 (by decide) (by decide)
      go_upto_region 5 with fail
      go_cut [7] from 21 to 42 (fun e7 wx => ∃ N, e7 = .pointer (some ⟨N, 0, none⟩) ∧ EvGo w t (.slice op O.length ocap) O N ⟨t.st + x0, 1 + x1, rsq, 0⟩ wx)
      case first =>
        have e0 : IntKind.i64.wrap (t.st + x0) = t.st + x0 := by rw [IntKind.wrap_i64]; omega
        have e1 : IntKind.i64.wrap (1 + x1) = 1 + x1 := by rw [IntKind.wrap_i64]; omega
        refine wp_region_held_drew (S := fun wx => EvOut w t (.slice op O.length ocap) O wx) (by kernel_rfl) HO.out.drew (fun hHeld => ?_)
        clear HO
        generalize wr.drew = V1 at *
        refine wpAnyH_take (i := 0) (v := (.pointer (some ⟨w.heap.size, 0, none⟩))) rfl (by kernel_rfl) (by kernel_rfl) (by kernel_rfl) (fun _ _ _ h => h) (Or.inl ⟨by rfl, fun wx hSw => by ((try dsimp only at hSw); go_simp)⟩) (by assumption) ?_
        simp only [Act.put, List.getElem_toArray, List.getElem_cons_zero, List.setIfInBounds_toArray, List.set_cons_zero, List.set_cons_succ]
        refine wpAnyH_take (i := 1) (v := (.int .i64 t.st)) rfl (by kernel_rfl) (by kernel_rfl) (by kernel_rfl) (fun _ _ _ h => h) (Or.inl ⟨by rfl, fun wx hSw => by (have hc : wx.cell? ⟨w.heap.size, 0, none⟩ = some (.int .i64 t.st) := hSw.tm.cell 0 rfl; go_simp)⟩) (by assumption) ?_
        simp only [Act.put, List.getElem_toArray, List.getElem_cons_succ, List.getElem_cons_zero, List.setIfInBounds_toArray, List.set_cons_zero, List.set_cons_succ]
        refine wpAnyH_take (i := 2) (v := (.slice (some ⟨Eb, o, none⟩) rs.length cap)) rfl (by kernel_rfl) (by kernel_rfl) (by kernel_rfl) (fun _ _ _ h => h) (Or.inl ⟨by rfl, fun wx hSw => by kernel_rfl⟩) (by assumption) ?_
        simp only [Act.put, List.getElem_toArray, List.getElem_cons_succ, List.getElem_cons_zero, List.setIfInBounds_toArray, List.set_cons_zero, List.set_cons_succ]
        refine wpAnyH_take (i := 3) (v := (.int .i64 k)) rfl (by kernel_rfl) (by kernel_rfl) (by kernel_rfl) (fun _ _ _ h => h) (Or.inl ⟨by rfl, fun wx hSw => by kernel_rfl⟩) (by assumption) ?_
        simp only [Act.put, List.getElem_toArray, List.getElem_cons_succ, List.getElem_cons_zero, List.setIfInBounds_toArray, List.set_cons_zero, List.set_cons_succ]
        refine wpAnyH_take (i := 4) (v := (.pointer (some ⟨Eb, o + k * 4, none⟩))) rfl (by kernel_rfl) (by kernel_rfl) (by kernel_rfl) (fun _ _ _ h => h) (Or.inl ⟨by rfl, fun wx hSw => by ((try dsimp only at hSw); go_simp)⟩) (by assumption) ?_
        simp only [Act.put, List.getElem_toArray, List.getElem_cons_succ, List.getElem_cons_zero, List.setIfInBounds_toArray, List.set_cons_zero, List.set_cons_succ]
        refine wpAnyH_take (i := 5) (v := (.pointer (some ⟨Eb, o + k * 4, none⟩))) rfl (by kernel_rfl) (by kernel_rfl) (by kernel_rfl) (fun _ _ _ h => h) (Or.inl ⟨by rfl, fun wx hSw => by ((try dsimp only at hSw); go_simp)⟩) (by assumption) ?_
        simp only [Act.put, List.getElem_toArray, List.getElem_cons_succ, List.getElem_cons_zero, List.setIfInBounds_toArray, List.set_cons_zero, List.set_cons_succ]
        refine wpAnyH_take (i := 6) (v := (.int .i64 rd)) rfl (by kernel_rfl) (by kernel_rfl) (by kernel_rfl) (fun _ _ _ h => h) (Or.inl ⟨by rfl, fun wx hSw => by (have hc : wx.cell? ⟨Eb, o + k * 4, none⟩ = some (.int .i64 rd) := HR.out wx hSw.bl 0 _ rfl; go_simp)⟩) (by assumption) ?_
        simp only [Act.put, List.getElem_toArray, List.getElem_cons_succ, List.getElem_cons_zero, List.setIfInBounds_toArray, List.set_cons_zero, List.set_cons_succ]
        refine wpAnyH_take (i := 9) (v := (.slice (some ⟨Eb, o, none⟩) rs.length cap)) rfl (by kernel_rfl) (by kernel_rfl) (by kernel_rfl) (fun _ _ _ h => h) (Or.inl ⟨by rfl, fun wx hSw => by kernel_rfl⟩) (by assumption) ?_
        simp only [Act.put, List.getElem_toArray, List.getElem_cons_succ, List.getElem_cons_zero, List.setIfInBounds_toArray, List.set_cons_zero, List.set_cons_succ]
        refine wpAnyH_take (i := 10) (v := (.int .i64 k)) rfl (by kernel_rfl) (by kernel_rfl) (by kernel_rfl) (fun _ _ _ h => h) (Or.inl ⟨by rfl, fun wx hSw => by kernel_rfl⟩) (by assumption) ?_
        simp only [Act.put, List.getElem_toArray, List.getElem_cons_succ, List.getElem_cons_zero, List.setIfInBounds_toArray, List.set_cons_zero, List.set_cons_succ]
        refine wpAnyH_take (i := 11) (v := (.pointer (some ⟨Eb, o + k * 4, none⟩))) rfl (by kernel_rfl) (by kernel_rfl) (by kernel_rfl) (fun _ _ _ h => h) (Or.inl ⟨by rfl, fun wx hSw => by ((try dsimp only at hSw); go_simp)⟩) (by assumption) ?_
        simp only [Act.put, List.getElem_toArray, List.getElem_cons_succ, List.getElem_cons_zero, List.setIfInBounds_toArray, List.set_cons_zero, List.set_cons_succ]
        refine wpAnyH_take (i := 12) (v := (.pointer (some ⟨Eb, o + k * 4 + 1, none⟩))) rfl (by kernel_rfl) (by kernel_rfl) (by kernel_rfl) (fun _ _ _ h => h) (Or.inl ⟨by rfl, fun wx hSw => by ((try dsimp only at hSw); go_simp)⟩) (by assumption) ?_
        simp only [Act.put, List.getElem_toArray, List.getElem_cons_succ, List.getElem_cons_zero, List.setIfInBounds_toArray, List.set_cons_zero, List.set_cons_succ]
        refine wpAnyH_take (i := 13) (v := (.int .i64 rk)) rfl (by kernel_rfl) (by kernel_rfl) (by kernel_rfl) (fun _ _ _ h => h) (Or.inl ⟨by rfl, fun wx hSw => by (have hc : wx.cell? ⟨Eb, o + k * 4 + 1, none⟩ = some (.int .i64 rk) := HR.out wx hSw.bl 1 _ rfl; go_simp)⟩) (by assumption) ?_
        simp only [Act.put, List.getElem_toArray, List.getElem_cons_succ, List.getElem_cons_zero, List.setIfInBounds_toArray, List.set_cons_zero, List.set_cons_succ]
        refine wpAnyH_take (i := 16) (v := (.slice (some ⟨Eb, o, none⟩) rs.length cap)) rfl (by kernel_rfl) (by kernel_rfl) (by kernel_rfl) (fun _ _ _ h => h) (Or.inl ⟨by rfl, fun wx hSw => by kernel_rfl⟩) (by assumption) ?_
        simp only [Act.put, List.getElem_toArray, List.getElem_cons_succ, List.getElem_cons_zero, List.setIfInBounds_toArray, List.set_cons_zero, List.set_cons_succ]
        refine wpAnyH_take (i := 17) (v := (.int .i64 k)) rfl (by kernel_rfl) (by kernel_rfl) (by kernel_rfl) (fun _ _ _ h => h) (Or.inl ⟨by rfl, fun wx hSw => by kernel_rfl⟩) (by assumption) ?_
        simp only [Act.put, List.getElem_toArray, List.getElem_cons_succ, List.getElem_cons_zero, List.setIfInBounds_toArray, List.set_cons_zero, List.set_cons_succ]
        refine wpAnyH_take (i := 18) (v := (.pointer (some ⟨Eb, o + k * 4, none⟩))) rfl (by kernel_rfl) (by kernel_rfl) (by kernel_rfl) (fun _ _ _ h => h) (Or.inl ⟨by rfl, fun wx hSw => by ((try dsimp only at hSw); go_simp)⟩) (by assumption) ?_
        simp only [Act.put, List.getElem_toArray, List.getElem_cons_succ, List.getElem_cons_zero, List.setIfInBounds_toArray, List.set_cons_zero, List.set_cons_succ]
        refine wpAnyH_take (i := 19) (v := (.pointer (some ⟨Eb, o + k * 4 + 2, none⟩))) rfl (by kernel_rfl) (by kernel_rfl) (by kernel_rfl) (fun _ _ _ h => h) (Or.inl ⟨by rfl, fun wx hSw => by ((try dsimp only at hSw); go_simp)⟩) (by assumption) ?_
        simp only [Act.put, List.getElem_toArray, List.getElem_cons_succ, List.getElem_cons_zero, List.setIfInBounds_toArray, List.set_cons_zero, List.set_cons_succ]
        refine wpAnyH_take (i := 20) (v := (.int .i64 rsq)) rfl (by kernel_rfl) (by kernel_rfl) (by kernel_rfl) (fun _ _ _ h => h) (Or.inl ⟨by rfl, fun wx hSw => by (have hc : wx.cell? ⟨Eb, o + k * 4 + 2, none⟩ = some (.int .i64 rsq) := HR.out wx hSw.bl 2 _ rfl; go_simp)⟩) (by assumption) ?_
        simp only [Act.put, List.getElem_toArray, List.getElem_cons_succ, List.getElem_cons_zero, List.setIfInBounds_toArray, List.set_cons_zero, List.set_cons_succ]
        have HV2 : Hid (EvOut w t (.slice op O.length ocap) O (V1.alloc (.cells (evl ⟨0, 0, 0, 0⟩).toArray 50))) := hHeld.keep (S := fun _ => False) (Keep.below ((Below.refl _ _).alloc (Nat.le_refl _) _)) (fun _ _ x => x)
        have HA2 : Hid (At (V1.alloc (.cells (evl ⟨0, 0, 0, 0⟩).toArray 50)) V1.heap.size (evl ⟨0, 0, 0, 0⟩)) := At.alloc V1 _ _
        have HG : Hid (EvGo w t (.slice op O.length ocap) O V1.heap.size ⟨t.st + x0, 1 + x1, rsq, 0⟩ ((V1.alloc (.cells (evl ⟨0, 0, 0, 0⟩).toArray 50)).setCells V1.heap.size 0 (evl ⟨t.st + x0, 1 + x1, rsq, 0⟩))) := EvGo.made hHeld _
        refine wpAnyH_ready (rs := [7, 22]) (by kernel_rfl) (by simp) ?_
        refine AllReadyH.cons rfl (fun K hK => ?_) (AllReadyH.cons rfl (fun K hK => ?_) (AllReadyH.nil))
        · go_simp
          refine (hx0 _).mono ?_
          rintro e w' ⟨rfl, hw'⟩
          obtain rfl := hw'.symm
          go_wp2_with fail
          refine hK.out _ _ hHeld (fun hHeld => ?_)
          clear hK K hw'
          try simp only [Act.put, List.getElem_toArray, List.getElem_cons_succ, List.getElem_cons_zero, List.setIfInBounds_toArray, List.set_cons_zero, List.set_cons_succ]
          refine wpAnyH_take (i := 8) (v := (.int .i64 (t.st + x0))) rfl (by kernel_rfl) (by kernel_rfl) (by kernel_rfl) (fun _ _ _ h => h) (Or.inl ⟨by rfl, fun wx hSw => by ((try dsimp only at hSw); go_simp)⟩) (by assumption) ?_
          simp only [Act.put, List.getElem_toArray, List.getElem_cons_succ, List.getElem_cons_zero, List.setIfInBounds_toArray, List.set_cons_zero, List.set_cons_succ]
          refine wpAnyH_ready (rs := [14, 22]) (by kernel_rfl) (by simp) ?_
          refine AllReadyH.cons rfl (fun K hK => ?_) (AllReadyH.cons rfl (fun K hK => ?_) (AllReadyH.nil))
          · go_simp
            refine (hx1 _).mono ?_
            rintro e w' ⟨rfl, hw'⟩
            obtain rfl := hw'.symm
            go_wp2_with fail
            refine hK.out _ _ hHeld (fun hHeld => ?_)
            clear hK K hw'
            try simp only [Act.put, List.getElem_toArray, List.getElem_cons_succ, List.getElem_cons_zero, List.setIfInBounds_toArray, List.set_cons_zero, List.set_cons_succ]
            refine wpAnyH_take (i := 15) (v := (.int .i64 (1 + x1))) rfl (by kernel_rfl) (by kernel_rfl) (by kernel_rfl) (fun _ _ _ h => h) (Or.inl ⟨by rfl, fun wx hSw => by ((try dsimp only at hSw); go_simp)⟩) (by assumption) ?_
            simp only [Act.put, List.getElem_toArray, List.getElem_cons_succ, List.getElem_cons_zero, List.setIfInBounds_toArray, List.set_cons_zero, List.set_cons_succ]
            refine wpAnyH_take (i := 21) (v := (.agg (evl ⟨t.st + x0, 1 + x1, rsq, 0⟩).toArray)) rfl (by kernel_rfl) (by kernel_rfl) (by kernel_rfl) (fun _ _ _ h => h) (Or.inl ⟨by rfl, fun wx hSw => by kernel_rfl⟩) (by assumption) ?_
            simp only [Act.put, List.getElem_toArray, List.getElem_cons_succ, List.getElem_cons_zero, List.setIfInBounds_toArray, List.set_cons_zero, List.set_cons_succ]
            refine wpAnyH_ready (rs := [22]) (by kernel_rfl) (by simp) ?_
            refine AllReadyH.cons rfl (fun K hK => ?_) (AllReadyH.nil)
            rw [if_pos (by rfl)]
            refine wp_valD (.pointer (some ⟨V1.heap.size, 0, none⟩)) (V1.alloc (.cells (evl ⟨0, 0, 0, 0⟩).toArray 50)) (by kernel_rfl) ?_
            refine hK.out _ _ HV2.out (fun hHeld => ?_)
            clear hK K
            try simp only [Act.put, List.getElem_toArray, List.getElem_cons_succ, List.getElem_cons_zero, List.setIfInBounds_toArray, List.set_cons_zero, List.set_cons_succ]
            have hHeld : EvOut w t (.slice op O.length ocap) O (V1.alloc (.cells (evl ⟨0, 0, 0, 0⟩).toArray 50)) := hHeld
            refine wpAnyH_ready (rs := [23]) (by kernel_rfl) (by simp) ?_
            refine AllReadyH.cons rfl (fun K hK => ?_) (AllReadyH.nil)
            rw [if_pos (by rfl)]
            refine wp_store_mid 50 (.tmp 7) (.tmp 42) rfl _ 0 _ rfl rfl (HA2.out.there 4 rfl) (by kernel_rfl) (by kernel_rfl) ?_
            rw [List.toList_toArray]
            refine hK.out _ _ HG.out.out (fun _ => ?_)
            clear hK K
            refine wpAnyH_done (by kernel_rfl) ?_ _
            clear hHeld
            generalize (V1.alloc (.cells (evl ⟨0, 0, 0, 0⟩).toArray 50)).setCells V1.heap.size 0 (evl ⟨t.st + x0, 1 + x1, rsq, 0⟩) = V3 at *
            go_wp2_with fail
            go_meet
            case rel => exact ⟨_, rfl, HG.out⟩
          · rw [if_pos (by rfl)]
            refine wp_valD (.pointer (some ⟨V1.heap.size, 0, none⟩)) (V1.alloc (.cells (evl ⟨0, 0, 0, 0⟩).toArray 50)) (by kernel_rfl) ?_
            refine hK.out _ _ HV2.out (fun hHeld => ?_)
            clear hK K
            try simp only [Act.put, List.getElem_toArray, List.getElem_cons_succ, List.getElem_cons_zero, List.setIfInBounds_toArray, List.set_cons_zero, List.set_cons_succ]
            have hHeld : EvOut w t (.slice op O.length ocap) O (V1.alloc (.cells (evl ⟨0, 0, 0, 0⟩).toArray 50)) := hHeld
            refine wpAnyH_ready (rs := [14]) (by kernel_rfl) (by simp) ?_
            refine AllReadyH.cons rfl (fun K hK => ?_) (AllReadyH.nil)
            go_simp
            refine (hx1 _).mono ?_
            rintro e w' ⟨rfl, hw'⟩
            obtain rfl := hw'.symm
            go_wp2_with fail
            refine hK.out _ _ hHeld (fun hHeld => ?_)
            clear hK K hw'
            try simp only [Act.put, List.getElem_toArray, List.getElem_cons_succ, List.getElem_cons_zero, List.setIfInBounds_toArray, List.set_cons_zero, List.set_cons_succ]
            refine wpAnyH_take (i := 15) (v := (.int .i64 (1 + x1))) rfl (by kernel_rfl) (by kernel_rfl) (by kernel_rfl) (fun _ _ _ h => h) (Or.inl ⟨by rfl, fun wx hSw => by ((try dsimp only at hSw); go_simp)⟩) (by assumption) ?_
            simp only [Act.put, List.getElem_toArray, List.getElem_cons_succ, List.getElem_cons_zero, List.setIfInBounds_toArray, List.set_cons_zero, List.set_cons_succ]
            refine wpAnyH_take (i := 21) (v := (.agg (evl ⟨t.st + x0, 1 + x1, rsq, 0⟩).toArray)) rfl (by kernel_rfl) (by kernel_rfl) (by kernel_rfl) (fun _ _ _ h => h) (Or.inl ⟨by rfl, fun wx hSw => by kernel_rfl⟩) (by assumption) ?_
            simp only [Act.put, List.getElem_toArray, List.getElem_cons_succ, List.getElem_cons_zero, List.setIfInBounds_toArray, List.set_cons_zero, List.set_cons_succ]
            refine wpAnyH_ready (rs := [23]) (by kernel_rfl) (by simp) ?_
            refine AllReadyH.cons rfl (fun K hK => ?_) (AllReadyH.nil)
            rw [if_pos (by rfl)]
            refine wp_store_mid 50 (.tmp 7) (.tmp 42) rfl _ 0 _ rfl rfl (HA2.out.there 4 rfl) (by kernel_rfl) (by kernel_rfl) ?_
            rw [List.toList_toArray]
            refine hK.out _ _ HG.out.out (fun _ => ?_)
            clear hK K
            refine wpAnyH_done (by kernel_rfl) ?_ _
            clear hHeld
            generalize (V1.alloc (.cells (evl ⟨0, 0, 0, 0⟩).toArray 50)).setCells V1.heap.size 0 (evl ⟨t.st + x0, 1 + x1, rsq, 0⟩) = V3 at *
            go_wp2_with fail
            go_meet
            case rel => exact ⟨_, rfl, HG.out⟩
        · rw [if_pos (by rfl)]
          refine wp_valD (.pointer (some ⟨V1.heap.size, 0, none⟩)) (V1.alloc (.cells (evl ⟨0, 0, 0, 0⟩).toArray 50)) (by kernel_rfl) ?_
          refine hK.out _ _ HV2.out (fun hHeld => ?_)
          clear hK K
          try simp only [Act.put, List.getElem_toArray, List.getElem_cons_succ, List.getElem_cons_zero, List.setIfInBounds_toArray, List.set_cons_zero, List.set_cons_succ]
          have hHeld : EvOut w t (.slice op O.length ocap) O (V1.alloc (.cells (evl ⟨0, 0, 0, 0⟩).toArray 50)) := hHeld
          refine wpAnyH_ready (rs := [7]) (by kernel_rfl) (by simp) ?_
          refine AllReadyH.cons rfl (fun K hK => ?_) (AllReadyH.nil)
          go_simp
          refine (hx0 _).mono ?_
          rintro e w' ⟨rfl, hw'⟩
          obtain rfl := hw'.symm
          go_wp2_with fail
          refine hK.out _ _ hHeld (fun hHeld => ?_)
          clear hK K hw'
          try simp only [Act.put, List.getElem_toArray, List.getElem_cons_succ, List.getElem_cons_zero, List.setIfInBounds_toArray, List.set_cons_zero, List.set_cons_succ]
          refine wpAnyH_take (i := 8) (v := (.int .i64 (t.st + x0))) rfl (by kernel_rfl) (by kernel_rfl) (by kernel_rfl) (fun _ _ _ h => h) (Or.inl ⟨by rfl, fun wx hSw => by ((try dsimp only at hSw); go_simp)⟩) (by assumption) ?_
          simp only [Act.put, List.getElem_toArray, List.getElem_cons_succ, List.getElem_cons_zero, List.setIfInBounds_toArray, List.set_cons_zero, List.set_cons_succ]
          refine wpAnyH_ready (rs := [14]) (by kernel_rfl) (by simp) ?_
          refine AllReadyH.cons rfl (fun K hK => ?_) (AllReadyH.nil)
          go_simp
          refine (hx1 _).mono ?_
          rintro e w' ⟨rfl, hw'⟩
          obtain rfl := hw'.symm
          go_wp2_with fail
          refine hK.out _ _ hHeld (fun hHeld => ?_)
          clear hK K hw'
          try simp only [Act.put, List.getElem_toArray, List.getElem_cons_succ, List.getElem_cons_zero, List.setIfInBounds_toArray, List.set_cons_zero, List.set_cons_succ]
          refine wpAnyH_take (i := 15) (v := (.int .i64 (1 + x1))) rfl (by kernel_rfl) (by kernel_rfl) (by kernel_rfl) (fun _ _ _ h => h) (Or.inl ⟨by rfl, fun wx hSw => by ((try dsimp only at hSw); go_simp)⟩) (by assumption) ?_
          simp only [Act.put, List.getElem_toArray, List.getElem_cons_succ, List.getElem_cons_zero, List.setIfInBounds_toArray, List.set_cons_zero, List.set_cons_succ]
          refine wpAnyH_take (i := 21) (v := (.agg (evl ⟨t.st + x0, 1 + x1, rsq, 0⟩).toArray)) rfl (by kernel_rfl) (by kernel_rfl) (by kernel_rfl) (fun _ _ _ h => h) (Or.inl ⟨by rfl, fun wx hSw => by kernel_rfl⟩) (by assumption) ?_
          simp only [Act.put, List.getElem_toArray, List.getElem_cons_succ, List.getElem_cons_zero, List.setIfInBounds_toArray, List.set_cons_zero, List.set_cons_succ]
          refine wpAnyH_ready (rs := [23]) (by kernel_rfl) (by simp) ?_
          refine AllReadyH.cons rfl (fun K hK => ?_) (AllReadyH.nil)
          rw [if_pos (by rfl)]
          refine wp_store_mid 50 (.tmp 7) (.tmp 42) rfl _ 0 _ rfl rfl (HA2.out.there 4 rfl) (by kernel_rfl) (by kernel_rfl) ?_
          rw [List.toList_toArray]
          refine hK.out _ _ HG.out.out (fun _ => ?_)
          clear hK K
          refine wpAnyH_done (by kernel_rfl) ?_ _
          clear hHeld
          generalize (V1.alloc (.cells (evl ⟨0, 0, 0, 0⟩).toArray 50)).setCells V1.heap.size 0 (evl ⟨t.st + x0, 1 + x1, rsq, 0⟩) = V3 at *
          go_wp2_with fail
          go_meet
          case rel => exact ⟨_, rfl, HG.out⟩
      case rest =>
        obtain ⟨N, rfl, hgo⟩ := hcut
        rename_i wc
        have HG : Hid (EvGo w t (.slice op O.length ocap) O N ⟨t.st + x0, 1 + x1, rsq, 0⟩ wc) := hgo
        clear hgo hx0 hx1 HO
        rcases (show x1 = 0 ∨ x1 = 1 ∨ x1 = 2 ∨ x1 = 3 ∨ x1 = 4 by omega) with rfl | rfl | rfl | rfl | rfl
        · obtain ⟨y, ya, yb, hy⟩ := pick_all ra 100000000000 w4 (by decide) (by decide)
          have hyW := hy wc
          have n1 : wc.cell? ⟨N, 1, none⟩ = some (.int .i64 1) := HG.out.at_.cell 1 rfl
          have c3 : wc.cell? ⟨Eb, o + k * 4 + 3, none⟩ = some (.int .i64 ra) := HR.out wc HG.out.out.bl 3 _ rfl
          have n3 : wc.cell? ⟨N, 3, none⟩ = some (.int .i64 0) := HG.out.at_.cell 3 rfl
          have f3 : wc.frozen? ⟨N, 3, none⟩ = false := HG.out.at_.free 3 rfl
          have HGd : Hid (GoodE t ⟨t.st + x0, 1 + 0, rsq, 1 + y⟩) := goodE (by omega) (by omega) (by omega) (by omega) (by simp [fitsB]; omega) w3
          have HG2 : Hid (EvGo w t (.slice op O.length ocap) O N ⟨t.st + x0, 1 + 0, rsq, 1 + y⟩ (wc.setCell ⟨N, 3, none⟩ (.int .i64 (1 + y)))) := HG.out.set (1 + y)
          clear HG HR hy
          go_wp2_with fail
          refine hyW.mono ?_
          rintro e w' ⟨rfl, hw'⟩
          obtain rfl := hw'.symm
          clear hyW
          go_wp2
          clear n1 c3 n3 f3
          generalize wc.setCell ⟨N, 3, none⟩ (.int .i64 (1 + y)) = wd at *
          go_loopw [8, 9] (fun s8 s9 wr2 => ∃ (j : Nat) (b : Bool), j ≤ O.length ∧ s9 = .int .i64 j ∧ s8 = .bool b ∧ (b = false → ∀ q (hq : q < O.length), q < j → ¬ O[q].s = rsq) ∧ EvGo w t (.slice op O.length ocap) O N ⟨t.st + x0, 1 + 0, rsq, 1 + y⟩ wr2) (fun _ s9 _ => (O.length - intOf s9).toNat)
          case atStart => exact ⟨0, false, Nat.zero_le _, rfl, rfl, fun _ q _ h => absurd h (Nat.not_lt_zero q), HG2.out⟩
          case round =>
            obtain ⟨j, b, hj, rfl, rfl, hlow, hgo⟩ := hrel
            have HL : Hid (b = false → ∀ q (hq : q < O.length), q < j → ¬ O[q].s = rsq) := hlow
            have HG3 : Hid (EvGo w t (.slice op O.length ocap) O N ⟨t.st + x0, 1 + 0, rsq, 1 + y⟩ wr) := hgo
            clear hlow hgo HG2
            by_cases hjl : j < O.length
            · obtain ⟨Ob, hOv, hOw⟩ := evs_evv (own_low HG3.out.out.ow)
              have hOb : (Value.slice op O.length ocap).ownBlock = some Ob := hOw (fun e => by subst e; exact absurd hjl (Nat.not_lt_zero j))
              obtain ⟨p2, cap2, hv2, _, hat2⟩ := hOv
              injection hv2 with e1 _ e3
              subst e1 e3
              obtain ⟨o2, rfl, hOl, hr2⟩ := hat2.range j hjl
              have HR2 : Hid (∀ wx : World, (∀ b, b < wr.heap.size → wx.heap[b]? = wr.heap[b]?) → wx.cell? ⟨Ob, o2 + j * 4 + 2, none⟩ = some (.int .i64 O[j].s)) := fun wx hx => (World.cell?_of_block (w := wr) (a := ⟨Ob, o2 + j * 4 + 2, none⟩) (hx Ob hOl)).trans (hr2 2 _ rfl)
              have HLs : Hid (b = false → (O[j].s == rsq) = false → ∀ q (hq : q < O.length), q < j + 1 → ¬ O[q].s = rsq) := fun hb hs q hq hqj => by
                by_cases z : q = j
                · subst z; simpa using hs
                · exact HL.out hb q hq (by omega)
              clear hat2 hr2 HL hOw
              generalize O[j].s = os at *
              have zj : (j : Int) < (O.length : Int) := by omega
              go_upto_region 18 with fail
              refine wp_region_held_drew (S := fun wx => EvGo w t (.slice (some ⟨Ob, o2, none⟩) O.length ocap) O N ⟨t.st + x0, 1 + 0, rsq, 1 + y⟩ wx ∧ ∀ b, b < wr.heap.size → wx.heap[b]? = wr.heap[b]?) (by kernel_rfl) ⟨HG3.out.drew, fun _ _ => rfl⟩ (fun hHeld => ?_)
              clear HG3
              generalize wr.drew = V6 at *
              cases b with
              | true =>
                refine wpAnyH_take (i := 0) (v := (.bool true)) rfl (by kernel_rfl) (by kernel_rfl) (by kernel_rfl) (fun _ _ _ h => h) (Or.inl ⟨by rfl, fun wx hSw => by kernel_rfl⟩) (by assumption) ?_
                simp only [Act.put, List.getElem_toArray, List.getElem_cons_zero, List.setIfInBounds_toArray, List.set_cons_zero, List.set_cons_succ]
                refine wpAnyH_take (i := 1) (v := (.bool true)) rfl (by kernel_rfl) (by kernel_rfl) (by kernel_rfl) (fun _ _ _ h => h) (Or.inl ⟨by rfl, fun wx hSw => by kernel_rfl⟩) (by assumption) ?_
                simp only [Act.put, List.getElem_toArray, List.getElem_cons_succ, List.getElem_cons_zero, List.setIfInBounds_toArray, List.set_cons_zero, List.set_cons_succ]
                refine wpAnyH_take (i := 2) (v := undef) rfl (by kernel_rfl) (by kernel_rfl) (by kernel_rfl) (fun _ _ _ h => h) (Or.inr ⟨by rfl, rfl⟩) (by assumption) ?_
                simp only [Act.put, List.getElem_toArray, List.getElem_cons_succ, List.getElem_cons_zero, List.setIfInBounds_toArray, List.set_cons_zero, List.set_cons_succ]
                refine wpAnyH_take (i := 3) (v := undef) rfl (by kernel_rfl) (by kernel_rfl) (by kernel_rfl) (fun _ _ _ h => h) (Or.inr ⟨by rfl, rfl⟩) (by assumption) ?_
                simp only [Act.put, List.getElem_toArray, List.getElem_cons_succ, List.getElem_cons_zero, List.setIfInBounds_toArray, List.set_cons_zero, List.set_cons_succ]
                refine wpAnyH_take (i := 4) (v := undef) rfl (by kernel_rfl) (by kernel_rfl) (by kernel_rfl) (fun _ _ _ h => h) (Or.inr ⟨by rfl, rfl⟩) (by assumption) ?_
                simp only [Act.put, List.getElem_toArray, List.getElem_cons_succ, List.getElem_cons_zero, List.setIfInBounds_toArray, List.set_cons_zero, List.set_cons_succ]
                refine wpAnyH_take (i := 5) (v := undef) rfl (by kernel_rfl) (by kernel_rfl) (by kernel_rfl) (fun _ _ _ h => h) (Or.inr ⟨by rfl, rfl⟩) (by assumption) ?_
                simp only [Act.put, List.getElem_toArray, List.getElem_cons_succ, List.getElem_cons_zero, List.setIfInBounds_toArray, List.set_cons_zero, List.set_cons_succ]
                refine wpAnyH_take (i := 6) (v := undef) rfl (by kernel_rfl) (by kernel_rfl) (by kernel_rfl) (fun _ _ _ h => h) (Or.inr ⟨by rfl, rfl⟩) (by assumption) ?_
                simp only [Act.put, List.getElem_toArray, List.getElem_cons_succ, List.getElem_cons_zero, List.setIfInBounds_toArray, List.set_cons_zero, List.set_cons_succ]
                refine wpAnyH_take (i := 7) (v := undef) rfl (by kernel_rfl) (by kernel_rfl) (by kernel_rfl) (fun _ _ _ h => h) (Or.inr ⟨by rfl, rfl⟩) (by assumption) ?_
                simp only [Act.put, List.getElem_toArray, List.getElem_cons_succ, List.getElem_cons_zero, List.setIfInBounds_toArray, List.set_cons_zero, List.set_cons_succ]
                refine wpAnyH_take (i := 8) (v := undef) rfl (by kernel_rfl) (by kernel_rfl) (by kernel_rfl) (fun _ _ _ h => h) (Or.inr ⟨by rfl, rfl⟩) (by assumption) ?_
                simp only [Act.put, List.getElem_toArray, List.getElem_cons_succ, List.getElem_cons_zero, List.setIfInBounds_toArray, List.set_cons_zero, List.set_cons_succ]
                refine wpAnyH_take (i := 9) (v := undef) rfl (by kernel_rfl) (by kernel_rfl) (by kernel_rfl) (fun _ _ _ h => h) (Or.inr ⟨by rfl, rfl⟩) (by assumption) ?_
                simp only [Act.put, List.getElem_toArray, List.getElem_cons_succ, List.getElem_cons_zero, List.setIfInBounds_toArray, List.set_cons_zero, List.set_cons_succ]
                refine wpAnyH_take (i := 10) (v := (.bool true)) rfl (by kernel_rfl) (by kernel_rfl) (by kernel_rfl) (fun _ _ _ h => h) (Or.inl ⟨by rfl, fun wx hSw => by ((try dsimp only at hSw); go_simp)⟩) (by assumption) ?_
                simp only [Act.put, List.getElem_toArray, List.getElem_cons_succ, List.getElem_cons_zero, List.setIfInBounds_toArray, List.set_cons_zero, List.set_cons_succ]
                refine wpAnyH_take (i := 11) (v := (.bool true)) rfl (by kernel_rfl) (by kernel_rfl) (by kernel_rfl) (fun _ _ _ h => h) (Or.inl ⟨by rfl, fun wx hSw => by kernel_rfl⟩) (by assumption) ?_
                simp only [Act.put, List.getElem_toArray, List.getElem_cons_succ, List.getElem_cons_zero, List.setIfInBounds_toArray, List.set_cons_zero, List.set_cons_succ]
                have HG6 : Hid (EvGo w t (.slice (some ⟨Ob, o2, none⟩) O.length ocap) O N ⟨t.st + x0, 1 + 0, rsq, 1 + y⟩ V6) := hHeld.1
                refine wpAnyH_done (by kernel_rfl) ?_ _
                clear hHeld HR2 HLs
                go_wp2
                exact ⟨⟨j + 1, true, hjl, rfl, rfl, fun h => (by cases h), HG6.out⟩, by simp [intOf]; omega⟩
              | false =>
                refine wpAnyH_take (i := 0) (v := (.bool false)) rfl (by kernel_rfl) (by kernel_rfl) (by kernel_rfl) (fun _ _ _ h => h) (Or.inl ⟨by rfl, fun wx hSw => by kernel_rfl⟩) (by assumption) ?_
                simp only [Act.put, List.getElem_toArray, List.getElem_cons_zero, List.setIfInBounds_toArray, List.set_cons_zero, List.set_cons_succ]
                refine wpAnyH_take (i := 1) (v := (.bool false)) rfl (by kernel_rfl) (by kernel_rfl) (by kernel_rfl) (fun _ _ _ h => h) (Or.inl ⟨by rfl, fun wx hSw => by kernel_rfl⟩) (by assumption) ?_
                simp only [Act.put, List.getElem_toArray, List.getElem_cons_succ, List.getElem_cons_zero, List.setIfInBounds_toArray, List.set_cons_zero, List.set_cons_succ]
                refine wpAnyH_take (i := 2) (v := (.slice (some ⟨Ob, o2, none⟩) O.length ocap)) rfl (by kernel_rfl) (by kernel_rfl) (by kernel_rfl) (fun _ _ _ h => h) (Or.inl ⟨by rfl, fun wx hSw => by kernel_rfl⟩) (by assumption) ?_
                simp only [Act.put, List.getElem_toArray, List.getElem_cons_succ, List.getElem_cons_zero, List.setIfInBounds_toArray, List.set_cons_zero, List.set_cons_succ]
                refine wpAnyH_take (i := 3) (v := (.int .i64 j)) rfl (by kernel_rfl) (by kernel_rfl) (by kernel_rfl) (fun _ _ _ h => h) (Or.inl ⟨by rfl, fun wx hSw => by kernel_rfl⟩) (by assumption) ?_
                simp only [Act.put, List.getElem_toArray, List.getElem_cons_succ, List.getElem_cons_zero, List.setIfInBounds_toArray, List.set_cons_zero, List.set_cons_succ]
                refine wpAnyH_take (i := 4) (v := (.pointer (some ⟨Ob, o2 + j * 4, none⟩))) rfl (by kernel_rfl) (by kernel_rfl) (by kernel_rfl) (fun _ _ _ h => h) (Or.inl ⟨by rfl, fun wx hSw => by ((try dsimp only at hSw); go_simp)⟩) (by assumption) ?_
                simp only [Act.put, List.getElem_toArray, List.getElem_cons_succ, List.getElem_cons_zero, List.setIfInBounds_toArray, List.set_cons_zero, List.set_cons_succ]
                refine wpAnyH_take (i := 5) (v := (.pointer (some ⟨Ob, o2 + j * 4 + 2, none⟩))) rfl (by kernel_rfl) (by kernel_rfl) (by kernel_rfl) (fun _ _ _ h => h) (Or.inl ⟨by rfl, fun wx hSw => by ((try dsimp only at hSw); go_simp)⟩) (by assumption) ?_
                simp only [Act.put, List.getElem_toArray, List.getElem_cons_succ, List.getElem_cons_zero, List.setIfInBounds_toArray, List.set_cons_zero, List.set_cons_succ]
                refine wpAnyH_take (i := 6) (v := (.int .i64 os)) rfl (by kernel_rfl) (by kernel_rfl) (by kernel_rfl) (fun _ _ _ h => h) (Or.inl ⟨by rfl, fun wx hSw => by (have hc := HR2.out wx hSw.2; go_simp)⟩) (by assumption) ?_
                simp only [Act.put, List.getElem_toArray, List.getElem_cons_succ, List.getElem_cons_zero, List.setIfInBounds_toArray, List.set_cons_zero, List.set_cons_succ]
                refine wpAnyH_take (i := 7) (v := (.pointer (some ⟨N, 2, none⟩))) rfl (by kernel_rfl) (by kernel_rfl) (by kernel_rfl) (fun _ _ _ h => h) (Or.inl ⟨by rfl, fun wx hSw => by ((try dsimp only at hSw); go_simp)⟩) (by assumption) ?_
                simp only [Act.put, List.getElem_toArray, List.getElem_cons_succ, List.getElem_cons_zero, List.setIfInBounds_toArray, List.set_cons_zero, List.set_cons_succ]
                refine wpAnyH_take (i := 8) (v := (.int .i64 rsq)) rfl (by kernel_rfl) (by kernel_rfl) (by kernel_rfl) (fun _ _ _ h => h) (Or.inl ⟨by rfl, fun wx hSw => by (have hc : wx.cell? ⟨N, 2, none⟩ = some (.int .i64 rsq) := hSw.1.at_.cell 2 rfl; go_simp)⟩) (by assumption) ?_
                simp only [Act.put, List.getElem_toArray, List.getElem_cons_succ, List.getElem_cons_zero, List.setIfInBounds_toArray, List.set_cons_zero, List.set_cons_succ]
                refine wpAnyH_take (i := 9) (v := (.bool (os == rsq))) rfl (by kernel_rfl) (by kernel_rfl) (by kernel_rfl) (fun _ _ _ h => h) (Or.inl ⟨by rfl, fun wx hSw => by ((try dsimp only at hSw); go_simp)⟩) (by assumption) ?_
                simp only [Act.put, List.getElem_toArray, List.getElem_cons_succ, List.getElem_cons_zero, List.setIfInBounds_toArray, List.set_cons_zero, List.set_cons_succ]
                refine wpAnyH_take (i := 10) (v := (.bool (os == rsq))) rfl (by kernel_rfl) (by kernel_rfl) (by kernel_rfl) (fun _ _ _ h => h) (Or.inl ⟨by rfl, fun wx hSw => by ((try dsimp only at hSw); go_simp)⟩) (by assumption) ?_
                simp only [Act.put, List.getElem_toArray, List.getElem_cons_succ, List.getElem_cons_zero, List.setIfInBounds_toArray, List.set_cons_zero, List.set_cons_succ]
                refine wpAnyH_take (i := 11) (v := (.bool (os == rsq))) rfl (by kernel_rfl) (by kernel_rfl) (by kernel_rfl) (fun _ _ _ h => h) (Or.inl ⟨by rfl, fun wx hSw => by kernel_rfl⟩) (by assumption) ?_
                simp only [Act.put, List.getElem_toArray, List.getElem_cons_succ, List.getElem_cons_zero, List.setIfInBounds_toArray, List.set_cons_zero, List.set_cons_succ]
                have HG6 : Hid (EvGo w t (.slice (some ⟨Ob, o2, none⟩) O.length ocap) O N ⟨t.st + x0, 1 + 0, rsq, 1 + y⟩ V6) := hHeld.1
                refine wpAnyH_done (by kernel_rfl) ?_ _
                clear hHeld HR2
                obtain ⟨bb, hbb⟩ : ∃ bb, bb = (os == rsq) := ⟨_, rfl⟩
                rw [← hbb]
                have HB' : Hid (bb = (os == rsq)) := hbb
                clear hbb
                go_wp2
                exact ⟨⟨j + 1, bb, hjl, rfl, rfl, fun hbf => HLs.out rfl (HB'.out.symm.trans hbf), HG6.out⟩, by simp [intOf]; omega⟩
            · obtain rfl : j = O.length := by omega
              have zz : ¬ ((O.length : Int) < (O.length : Int)) := by omega
              cases b with
              | true =>
                have HOut : Hid (EvOut w t (.slice op O.length ocap) O wr) := HG3.out.out
                clear HG3 HL
                go_wp2
                exact ⟨⟨k + 1, O, hkl, rfl, HOut.out⟩, by simp [intOf]; omega⟩
              | false =>
                have HLs : Hid (∀ q (hq : q < O.length), ¬ O[q].s = rsq) := fun q hq => HL.out rfl q hq hq
                clear HL
                go_upto_region 20 with fail
                refine wp_region_lit ?_
                refine wpList_val (.slice op O.length ocap) wr rfl rfl ?_
                simp only [Act.put, List.setIfInBounds_toArray, List.set_cons_zero, List.set_cons_succ]
                refine wpList_load_mid rfl 50 (.tmp 7) rfl _ 0 rfl (evl ⟨t.st + x0, 1 + 0, rsq, 1 + y⟩) _ HG3.out.at_.range Tryz.underlying50 rfl (by kernel_rfl) ?_
                simp only [Act.put, List.setIfInBounds_toArray, List.set_cons_zero, List.set_cons_succ]
                have hx : At (wr.alloc (.cells (evl ⟨t.st + x0, 1 + 0, rsq, 1 + y⟩).toArray 50)) wr.heap.size (evl ⟨t.st + x0, 1 + 0, rsq, 1 + y⟩) := At.alloc wr _ _
                have hou : EvOut w t (.slice op O.length ocap) O (wr.alloc (.cells (evl ⟨t.st + x0, 1 + 0, rsq, 1 + y⟩).toArray 50)) := HG3.out.out.keep (S := fun _ => False) (Keep.below ((Below.refl _ _).alloc (Nat.le_refl _) _)) (fun _ _ x => x)
                refine wpList_val (.slice (some ⟨wr.heap.size, 0, none⟩) 1 1) (wr.alloc (.cells (evl ⟨t.st + x0, 1 + 0, rsq, 1 + y⟩).toArray 50)) rfl (by kernel_rfl) ?_
                simp only [Act.put, List.setIfInBounds_toArray, List.set_cons_zero, List.set_cons_succ]
                clear HG3
                generalize wr.alloc (.cells (evl ⟨t.st + x0, 1 + 0, rsq, 1 + y⟩).toArray 50) = V5 at *
                generalize wr.heap.size = N5 at *
                obtain ⟨hi0, hz0, hz1, hz2⟩ := HI.out
                refine wpList_plain rfl fun K hK => ?_
                refine wp_append_at V5 (.tmp 94) (.tmp 96) 42 rfl (w.heap.size + 1) 50 i0 _ 4 32 Tryz.underlying42 hi0 hz0 hz1 hz2 (by rfl) (by omega) (.slice op O.length ocap) O.length (evs O) rfl hou.ow ⟨N5, 0, none⟩ 1 1 (evl ⟨t.st + x0, 1 + 0, rsq, 1 + y⟩) rfl rfl (fun q u hu => ?_) (fun u hu => evs_cell1 [⟨t.st + x0, 1 + 0, rsq, 1 + y⟩] u hu) (by unfold maxLen; omega) (by omega) (Nat.le_trans (At.lt (v := .int .i64 t.st) hou.tm) (Nat.le_refl _)) ?_
                · have := (hx q u hu).1
                  rw [Addr.add_lit, Nat.zero_add]
                  exact this
                · intro v' w' h1 h2 h3
                  refine hK _ _ ?_
                  obtain ⟨g', cap', rfl, _, _⟩ := h1.form (by omega)
                  have HE : Hid (EvOut w t (.slice (some ⟨g', 0, none⟩) (O.length + 1) cap') (O ++ [⟨t.st + x0, 1 + 0, rsq, 1 + y⟩]) w') := by
                    have kk : Keep (fun b => (Value.slice op O.length ocap).ownBlock = some b) V5 w' := ⟨h2.os, h2.tape, h2.output, h2.size, fun b hb hs => h2.block b hb (fun x => hs x.symm)⟩
                    have hgt : ∀ b, (Value.slice op O.length ocap).ownBlock = some b → w.heap.size + 1 ≤ b := fun b hb => (own_base hou.ow hb).1
                    refine ⟨?_, At.keep (v := .int .i64 t.st) hou.tm kk (fun x => by have := hgt _ x; omega), ⟨kk.os.trans hou.bl.os, kk.tape.trans hou.bl.tape, kk.output.trans hou.bl.output, Nat.le_trans hou.bl.size kk.size, fun b hb => (kk.block b (Nat.lt_of_lt_of_le hb hou.bl.size) (fun x => by have := hgt _ x; omega)).trans (hou.bl.block b hb)⟩, by simp; omega, ?_, ?_⟩
                    · rw [List.length_append, So.evs_append]
                      exact h1
                    · intro e he
                      rcases List.mem_append.1 he with he | he
                      · exact hou.ok e he
                      · rw [List.mem_singleton] at he
                        subst he
                        exact HGd.out
                    · refine List.pairwise_append.2 ⟨hou.ds, List.pairwise_singleton _ _, fun x hx y hy => ?_⟩
                      rw [List.mem_singleton] at hy
                      subst hy
                      obtain ⟨q, hq, rfl⟩ := List.getElem_of_mem hx
                      exact HLs.out q hq
                  clear h1 h2 h3 hou hx HLs HGd
                  simp only [Act.put, List.setIfInBounds_toArray, List.set_cons_zero, List.set_cons_succ]
                  go_wp2
                  exact ⟨⟨k + 1, _, hkl, rfl, HE.out⟩, by simp [intOf]; omega⟩
        · obtain ⟨y, ya, yb, hy⟩ := pick_all ra 1000001 w4 (by decide) (by decide)
          have hyW := hy wc
          have n1 : wc.cell? ⟨N, 1, none⟩ = some (.int .i64 2) := HG.out.at_.cell 1 rfl
          have c3 : wc.cell? ⟨Eb, o + k * 4 + 3, none⟩ = some (.int .i64 ra) := HR.out wc HG.out.out.bl 3 _ rfl
          have n3 : wc.cell? ⟨N, 3, none⟩ = some (.int .i64 0) := HG.out.at_.cell 3 rfl
          have f3 : wc.frozen? ⟨N, 3, none⟩ = false := HG.out.at_.free 3 rfl
          have HGd : Hid (GoodE t ⟨t.st + x0, 1 + 1, rsq, y⟩) := goodE (by omega) (by omega) (by omega) (by omega) (by simp [fitsB]; omega) w3
          have HG2 : Hid (EvGo w t (.slice op O.length ocap) O N ⟨t.st + x0, 1 + 1, rsq, y⟩ (wc.setCell ⟨N, 3, none⟩ (.int .i64 (y)))) := HG.out.set (y)
          clear HG HR hy
          go_wp2_with fail
          refine hyW.mono ?_
          rintro e w' ⟨rfl, hw'⟩
          obtain rfl := hw'.symm
          clear hyW
          go_wp2
          clear n1 c3 n3 f3
          generalize wc.setCell ⟨N, 3, none⟩ (.int .i64 (y)) = wd at *
          go_loopw [8, 9] (fun s8 s9 wr2 => ∃ (j : Nat) (b : Bool), j ≤ O.length ∧ s9 = .int .i64 j ∧ s8 = .bool b ∧ (b = false → ∀ q (hq : q < O.length), q < j → ¬ O[q].s = rsq) ∧ EvGo w t (.slice op O.length ocap) O N ⟨t.st + x0, 1 + 1, rsq, y⟩ wr2) (fun _ s9 _ => (O.length - intOf s9).toNat)
          case atStart => exact ⟨0, false, Nat.zero_le _, rfl, rfl, fun _ q _ h => absurd h (Nat.not_lt_zero q), HG2.out⟩
          case round =>
            obtain ⟨j, b, hj, rfl, rfl, hlow, hgo⟩ := hrel
            have HL : Hid (b = false → ∀ q (hq : q < O.length), q < j → ¬ O[q].s = rsq) := hlow
            have HG3 : Hid (EvGo w t (.slice op O.length ocap) O N ⟨t.st + x0, 1 + 1, rsq, y⟩ wr) := hgo
            clear hlow hgo HG2
            by_cases hjl : j < O.length
            · obtain ⟨Ob, hOv, hOw⟩ := evs_evv (own_low HG3.out.out.ow)
              have hOb : (Value.slice op O.length ocap).ownBlock = some Ob := hOw (fun e => by subst e; exact absurd hjl (Nat.not_lt_zero j))
              obtain ⟨p2, cap2, hv2, _, hat2⟩ := hOv
              injection hv2 with e1 _ e3
              subst e1 e3
              obtain ⟨o2, rfl, hOl, hr2⟩ := hat2.range j hjl
              have HR2 : Hid (∀ wx : World, (∀ b, b < wr.heap.size → wx.heap[b]? = wr.heap[b]?) → wx.cell? ⟨Ob, o2 + j * 4 + 2, none⟩ = some (.int .i64 O[j].s)) := fun wx hx => (World.cell?_of_block (w := wr) (a := ⟨Ob, o2 + j * 4 + 2, none⟩) (hx Ob hOl)).trans (hr2 2 _ rfl)
              have HLs : Hid (b = false → (O[j].s == rsq) = false → ∀ q (hq : q < O.length), q < j + 1 → ¬ O[q].s = rsq) := fun hb hs q hq hqj => by
                by_cases z : q = j
                · subst z; simpa using hs
                · exact HL.out hb q hq (by omega)
              clear hat2 hr2 HL hOw
              generalize O[j].s = os at *
              have zj : (j : Int) < (O.length : Int) := by omega
              go_upto_region 18 with fail
              refine wp_region_held_drew (S := fun wx => EvGo w t (.slice (some ⟨Ob, o2, none⟩) O.length ocap) O N ⟨t.st + x0, 1 + 1, rsq, y⟩ wx ∧ ∀ b, b < wr.heap.size → wx.heap[b]? = wr.heap[b]?) (by kernel_rfl) ⟨HG3.out.drew, fun _ _ => rfl⟩ (fun hHeld => ?_)
              clear HG3
              generalize wr.drew = V6 at *
              cases b with
              | true =>
                refine wpAnyH_take (i := 0) (v := (.bool true)) rfl (by kernel_rfl) (by kernel_rfl) (by kernel_rfl) (fun _ _ _ h => h) (Or.inl ⟨by rfl, fun wx hSw => by kernel_rfl⟩) (by assumption) ?_
                simp only [Act.put, List.getElem_toArray, List.getElem_cons_zero, List.setIfInBounds_toArray, List.set_cons_zero, List.set_cons_succ]
                refine wpAnyH_take (i := 1) (v := (.bool true)) rfl (by kernel_rfl) (by kernel_rfl) (by kernel_rfl) (fun _ _ _ h => h) (Or.inl ⟨by rfl, fun wx hSw => by kernel_rfl⟩) (by assumption) ?_
                simp only [Act.put, List.getElem_toArray, List.getElem_cons_succ, List.getElem_cons_zero, List.setIfInBounds_toArray, List.set_cons_zero, List.set_cons_succ]
                refine wpAnyH_take (i := 2) (v := undef) rfl (by kernel_rfl) (by kernel_rfl) (by kernel_rfl) (fun _ _ _ h => h) (Or.inr ⟨by rfl, rfl⟩) (by assumption) ?_
                simp only [Act.put, List.getElem_toArray, List.getElem_cons_succ, List.getElem_cons_zero, List.setIfInBounds_toArray, List.set_cons_zero, List.set_cons_succ]
                refine wpAnyH_take (i := 3) (v := undef) rfl (by kernel_rfl) (by kernel_rfl) (by kernel_rfl) (fun _ _ _ h => h) (Or.inr ⟨by rfl, rfl⟩) (by assumption) ?_
                simp only [Act.put, List.getElem_toArray, List.getElem_cons_succ, List.getElem_cons_zero, List.setIfInBounds_toArray, List.set_cons_zero, List.set_cons_succ]
                refine wpAnyH_take (i := 4) (v := undef) rfl (by kernel_rfl) (by kernel_rfl) (by kernel_rfl) (fun _ _ _ h => h) (Or.inr ⟨by rfl, rfl⟩) (by assumption) ?_
                simp only [Act.put, List.getElem_toArray, List.getElem_cons_succ, List.getElem_cons_zero, List.setIfInBounds_toArray, List.set_cons_zero, List.set_cons_succ]
                refine wpAnyH_take (i := 5) (v := undef) rfl (by kernel_rfl) (by kernel_rfl) (by kernel_rfl) (fun _ _ _ h => h) (Or.inr ⟨by rfl, rfl⟩) (by assumption) ?_
                simp only [Act.put, List.getElem_toArray, List.getElem_cons_succ, List.getElem_cons_zero, List.setIfInBounds_toArray, List.set_cons_zero, List.set_cons_succ]
                refine wpAnyH_take (i := 6) (v := undef) rfl (by kernel_rfl) (by kernel_rfl) (by kernel_rfl) (fun _ _ _ h => h) (Or.inr ⟨by rfl, rfl⟩) (by assumption) ?_
                simp only [Act.put, List.getElem_toArray, List.getElem_cons_succ, List.getElem_cons_zero, List.setIfInBounds_toArray, List.set_cons_zero, List.set_cons_succ]
                refine wpAnyH_take (i := 7) (v := undef) rfl (by kernel_rfl) (by kernel_rfl) (by kernel_rfl) (fun _ _ _ h => h) (Or.inr ⟨by rfl, rfl⟩) (by assumption) ?_
                simp only [Act.put, List.getElem_toArray, List.getElem_cons_succ, List.getElem_cons_zero, List.setIfInBounds_toArray, List.set_cons_zero, List.set_cons_succ]
                refine wpAnyH_take (i := 8) (v := undef) rfl (by kernel_rfl) (by kernel_rfl) (by kernel_rfl) (fun _ _ _ h => h) (Or.inr ⟨by rfl, rfl⟩) (by assumption) ?_
                simp only [Act.put, List.getElem_toArray, List.getElem_cons_succ, List.getElem_cons_zero, List.setIfInBounds_toArray, List.set_cons_zero, List.set_cons_succ]
                refine wpAnyH_take (i := 9) (v := undef) rfl (by kernel_rfl) (by kernel_rfl) (by kernel_rfl) (fun _ _ _ h => h) (Or.inr ⟨by rfl, rfl⟩) (by assumption) ?_
                simp only [Act.put, List.getElem_toArray, List.getElem_cons_succ, List.getElem_cons_zero, List.setIfInBounds_toArray, List.set_cons_zero, List.set_cons_succ]
                refine wpAnyH_take (i := 10) (v := (.bool true)) rfl (by kernel_rfl) (by kernel_rfl) (by kernel_rfl) (fun _ _ _ h => h) (Or.inl ⟨by rfl, fun wx hSw => by ((try dsimp only at hSw); go_simp)⟩) (by assumption) ?_
                simp only [Act.put, List.getElem_toArray, List.getElem_cons_succ, List.getElem_cons_zero, List.setIfInBounds_toArray, List.set_cons_zero, List.set_cons_succ]
                refine wpAnyH_take (i := 11) (v := (.bool true)) rfl (by kernel_rfl) (by kernel_rfl) (by kernel_rfl) (fun _ _ _ h => h) (Or.inl ⟨by rfl, fun wx hSw => by kernel_rfl⟩) (by assumption) ?_
                simp only [Act.put, List.getElem_toArray, List.getElem_cons_succ, List.getElem_cons_zero, List.setIfInBounds_toArray, List.set_cons_zero, List.set_cons_succ]
                have HG6 : Hid (EvGo w t (.slice (some ⟨Ob, o2, none⟩) O.length ocap) O N ⟨t.st + x0, 1 + 1, rsq, y⟩ V6) := hHeld.1
                refine wpAnyH_done (by kernel_rfl) ?_ _
                clear hHeld HR2 HLs
                go_wp2
                exact ⟨⟨j + 1, true, hjl, rfl, rfl, fun h => (by cases h), HG6.out⟩, by simp [intOf]; omega⟩
              | false =>
                refine wpAnyH_take (i := 0) (v := (.bool false)) rfl (by kernel_rfl) (by kernel_rfl) (by kernel_rfl) (fun _ _ _ h => h) (Or.inl ⟨by rfl, fun wx hSw => by kernel_rfl⟩) (by assumption) ?_
                simp only [Act.put, List.getElem_toArray, List.getElem_cons_zero, List.setIfInBounds_toArray, List.set_cons_zero, List.set_cons_succ]
                refine wpAnyH_take (i := 1) (v := (.bool false)) rfl (by kernel_rfl) (by kernel_rfl) (by kernel_rfl) (fun _ _ _ h => h) (Or.inl ⟨by rfl, fun wx hSw => by kernel_rfl⟩) (by assumption) ?_
                simp only [Act.put, List.getElem_toArray, List.getElem_cons_succ, List.getElem_cons_zero, List.setIfInBounds_toArray, List.set_cons_zero, List.set_cons_succ]
                refine wpAnyH_take (i := 2) (v := (.slice (some ⟨Ob, o2, none⟩) O.length ocap)) rfl (by kernel_rfl) (by kernel_rfl) (by kernel_rfl) (fun _ _ _ h => h) (Or.inl ⟨by rfl, fun wx hSw => by kernel_rfl⟩) (by assumption) ?_
                simp only [Act.put, List.getElem_toArray, List.getElem_cons_succ, List.getElem_cons_zero, List.setIfInBounds_toArray, List.set_cons_zero, List.set_cons_succ]
                refine wpAnyH_take (i := 3) (v := (.int .i64 j)) rfl (by kernel_rfl) (by kernel_rfl) (by kernel_rfl) (fun _ _ _ h => h) (Or.inl ⟨by rfl, fun wx hSw => by kernel_rfl⟩) (by assumption) ?_
                simp only [Act.put, List.getElem_toArray, List.getElem_cons_succ, List.getElem_cons_zero, List.setIfInBounds_toArray, List.set_cons_zero, List.set_cons_succ]
                refine wpAnyH_take (i := 4) (v := (.pointer (some ⟨Ob, o2 + j * 4, none⟩))) rfl (by kernel_rfl) (by kernel_rfl) (by kernel_rfl) (fun _ _ _ h => h) (Or.inl ⟨by rfl, fun wx hSw => by ((try dsimp only at hSw); go_simp)⟩) (by assumption) ?_
                simp only [Act.put, List.getElem_toArray, List.getElem_cons_succ, List.getElem_cons_zero, List.setIfInBounds_toArray, List.set_cons_zero, List.set_cons_succ]
                refine wpAnyH_take (i := 5) (v := (.pointer (some ⟨Ob, o2 + j * 4 + 2, none⟩))) rfl (by kernel_rfl) (by kernel_rfl) (by kernel_rfl) (fun _ _ _ h => h) (Or.inl ⟨by rfl, fun wx hSw => by ((try dsimp only at hSw); go_simp)⟩) (by assumption) ?_
                simp only [Act.put, List.getElem_toArray, List.getElem_cons_succ, List.getElem_cons_zero, List.setIfInBounds_toArray, List.set_cons_zero, List.set_cons_succ]
                refine wpAnyH_take (i := 6) (v := (.int .i64 os)) rfl (by kernel_rfl) (by kernel_rfl) (by kernel_rfl) (fun _ _ _ h => h) (Or.inl ⟨by rfl, fun wx hSw => by (have hc := HR2.out wx hSw.2; go_simp)⟩) (by assumption) ?_
                simp only [Act.put, List.getElem_toArray, List.getElem_cons_succ, List.getElem_cons_zero, List.setIfInBounds_toArray, List.set_cons_zero, List.set_cons_succ]
                refine wpAnyH_take (i := 7) (v := (.pointer (some ⟨N, 2, none⟩))) rfl (by kernel_rfl) (by kernel_rfl) (by kernel_rfl) (fun _ _ _ h => h) (Or.inl ⟨by rfl, fun wx hSw => by ((try dsimp only at hSw); go_simp)⟩) (by assumption) ?_
                simp only [Act.put, List.getElem_toArray, List.getElem_cons_succ, List.getElem_cons_zero, List.setIfInBounds_toArray, List.set_cons_zero, List.set_cons_succ]
                refine wpAnyH_take (i := 8) (v := (.int .i64 rsq)) rfl (by kernel_rfl) (by kernel_rfl) (by kernel_rfl) (fun _ _ _ h => h) (Or.inl ⟨by rfl, fun wx hSw => by (have hc : wx.cell? ⟨N, 2, none⟩ = some (.int .i64 rsq) := hSw.1.at_.cell 2 rfl; go_simp)⟩) (by assumption) ?_
                simp only [Act.put, List.getElem_toArray, List.getElem_cons_succ, List.getElem_cons_zero, List.setIfInBounds_toArray, List.set_cons_zero, List.set_cons_succ]
                refine wpAnyH_take (i := 9) (v := (.bool (os == rsq))) rfl (by kernel_rfl) (by kernel_rfl) (by kernel_rfl) (fun _ _ _ h => h) (Or.inl ⟨by rfl, fun wx hSw => by ((try dsimp only at hSw); go_simp)⟩) (by assumption) ?_
                simp only [Act.put, List.getElem_toArray, List.getElem_cons_succ, List.getElem_cons_zero, List.setIfInBounds_toArray, List.set_cons_zero, List.set_cons_succ]
                refine wpAnyH_take (i := 10) (v := (.bool (os == rsq))) rfl (by kernel_rfl) (by kernel_rfl) (by kernel_rfl) (fun _ _ _ h => h) (Or.inl ⟨by rfl, fun wx hSw => by ((try dsimp only at hSw); go_simp)⟩) (by assumption) ?_
                simp only [Act.put, List.getElem_toArray, List.getElem_cons_succ, List.getElem_cons_zero, List.setIfInBounds_toArray, List.set_cons_zero, List.set_cons_succ]
                refine wpAnyH_take (i := 11) (v := (.bool (os == rsq))) rfl (by kernel_rfl) (by kernel_rfl) (by kernel_rfl) (fun _ _ _ h => h) (Or.inl ⟨by rfl, fun wx hSw => by kernel_rfl⟩) (by assumption) ?_
                simp only [Act.put, List.getElem_toArray, List.getElem_cons_succ, List.getElem_cons_zero, List.setIfInBounds_toArray, List.set_cons_zero, List.set_cons_succ]
                have HG6 : Hid (EvGo w t (.slice (some ⟨Ob, o2, none⟩) O.length ocap) O N ⟨t.st + x0, 1 + 1, rsq, y⟩ V6) := hHeld.1
                refine wpAnyH_done (by kernel_rfl) ?_ _
                clear hHeld HR2
                obtain ⟨bb, hbb⟩ : ∃ bb, bb = (os == rsq) := ⟨_, rfl⟩
                rw [← hbb]
                have HB' : Hid (bb = (os == rsq)) := hbb
                clear hbb
                go_wp2
                exact ⟨⟨j + 1, bb, hjl, rfl, rfl, fun hbf => HLs.out rfl (HB'.out.symm.trans hbf), HG6.out⟩, by simp [intOf]; omega⟩
            · obtain rfl : j = O.length := by omega
              have zz : ¬ ((O.length : Int) < (O.length : Int)) := by omega
              cases b with
              | true =>
                have HOut : Hid (EvOut w t (.slice op O.length ocap) O wr) := HG3.out.out
                clear HG3 HL
                go_wp2
                exact ⟨⟨k + 1, O, hkl, rfl, HOut.out⟩, by simp [intOf]; omega⟩
              | false =>
                have HLs : Hid (∀ q (hq : q < O.length), ¬ O[q].s = rsq) := fun q hq => HL.out rfl q hq hq
                clear HL
                go_upto_region 20 with fail
                refine wp_region_lit ?_
                refine wpList_val (.slice op O.length ocap) wr rfl rfl ?_
                simp only [Act.put, List.setIfInBounds_toArray, List.set_cons_zero, List.set_cons_succ]
                refine wpList_load_mid rfl 50 (.tmp 7) rfl _ 0 rfl (evl ⟨t.st + x0, 1 + 1, rsq, y⟩) _ HG3.out.at_.range Tryz.underlying50 rfl (by kernel_rfl) ?_
                simp only [Act.put, List.setIfInBounds_toArray, List.set_cons_zero, List.set_cons_succ]
                have hx : At (wr.alloc (.cells (evl ⟨t.st + x0, 1 + 1, rsq, y⟩).toArray 50)) wr.heap.size (evl ⟨t.st + x0, 1 + 1, rsq, y⟩) := At.alloc wr _ _
                have hou : EvOut w t (.slice op O.length ocap) O (wr.alloc (.cells (evl ⟨t.st + x0, 1 + 1, rsq, y⟩).toArray 50)) := HG3.out.out.keep (S := fun _ => False) (Keep.below ((Below.refl _ _).alloc (Nat.le_refl _) _)) (fun _ _ x => x)
                refine wpList_val (.slice (some ⟨wr.heap.size, 0, none⟩) 1 1) (wr.alloc (.cells (evl ⟨t.st + x0, 1 + 1, rsq, y⟩).toArray 50)) rfl (by kernel_rfl) ?_
                simp only [Act.put, List.setIfInBounds_toArray, List.set_cons_zero, List.set_cons_succ]
                clear HG3
                generalize wr.alloc (.cells (evl ⟨t.st + x0, 1 + 1, rsq, y⟩).toArray 50) = V5 at *
                generalize wr.heap.size = N5 at *
                obtain ⟨hi0, hz0, hz1, hz2⟩ := HI.out
                refine wpList_plain rfl fun K hK => ?_
                refine wp_append_at V5 (.tmp 94) (.tmp 96) 42 rfl (w.heap.size + 1) 50 i0 _ 4 32 Tryz.underlying42 hi0 hz0 hz1 hz2 (by rfl) (by omega) (.slice op O.length ocap) O.length (evs O) rfl hou.ow ⟨N5, 0, none⟩ 1 1 (evl ⟨t.st + x0, 1 + 1, rsq, y⟩) rfl rfl (fun q u hu => ?_) (fun u hu => evs_cell1 [⟨t.st + x0, 1 + 1, rsq, y⟩] u hu) (by unfold maxLen; omega) (by omega) (Nat.le_trans (At.lt (v := .int .i64 t.st) hou.tm) (Nat.le_refl _)) ?_
                · have := (hx q u hu).1
                  rw [Addr.add_lit, Nat.zero_add]
                  exact this
                · intro v' w' h1 h2 h3
                  refine hK _ _ ?_
                  obtain ⟨g', cap', rfl, _, _⟩ := h1.form (by omega)
                  have HE : Hid (EvOut w t (.slice (some ⟨g', 0, none⟩) (O.length + 1) cap') (O ++ [⟨t.st + x0, 1 + 1, rsq, y⟩]) w') := by
                    have kk : Keep (fun b => (Value.slice op O.length ocap).ownBlock = some b) V5 w' := ⟨h2.os, h2.tape, h2.output, h2.size, fun b hb hs => h2.block b hb (fun x => hs x.symm)⟩
                    have hgt : ∀ b, (Value.slice op O.length ocap).ownBlock = some b → w.heap.size + 1 ≤ b := fun b hb => (own_base hou.ow hb).1
                    refine ⟨?_, At.keep (v := .int .i64 t.st) hou.tm kk (fun x => by have := hgt _ x; omega), ⟨kk.os.trans hou.bl.os, kk.tape.trans hou.bl.tape, kk.output.trans hou.bl.output, Nat.le_trans hou.bl.size kk.size, fun b hb => (kk.block b (Nat.lt_of_lt_of_le hb hou.bl.size) (fun x => by have := hgt _ x; omega)).trans (hou.bl.block b hb)⟩, by simp; omega, ?_, ?_⟩
                    · rw [List.length_append, So.evs_append]
                      exact h1
                    · intro e he
                      rcases List.mem_append.1 he with he | he
                      · exact hou.ok e he
                      · rw [List.mem_singleton] at he
                        subst he
                        exact HGd.out
                    · refine List.pairwise_append.2 ⟨hou.ds, List.pairwise_singleton _ _, fun x hx y hy => ?_⟩
                      rw [List.mem_singleton] at hy
                      subst hy
                      obtain ⟨q, hq, rfl⟩ := List.getElem_of_mem hx
                      exact HLs.out q hq
                  clear h1 h2 h3 hou hx HLs HGd
                  simp only [Act.put, List.setIfInBounds_toArray, List.set_cons_zero, List.set_cons_succ]
                  go_wp2
                  exact ⟨⟨k + 1, _, hkl, rfl, HE.out⟩, by simp [intOf]; omega⟩
        · obtain ⟨y, ya, yb, hy⟩ := pick_all ra 400 w4 (by decide) (by decide)
          have hyW := hy wc
          have n1 : wc.cell? ⟨N, 1, none⟩ = some (.int .i64 3) := HG.out.at_.cell 1 rfl
          have c3 : wc.cell? ⟨Eb, o + k * 4 + 3, none⟩ = some (.int .i64 ra) := HR.out wc HG.out.out.bl 3 _ rfl
          have n3 : wc.cell? ⟨N, 3, none⟩ = some (.int .i64 0) := HG.out.at_.cell 3 rfl
          have f3 : wc.frozen? ⟨N, 3, none⟩ = false := HG.out.at_.free 3 rfl
          have HGd : Hid (GoodE t ⟨t.st + x0, 1 + 2, rsq, 1 + y⟩) := goodE (by omega) (by omega) (by omega) (by omega) (by simp [fitsB]; omega) w3
          have HG2 : Hid (EvGo w t (.slice op O.length ocap) O N ⟨t.st + x0, 1 + 2, rsq, 1 + y⟩ (wc.setCell ⟨N, 3, none⟩ (.int .i64 (1 + y)))) := HG.out.set (1 + y)
          clear HG HR hy
          go_wp2_with fail
          refine hyW.mono ?_
          rintro e w' ⟨rfl, hw'⟩
          obtain rfl := hw'.symm
          clear hyW
          go_wp2
          clear n1 c3 n3 f3
          generalize wc.setCell ⟨N, 3, none⟩ (.int .i64 (1 + y)) = wd at *
          go_loopw [8, 9] (fun s8 s9 wr2 => ∃ (j : Nat) (b : Bool), j ≤ O.length ∧ s9 = .int .i64 j ∧ s8 = .bool b ∧ (b = false → ∀ q (hq : q < O.length), q < j → ¬ O[q].s = rsq) ∧ EvGo w t (.slice op O.length ocap) O N ⟨t.st + x0, 1 + 2, rsq, 1 + y⟩ wr2) (fun _ s9 _ => (O.length - intOf s9).toNat)
          case atStart => exact ⟨0, false, Nat.zero_le _, rfl, rfl, fun _ q _ h => absurd h (Nat.not_lt_zero q), HG2.out⟩
          case round =>
            obtain ⟨j, b, hj, rfl, rfl, hlow, hgo⟩ := hrel
            have HL : Hid (b = false → ∀ q (hq : q < O.length), q < j → ¬ O[q].s = rsq) := hlow
            have HG3 : Hid (EvGo w t (.slice op O.length ocap) O N ⟨t.st + x0, 1 + 2, rsq, 1 + y⟩ wr) := hgo
            clear hlow hgo HG2
            by_cases hjl : j < O.length
            · obtain ⟨Ob, hOv, hOw⟩ := evs_evv (own_low HG3.out.out.ow)
              have hOb : (Value.slice op O.length ocap).ownBlock = some Ob := hOw (fun e => by subst e; exact absurd hjl (Nat.not_lt_zero j))
              obtain ⟨p2, cap2, hv2, _, hat2⟩ := hOv
              injection hv2 with e1 _ e3
              subst e1 e3
              obtain ⟨o2, rfl, hOl, hr2⟩ := hat2.range j hjl
              have HR2 : Hid (∀ wx : World, (∀ b, b < wr.heap.size → wx.heap[b]? = wr.heap[b]?) → wx.cell? ⟨Ob, o2 + j * 4 + 2, none⟩ = some (.int .i64 O[j].s)) := fun wx hx => (World.cell?_of_block (w := wr) (a := ⟨Ob, o2 + j * 4 + 2, none⟩) (hx Ob hOl)).trans (hr2 2 _ rfl)
              have HLs : Hid (b = false → (O[j].s == rsq) = false → ∀ q (hq : q < O.length), q < j + 1 → ¬ O[q].s = rsq) := fun hb hs q hq hqj => by
                by_cases z : q = j
                · subst z; simpa using hs
                · exact HL.out hb q hq (by omega)
              clear hat2 hr2 HL hOw
              generalize O[j].s = os at *
              have zj : (j : Int) < (O.length : Int) := by omega
              go_upto_region 18 with fail
              refine wp_region_held_drew (S := fun wx => EvGo w t (.slice (some ⟨Ob, o2, none⟩) O.length ocap) O N ⟨t.st + x0, 1 + 2, rsq, 1 + y⟩ wx ∧ ∀ b, b < wr.heap.size → wx.heap[b]? = wr.heap[b]?) (by kernel_rfl) ⟨HG3.out.drew, fun _ _ => rfl⟩ (fun hHeld => ?_)
              clear HG3
              generalize wr.drew = V6 at *
              cases b with
              | true =>
                refine wpAnyH_take (i := 0) (v := (.bool true)) rfl (by kernel_rfl) (by kernel_rfl) (by kernel_rfl) (fun _ _ _ h => h) (Or.inl ⟨by rfl, fun wx hSw => by kernel_rfl⟩) (by assumption) ?_
                simp only [Act.put, List.getElem_toArray, List.getElem_cons_zero, List.setIfInBounds_toArray, List.set_cons_zero, List.set_cons_succ]
                refine wpAnyH_take (i := 1) (v := (.bool true)) rfl (by kernel_rfl) (by kernel_rfl) (by kernel_rfl) (fun _ _ _ h => h) (Or.inl ⟨by rfl, fun wx hSw => by kernel_rfl⟩) (by assumption) ?_
                simp only [Act.put, List.getElem_toArray, List.getElem_cons_succ, List.getElem_cons_zero, List.setIfInBounds_toArray, List.set_cons_zero, List.set_cons_succ]
                refine wpAnyH_take (i := 2) (v := undef) rfl (by kernel_rfl) (by kernel_rfl) (by kernel_rfl) (fun _ _ _ h => h) (Or.inr ⟨by rfl, rfl⟩) (by assumption) ?_
                simp only [Act.put, List.getElem_toArray, List.getElem_cons_succ, List.getElem_cons_zero, List.setIfInBounds_toArray, List.set_cons_zero, List.set_cons_succ]
                refine wpAnyH_take (i := 3) (v := undef) rfl (by kernel_rfl) (by kernel_rfl) (by kernel_rfl) (fun _ _ _ h => h) (Or.inr ⟨by rfl, rfl⟩) (by assumption) ?_
                simp only [Act.put, List.getElem_toArray, List.getElem_cons_succ, List.getElem_cons_zero, List.setIfInBounds_toArray, List.set_cons_zero, List.set_cons_succ]
                refine wpAnyH_take (i := 4) (v := undef) rfl (by kernel_rfl) (by kernel_rfl) (by kernel_rfl) (fun _ _ _ h => h) (Or.inr ⟨by rfl, rfl⟩) (by assumption) ?_
                simp only [Act.put, List.getElem_toArray, List.getElem_cons_succ, List.getElem_cons_zero, List.setIfInBounds_toArray, List.set_cons_zero, List.set_cons_succ]
                refine wpAnyH_take (i := 5) (v := undef) rfl (by kernel_rfl) (by kernel_rfl) (by kernel_rfl) (fun _ _ _ h => h) (Or.inr ⟨by rfl, rfl⟩) (by assumption) ?_
                simp only [Act.put, List.getElem_toArray, List.getElem_cons_succ, List.getElem_cons_zero, List.setIfInBounds_toArray, List.set_cons_zero, List.set_cons_succ]
                refine wpAnyH_take (i := 6) (v := undef) rfl (by kernel_rfl) (by kernel_rfl) (by kernel_rfl) (fun _ _ _ h => h) (Or.inr ⟨by rfl, rfl⟩) (by assumption) ?_
                simp only [Act.put, List.getElem_toArray, List.getElem_cons_succ, List.getElem_cons_zero, List.setIfInBounds_toArray, List.set_cons_zero, List.set_cons_succ]
                refine wpAnyH_take (i := 7) (v := undef) rfl (by kernel_rfl) (by kernel_rfl) (by kernel_rfl) (fun _ _ _ h => h) (Or.inr ⟨by rfl, rfl⟩) (by assumption) ?_
                simp only [Act.put, List.getElem_toArray, List.getElem_cons_succ, List.getElem_cons_zero, List.setIfInBounds_toArray, List.set_cons_zero, List.set_cons_succ]
                refine wpAnyH_take (i := 8) (v := undef) rfl (by kernel_rfl) (by kernel_rfl) (by kernel_rfl) (fun _ _ _ h => h) (Or.inr ⟨by rfl, rfl⟩) (by assumption) ?_
                simp only [Act.put, List.getElem_toArray, List.getElem_cons_succ, List.getElem_cons_zero, List.setIfInBounds_toArray, List.set_cons_zero, List.set_cons_succ]
                refine wpAnyH_take (i := 9) (v := undef) rfl (by kernel_rfl) (by kernel_rfl) (by kernel_rfl) (fun _ _ _ h => h) (Or.inr ⟨by rfl, rfl⟩) (by assumption) ?_
                simp only [Act.put, List.getElem_toArray, List.getElem_cons_succ, List.getElem_cons_zero, List.setIfInBounds_toArray, List.set_cons_zero, List.set_cons_succ]
                refine wpAnyH_take (i := 10) (v := (.bool true)) rfl (by kernel_rfl) (by kernel_rfl) (by kernel_rfl) (fun _ _ _ h => h) (Or.inl ⟨by rfl, fun wx hSw => by ((try dsimp only at hSw); go_simp)⟩) (by assumption) ?_
                simp only [Act.put, List.getElem_toArray, List.getElem_cons_succ, List.getElem_cons_zero, List.setIfInBounds_toArray, List.set_cons_zero, List.set_cons_succ]
                refine wpAnyH_take (i := 11) (v := (.bool true)) rfl (by kernel_rfl) (by kernel_rfl) (by kernel_rfl) (fun _ _ _ h => h) (Or.inl ⟨by rfl, fun wx hSw => by kernel_rfl⟩) (by assumption) ?_
                simp only [Act.put, List.getElem_toArray, List.getElem_cons_succ, List.getElem_cons_zero, List.setIfInBounds_toArray, List.set_cons_zero, List.set_cons_succ]
                have HG6 : Hid (EvGo w t (.slice (some ⟨Ob, o2, none⟩) O.length ocap) O N ⟨t.st + x0, 1 + 2, rsq, 1 + y⟩ V6) := hHeld.1
                refine wpAnyH_done (by kernel_rfl) ?_ _
                clear hHeld HR2 HLs
                go_wp2
                exact ⟨⟨j + 1, true, hjl, rfl, rfl, fun h => (by cases h), HG6.out⟩, by simp [intOf]; omega⟩
              | false =>
                refine wpAnyH_take (i := 0) (v := (.bool false)) rfl (by kernel_rfl) (by kernel_rfl) (by kernel_rfl) (fun _ _ _ h => h) (Or.inl ⟨by rfl, fun wx hSw => by kernel_rfl⟩) (by assumption) ?_
                simp only [Act.put, List.getElem_toArray, List.getElem_cons_zero, List.setIfInBounds_toArray, List.set_cons_zero, List.set_cons_succ]
                refine wpAnyH_take (i := 1) (v := (.bool false)) rfl (by kernel_rfl) (by kernel_rfl) (by kernel_rfl) (fun _ _ _ h => h) (Or.inl ⟨by rfl, fun wx hSw => by kernel_rfl⟩) (by assumption) ?_
                simp only [Act.put, List.getElem_toArray, List.getElem_cons_succ, List.getElem_cons_zero, List.setIfInBounds_toArray, List.set_cons_zero, List.set_cons_succ]
                refine wpAnyH_take (i := 2) (v := (.slice (some ⟨Ob, o2, none⟩) O.length ocap)) rfl (by kernel_rfl) (by kernel_rfl) (by kernel_rfl) (fun _ _ _ h => h) (Or.inl ⟨by rfl, fun wx hSw => by kernel_rfl⟩) (by assumption) ?_
                simp only [Act.put, List.getElem_toArray, List.getElem_cons_succ, List.getElem_cons_zero, List.setIfInBounds_toArray, List.set_cons_zero, List.set_cons_succ]
                refine wpAnyH_take (i := 3) (v := (.int .i64 j)) rfl (by kernel_rfl) (by kernel_rfl) (by kernel_rfl) (fun _ _ _ h => h) (Or.inl ⟨by rfl, fun wx hSw => by kernel_rfl⟩) (by assumption) ?_
                simp only [Act.put, List.getElem_toArray, List.getElem_cons_succ, List.getElem_cons_zero, List.setIfInBounds_toArray, List.set_cons_zero, List.set_cons_succ]
                refine wpAnyH_take (i := 4) (v := (.pointer (some ⟨Ob, o2 + j * 4, none⟩))) rfl (by kernel_rfl) (by kernel_rfl) (by kernel_rfl) (fun _ _ _ h => h) (Or.inl ⟨by rfl, fun wx hSw => by ((try dsimp only at hSw); go_simp)⟩) (by assumption) ?_
                simp only [Act.put, List.getElem_toArray, List.getElem_cons_succ, List.getElem_cons_zero, List.setIfInBounds_toArray, List.set_cons_zero, List.set_cons_succ]
                refine wpAnyH_take (i := 5) (v := (.pointer (some ⟨Ob, o2 + j * 4 + 2, none⟩))) rfl (by kernel_rfl) (by kernel_rfl) (by kernel_rfl) (fun _ _ _ h => h) (Or.inl ⟨by rfl, fun wx hSw => by ((try dsimp only at hSw); go_simp)⟩) (by assumption) ?_
                simp only [Act.put, List.getElem_toArray, List.getElem_cons_succ, List.getElem_cons_zero, List.setIfInBounds_toArray, List.set_cons_zero, List.set_cons_succ]
                refine wpAnyH_take (i := 6) (v := (.int .i64 os)) rfl (by kernel_rfl) (by kernel_rfl) (by kernel_rfl) (fun _ _ _ h => h) (Or.inl ⟨by rfl, fun wx hSw => by (have hc := HR2.out wx hSw.2; go_simp)⟩) (by assumption) ?_
                simp only [Act.put, List.getElem_toArray, List.getElem_cons_succ, List.getElem_cons_zero, List.setIfInBounds_toArray, List.set_cons_zero, List.set_cons_succ]
                refine wpAnyH_take (i := 7) (v := (.pointer (some ⟨N, 2, none⟩))) rfl (by kernel_rfl) (by kernel_rfl) (by kernel_rfl) (fun _ _ _ h => h) (Or.inl ⟨by rfl, fun wx hSw => by ((try dsimp only at hSw); go_simp)⟩) (by assumption) ?_
                simp only [Act.put, List.getElem_toArray, List.getElem_cons_succ, List.getElem_cons_zero, List.setIfInBounds_toArray, List.set_cons_zero, List.set_cons_succ]
                refine wpAnyH_take (i := 8) (v := (.int .i64 rsq)) rfl (by kernel_rfl) (by kernel_rfl) (by kernel_rfl) (fun _ _ _ h => h) (Or.inl ⟨by rfl, fun wx hSw => by (have hc : wx.cell? ⟨N, 2, none⟩ = some (.int .i64 rsq) := hSw.1.at_.cell 2 rfl; go_simp)⟩) (by assumption) ?_
                simp only [Act.put, List.getElem_toArray, List.getElem_cons_succ, List.getElem_cons_zero, List.setIfInBounds_toArray, List.set_cons_zero, List.set_cons_succ]
                refine wpAnyH_take (i := 9) (v := (.bool (os == rsq))) rfl (by kernel_rfl) (by kernel_rfl) (by kernel_rfl) (fun _ _ _ h => h) (Or.inl ⟨by rfl, fun wx hSw => by ((try dsimp only at hSw); go_simp)⟩) (by assumption) ?_
                simp only [Act.put, List.getElem_toArray, List.getElem_cons_succ, List.getElem_cons_zero, List.setIfInBounds_toArray, List.set_cons_zero, List.set_cons_succ]
                refine wpAnyH_take (i := 10) (v := (.bool (os == rsq))) rfl (by kernel_rfl) (by kernel_rfl) (by kernel_rfl) (fun _ _ _ h => h) (Or.inl ⟨by rfl, fun wx hSw => by ((try dsimp only at hSw); go_simp)⟩) (by assumption) ?_
                simp only [Act.put, List.getElem_toArray, List.getElem_cons_succ, List.getElem_cons_zero, List.setIfInBounds_toArray, List.set_cons_zero, List.set_cons_succ]
                refine wpAnyH_take (i := 11) (v := (.bool (os == rsq))) rfl (by kernel_rfl) (by kernel_rfl) (by kernel_rfl) (fun _ _ _ h => h) (Or.inl ⟨by rfl, fun wx hSw => by kernel_rfl⟩) (by assumption) ?_
                simp only [Act.put, List.getElem_toArray, List.getElem_cons_succ, List.getElem_cons_zero, List.setIfInBounds_toArray, List.set_cons_zero, List.set_cons_succ]
                have HG6 : Hid (EvGo w t (.slice (some ⟨Ob, o2, none⟩) O.length ocap) O N ⟨t.st + x0, 1 + 2, rsq, 1 + y⟩ V6) := hHeld.1
                refine wpAnyH_done (by kernel_rfl) ?_ _
                clear hHeld HR2
                obtain ⟨bb, hbb⟩ : ∃ bb, bb = (os == rsq) := ⟨_, rfl⟩
                rw [← hbb]
                have HB' : Hid (bb = (os == rsq)) := hbb
                clear hbb
                go_wp2
                exact ⟨⟨j + 1, bb, hjl, rfl, rfl, fun hbf => HLs.out rfl (HB'.out.symm.trans hbf), HG6.out⟩, by simp [intOf]; omega⟩
            · obtain rfl : j = O.length := by omega
              have zz : ¬ ((O.length : Int) < (O.length : Int)) := by omega
              cases b with
              | true =>
                have HOut : Hid (EvOut w t (.slice op O.length ocap) O wr) := HG3.out.out
                clear HG3 HL
                go_wp2
                exact ⟨⟨k + 1, O, hkl, rfl, HOut.out⟩, by simp [intOf]; omega⟩
              | false =>
                have HLs : Hid (∀ q (hq : q < O.length), ¬ O[q].s = rsq) := fun q hq => HL.out rfl q hq hq
                clear HL
                go_upto_region 20 with fail
                refine wp_region_lit ?_
                refine wpList_val (.slice op O.length ocap) wr rfl rfl ?_
                simp only [Act.put, List.setIfInBounds_toArray, List.set_cons_zero, List.set_cons_succ]
                refine wpList_load_mid rfl 50 (.tmp 7) rfl _ 0 rfl (evl ⟨t.st + x0, 1 + 2, rsq, 1 + y⟩) _ HG3.out.at_.range Tryz.underlying50 rfl (by kernel_rfl) ?_
                simp only [Act.put, List.setIfInBounds_toArray, List.set_cons_zero, List.set_cons_succ]
                have hx : At (wr.alloc (.cells (evl ⟨t.st + x0, 1 + 2, rsq, 1 + y⟩).toArray 50)) wr.heap.size (evl ⟨t.st + x0, 1 + 2, rsq, 1 + y⟩) := At.alloc wr _ _
                have hou : EvOut w t (.slice op O.length ocap) O (wr.alloc (.cells (evl ⟨t.st + x0, 1 + 2, rsq, 1 + y⟩).toArray 50)) := HG3.out.out.keep (S := fun _ => False) (Keep.below ((Below.refl _ _).alloc (Nat.le_refl _) _)) (fun _ _ x => x)
                refine wpList_val (.slice (some ⟨wr.heap.size, 0, none⟩) 1 1) (wr.alloc (.cells (evl ⟨t.st + x0, 1 + 2, rsq, 1 + y⟩).toArray 50)) rfl (by kernel_rfl) ?_
                simp only [Act.put, List.setIfInBounds_toArray, List.set_cons_zero, List.set_cons_succ]
                clear HG3
                generalize wr.alloc (.cells (evl ⟨t.st + x0, 1 + 2, rsq, 1 + y⟩).toArray 50) = V5 at *
                generalize wr.heap.size = N5 at *
                obtain ⟨hi0, hz0, hz1, hz2⟩ := HI.out
                refine wpList_plain rfl fun K hK => ?_
                refine wp_append_at V5 (.tmp 94) (.tmp 96) 42 rfl (w.heap.size + 1) 50 i0 _ 4 32 Tryz.underlying42 hi0 hz0 hz1 hz2 (by rfl) (by omega) (.slice op O.length ocap) O.length (evs O) rfl hou.ow ⟨N5, 0, none⟩ 1 1 (evl ⟨t.st + x0, 1 + 2, rsq, 1 + y⟩) rfl rfl (fun q u hu => ?_) (fun u hu => evs_cell1 [⟨t.st + x0, 1 + 2, rsq, 1 + y⟩] u hu) (by unfold maxLen; omega) (by omega) (Nat.le_trans (At.lt (v := .int .i64 t.st) hou.tm) (Nat.le_refl _)) ?_
                · have := (hx q u hu).1
                  rw [Addr.add_lit, Nat.zero_add]
                  exact this
                · intro v' w' h1 h2 h3
                  refine hK _ _ ?_
                  obtain ⟨g', cap', rfl, _, _⟩ := h1.form (by omega)
                  have HE : Hid (EvOut w t (.slice (some ⟨g', 0, none⟩) (O.length + 1) cap') (O ++ [⟨t.st + x0, 1 + 2, rsq, 1 + y⟩]) w') := by
                    have kk : Keep (fun b => (Value.slice op O.length ocap).ownBlock = some b) V5 w' := ⟨h2.os, h2.tape, h2.output, h2.size, fun b hb hs => h2.block b hb (fun x => hs x.symm)⟩
                    have hgt : ∀ b, (Value.slice op O.length ocap).ownBlock = some b → w.heap.size + 1 ≤ b := fun b hb => (own_base hou.ow hb).1
                    refine ⟨?_, At.keep (v := .int .i64 t.st) hou.tm kk (fun x => by have := hgt _ x; omega), ⟨kk.os.trans hou.bl.os, kk.tape.trans hou.bl.tape, kk.output.trans hou.bl.output, Nat.le_trans hou.bl.size kk.size, fun b hb => (kk.block b (Nat.lt_of_lt_of_le hb hou.bl.size) (fun x => by have := hgt _ x; omega)).trans (hou.bl.block b hb)⟩, by simp; omega, ?_, ?_⟩
                    · rw [List.length_append, So.evs_append]
                      exact h1
                    · intro e he
                      rcases List.mem_append.1 he with he | he
                      · exact hou.ok e he
                      · rw [List.mem_singleton] at he
                        subst he
                        exact HGd.out
                    · refine List.pairwise_append.2 ⟨hou.ds, List.pairwise_singleton _ _, fun x hx y hy => ?_⟩
                      rw [List.mem_singleton] at hy
                      subst hy
                      obtain ⟨q, hq, rfl⟩ := List.getElem_of_mem hx
                      exact HLs.out q hq
                  clear h1 h2 h3 hou hx HLs HGd
                  simp only [Act.put, List.setIfInBounds_toArray, List.set_cons_zero, List.set_cons_succ]
                  go_wp2
                  exact ⟨⟨k + 1, _, hkl, rfl, HE.out⟩, by simp [intOf]; omega⟩
        · have n1 : wc.cell? ⟨N, 1, none⟩ = some (.int .i64 4) := HG.out.at_.cell 1 rfl
          have HGd : Hid (GoodE t ⟨t.st + x0, 1 + 3, rsq, 0⟩) := goodE (by omega) (by omega) (by omega) (by omega) (by simp [fitsB]) w3
          have HG2 : Hid (EvGo w t (.slice op O.length ocap) O N ⟨t.st + x0, 1 + 3, rsq, 0⟩ wc) := HG.out
          clear HG HR
          go_wp2
          clear n1
          go_loopw [8, 9] (fun s8 s9 wr2 => ∃ (j : Nat) (b : Bool), j ≤ O.length ∧ s9 = .int .i64 j ∧ s8 = .bool b ∧ (b = false → ∀ q (hq : q < O.length), q < j → ¬ O[q].s = rsq) ∧ EvGo w t (.slice op O.length ocap) O N ⟨t.st + x0, 1 + 3, rsq, 0⟩ wr2) (fun _ s9 _ => (O.length - intOf s9).toNat)
          case atStart => exact ⟨0, false, Nat.zero_le _, rfl, rfl, fun _ q _ h => absurd h (Nat.not_lt_zero q), HG2.out⟩
          case round =>
            obtain ⟨j, b, hj, rfl, rfl, hlow, hgo⟩ := hrel
            have HL : Hid (b = false → ∀ q (hq : q < O.length), q < j → ¬ O[q].s = rsq) := hlow
            have HG3 : Hid (EvGo w t (.slice op O.length ocap) O N ⟨t.st + x0, 1 + 3, rsq, 0⟩ wr) := hgo
            clear hlow hgo HG2
            by_cases hjl : j < O.length
            · obtain ⟨Ob, hOv, hOw⟩ := evs_evv (own_low HG3.out.out.ow)
              have hOb : (Value.slice op O.length ocap).ownBlock = some Ob := hOw (fun e => by subst e; exact absurd hjl (Nat.not_lt_zero j))
              obtain ⟨p2, cap2, hv2, _, hat2⟩ := hOv
              injection hv2 with e1 _ e3
              subst e1 e3
              obtain ⟨o2, rfl, hOl, hr2⟩ := hat2.range j hjl
              have HR2 : Hid (∀ wx : World, (∀ b, b < wr.heap.size → wx.heap[b]? = wr.heap[b]?) → wx.cell? ⟨Ob, o2 + j * 4 + 2, none⟩ = some (.int .i64 O[j].s)) := fun wx hx => (World.cell?_of_block (w := wr) (a := ⟨Ob, o2 + j * 4 + 2, none⟩) (hx Ob hOl)).trans (hr2 2 _ rfl)
              have HLs : Hid (b = false → (O[j].s == rsq) = false → ∀ q (hq : q < O.length), q < j + 1 → ¬ O[q].s = rsq) := fun hb hs q hq hqj => by
                by_cases z : q = j
                · subst z; simpa using hs
                · exact HL.out hb q hq (by omega)
              clear hat2 hr2 HL hOw
              generalize O[j].s = os at *
              have zj : (j : Int) < (O.length : Int) := by omega
              go_upto_region 18 with fail
              refine wp_region_held_drew (S := fun wx => EvGo w t (.slice (some ⟨Ob, o2, none⟩) O.length ocap) O N ⟨t.st + x0, 1 + 3, rsq, 0⟩ wx ∧ ∀ b, b < wr.heap.size → wx.heap[b]? = wr.heap[b]?) (by kernel_rfl) ⟨HG3.out.drew, fun _ _ => rfl⟩ (fun hHeld => ?_)
              clear HG3
              generalize wr.drew = V6 at *
              cases b with
              | true =>
                refine wpAnyH_take (i := 0) (v := (.bool true)) rfl (by kernel_rfl) (by kernel_rfl) (by kernel_rfl) (fun _ _ _ h => h) (Or.inl ⟨by rfl, fun wx hSw => by kernel_rfl⟩) (by assumption) ?_
                simp only [Act.put, List.getElem_toArray, List.getElem_cons_zero, List.setIfInBounds_toArray, List.set_cons_zero, List.set_cons_succ]
                refine wpAnyH_take (i := 1) (v := (.bool true)) rfl (by kernel_rfl) (by kernel_rfl) (by kernel_rfl) (fun _ _ _ h => h) (Or.inl ⟨by rfl, fun wx hSw => by kernel_rfl⟩) (by assumption) ?_
                simp only [Act.put, List.getElem_toArray, List.getElem_cons_succ, List.getElem_cons_zero, List.setIfInBounds_toArray, List.set_cons_zero, List.set_cons_succ]
                refine wpAnyH_take (i := 2) (v := undef) rfl (by kernel_rfl) (by kernel_rfl) (by kernel_rfl) (fun _ _ _ h => h) (Or.inr ⟨by rfl, rfl⟩) (by assumption) ?_
                simp only [Act.put, List.getElem_toArray, List.getElem_cons_succ, List.getElem_cons_zero, List.setIfInBounds_toArray, List.set_cons_zero, List.set_cons_succ]
                refine wpAnyH_take (i := 3) (v := undef) rfl (by kernel_rfl) (by kernel_rfl) (by kernel_rfl) (fun _ _ _ h => h) (Or.inr ⟨by rfl, rfl⟩) (by assumption) ?_
                simp only [Act.put, List.getElem_toArray, List.getElem_cons_succ, List.getElem_cons_zero, List.setIfInBounds_toArray, List.set_cons_zero, List.set_cons_succ]
                refine wpAnyH_take (i := 4) (v := undef) rfl (by kernel_rfl) (by kernel_rfl) (by kernel_rfl) (fun _ _ _ h => h) (Or.inr ⟨by rfl, rfl⟩) (by assumption) ?_
                simp only [Act.put, List.getElem_toArray, List.getElem_cons_succ, List.getElem_cons_zero, List.setIfInBounds_toArray, List.set_cons_zero, List.set_cons_succ]
                refine wpAnyH_take (i := 5) (v := undef) rfl (by kernel_rfl) (by kernel_rfl) (by kernel_rfl) (fun _ _ _ h => h) (Or.inr ⟨by rfl, rfl⟩) (by assumption) ?_
                simp only [Act.put, List.getElem_toArray, List.getElem_cons_succ, List.getElem_cons_zero, List.setIfInBounds_toArray, List.set_cons_zero, List.set_cons_succ]
                refine wpAnyH_take (i := 6) (v := undef) rfl (by kernel_rfl) (by kernel_rfl) (by kernel_rfl) (fun _ _ _ h => h) (Or.inr ⟨by rfl, rfl⟩) (by assumption) ?_
                simp only [Act.put, List.getElem_toArray, List.getElem_cons_succ, List.getElem_cons_zero, List.setIfInBounds_toArray, List.set_cons_zero, List.set_cons_succ]
                refine wpAnyH_take (i := 7) (v := undef) rfl (by kernel_rfl) (by kernel_rfl) (by kernel_rfl) (fun _ _ _ h => h) (Or.inr ⟨by rfl, rfl⟩) (by assumption) ?_
                simp only [Act.put, List.getElem_toArray, List.getElem_cons_succ, List.getElem_cons_zero, List.setIfInBounds_toArray, List.set_cons_zero, List.set_cons_succ]
                refine wpAnyH_take (i := 8) (v := undef) rfl (by kernel_rfl) (by kernel_rfl) (by kernel_rfl) (fun _ _ _ h => h) (Or.inr ⟨by rfl, rfl⟩) (by assumption) ?_
                simp only [Act.put, List.getElem_toArray, List.getElem_cons_succ, List.getElem_cons_zero, List.setIfInBounds_toArray, List.set_cons_zero, List.set_cons_succ]
                refine wpAnyH_take (i := 9) (v := undef) rfl (by kernel_rfl) (by kernel_rfl) (by kernel_rfl) (fun _ _ _ h => h) (Or.inr ⟨by rfl, rfl⟩) (by assumption) ?_
                simp only [Act.put, List.getElem_toArray, List.getElem_cons_succ, List.getElem_cons_zero, List.setIfInBounds_toArray, List.set_cons_zero, List.set_cons_succ]
                refine wpAnyH_take (i := 10) (v := (.bool true)) rfl (by kernel_rfl) (by kernel_rfl) (by kernel_rfl) (fun _ _ _ h => h) (Or.inl ⟨by rfl, fun wx hSw => by ((try dsimp only at hSw); go_simp)⟩) (by assumption) ?_
                simp only [Act.put, List.getElem_toArray, List.getElem_cons_succ, List.getElem_cons_zero, List.setIfInBounds_toArray, List.set_cons_zero, List.set_cons_succ]
                refine wpAnyH_take (i := 11) (v := (.bool true)) rfl (by kernel_rfl) (by kernel_rfl) (by kernel_rfl) (fun _ _ _ h => h) (Or.inl ⟨by rfl, fun wx hSw => by kernel_rfl⟩) (by assumption) ?_
                simp only [Act.put, List.getElem_toArray, List.getElem_cons_succ, List.getElem_cons_zero, List.setIfInBounds_toArray, List.set_cons_zero, List.set_cons_succ]
                have HG6 : Hid (EvGo w t (.slice (some ⟨Ob, o2, none⟩) O.length ocap) O N ⟨t.st + x0, 1 + 3, rsq, 0⟩ V6) := hHeld.1
                refine wpAnyH_done (by kernel_rfl) ?_ _
                clear hHeld HR2 HLs
                go_wp2
                exact ⟨⟨j + 1, true, hjl, rfl, rfl, fun h => (by cases h), HG6.out⟩, by simp [intOf]; omega⟩
              | false =>
                refine wpAnyH_take (i := 0) (v := (.bool false)) rfl (by kernel_rfl) (by kernel_rfl) (by kernel_rfl) (fun _ _ _ h => h) (Or.inl ⟨by rfl, fun wx hSw => by kernel_rfl⟩) (by assumption) ?_
                simp only [Act.put, List.getElem_toArray, List.getElem_cons_zero, List.setIfInBounds_toArray, List.set_cons_zero, List.set_cons_succ]
                refine wpAnyH_take (i := 1) (v := (.bool false)) rfl (by kernel_rfl) (by kernel_rfl) (by kernel_rfl) (fun _ _ _ h => h) (Or.inl ⟨by rfl, fun wx hSw => by kernel_rfl⟩) (by assumption) ?_
                simp only [Act.put, List.getElem_toArray, List.getElem_cons_succ, List.getElem_cons_zero, List.setIfInBounds_toArray, List.set_cons_zero, List.set_cons_succ]
                refine wpAnyH_take (i := 2) (v := (.slice (some ⟨Ob, o2, none⟩) O.length ocap)) rfl (by kernel_rfl) (by kernel_rfl) (by kernel_rfl) (fun _ _ _ h => h) (Or.inl ⟨by rfl, fun wx hSw => by kernel_rfl⟩) (by assumption) ?_
                simp only [Act.put, List.getElem_toArray, List.getElem_cons_succ, List.getElem_cons_zero, List.setIfInBounds_toArray, List.set_cons_zero, List.set_cons_succ]
                refine wpAnyH_take (i := 3) (v := (.int .i64 j)) rfl (by kernel_rfl) (by kernel_rfl) (by kernel_rfl) (fun _ _ _ h => h) (Or.inl ⟨by rfl, fun wx hSw => by kernel_rfl⟩) (by assumption) ?_
                simp only [Act.put, List.getElem_toArray, List.getElem_cons_succ, List.getElem_cons_zero, List.setIfInBounds_toArray, List.set_cons_zero, List.set_cons_succ]
                refine wpAnyH_take (i := 4) (v := (.pointer (some ⟨Ob, o2 + j * 4, none⟩))) rfl (by kernel_rfl) (by kernel_rfl) (by kernel_rfl) (fun _ _ _ h => h) (Or.inl ⟨by rfl, fun wx hSw => by ((try dsimp only at hSw); go_simp)⟩) (by assumption) ?_
                simp only [Act.put, List.getElem_toArray, List.getElem_cons_succ, List.getElem_cons_zero, List.setIfInBounds_toArray, List.set_cons_zero, List.set_cons_succ]
                refine wpAnyH_take (i := 5) (v := (.pointer (some ⟨Ob, o2 + j * 4 + 2, none⟩))) rfl (by kernel_rfl) (by kernel_rfl) (by kernel_rfl) (fun _ _ _ h => h) (Or.inl ⟨by rfl, fun wx hSw => by ((try dsimp only at hSw); go_simp)⟩) (by assumption) ?_
                simp only [Act.put, List.getElem_toArray, List.getElem_cons_succ, List.getElem_cons_zero, List.setIfInBounds_toArray, List.set_cons_zero, List.set_cons_succ]
                refine wpAnyH_take (i := 6) (v := (.int .i64 os)) rfl (by kernel_rfl) (by kernel_rfl) (by kernel_rfl) (fun _ _ _ h => h) (Or.inl ⟨by rfl, fun wx hSw => by (have hc := HR2.out wx hSw.2; go_simp)⟩) (by assumption) ?_
                simp only [Act.put, List.getElem_toArray, List.getElem_cons_succ, List.getElem_cons_zero, List.setIfInBounds_toArray, List.set_cons_zero, List.set_cons_succ]
                refine wpAnyH_take (i := 7) (v := (.pointer (some ⟨N, 2, none⟩))) rfl (by kernel_rfl) (by kernel_rfl) (by kernel_rfl) (fun _ _ _ h => h) (Or.inl ⟨by rfl, fun wx hSw => by ((try dsimp only at hSw); go_simp)⟩) (by assumption) ?_
                simp only [Act.put, List.getElem_toArray, List.getElem_cons_succ, List.getElem_cons_zero, List.setIfInBounds_toArray, List.set_cons_zero, List.set_cons_succ]
                refine wpAnyH_take (i := 8) (v := (.int .i64 rsq)) rfl (by kernel_rfl) (by kernel_rfl) (by kernel_rfl) (fun _ _ _ h => h) (Or.inl ⟨by rfl, fun wx hSw => by (have hc : wx.cell? ⟨N, 2, none⟩ = some (.int .i64 rsq) := hSw.1.at_.cell 2 rfl; go_simp)⟩) (by assumption) ?_
                simp only [Act.put, List.getElem_toArray, List.getElem_cons_succ, List.getElem_cons_zero, List.setIfInBounds_toArray, List.set_cons_zero, List.set_cons_succ]
                refine wpAnyH_take (i := 9) (v := (.bool (os == rsq))) rfl (by kernel_rfl) (by kernel_rfl) (by kernel_rfl) (fun _ _ _ h => h) (Or.inl ⟨by rfl, fun wx hSw => by ((try dsimp only at hSw); go_simp)⟩) (by assumption) ?_
                simp only [Act.put, List.getElem_toArray, List.getElem_cons_succ, List.getElem_cons_zero, List.setIfInBounds_toArray, List.set_cons_zero, List.set_cons_succ]
                refine wpAnyH_take (i := 10) (v := (.bool (os == rsq))) rfl (by kernel_rfl) (by kernel_rfl) (by kernel_rfl) (fun _ _ _ h => h) (Or.inl ⟨by rfl, fun wx hSw => by ((try dsimp only at hSw); go_simp)⟩) (by assumption) ?_
                simp only [Act.put, List.getElem_toArray, List.getElem_cons_succ, List.getElem_cons_zero, List.setIfInBounds_toArray, List.set_cons_zero, List.set_cons_succ]
                refine wpAnyH_take (i := 11) (v := (.bool (os == rsq))) rfl (by kernel_rfl) (by kernel_rfl) (by kernel_rfl) (fun _ _ _ h => h) (Or.inl ⟨by rfl, fun wx hSw => by kernel_rfl⟩) (by assumption) ?_
                simp only [Act.put, List.getElem_toArray, List.getElem_cons_succ, List.getElem_cons_zero, List.setIfInBounds_toArray, List.set_cons_zero, List.set_cons_succ]
                have HG6 : Hid (EvGo w t (.slice (some ⟨Ob, o2, none⟩) O.length ocap) O N ⟨t.st + x0, 1 + 3, rsq, 0⟩ V6) := hHeld.1
                refine wpAnyH_done (by kernel_rfl) ?_ _
                clear hHeld HR2
                obtain ⟨bb, hbb⟩ : ∃ bb, bb = (os == rsq) := ⟨_, rfl⟩
                rw [← hbb]
                have HB' : Hid (bb = (os == rsq)) := hbb
                clear hbb
                go_wp2
                exact ⟨⟨j + 1, bb, hjl, rfl, rfl, fun hbf => HLs.out rfl (HB'.out.symm.trans hbf), HG6.out⟩, by simp [intOf]; omega⟩
            · obtain rfl : j = O.length := by omega
              have zz : ¬ ((O.length : Int) < (O.length : Int)) := by omega
              cases b with
              | true =>
                have HOut : Hid (EvOut w t (.slice op O.length ocap) O wr) := HG3.out.out
                clear HG3 HL
                go_wp2
                exact ⟨⟨k + 1, O, hkl, rfl, HOut.out⟩, by simp [intOf]; omega⟩
              | false =>
                have HLs : Hid (∀ q (hq : q < O.length), ¬ O[q].s = rsq) := fun q hq => HL.out rfl q hq hq
                clear HL
                go_upto_region 20 with fail
                refine wp_region_lit ?_
                refine wpList_val (.slice op O.length ocap) wr rfl rfl ?_
                simp only [Act.put, List.setIfInBounds_toArray, List.set_cons_zero, List.set_cons_succ]
                refine wpList_load_mid rfl 50 (.tmp 7) rfl _ 0 rfl (evl ⟨t.st + x0, 1 + 3, rsq, 0⟩) _ HG3.out.at_.range Tryz.underlying50 rfl (by kernel_rfl) ?_
                simp only [Act.put, List.setIfInBounds_toArray, List.set_cons_zero, List.set_cons_succ]
                have hx : At (wr.alloc (.cells (evl ⟨t.st + x0, 1 + 3, rsq, 0⟩).toArray 50)) wr.heap.size (evl ⟨t.st + x0, 1 + 3, rsq, 0⟩) := At.alloc wr _ _
                have hou : EvOut w t (.slice op O.length ocap) O (wr.alloc (.cells (evl ⟨t.st + x0, 1 + 3, rsq, 0⟩).toArray 50)) := HG3.out.out.keep (S := fun _ => False) (Keep.below ((Below.refl _ _).alloc (Nat.le_refl _) _)) (fun _ _ x => x)
                refine wpList_val (.slice (some ⟨wr.heap.size, 0, none⟩) 1 1) (wr.alloc (.cells (evl ⟨t.st + x0, 1 + 3, rsq, 0⟩).toArray 50)) rfl (by kernel_rfl) ?_
                simp only [Act.put, List.setIfInBounds_toArray, List.set_cons_zero, List.set_cons_succ]
                clear HG3
                generalize wr.alloc (.cells (evl ⟨t.st + x0, 1 + 3, rsq, 0⟩).toArray 50) = V5 at *
                generalize wr.heap.size = N5 at *
                obtain ⟨hi0, hz0, hz1, hz2⟩ := HI.out
                refine wpList_plain rfl fun K hK => ?_
                refine wp_append_at V5 (.tmp 94) (.tmp 96) 42 rfl (w.heap.size + 1) 50 i0 _ 4 32 Tryz.underlying42 hi0 hz0 hz1 hz2 (by rfl) (by omega) (.slice op O.length ocap) O.length (evs O) rfl hou.ow ⟨N5, 0, none⟩ 1 1 (evl ⟨t.st + x0, 1 + 3, rsq, 0⟩) rfl rfl (fun q u hu => ?_) (fun u hu => evs_cell1 [⟨t.st + x0, 1 + 3, rsq, 0⟩] u hu) (by unfold maxLen; omega) (by omega) (Nat.le_trans (At.lt (v := .int .i64 t.st) hou.tm) (Nat.le_refl _)) ?_
                · have := (hx q u hu).1
                  rw [Addr.add_lit, Nat.zero_add]
                  exact this
                · intro v' w' h1 h2 h3
                  refine hK _ _ ?_
                  obtain ⟨g', cap', rfl, _, _⟩ := h1.form (by omega)
                  have HE : Hid (EvOut w t (.slice (some ⟨g', 0, none⟩) (O.length + 1) cap') (O ++ [⟨t.st + x0, 1 + 3, rsq, 0⟩]) w') := by
                    have kk : Keep (fun b => (Value.slice op O.length ocap).ownBlock = some b) V5 w' := ⟨h2.os, h2.tape, h2.output, h2.size, fun b hb hs => h2.block b hb (fun x => hs x.symm)⟩
                    have hgt : ∀ b, (Value.slice op O.length ocap).ownBlock = some b → w.heap.size + 1 ≤ b := fun b hb => (own_base hou.ow hb).1
                    refine ⟨?_, At.keep (v := .int .i64 t.st) hou.tm kk (fun x => by have := hgt _ x; omega), ⟨kk.os.trans hou.bl.os, kk.tape.trans hou.bl.tape, kk.output.trans hou.bl.output, Nat.le_trans hou.bl.size kk.size, fun b hb => (kk.block b (Nat.lt_of_lt_of_le hb hou.bl.size) (fun x => by have := hgt _ x; omega)).trans (hou.bl.block b hb)⟩, by simp; omega, ?_, ?_⟩
                    · rw [List.length_append, So.evs_append]
                      exact h1
                    · intro e he
                      rcases List.mem_append.1 he with he | he
                      · exact hou.ok e he
                      · rw [List.mem_singleton] at he
                        subst he
                        exact HGd.out
                    · refine List.pairwise_append.2 ⟨hou.ds, List.pairwise_singleton _ _, fun x hx y hy => ?_⟩
                      rw [List.mem_singleton] at hy
                      subst hy
                      obtain ⟨q, hq, rfl⟩ := List.getElem_of_mem hx
                      exact HLs.out q hq
                  clear h1 h2 h3 hou hx HLs HGd
                  simp only [Act.put, List.setIfInBounds_toArray, List.set_cons_zero, List.set_cons_succ]
                  go_wp2
                  exact ⟨⟨k + 1, _, hkl, rfl, HE.out⟩, by simp [intOf]; omega⟩
        · obtain ⟨y, ya, yb, hy⟩ := pick_all ra 100000000000 w4 (by decide) (by decide)
          have hyW := hy wc
          have n1 : wc.cell? ⟨N, 1, none⟩ = some (.int .i64 5) := HG.out.at_.cell 1 rfl
          have c3 : wc.cell? ⟨Eb, o + k * 4 + 3, none⟩ = some (.int .i64 ra) := HR.out wc HG.out.out.bl 3 _ rfl
          have n3 : wc.cell? ⟨N, 3, none⟩ = some (.int .i64 0) := HG.out.at_.cell 3 rfl
          have f3 : wc.frozen? ⟨N, 3, none⟩ = false := HG.out.at_.free 3 rfl
          have HGd : Hid (GoodE t ⟨t.st + x0, 1 + 4, rsq, 1 + y⟩) := goodE (by omega) (by omega) (by omega) (by omega) (by simp [fitsB]; omega) w3
          have HG2 : Hid (EvGo w t (.slice op O.length ocap) O N ⟨t.st + x0, 1 + 4, rsq, 1 + y⟩ (wc.setCell ⟨N, 3, none⟩ (.int .i64 (1 + y)))) := HG.out.set (1 + y)
          clear HG HR hy
          go_wp2_with fail
          refine hyW.mono ?_
          rintro e w' ⟨rfl, hw'⟩
          obtain rfl := hw'.symm
          clear hyW
          go_wp2
          clear n1 c3 n3 f3
          generalize wc.setCell ⟨N, 3, none⟩ (.int .i64 (1 + y)) = wd at *
          go_loopw [8, 9] (fun s8 s9 wr2 => ∃ (j : Nat) (b : Bool), j ≤ O.length ∧ s9 = .int .i64 j ∧ s8 = .bool b ∧ (b = false → ∀ q (hq : q < O.length), q < j → ¬ O[q].s = rsq) ∧ EvGo w t (.slice op O.length ocap) O N ⟨t.st + x0, 1 + 4, rsq, 1 + y⟩ wr2) (fun _ s9 _ => (O.length - intOf s9).toNat)
          case atStart => exact ⟨0, false, Nat.zero_le _, rfl, rfl, fun _ q _ h => absurd h (Nat.not_lt_zero q), HG2.out⟩
          case round =>
            obtain ⟨j, b, hj, rfl, rfl, hlow, hgo⟩ := hrel
            have HL : Hid (b = false → ∀ q (hq : q < O.length), q < j → ¬ O[q].s = rsq) := hlow
            have HG3 : Hid (EvGo w t (.slice op O.length ocap) O N ⟨t.st + x0, 1 + 4, rsq, 1 + y⟩ wr) := hgo
            clear hlow hgo HG2
            by_cases hjl : j < O.length
            · obtain ⟨Ob, hOv, hOw⟩ := evs_evv (own_low HG3.out.out.ow)
              have hOb : (Value.slice op O.length ocap).ownBlock = some Ob := hOw (fun e => by subst e; exact absurd hjl (Nat.not_lt_zero j))
              obtain ⟨p2, cap2, hv2, _, hat2⟩ := hOv
              injection hv2 with e1 _ e3
              subst e1 e3
              obtain ⟨o2, rfl, hOl, hr2⟩ := hat2.range j hjl
              have HR2 : Hid (∀ wx : World, (∀ b, b < wr.heap.size → wx.heap[b]? = wr.heap[b]?) → wx.cell? ⟨Ob, o2 + j * 4 + 2, none⟩ = some (.int .i64 O[j].s)) := fun wx hx => (World.cell?_of_block (w := wr) (a := ⟨Ob, o2 + j * 4 + 2, none⟩) (hx Ob hOl)).trans (hr2 2 _ rfl)
              have HLs : Hid (b = false → (O[j].s == rsq) = false → ∀ q (hq : q < O.length), q < j + 1 → ¬ O[q].s = rsq) := fun hb hs q hq hqj => by
                by_cases z : q = j
                · subst z; simpa using hs
                · exact HL.out hb q hq (by omega)
              clear hat2 hr2 HL hOw
              generalize O[j].s = os at *
              have zj : (j : Int) < (O.length : Int) := by omega
              go_upto_region 18 with fail
              refine wp_region_held_drew (S := fun wx => EvGo w t (.slice (some ⟨Ob, o2, none⟩) O.length ocap) O N ⟨t.st + x0, 1 + 4, rsq, 1 + y⟩ wx ∧ ∀ b, b < wr.heap.size → wx.heap[b]? = wr.heap[b]?) (by kernel_rfl) ⟨HG3.out.drew, fun _ _ => rfl⟩ (fun hHeld => ?_)
              clear HG3
              generalize wr.drew = V6 at *
              cases b with
              | true =>
                refine wpAnyH_take (i := 0) (v := (.bool true)) rfl (by kernel_rfl) (by kernel_rfl) (by kernel_rfl) (fun _ _ _ h => h) (Or.inl ⟨by rfl, fun wx hSw => by kernel_rfl⟩) (by assumption) ?_
                simp only [Act.put, List.getElem_toArray, List.getElem_cons_zero, List.setIfInBounds_toArray, List.set_cons_zero, List.set_cons_succ]
                refine wpAnyH_take (i := 1) (v := (.bool true)) rfl (by kernel_rfl) (by kernel_rfl) (by kernel_rfl) (fun _ _ _ h => h) (Or.inl ⟨by rfl, fun wx hSw => by kernel_rfl⟩) (by assumption) ?_
                simp only [Act.put, List.getElem_toArray, List.getElem_cons_succ, List.getElem_cons_zero, List.setIfInBounds_toArray, List.set_cons_zero, List.set_cons_succ]
                refine wpAnyH_take (i := 2) (v := undef) rfl (by kernel_rfl) (by kernel_rfl) (by kernel_rfl) (fun _ _ _ h => h) (Or.inr ⟨by rfl, rfl⟩) (by assumption) ?_
                simp only [Act.put, List.getElem_toArray, List.getElem_cons_succ, List.getElem_cons_zero, List.setIfInBounds_toArray, List.set_cons_zero, List.set_cons_succ]
                refine wpAnyH_take (i := 3) (v := undef) rfl (by kernel_rfl) (by kernel_rfl) (by kernel_rfl) (fun _ _ _ h => h) (Or.inr ⟨by rfl, rfl⟩) (by assumption) ?_
                simp only [Act.put, List.getElem_toArray, List.getElem_cons_succ, List.getElem_cons_zero, List.setIfInBounds_toArray, List.set_cons_zero, List.set_cons_succ]
                refine wpAnyH_take (i := 4) (v := undef) rfl (by kernel_rfl) (by kernel_rfl) (by kernel_rfl) (fun _ _ _ h => h) (Or.inr ⟨by rfl, rfl⟩) (by assumption) ?_
                simp only [Act.put, List.getElem_toArray, List.getElem_cons_succ, List.getElem_cons_zero, List.setIfInBounds_toArray, List.set_cons_zero, List.set_cons_succ]
                refine wpAnyH_take (i := 5) (v := undef) rfl (by kernel_rfl) (by kernel_rfl) (by kernel_rfl) (fun _ _ _ h => h) (Or.inr ⟨by rfl, rfl⟩) (by assumption) ?_
                simp only [Act.put, List.getElem_toArray, List.getElem_cons_succ, List.getElem_cons_zero, List.setIfInBounds_toArray, List.set_cons_zero, List.set_cons_succ]
                refine wpAnyH_take (i := 6) (v := undef) rfl (by kernel_rfl) (by kernel_rfl) (by kernel_rfl) (fun _ _ _ h => h) (Or.inr ⟨by rfl, rfl⟩) (by assumption) ?_
                simp only [Act.put, List.getElem_toArray, List.getElem_cons_succ, List.getElem_cons_zero, List.setIfInBounds_toArray, List.set_cons_zero, List.set_cons_succ]
                refine wpAnyH_take (i := 7) (v := undef) rfl (by kernel_rfl) (by kernel_rfl) (by kernel_rfl) (fun _ _ _ h => h) (Or.inr ⟨by rfl, rfl⟩) (by assumption) ?_
                simp only [Act.put, List.getElem_toArray, List.getElem_cons_succ, List.getElem_cons_zero, List.setIfInBounds_toArray, List.set_cons_zero, List.set_cons_succ]
                refine wpAnyH_take (i := 8) (v := undef) rfl (by kernel_rfl) (by kernel_rfl) (by kernel_rfl) (fun _ _ _ h => h) (Or.inr ⟨by rfl, rfl⟩) (by assumption) ?_
                simp only [Act.put, List.getElem_toArray, List.getElem_cons_succ, List.getElem_cons_zero, List.setIfInBounds_toArray, List.set_cons_zero, List.set_cons_succ]
                refine wpAnyH_take (i := 9) (v := undef) rfl (by kernel_rfl) (by kernel_rfl) (by kernel_rfl) (fun _ _ _ h => h) (Or.inr ⟨by rfl, rfl⟩) (by assumption) ?_
                simp only [Act.put, List.getElem_toArray, List.getElem_cons_succ, List.getElem_cons_zero, List.setIfInBounds_toArray, List.set_cons_zero, List.set_cons_succ]
                refine wpAnyH_take (i := 10) (v := (.bool true)) rfl (by kernel_rfl) (by kernel_rfl) (by kernel_rfl) (fun _ _ _ h => h) (Or.inl ⟨by rfl, fun wx hSw => by ((try dsimp only at hSw); go_simp)⟩) (by assumption) ?_
                simp only [Act.put, List.getElem_toArray, List.getElem_cons_succ, List.getElem_cons_zero, List.setIfInBounds_toArray, List.set_cons_zero, List.set_cons_succ]
                refine wpAnyH_take (i := 11) (v := (.bool true)) rfl (by kernel_rfl) (by kernel_rfl) (by kernel_rfl) (fun _ _ _ h => h) (Or.inl ⟨by rfl, fun wx hSw => by kernel_rfl⟩) (by assumption) ?_
                simp only [Act.put, List.getElem_toArray, List.getElem_cons_succ, List.getElem_cons_zero, List.setIfInBounds_toArray, List.set_cons_zero, List.set_cons_succ]
                have HG6 : Hid (EvGo w t (.slice (some ⟨Ob, o2, none⟩) O.length ocap) O N ⟨t.st + x0, 1 + 4, rsq, 1 + y⟩ V6) := hHeld.1
                refine wpAnyH_done (by kernel_rfl) ?_ _
                clear hHeld HR2 HLs
                go_wp2
                exact ⟨⟨j + 1, true, hjl, rfl, rfl, fun h => (by cases h), HG6.out⟩, by simp [intOf]; omega⟩
              | false =>
                refine wpAnyH_take (i := 0) (v := (.bool false)) rfl (by kernel_rfl) (by kernel_rfl) (by kernel_rfl) (fun _ _ _ h => h) (Or.inl ⟨by rfl, fun wx hSw => by kernel_rfl⟩) (by assumption) ?_
                simp only [Act.put, List.getElem_toArray, List.getElem_cons_zero, List.setIfInBounds_toArray, List.set_cons_zero, List.set_cons_succ]
                refine wpAnyH_take (i := 1) (v := (.bool false)) rfl (by kernel_rfl) (by kernel_rfl) (by kernel_rfl) (fun _ _ _ h => h) (Or.inl ⟨by rfl, fun wx hSw => by kernel_rfl⟩) (by assumption) ?_
                simp only [Act.put, List.getElem_toArray, List.getElem_cons_succ, List.getElem_cons_zero, List.setIfInBounds_toArray, List.set_cons_zero, List.set_cons_succ]
                refine wpAnyH_take (i := 2) (v := (.slice (some ⟨Ob, o2, none⟩) O.length ocap)) rfl (by kernel_rfl) (by kernel_rfl) (by kernel_rfl) (fun _ _ _ h => h) (Or.inl ⟨by rfl, fun wx hSw => by kernel_rfl⟩) (by assumption) ?_
                simp only [Act.put, List.getElem_toArray, List.getElem_cons_succ, List.getElem_cons_zero, List.setIfInBounds_toArray, List.set_cons_zero, List.set_cons_succ]
                refine wpAnyH_take (i := 3) (v := (.int .i64 j)) rfl (by kernel_rfl) (by kernel_rfl) (by kernel_rfl) (fun _ _ _ h => h) (Or.inl ⟨by rfl, fun wx hSw => by kernel_rfl⟩) (by assumption) ?_
                simp only [Act.put, List.getElem_toArray, List.getElem_cons_succ, List.getElem_cons_zero, List.setIfInBounds_toArray, List.set_cons_zero, List.set_cons_succ]
                refine wpAnyH_take (i := 4) (v := (.pointer (some ⟨Ob, o2 + j * 4, none⟩))) rfl (by kernel_rfl) (by kernel_rfl) (by kernel_rfl) (fun _ _ _ h => h) (Or.inl ⟨by rfl, fun wx hSw => by ((try dsimp only at hSw); go_simp)⟩) (by assumption) ?_
                simp only [Act.put, List.getElem_toArray, List.getElem_cons_succ, List.getElem_cons_zero, List.setIfInBounds_toArray, List.set_cons_zero, List.set_cons_succ]
                refine wpAnyH_take (i := 5) (v := (.pointer (some ⟨Ob, o2 + j * 4 + 2, none⟩))) rfl (by kernel_rfl) (by kernel_rfl) (by kernel_rfl) (fun _ _ _ h => h) (Or.inl ⟨by rfl, fun wx hSw => by ((try dsimp only at hSw); go_simp)⟩) (by assumption) ?_
                simp only [Act.put, List.getElem_toArray, List.getElem_cons_succ, List.getElem_cons_zero, List.setIfInBounds_toArray, List.set_cons_zero, List.set_cons_succ]
                refine wpAnyH_take (i := 6) (v := (.int .i64 os)) rfl (by kernel_rfl) (by kernel_rfl) (by kernel_rfl) (fun _ _ _ h => h) (Or.inl ⟨by rfl, fun wx hSw => by (have hc := HR2.out wx hSw.2; go_simp)⟩) (by assumption) ?_
                simp only [Act.put, List.getElem_toArray, List.getElem_cons_succ, List.getElem_cons_zero, List.setIfInBounds_toArray, List.set_cons_zero, List.set_cons_succ]
                refine wpAnyH_take (i := 7) (v := (.pointer (some ⟨N, 2, none⟩))) rfl (by kernel_rfl) (by kernel_rfl) (by kernel_rfl) (fun _ _ _ h => h) (Or.inl ⟨by rfl, fun wx hSw => by ((try dsimp only at hSw); go_simp)⟩) (by assumption) ?_
                simp only [Act.put, List.getElem_toArray, List.getElem_cons_succ, List.getElem_cons_zero, List.setIfInBounds_toArray, List.set_cons_zero, List.set_cons_succ]
                refine wpAnyH_take (i := 8) (v := (.int .i64 rsq)) rfl (by kernel_rfl) (by kernel_rfl) (by kernel_rfl) (fun _ _ _ h => h) (Or.inl ⟨by rfl, fun wx hSw => by (have hc : wx.cell? ⟨N, 2, none⟩ = some (.int .i64 rsq) := hSw.1.at_.cell 2 rfl; go_simp)⟩) (by assumption) ?_
                simp only [Act.put, List.getElem_toArray, List.getElem_cons_succ, List.getElem_cons_zero, List.setIfInBounds_toArray, List.set_cons_zero, List.set_cons_succ]
                refine wpAnyH_take (i := 9) (v := (.bool (os == rsq))) rfl (by kernel_rfl) (by kernel_rfl) (by kernel_rfl) (fun _ _ _ h => h) (Or.inl ⟨by rfl, fun wx hSw => by ((try dsimp only at hSw); go_simp)⟩) (by assumption) ?_
                simp only [Act.put, List.getElem_toArray, List.getElem_cons_succ, List.getElem_cons_zero, List.setIfInBounds_toArray, List.set_cons_zero, List.set_cons_succ]
                refine wpAnyH_take (i := 10) (v := (.bool (os == rsq))) rfl (by kernel_rfl) (by kernel_rfl) (by kernel_rfl) (fun _ _ _ h => h) (Or.inl ⟨by rfl, fun wx hSw => by ((try dsimp only at hSw); go_simp)⟩) (by assumption) ?_
                simp only [Act.put, List.getElem_toArray, List.getElem_cons_succ, List.getElem_cons_zero, List.setIfInBounds_toArray, List.set_cons_zero, List.set_cons_succ]
                refine wpAnyH_take (i := 11) (v := (.bool (os == rsq))) rfl (by kernel_rfl) (by kernel_rfl) (by kernel_rfl) (fun _ _ _ h => h) (Or.inl ⟨by rfl, fun wx hSw => by kernel_rfl⟩) (by assumption) ?_
                simp only [Act.put, List.getElem_toArray, List.getElem_cons_succ, List.getElem_cons_zero, List.setIfInBounds_toArray, List.set_cons_zero, List.set_cons_succ]
                have HG6 : Hid (EvGo w t (.slice (some ⟨Ob, o2, none⟩) O.length ocap) O N ⟨t.st + x0, 1 + 4, rsq, 1 + y⟩ V6) := hHeld.1
                refine wpAnyH_done (by kernel_rfl) ?_ _
                clear hHeld HR2
                obtain ⟨bb, hbb⟩ : ∃ bb, bb = (os == rsq) := ⟨_, rfl⟩
                rw [← hbb]
                have HB' : Hid (bb = (os == rsq)) := hbb
                clear hbb
                go_wp2
                exact ⟨⟨j + 1, bb, hjl, rfl, rfl, fun hbf => HLs.out rfl (HB'.out.symm.trans hbf), HG6.out⟩, by simp [intOf]; omega⟩
            · obtain rfl : j = O.length := by omega
              have zz : ¬ ((O.length : Int) < (O.length : Int)) := by omega
              cases b with
              | true =>
                have HOut : Hid (EvOut w t (.slice op O.length ocap) O wr) := HG3.out.out
                clear HG3 HL
                go_wp2
                exact ⟨⟨k + 1, O, hkl, rfl, HOut.out⟩, by simp [intOf]; omega⟩
              | false =>
                have HLs : Hid (∀ q (hq : q < O.length), ¬ O[q].s = rsq) := fun q hq => HL.out rfl q hq hq
                clear HL
                go_upto_region 20 with fail
                refine wp_region_lit ?_
                refine wpList_val (.slice op O.length ocap) wr rfl rfl ?_
                simp only [Act.put, List.setIfInBounds_toArray, List.set_cons_zero, List.set_cons_succ]
                refine wpList_load_mid rfl 50 (.tmp 7) rfl _ 0 rfl (evl ⟨t.st + x0, 1 + 4, rsq, 1 + y⟩) _ HG3.out.at_.range Tryz.underlying50 rfl (by kernel_rfl) ?_
                simp only [Act.put, List.setIfInBounds_toArray, List.set_cons_zero, List.set_cons_succ]
                have hx : At (wr.alloc (.cells (evl ⟨t.st + x0, 1 + 4, rsq, 1 + y⟩).toArray 50)) wr.heap.size (evl ⟨t.st + x0, 1 + 4, rsq, 1 + y⟩) := At.alloc wr _ _
                have hou : EvOut w t (.slice op O.length ocap) O (wr.alloc (.cells (evl ⟨t.st + x0, 1 + 4, rsq, 1 + y⟩).toArray 50)) := HG3.out.out.keep (S := fun _ => False) (Keep.below ((Below.refl _ _).alloc (Nat.le_refl _) _)) (fun _ _ x => x)
                refine wpList_val (.slice (some ⟨wr.heap.size, 0, none⟩) 1 1) (wr.alloc (.cells (evl ⟨t.st + x0, 1 + 4, rsq, 1 + y⟩).toArray 50)) rfl (by kernel_rfl) ?_
                simp only [Act.put, List.setIfInBounds_toArray, List.set_cons_zero, List.set_cons_succ]
                clear HG3
                generalize wr.alloc (.cells (evl ⟨t.st + x0, 1 + 4, rsq, 1 + y⟩).toArray 50) = V5 at *
                generalize wr.heap.size = N5 at *
                obtain ⟨hi0, hz0, hz1, hz2⟩ := HI.out
                refine wpList_plain rfl fun K hK => ?_
                refine wp_append_at V5 (.tmp 94) (.tmp 96) 42 rfl (w.heap.size + 1) 50 i0 _ 4 32 Tryz.underlying42 hi0 hz0 hz1 hz2 (by rfl) (by omega) (.slice op O.length ocap) O.length (evs O) rfl hou.ow ⟨N5, 0, none⟩ 1 1 (evl ⟨t.st + x0, 1 + 4, rsq, 1 + y⟩) rfl rfl (fun q u hu => ?_) (fun u hu => evs_cell1 [⟨t.st + x0, 1 + 4, rsq, 1 + y⟩] u hu) (by unfold maxLen; omega) (by omega) (Nat.le_trans (At.lt (v := .int .i64 t.st) hou.tm) (Nat.le_refl _)) ?_
                · have := (hx q u hu).1
                  rw [Addr.add_lit, Nat.zero_add]
                  exact this
                · intro v' w' h1 h2 h3
                  refine hK _ _ ?_
                  obtain ⟨g', cap', rfl, _, _⟩ := h1.form (by omega)
                  have HE : Hid (EvOut w t (.slice (some ⟨g', 0, none⟩) (O.length + 1) cap') (O ++ [⟨t.st + x0, 1 + 4, rsq, 1 + y⟩]) w') := by
                    have kk : Keep (fun b => (Value.slice op O.length ocap).ownBlock = some b) V5 w' := ⟨h2.os, h2.tape, h2.output, h2.size, fun b hb hs => h2.block b hb (fun x => hs x.symm)⟩
                    have hgt : ∀ b, (Value.slice op O.length ocap).ownBlock = some b → w.heap.size + 1 ≤ b := fun b hb => (own_base hou.ow hb).1
                    refine ⟨?_, At.keep (v := .int .i64 t.st) hou.tm kk (fun x => by have := hgt _ x; omega), ⟨kk.os.trans hou.bl.os, kk.tape.trans hou.bl.tape, kk.output.trans hou.bl.output, Nat.le_trans hou.bl.size kk.size, fun b hb => (kk.block b (Nat.lt_of_lt_of_le hb hou.bl.size) (fun x => by have := hgt _ x; omega)).trans (hou.bl.block b hb)⟩, by simp; omega, ?_, ?_⟩
                    · rw [List.length_append, So.evs_append]
                      exact h1
                    · intro e he
                      rcases List.mem_append.1 he with he | he
                      · exact hou.ok e he
                      · rw [List.mem_singleton] at he
                        subst he
                        exact HGd.out
                    · refine List.pairwise_append.2 ⟨hou.ds, List.pairwise_singleton _ _, fun x hx y hy => ?_⟩
                      rw [List.mem_singleton] at hy
                      subst hy
                      obtain ⟨q, hq, rfl⟩ := List.getElem_of_mem hx
                      exact HLs.out q hq
                  clear h1 h2 h3 hou hx HLs HGd
                  simp only [Act.put, List.setIfInBounds_toArray, List.set_cons_zero, List.set_cons_succ]
                  go_wp2
                  exact ⟨⟨k + 1, _, hkl, rfl, HE.out⟩, by simp [intOf]; omega⟩
    · have HE : Hid (EvsPost w t (.returned (.slice op O.length ocap)) wr) := ⟨_, O, rfl, HO.out⟩
      clear HO
      by_cases hkl : k < rs.length
      · have z1 : (k : Int) < (rs.length : Int) := by omega
        have z2 : ¬ (O.length : Int) < 40 := by omega
        go_wp2
        go_ret
        exact HE.out
      · have z1 : ¬ (k : Int) < (rs.length : Int) := by omega
        go_wp2
        go_ret
        exact HE.out
end Go.Proofs.YtanndhoimpnhpaaGreatDoor
