/- Joined by program: KpD, Bq, Bc, Two, RnF, AdJ, AdK, RnG, LwA, TyK, TzA. -/
import Derived.Test.YtanndhoimpnhpaaGreatDoorM18
import Derived.Test.YtanndhoimpnhpaaGreatDoorM10
import Derived.Test.YtanndhoimpnhpaaGreatDoorM12
import Derived.Test.YtanndhoimpnhpaaGreatDoorM8
import Derived.Test.YtanndhoimpnhpaaGreatDoorM17
import Derived.Test.YtanndhoimpnhpaaGreatDoorM9
import Derived.Test.YtanndhoimpnhpaaGreatDoorM7
import Derived.Lib.CutLaws
import Derived.WalkKit
namespace Go.Proofs.YtanndhoimpnhpaaGreatDoor
open Go.ChangeShapes Go.WideShapes Go.RowKit Go.WideMaps Go.Maps Cal
set_option maxRecDepth 10000 in
set_option maxHeartbeats 2000000 in
theorem same_true (w : World) (v u : Value) (L : List En) (h1 : EnV w v L) (h2 : EnV w u L) (hL : L.length ≤ 4000000000000) :
    Calls Tryz.prog 22 #[v, u] w fun e w' => e = .returned (.bool true) ∧ Below w.heap.size w w' := by
  obtain ⟨p, cap, rfl, hc1, hr1⟩ := h1
  obtain ⟨q, cap2, rfl, hc2, hr2⟩ := h2
  have H1 : Hid (∀ k (hk : k < L.length), ∃ b o, p = some ⟨b, o, none⟩ ∧ b < w.heap.size ∧ w.rangeAt b (o + k * 3) (enl L[k])) := hr1
  have H2 : Hid (∀ k (hk : k < L.length), ∃ b o, q = some ⟨b, o, none⟩ ∧ b < w.heap.size ∧ w.rangeAt b (o + k * 3) (enl L[k])) := hr2
  clear hr1 hr2
  have hne : ((L.length : Int) != (L.length : Int)) = false := by simp
  go_enter Tryz.func22, Tryz.ntmps22
  go_wp2
  go_loopw [5] (fun i wr => ∃ k : Nat, k ≤ L.length ∧ i = .int .i64 k ∧ Below w.heap.size w wr) (fun i _ => (L.length - intOf i).toNat)
  case atStart => exact ⟨0, Nat.zero_le _, rfl, Below.refl _ _⟩
  case round =>
    obtain ⟨k, hk, rfl, hb⟩ := hrel
    have HB : Hid (Below w.heap.size w wr) := hb
    clear hb
    by_cases hlt : k < L.length
    · obtain ⟨b, o, rfl, hbl, hx1⟩ := H1.out k hlt
      obtain ⟨b2, o2, rfl, hbl2, hx2⟩ := H2.out k hlt
      have HR1 : Hid (∀ wx, Below w.heap.size w wx → wx.rangeAt b (o + k * 3) (enl L[k])) := fun wx hx j u hu => (World.cell?_of_block (w := w) (a := ⟨b, o + k * 3 + j, none⟩) (hx.block b hbl)).trans (hx1 j u hu)
      have HR2 : Hid (∀ wx, Below w.heap.size w wx → wx.rangeAt b2 (o2 + k * 3) (enl L[k])) := fun wx hx j u hu => (World.cell?_of_block (w := w) (a := ⟨b2, o2 + k * 3 + j, none⟩) (hx.block b2 hbl2)).trans (hx2 j u hu)
      clear hx1 hx2
      generalize L[k] = e at *
      obtain ⟨ed, ek, ea⟩ := e
      have zk : (k : Int) < (L.length : Int) := by omega
      go_upto_region 6 with fail
      refine wp_region_held_drew (S := fun wx => Below w.heap.size w wx) (by kernel_rfl) HB.out.drew (fun hHeld => ?_)
      clear HB
      generalize wr.drew = V1 at *
      refine wpAnyH_take (i := 0) (v := (.slice (some ⟨b, o, none⟩) L.length cap)) rfl (by kernel_rfl) (by kernel_rfl) (by kernel_rfl) (fun _ _ _ h => h) (Or.inl ⟨by rfl, fun wx hSw => by kernel_rfl⟩) (by assumption) ?_
      simp only [Act.put, List.getElem_toArray, List.getElem_cons_zero, List.setIfInBounds_toArray, List.set_cons_zero, List.set_cons_succ]
      refine wpAnyH_take (i := 1) (v := (.int .i64 k)) rfl (by kernel_rfl) (by kernel_rfl) (by kernel_rfl) (fun _ _ _ h => h) (Or.inl ⟨by rfl, fun wx hSw => by kernel_rfl⟩) (by assumption) ?_
      simp only [Act.put, List.getElem_toArray, List.getElem_cons_succ, List.getElem_cons_zero, List.setIfInBounds_toArray, List.set_cons_zero, List.set_cons_succ]
      refine wpAnyH_take (i := 2) (v := (.pointer (some ⟨b, o + k * 3, none⟩))) rfl (by kernel_rfl) (by kernel_rfl) (by kernel_rfl) (fun _ _ _ h => h) (Or.inl ⟨by rfl, fun wx hSw => by ((try dsimp only at hSw); go_simp)⟩) (by assumption) ?_
      simp only [Act.put, List.getElem_toArray, List.getElem_cons_succ, List.getElem_cons_zero, List.setIfInBounds_toArray, List.set_cons_zero, List.set_cons_succ]
      refine wpAnyH_take (i := 3) (v := (.agg (enl ⟨ed, ek, ea⟩).toArray)) rfl (by kernel_rfl) (by kernel_rfl) (by kernel_rfl) (fun _ _ _ h => h) (yieldsIf_load_mid (by rfl) 114 (.tmp 19) rfl _ _ rfl _ _ (fun _ h => HR1.out _ h) Tryz.underlying114 rfl (by kernel_rfl)) (by assumption) ?_
      simp only [Act.put, List.getElem_toArray, List.getElem_cons_succ, List.getElem_cons_zero, List.setIfInBounds_toArray, List.set_cons_zero, List.set_cons_succ]
      refine wpAnyH_take (i := 4) (v := (.slice (some ⟨b2, o2, none⟩) L.length cap2)) rfl (by kernel_rfl) (by kernel_rfl) (by kernel_rfl) (fun _ _ _ h => h) (Or.inl ⟨by rfl, fun wx hSw => by kernel_rfl⟩) (by assumption) ?_
      simp only [Act.put, List.getElem_toArray, List.getElem_cons_succ, List.getElem_cons_zero, List.setIfInBounds_toArray, List.set_cons_zero, List.set_cons_succ]
      refine wpAnyH_take (i := 5) (v := (.int .i64 k)) rfl (by kernel_rfl) (by kernel_rfl) (by kernel_rfl) (fun _ _ _ h => h) (Or.inl ⟨by rfl, fun wx hSw => by kernel_rfl⟩) (by assumption) ?_
      simp only [Act.put, List.getElem_toArray, List.getElem_cons_succ, List.getElem_cons_zero, List.setIfInBounds_toArray, List.set_cons_zero, List.set_cons_succ]
      refine wpAnyH_take (i := 6) (v := (.pointer (some ⟨b2, o2 + k * 3, none⟩))) rfl (by kernel_rfl) (by kernel_rfl) (by kernel_rfl) (fun _ _ _ h => h) (Or.inl ⟨by rfl, fun wx hSw => by ((try dsimp only at hSw); go_simp)⟩) (by assumption) ?_
      simp only [Act.put, List.getElem_toArray, List.getElem_cons_succ, List.getElem_cons_zero, List.setIfInBounds_toArray, List.set_cons_zero, List.set_cons_succ]
      refine wpAnyH_take (i := 7) (v := (.agg (enl ⟨ed, ek, ea⟩).toArray)) rfl (by kernel_rfl) (by kernel_rfl) (by kernel_rfl) (fun _ _ _ h => h) (yieldsIf_load_mid (by rfl) 114 (.tmp 23) rfl _ _ rfl _ _ (fun _ h => HR2.out _ h) Tryz.underlying114 rfl (by kernel_rfl)) (by assumption) ?_
      simp only [Act.put, List.getElem_toArray, List.getElem_cons_succ, List.getElem_cons_zero, List.setIfInBounds_toArray, List.set_cons_zero, List.set_cons_succ]
      have HB1 : Hid (Below w.heap.size w V1) := hHeld
      refine wpAnyH_take (i := 8) (v := (.bool false)) rfl (by kernel_rfl) (by kernel_rfl) (by kernel_rfl) (fun _ _ _ h => h) (Or.inl ⟨by rfl, fun wx hSw => by (unfold enl; go_simp)⟩) (by assumption) ?_
      simp only [Act.put, List.getElem_toArray, List.getElem_cons_succ, List.getElem_cons_zero, List.setIfInBounds_toArray, List.set_cons_zero, List.set_cons_succ]
      refine wpAnyH_done (by kernel_rfl) ?_ _
      clear hHeld HR1 HR2
      go_wp2
      exact ⟨⟨k + 1, hlt, rfl, HB1.out⟩, by simp [intOf]; omega⟩
    · obtain rfl : k = L.length := by omega
      have zk : ¬ (L.length : Int) < (L.length : Int) := by omega
      go_wp2
      go_ret
      exact ⟨rfl, HB.out⟩
def ToldPost (w : World) (t : Ln.Terms) (l : List Ln.Ev) (e : Ending) (w' : World) : Prop :=
  ∃ B E, e = .returned (.pointer (some ⟨B, 0, none⟩)) ∧ E.Perm l ∧ Lo w' B t E (Ln.start t) t.st [] (Wd (fun _ => False) w w') ∧ Below w.heap.size w w'
theorem Wd.comp {w w1 w2 : World} {b : Nat} (h12 : w1.heap.size ≤ w2.heap.size) (h01 : w.heap.size ≤ w1.heap.size) (h : Wd (Wd (fun _ => False) w w1) w1 w2 b) : Wd (fun _ => False) w w2 b := by
  rcases h with (h | h) | h
  · exact h.elim
  · exact .inr ⟨h.1, by omega⟩
  · exact .inr ⟨by omega, h.2⟩
theorem Lim.below {w w1 : World} (h : Lim w) (hb : Below w.heap.size w w1) : Lim w1 := h.keep (S := fun _ => False) (Keep.below hb) (fun x => x)
theorem add_zero {t : Ln.Terms} {E l : List Ln.Ev} {e : Ln.Ev} (k : Nat) (hp : E.Perm (l.take k)) (hk : k < l.length) (hl : l.length ≤ 40) (he : l[k] = e) (hg : evF t e = 0) (hd : l.Pairwise (fun a b => ¬ a.s = b.s)) : addC t E e = 0 := by
  have hlen : E.length = k := by rw [hp.length_eq, List.length_take]; omega
  rw [addC_eq, if_neg (by simp [hg]), if_neg (by omega)]
  have hs : ¬ hasS e.s E = true := by
    intro h
    obtain ⟨x, hx, hq⟩ := List.any_eq_true.1 h
    have hx2 := hp.mem_iff.1 hx
    obtain ⟨j, hj, rfl⟩ := List.getElem_of_mem hx2
    have hjk : j < k := by rw [List.length_take] at hj; omega
    rw [List.getElem_take] at hq
    have := List.pairwise_iff_getElem.1 hd j k (by omega) hk hjk
    rw [he] at this
    simp at hq
    exact this hq
  rw [if_neg hs]
set_option maxRecDepth 10000 in
set_option maxHeartbeats 2000000 in
theorem told_any (w : World) (t : Ln.Terms) (ht : rtB t = true) (Eb : Nat) (v : Value) (l : List Ln.Ev) (h : EvV w Eb v l) (hl : l.length ≤ 40) (hg : ∀ e ∈ l, evF t e = 0) (hd : l.Pairwise (fun a b => ¬ a.s = b.s)) (hlim : Lim w) :
    Calls Tryz.prog 15 #[tmV t, v] w (ToldPost w t l) := by
  obtain ⟨p, cap, rfl, hcap, hat⟩ := h
  have HAt : Hid (EvAt w Eb p l) := hat
  have HG : Hid (∀ e ∈ l, evF t e = 0) := hg
  have HD : Hid (l.Pairwise (fun a b => ¬ a.s = b.s)) := hd
  have HLm : Hid (Lim w) := hlim
  have a0 : At (w.alloc (.cells (tml t).toArray 23)) w.heap.size (tml t) := At.alloc w (tml t) _
  have b0 : Below w.heap.size w (w.alloc (.cells (tml t).toArray 23)) := (Below.refl _ _).alloc (Nat.le_refl _) _
  have hO := fun W => openL t W ht
  clear hat hg hd hlim
  unfold tmV at *
  go_enter Tryz.func15, Tryz.ntmps15
  go_upto_region 1 with fail
  change Code.wp _ _ _ _ (w.alloc (.cells (tml t).toArray 23))
  generalize w.alloc (.cells (tml t).toArray 23) = V at *
  refine wp_region_lit ?_
  refine wpList_load_mid rfl 23 (.tmp 2) rfl _ 0 rfl (tml t) _ a0.range Tryz.underlying23 rfl (by kernel_rfl) ?_
  simp only [Act.put, List.setIfInBounds_toArray, List.set_cons_zero, List.set_cons_succ]
  clear a0
  go_wp2_with fail
  refine (hO V).mono ?_
  rintro e w1 ⟨B, rfl, hLo, hb1⟩
  have hbw : Below w.heap.size w w1 := b0.trans (hb1.mono b0.size)
  have HLo : Hid (Lo w1 B t [] (Ln.start t) t.st [] (Wd (fun _ => False) w w1)) := hLo.mono (fun b _ hb => .inr ⟨Nat.le_trans b0.size (Wd.fresh hb), by rcases hb with h | h; exact h.elim; exact h.2⟩)
  have HBw : Hid (Below w.heap.size w w1) := hbw
  clear hO hLo hb1 hbw b0
  go_wp2
  go_loopw [7, 8] (fun i _ wr => ∃ (k : Nat) (E : List Ln.Ev), k ≤ l.length ∧ i = .int .i64 k ∧ E.Perm (l.take k) ∧ Lo wr B t E (Ln.start t) t.st [] (Wd (fun _ => False) w wr) ∧ Below w.heap.size w wr) (fun i _ _ => (l.length - intOf i).toNat)
  case atStart => exact ⟨0, [], Nat.zero_le _, rfl, by simp, HLo.out, HBw.out⟩
  case round =>
    obtain ⟨k, E, hk, rfl, hp, hLo, hb⟩ := hrel
    have HP : Hid (E.Perm (l.take k)) := hp
    have HLo2 : Hid (Lo wr B t E (Ln.start t) t.st [] (Wd (fun _ => False) w wr)) := hLo
    have HB2 : Hid (Below w.heap.size w wr) := hb
    clear hp hLo hb HLo HBw
    by_cases hlt : k < l.length
    · obtain ⟨o, rfl, hEl, hr⟩ := HAt.out.range k hlt
      have hr2 : wr.rangeAt Eb (o + k * 4) (evl l[k]) := fun j u hu => (World.cell?_of_block (w := w) (a := ⟨Eb, o + k * 4 + j, none⟩) (HB2.out.block Eb hEl)).trans (hr j u hu)
      have hA := addL wr B t E _ _ _ _ HLo2.out l[k] (HLm.out.below HB2.out)
      have hz := add_zero k HP.out hlt hl rfl (HG.out _ (List.getElem_mem hlt)) HD.out
      rw [hz] at hA
      have HPk : Hid (∀ E' : List Ln.Ev, E'.Perm (l[k] :: E) → E'.Perm (l.take (k + 1))) := fun E' h => by
        rw [List.take_succ_eq_append_getElem hlt]
        exact h.trans ((List.Perm.cons _ HP.out).trans (List.perm_append_singleton _ _).symm)
      clear hr hz
      generalize l[k] = e at *
      unfold evV at hA
      have zk : (k : Int) < (l.length : Int) := by omega
      go_upto_region 7 with fail
      refine wp_region_lit ?_
      refine wpList_val (.pointer (some ⟨B, 0, none⟩)) wr rfl rfl ?_
      simp only [Act.put, List.setIfInBounds_toArray, List.set_cons_zero, List.set_cons_succ]
      refine wpList_val (.slice (some ⟨Eb, o, none⟩) l.length cap) wr rfl rfl ?_
      simp only [Act.put, List.setIfInBounds_toArray, List.set_cons_zero, List.set_cons_succ]
      refine wpList_val (.int .i64 k) wr rfl rfl ?_
      simp only [Act.put, List.setIfInBounds_toArray, List.set_cons_zero, List.set_cons_succ]
      refine wpList_val (.pointer (some ⟨Eb, o + k * 4, none⟩)) wr rfl (by go_simp) ?_
      simp only [Act.put, List.setIfInBounds_toArray, List.set_cons_zero, List.set_cons_succ]
      refine wpList_load_mid rfl 50 (.tmp 29) rfl _ _ rfl (evl e) _ hr2 Tryz.underlying50 rfl (by kernel_rfl) ?_
      simp only [Act.put, List.setIfInBounds_toArray, List.set_cons_zero, List.set_cons_succ]
      clear hr2
      go_wp2_with fail
      refine hA.mono ?_
      rintro x w2 ⟨rfl, hk2, ⟨hn, _⟩ | ⟨_, E', hE', hLo'⟩⟩
      · simp at hn
      · have HB3 : Hid (Below w.heap.size w w2) := Keep.fresh HB2.out hk2 (fun b x => Wd.fresh x)
        have HL3 : Hid (Lo w2 B t E' (Ln.start t) t.st [] (Wd (fun _ => False) w w2)) := hLo'.mono (fun b _ hb => Wd.comp hk2.size HB2.out.size hb)
        have HE3 : Hid (E'.Perm (l.take (k + 1))) := HPk.out E' hE'
        clear hA hk2 hE' hLo' HPk HP HLo2 HB2
        go_wp2
        exact ⟨⟨k + 1, E', hlt, rfl, HE3.out, HL3.out, HB3.out⟩, by simp [intOf]; omega⟩
    · obtain rfl : k = l.length := by omega
      have HE : Hid (ToldPost w t l (.returned (.pointer (some ⟨B, 0, none⟩))) wr) := ⟨B, E, rfl, by have := HP.out; rwa [List.take_length] at this, HLo2.out, HB2.out⟩
      have zk : ¬ (l.length : Int) < (l.length : Int) := by omega
      clear HP HLo2 HB2
      go_wp2
      go_ret
      exact HE.out
end Go.Proofs.YtanndhoimpnhpaaGreatDoor
namespace Go.Proofs.YtanndhoimpnhpaaGreatDoor
open Go.RowKit
end Go.Proofs.YtanndhoimpnhpaaGreatDoor
namespace Go.Proofs.YtanndhoimpnhpaaGreatDoor
open Go.RowKit
end Go.Proofs.YtanndhoimpnhpaaGreatDoor
namespace Go.Proofs.YtanndhoimpnhpaaGreatDoor
open Go.ChangeShapes Go.WideShapes Go.RowKit Go.WideMaps Go.Maps Cal
structure One (w : World) (NT : Nat) (B : Nat) (t : Ln.Terms) (E : List Ln.Ev) (g : Ln.St) (d : Int) (L : List En) (F : Nat → Prop) (wx : World) : Prop where
  lo : Lo wx B t E g d L F
  nt : ¬ F NT
  ge : ∀ b, F b → w.heap.size ≤ b
  lt : ∀ b, F b → b < wx.heap.size
structure Two (w : World) (NT : Nat) (t : Ln.Terms) (E : List Ln.Ev) (B1 B2 : Nat) (g1 : Ln.St) (d1 : Int) (L1 : List En) (g2 : Ln.St) (d2 : Int) (L2 : List En) (F1 F2 : Nat → Prop) (wx : World) : Prop where
  x : One w NT B1 t E g1 d1 L1 F1 wx
  y : One w NT B2 t E g2 d2 L2 F2 wx
  ap : ∀ b, F1 b → ¬ F2 b
  bl : Below w.heap.size w wx
theorem One.keep {S F : Nat → Prop} {w wx wy : World} {NT B : Nat} {t : Ln.Terms} {E : List Ln.Ev} {g : Ln.St} {d : Int} {L : List En} (h : One w NT B t E g d L F wx) (hk : Keep S wx wy) (hs : ∀ b, F b → ¬ S b) : One w NT B t E g d L F wy :=
  ⟨h.lo.keep hk (fun b _ hb => hs b hb), h.nt, h.ge, fun b hb => Nat.lt_of_lt_of_le (h.lt b hb) hk.size⟩
theorem One.below {F : Nat → Prop} {w wx wy : World} {NT B : Nat} {t : Ln.Terms} {E : List Ln.Ev} {g : Ln.St} {d : Int} {L : List En} (h : One w NT B t E g d L F wx) (hb : Below wx.heap.size wx wy) : One w NT B t E g d L F wy := h.keep (S := fun _ => False) (Keep.below hb) (fun _ _ x => x)
theorem Two.below {F1 F2 : Nat → Prop} {w wx wy : World} {NT B1 B2 : Nat} {t : Ln.Terms} {E : List Ln.Ev} {g1 g2 : Ln.St} {d1 d2 : Int} {L1 L2 : List En} (h : Two w NT t E B1 B2 g1 d1 L1 g2 d2 L2 F1 F2 wx) (hb : Below wx.heap.size wx wy) : Two w NT t E B1 B2 g1 d1 L1 g2 d2 L2 F1 F2 wy :=
  ⟨h.x.below hb, h.y.below hb, h.ap, h.bl.trans (hb.mono h.bl.size)⟩
theorem One.run {F : Nat → Prop} {w wx : World} {NT B : Nat} {t : Ln.Terms} {E : List Ln.Ev} {g : Ln.St} {d : Int} {L : List En} (h : One w NT B t E g d L F wx) (hb : Below w.heap.size w wx) (hmv : Mv w) (hL : L.length ≤ 4000000000000) (m : Nat) (h0 : d ≤ t.st + m) (hm : m ≤ 3700) (hNT : NT < wx.heap.size) :
    Calls Tryz.prog 17 #[.pointer (some ⟨B, 0, none⟩), .int .i64 (t.st + m)] wx fun e wy => e = .returned (.int .i64 0) ∧ One w NT B t E (Ln.run t cdOf (wtOf t.ba) E m) (t.st + m) (bkP t.st (fun k => (yOf t E k).am) L m) (Wd F wx wy) wy ∧ Keep F wx wy := by
  have hg := hmv.lt
  refine (runL wx B t E g d L F h.lo hL m h0 hm (hmv.below hb) (fun x => by have := h.ge _ x; omega)).mono ?_
  rintro e wy ⟨rfl, h1, h2⟩
  refine ⟨rfl, ⟨h1, ?_, ?_, ?_⟩, h2⟩
  · rintro (x | x)
    · exact h.nt x
    · omega
  · rintro b (x | x)
    · exact h.ge b x
    · have := hb.size; omega
  · rintro b (x | x)
    · exact Nat.lt_of_lt_of_le (h.lt b x) h2.size
    · exact x.2
theorem Two.runX {F1 F2 : Nat → Prop} {w wx : World} {NT B1 B2 : Nat} {t : Ln.Terms} {E : List Ln.Ev} {g1 g2 : Ln.St} {d1 d2 : Int} {L1 L2 : List En} (h : Two w NT t E B1 B2 g1 d1 L1 g2 d2 L2 F1 F2 wx) (hmv : Mv w) (hL : L1.length ≤ 4000000000000) (m : Nat) (h0 : d1 ≤ t.st + m) (hm : m ≤ 3700) (hNT : At wx NT (tml t)) :
    Calls Tryz.prog 17 #[.pointer (some ⟨B1, 0, none⟩), .int .i64 (t.st + m)] wx fun e wy => e = .returned (.int .i64 0) ∧ (∃ F, Two w NT t E B1 B2 (Ln.run t cdOf (wtOf t.ba) E m) (t.st + m) (bkP t.st (fun k => (yOf t E k).am) L1 m) g2 d2 L2 F F2 wy) ∧ At wy NT (tml t) := by
  have hl := At.lt (v := .int .i64 t.st) hNT
  refine (h.x.run h.bl hmv hL m h0 hm hl).mono ?_
  rintro e wy ⟨rfl, h1, h2⟩
  refine ⟨rfl, ⟨_, h1, h.y.keep h2 (fun b hb hx => h.ap b hx hb), ?_, Keep.fresh h.bl h2 h.x.ge⟩, At.keep (v := .int .i64 t.st) hNT h2 h.x.nt⟩
  rintro b (x | x)
  · exact h.ap b x
  · intro y; have := h.y.lt b y; omega
theorem Two.runY {F1 F2 : Nat → Prop} {w wx : World} {NT B1 B2 : Nat} {t : Ln.Terms} {E : List Ln.Ev} {g1 g2 : Ln.St} {d1 d2 : Int} {L1 L2 : List En} (h : Two w NT t E B1 B2 g1 d1 L1 g2 d2 L2 F1 F2 wx) (hmv : Mv w) (hL : L2.length ≤ 4000000000000) (m : Nat) (h0 : d2 ≤ t.st + m) (hm : m ≤ 3700) (hNT : At wx NT (tml t)) :
    Calls Tryz.prog 17 #[.pointer (some ⟨B2, 0, none⟩), .int .i64 (t.st + m)] wx fun e wy => e = .returned (.int .i64 0) ∧ (∃ F, Two w NT t E B1 B2 g1 d1 L1 (Ln.run t cdOf (wtOf t.ba) E m) (t.st + m) (bkP t.st (fun k => (yOf t E k).am) L2 m) F1 F wy) ∧ At wy NT (tml t) := by
  have hl := At.lt (v := .int .i64 t.st) hNT
  refine (h.y.run h.bl hmv hL m h0 hm hl).mono ?_
  rintro e wy ⟨rfl, h1, h2⟩
  refine ⟨rfl, ⟨_, h.x.keep h2 (fun b hb hx => h.ap b hb hx), h1, ?_, Keep.fresh h.bl h2 h.y.ge⟩, At.keep (v := .int .i64 t.st) hNT h2 h.y.nt⟩
  intro b hb
  rintro (x | x)
  · exact h.ap b hb x
  · have := h.x.lt b hb; omega
theorem Lo.facts {w : World} {B : Nat} {t : Ln.Terms} {E : List Ln.Ev} {g : Ln.St} {d : Int} {L : List En} {F : Nat → Prop} (h : Lo w B t E g d L F) : E.Pairwise So.Ah ∧ (∀ e ∈ E, Ln.OkE t e) ∧ E.length ≤ 40 ∧ Ln.OkT t := by
  obtain ⟨_, _, _, _, h1, _⟩ := h
  exact ⟨h1.so, h1.ok, h1.le, h1.ot⟩
noncomputable def amOf (t : Ln.Terms) (E : List Ln.Ev) : Nat → Nat → Int := fun k => (yOf t E k).am
theorem amOf_bd {t : Ln.Terms} {E : List Ln.Ev} (hE : ∀ e ∈ E, Ln.OkE t e) (hl : E.length ≤ 40) (ht : Ln.OkT t) : ∀ k j, k < 3700 → 1 ≤ j → j ≤ 12 → I64 (amOf t E k j) := fun k j hk h1 h12 => by
  have := am_bd ht E hE hl k hk j h1 h12
  show -9223372036854775808 ≤ (yOf t E k).am j ∧ (yOf t E k).am j ≤ 9223372036854775807
  omega
end Go.Proofs.YtanndhoimpnhpaaGreatDoor
namespace Go.Proofs.YtanndhoimpnhpaaGreatDoor.Ln
open Go.Proofs.YtanndhoimpnhpaaGreatDoor Cal
end Go.Proofs.YtanndhoimpnhpaaGreatDoor.Ln
namespace Go.Proofs.YtanndhoimpnhpaaGreatDoor
open Go.ChangeShapes Go.WideShapes Go.ChangeAt Go.RowKit Lg Cal
structure DcX (w : World) (B : Nat) (t : Ln.Terms) (l : List Ln.Ev) (g : Ln.St) (day : Int) (L : List En) (evv bkv : Value) : Prop where
  ln : At w B (dl t evv g day bkv)
  ev : w.ownsRow (B + 1) 50 4 evv l.length (evs l)
  bk : w.ownsRow (B + 1) 114 3 bkv L.length (ens L)
  ap : ∀ b, evv.ownBlock = some b → ¬ bkv.ownBlock = some b
  ds : l.Pairwise (fun a b => ¬ a.s = b.s)
  ok : ∀ e ∈ l, Ln.OkE t e
  le : l.length ≤ 40
  ot : Ln.OkT t
  inl : ∀ e ∈ L, t.st ≤ e.d ∧ e.d < day ∧ 1 ≤ e.k ∧ e.k ≤ 12
  d0 : t.st ≤ day
  d1 : day ≤ t.st + 3700
end Go.Proofs.YtanndhoimpnhpaaGreatDoor
namespace Go.Proofs.YtanndhoimpnhpaaGreatDoor
open Go.ChangeShapes Go.WideShapes Go.RowKit Go.WideMaps Go.Maps Cal
end Go.Proofs.YtanndhoimpnhpaaGreatDoor
namespace Go.Proofs.YtanndhoimpnhpaaGreatDoor
open Go.ChangeShapes Go.WideShapes Go.RowKit Go.WideMaps Go.Maps Cal
end Go.Proofs.YtanndhoimpnhpaaGreatDoor
namespace Go.Proofs.YtanndhoimpnhpaaGreatDoor
open Go.ChangeShapes Go.WideShapes Go.ChangeAt Go.RowKit Lg Cal
def Dc (w : World) (B : Nat) (t : Ln.Terms) (l : List Ln.Ev) (g : Ln.St) (day : Int) (L : List En) (F : Nat → Prop) : Prop :=
  ∃ evv bkv, DcX w B t l g day L evv bkv ∧ F B ∧ (∀ b, evv.ownBlock = some b → F b) ∧ (∀ b, bkv.ownBlock = some b → F b)
end Go.Proofs.YtanndhoimpnhpaaGreatDoor
namespace Go.Proofs.YtanndhoimpnhpaaGreatDoor
open Go.ChangeShapes Go.WideShapes Go.ChangeAt Go.RowKit Go.WideMaps Go.Maps Lg Cal
theorem ah_distinct {E l : List Ln.Ev} (h : E.Perm l) (hd : l.Pairwise (fun a b => ¬ a.s = b.s)) : E.Pairwise (fun a b => ¬ a.s = b.s) :=
  (h.symm.pairwise_iff (fun x => fun y => x y.symm)).1 hd
end Go.Proofs.YtanndhoimpnhpaaGreatDoor
namespace Go.Proofs.YtanndhoimpnhpaaGreatDoor
open Go.RowKit Cal
def EnOk (st day : Int) (e : En) : Prop := st ≤ e.d ∧ e.d < day ∧ 1 ≤ e.k ∧ e.k ≤ 12 ∧ ¬ e.a = 0 ∧ I64 e.a
theorem wrap_neg0 {n : Int} (h : I64 n) (h0 : ¬ n = 0) : ¬ wrap64 (-n) = 0 := by
  unfold wrap64
  unfold I64 at h
  omega
theorem kindsW_ok {n : Int} {h am : Nat → Int} {e : En} (hh : ∀ i, I64 (h i)) (ha : ∀ i, 1 ≤ i → i ≤ 12 → I64 (am i)) : ∀ j, j ≤ 12 → e ∈ kindsW n h am j → ¬ e.a = 0 ∧ I64 e.a
  | 0, _, he => by simp [kindsW] at he
  | j + 1, hj, he => by
    rw [kindsW] at he
    rcases List.mem_append.1 he with he | he
    · exact kindsW_ok hh ha j (by omega) he
    · unfold kindW at he
      split at he
      · simp at he
      · rcases List.mem_append.1 he with he | he
        · split at he
          · simp at he
          · rename_i h0
            rw [List.mem_singleton.1 he]
            exact ⟨wrap_neg0 (hh _) h0, wrap64_i64 _⟩
        · split at he
          · simp at he
          · rename_i h0
            rw [List.mem_singleton.1 he]
            exact ⟨h0, ha _ (by omega) hj⟩
theorem bkP_ok {st : Int} {am : Nat → Nat → Int} {L : List En} {e : En} : ∀ m : Nat, (∀ k j, k < m → 1 ≤ j → j ≤ 12 → I64 (am k j)) → e ∈ bkP st am L m → e ∈ L ∨ EnOk st (st + m) e
  | 0, _, he => .inl he
  | m + 1, ha, he => by
    rw [bkP] at he
    rcases List.mem_append.1 he with h | h
    · rcases bkP_ok m (fun k j hk => ha k j (by omega)) h with h1 | h1
      · exact .inl h1
      · obtain ⟨h2, h3, h4⟩ := h1
        exact .inr ⟨h2, by omega, h4⟩
    · have h1 := kindsW_mem h
      have h2 := kindsW_ok (fun i => sumOf_i64 _ _ _) (fun j h1 h2 => ha m j (by omega) h1 h2) 12 (Nat.le_refl _) h
      exact .inr ⟨by omega, by omega, by omega, by omega, h2⟩
theorem run_in {t : Ln.Terms} {E : List Ln.Ev} (hE : ∀ e ∈ E, Ln.OkE t e) (hl : E.length ≤ 40) (ht : Ln.OkT t) (m : Nat) (hm : m ≤ 3700) : ∀ n ∈ nwN (Ln.run t cdOf (wtOf t.ba) E m), InR n := by
  have hI := Ln.run_inv ht cdOf (wtOf t.ba) (wsOf t.ba t.st) (wsOf_le _ _) (wsOf_eq _ _) E hE m
  have hs := sw_bd t.ba t.st ht.st0 ht.st1 m hm
  have hb := Ln.tot_bound ht E hE hl m
  have h1 := hI.bound hs hb
  have h2 := Ln.run_fn_bd ht E hE hl m hm
  have q0 := hI.pr
  have q1 := hI.it
  have q2 := hI.du
  have q3 := hI.la
  have q4 := hI.fi
  have q5 := hI.cr
  have q6 := hI.rt0
  have q7 := hI.rt1
  have q8 := hI.cr1
  have q9 := hI.fi1
  intro n hn
  simp only [nwN, List.mem_cons, List.not_mem_nil, or_false] at hn
  unfold InR
  rcases hn with rfl | rfl | rfl | rfl | rfl | rfl | rfl <;> omega
structure Sav (t : Ln.Terms) (E : List Ln.Ev) (g : Ln.St) (day : Int) (L : List En) : Prop where
  rt : rtB t = true
  so : E.Pairwise So.Ah
  ds : E.Pairwise (fun a b => ¬ a.s = b.s)
  f0 : ∀ e ∈ E, evF t e = 0 ∧ InR e.s
  le : E.length ≤ 40
  d0 : t.st ≤ day
  d1 : day ≤ t.st + 3700
  nw : ∀ n ∈ nwN g, InR n
  en : ∀ e ∈ L, EnOk t.st day e
theorem evF_in {t : Ln.Terms} {e : Ln.Ev} (ht : Ln.OkT t) (h : evF t e = 0) : InR e.d ∧ InR e.k ∧ InR e.a := by
  unfold evF at h
  have h1 := ht.st0
  have h2 := ht.st1
  split at h
  · omega
  · split at h
    · omega
    · split at h
      · omega
      · rename_i a b c
        have hf : fitsB e.k e.a = true := by
          cases hx : fitsB e.k e.a with
          | true => rfl
          | false => exact absurd hx c
        unfold fitsB at hf
        unfold InR
        refine ⟨by omega, by omega, ?_⟩
        split at hf
        · simp at hf; omega
        · split at hf
          · simp at hf; omega
          · split at hf
            · simp at hf; omega
            · simp at hf; omega
theorem Sav.tel {t : Ln.Terms} {E : List Ln.Ev} {g : Ln.St} {day : Int} {L : List En} (h : Sav t E g day L) : Tel t E day L := by
  refine ⟨h.rt, fun i hi => ⟨fun x hx => ?_, ?_⟩, h.d0, h.d1, fun e he => ?_⟩
  · have hm : x ∈ E.take i := List.mem_of_getLast? hx
    have hp := h.so
    rw [← List.take_append_drop i E, List.drop_eq_getElem_cons hi] at hp
    exact (List.pairwise_append.1 hp).2.2 x hm E[i] List.mem_cons_self
  · have h1 := h.le
    rw [addC_eq, if_neg (by rw [(h.f0 E[i] (List.getElem_mem hi)).1]; simp), if_neg (by rw [List.length_take]; omega), if_neg]
    intro hx
    unfold hasS at hx
    rw [List.any_eq_true] at hx
    obtain ⟨x, hm, hq⟩ := hx
    have hp := h.ds
    rw [← List.take_append_drop i E, List.drop_eq_getElem_cons hi] at hp
    exact (List.pairwise_append.1 hp).2.2 x hm E[i] List.mem_cons_self (by simpa using hq)
  · obtain ⟨h1, h2, h3, h4, h5, _⟩ := h.en e he
    exact ⟨h1, h2, h3, h4, h5⟩
theorem Sav.rg {t : Ln.Terms} {E : List Ln.Ev} {g : Ln.St} {day : Int} {L : List En} (h : Sav t E g day L) : Rg t E g day L := by
  have ht := rt_ok h.rt
  have h0 := ht.st0
  have h1 := ht.st1
  have hd0 := h.d0
  have hd1 := h.d1
  refine ⟨fun n hn => ?_, fun e he n hn => ?_, h.nw, by unfold InR; omega, fun e he n hn => ?_⟩
  · have a1 := ht.pr0
    have a2 := ht.pr1
    have a3 := ht.rt0
    have a4 := ht.rt1
    have a5 := ht.fi0
    have a6 := ht.fi1
    have hrt := h.rt
    unfold rtB at hrt
    simp at hrt
    simp only [tmN, List.mem_cons, List.not_mem_nil, or_false] at hn
    unfold InR
    rcases hn with rfl | rfl | rfl | rfl | rfl | rfl <;> omega
  · obtain ⟨a1, a2⟩ := h.f0 e he
    obtain ⟨b1, b2, b3⟩ := evF_in ht a1
    simp only [evN, List.mem_cons, List.not_mem_nil, or_false] at hn
    rcases hn with rfl | rfl | rfl | rfl
    · exact b1
    · exact b2
    · exact a2
    · exact b3
  · obtain ⟨a1, a2, a3, a4, _, a5⟩ := h.en e he
    simp only [enN, List.mem_cons, List.not_mem_nil, or_false] at hn
    rcases hn with rfl | rfl | rfl
    · unfold InR; omega
    · unfold InR; omega
    · exact a5
theorem Sav.len {t : Ln.Terms} {E : List Ln.Ev} {g : Ln.St} {day : Int} {L : List En} (h : Sav t E g day L) : (txtB t E g day L).length ≤ 5000 + 100 * L.length := by
  have hr := h.rg
  have h1 := lineB_len wLoan (tmN t) hr.tm
  have h2 := evT_len E hr.ev
  have h3 := lineB_len wAt [day] (fun n hn => by rw [List.mem_singleton.1 hn]; exact hr.dy)
  have h4 := lineB_len wNow (nwN g) hr.nw
  have h5 := enT_len L hr.en
  have h6 := lineB_len wEnd [] (fun n hn => by simp at hn)
  have h7 := h.le
  have e1 : wLoan.length = 4 := rfl
  have e2 : wAt.length = 2 := rfl
  have e3 : wNow.length = 3 := rfl
  have e4 : wEnd.length = 3 := rfl
  have e5 : (tmN t).length = 6 := rfl
  have e6 : (nwN g).length = 7 := rfl
  unfold txtB
  simp only [List.length_append, List.length_cons, List.length_nil] at *
  omega
theorem shl_line {word : List UInt8} {ns : List Int} {r : List UInt8} (hw : NoL word) (hl : word.length ≤ 10) (hn : ∀ n ∈ ns, InR n) (hc : ns.length ≤ 10) (h : Shl r) : Shl (lineB word ns ++ r) := by
  have h1 := lnum_len ns hn
  rw [show lineB word ns ++ r = (word ++ lnum ns) ++ 10 :: r by simp [lineB]]
  exact Shl.more (hw.app (lnum_noL ns)) (by rw [List.length_append]; omega) h
theorem shl_ev : ∀ (E : List Ln.Ev) {r : List UInt8}, (∀ e ∈ E, ∀ n ∈ evN e, InR n) → Shl r → Shl (evT E ++ r)
  | [], r, _, h => h
  | e :: E, r, hr, h => by
    rw [evT, List.append_assoc]
    exact shl_line (noL_wdk 1 (by omega)) (by decide) (hr e (by simp)) (by simp [evN]) (shl_ev E (fun x hx => hr x (by simp [hx])) h)
theorem shl_en : ∀ (L : List En) {r : List UInt8}, (∀ e ∈ L, ∀ n ∈ enN e, InR n) → Shl r → Shl (enT L ++ r)
  | [], r, _, h => h
  | e :: L, r, hr, h => by
    rw [enT, List.append_assoc]
    exact shl_line (noL_wdk 4 (by omega)) (by decide) (hr e (by simp)) (by simp [enN]) (shl_en L (fun x hx => hr x (by simp [hx])) h)
theorem Sav.sh {t : Ln.Terms} {E : List Ln.Ev} {g : Ln.St} {day : Int} {L : List En} (h : Sav t E g day L) (hL : L.length ≤ 9900000000) : Sh (txtB t E g day L) := by
  have hr := h.rg
  refine ⟨?_, by have := h.len; omega⟩
  have e1 : txtB t E g day L = lineB wLoan (tmN t) ++ (evT E ++ (lineB wAt [day] ++ (lineB wNow (nwN g) ++ (enT L ++ (lineB wEnd [] ++ []))))) := by
    unfold txtB
    simp only [List.append_assoc, List.append_nil]
  rw [e1]
  refine shl_line (noL_wdk 0 (by omega)) (by decide) hr.tm (by simp [tmN]) (shl_ev E hr.ev (shl_line (noL_wdk 2 (by omega)) (by decide) (fun n hn => by rw [List.mem_singleton.1 hn]; exact hr.dy) (by simp) (shl_line (noL_wdk 3 (by omega)) (by decide) hr.nw (by simp [nwN]) (shl_en L hr.en (shl_line (noL_wdk 5 (by omega)) (by decide) (fun n hn => by simp at hn) (by simp) ?_)))))
  exact (Sh.short (s := []) (by decide)).1
theorem Sav.told {t : Ln.Terms} {E : List Ln.Ev} {g : Ln.St} {day : Int} {L : List En} (h : Sav t E g day L) : told (txtB t E g day L) = some ⟨t, E, cents g, day, L⟩ := txt_told h.tel h.rg
theorem Sav.run {t : Ln.Terms} {E : List Ln.Ev} {g : Ln.St} {day : Int} {L : List En} (h : Sav t E g day L) (hE : ∀ e ∈ E, Ln.OkE t e) (m : Nat) (h0 : day ≤ t.st + m) (hm : m ≤ 3700) :
    Sav t E (Ln.run t cdOf (wtOf t.ba) E m) (t.st + m) (bkP t.st (fun k => (yOf t E k).am) L m) := by
  refine ⟨h.rt, h.so, h.ds, h.f0, h.le, by omega, by omega, run_in hE h.le (rt_ok h.rt) m hm, fun e he => ?_⟩
  rcases bkP_ok m (fun k j hk h1 h2 => amOf_bd hE h.le (rt_ok h.rt) k j (by omega) h1 h2) he with h1 | h1
  · obtain ⟨a1, a2, a3⟩ := h.en e h1
    exact ⟨a1, by omega, a3⟩
  · exact h1
theorem Sav.start {t : Ln.Terms} (h : rtB t = true) : Sav t [] (Ln.start t) t.st [] := by
  have ht := rt_ok h
  refine ⟨h, List.Pairwise.nil, List.Pairwise.nil, fun e he => by simp at he, by simp, by omega, by omega, run_in (E := []) (fun e he => by simp at he) (by simp) ht 0 (by omega), fun e he => by simp at he⟩
theorem Sav.evs {t : Ln.Terms} {E E' : List Ln.Ev} {g : Ln.St} {day : Int} {L : List En} (h : Sav t E g day L) (so : E'.Pairwise So.Ah) (ds : E'.Pairwise (fun a b => ¬ a.s = b.s)) (f0 : ∀ e ∈ E', evF t e = 0 ∧ InR e.s) (le : E'.length ≤ 40) : Sav t E' g day L :=
  ⟨h.rt, so, ds, f0, le, h.d0, h.d1, h.nw, h.en⟩
theorem Sav.cents {t : Ln.Terms} {E : List Ln.Ev} {g : Ln.St} {day : Int} {L : List En} (h : Sav t E g day L) : Sav t E (cents g) day L :=
  ⟨h.rt, h.so, h.ds, h.f0, h.le, h.d0, h.d1, h.nw, h.en⟩
end Go.Proofs.YtanndhoimpnhpaaGreatDoor
namespace Go.Proofs.YtanndhoimpnhpaaGreatDoor
open Go.ChangeShapes Go.WideShapes Go.ChangeAt Go.RowKit Lg Cal
theorem idxB_index (c : UInt8) : ∀ l : List UInt8, Lib.indexByte l c = Lib.index l [c]
  | [] => by simp [Lib.indexByte, Lib.index]
  | b :: l => by
    have ih := idxB_index c l
    by_cases hb : b = c
    · simp [Lib.indexByte, Lib.index, hb]
    · have hb2 : ¬ c = b := fun e => hb e.symm
      simp [Lib.indexByte, Lib.index, hb, hb2, ih]
set_option maxHeartbeats 2000000 in
set_option maxRecDepth 100000 in
theorem lcut_any (s : ByteArray) (c : UInt8) (w : World) (hs : s.size ≤ 1000000000000000) :
    Calls Tryz.prog 127 #[.string s, .string ⟨#[c]⟩] w fun e w' => e = .returned (.tuple #[.string ⟨(Lib.cut s.data.toList [c]).1.toArray⟩, .string ⟨(Lib.cut s.data.toList [c]).2.1.toArray⟩, .bool (Lib.cut s.data.toList [c]).2.2]) ∧ ∃ n, w' = w.drewN n := by
  have hC := Tryz.stringslite_Index_one s c w
  rcases Lib.indexB_cases s ⟨#[c]⟩ with hix | ⟨i, hix, hroom⟩
  · have hB : Lib.indexByte s.data.toList c = -1 := (idxB_index c _).trans hix
    obtain ⟨e1, e2, e3⟩ := Lib.cutB_miss s ⟨#[c]⟩ hix
    rw [show ([c] : List UInt8) = (⟨#[c]⟩ : ByteArray).data.toList from rfl, e1, e2, e3]
    rw [hB] at hC
    clear hB e1 e2 e3 hix
    go_enter Tryz.func127, Tryz.ntmps127
    go_wp2_with fail
    refine hC.mono ?_
    rintro e w' ⟨rfl, hw'⟩
    obtain rfl := hw'.symm
    clear hC hw'
    go_wp2
    go_ret3
    exact ⟨rfl, 0, rfl⟩
  · have hB : Lib.indexByte s.data.toList c = i := (idxB_index c _).trans hix
    obtain ⟨e1, e2, e3⟩ := Lib.cutB_hit s ⟨#[c]⟩ i hix
    rw [show ([c] : List UInt8) = (⟨#[c]⟩ : ByteArray).data.toList from rfl, e1, e2, e3]
    rw [hB] at hC
    have hroom : i + 1 ≤ s.size := hroom
    have c1 : (0 : Int) ≤ ↑i := by omega
    have c2 : (↑i : Int) ≤ ↑s.size := by omega
    have c3 : (0 : Int) ≤ ↑i + 1 := by omega
    have c4 : (↑i + 1 : Int) ≤ ↑s.size := by omega
    have c5 : IntKind.i64.wrap ((i : Int) + 1) = (i : Int) + 1 := by rw [IntKind.wrap_i64]; omega
    clear hB e1 e2 e3 hix
    go_enter Tryz.func127, Tryz.ntmps127
    go_wp2_with fail
    refine hC.mono ?_
    rintro e w' ⟨rfl, hw'⟩
    obtain rfl := hw'.symm
    clear hC hw'
    go_wp2
    go_region
    go_wp2
    go_ret3
    exact ⟨rfl, 1, rfl⟩
set_option maxHeartbeats 1000000 in
theorem cut1_any (s : ByteArray) (c : UInt8) (w : World) (hs : s.size ≤ 1000000000000000) :
    Calls Tryz.prog 101 #[.string s, .string ⟨#[c]⟩] w fun e w' => e = .returned (.tuple #[.string ⟨(Lib.cut s.data.toList [c]).1.toArray⟩, .string ⟨(Lib.cut s.data.toList [c]).2.1.toArray⟩, .bool (Lib.cut s.data.toList [c]).2.2]) ∧ ∃ n, w' = w.drewN n := by
  have hC := lcut_any s c w hs
  generalize (Lib.cut s.data.toList [c]) = x at *
  obtain ⟨x1, x2, x3⟩ := x
  dsimp only at *
  go_enter Tryz.func101, Tryz.ntmps101
  go_wp2_with fail
  refine hC.mono ?_
  rintro e w' ⟨rfl, n, rfl⟩
  clear hC
  go_wp2
  go_ret3
  exact ⟨rfl, n, rfl⟩
end Go.Proofs.YtanndhoimpnhpaaGreatDoor
