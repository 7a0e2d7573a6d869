/- Joined by program: KpD, Bq, Bc, Two, RnF, AdJ, AdK, RnG, LwA, TyK, TxW. -/
import Derived.Test.YtanndhoimpnhpaaGreatDoorM18
import Derived.Test.YtanndhoimpnhpaaGreatDoorM10
import Derived.Test.YtanndhoimpnhpaaGreatDoorM12
import Derived.Test.YtanndhoimpnhpaaGreatDoorM8
import Derived.Test.YtanndhoimpnhpaaGreatDoorM17
import Derived.Test.YtanndhoimpnhpaaGreatDoorM9
import Derived.Deep.RegionHeld3
namespace Go.Proofs.YtanndhoimpnhpaaGreatDoor
open Go.ChangeShapes Go.WideShapes Go.RowKit Go.WideMaps Go.Maps Cal
set_option maxRecDepth 10000 in
set_option maxHeartbeats 2000000 in
theorem same_true (w : World) (v u : Value) (L : List En) (h1 : EnV w v L) (h2 : EnV w u L) (hL : L.length ≤ 4000000000000) :
    Calls Tryz.prog 22 #[v, u] w fun e w' => e = .returned (.bool true) ∧ Below w.heap.size w w' := by
  obtain ⟨p, cap, rfl, hc1, hr1⟩ := h1
  obtain ⟨q, cap2, rfl, hc2, hr2⟩ := h2
  have H1 : Hid (∀ k (hk : k < L.length), ∃ b o, p = some ⟨b, o, none⟩ ∧ b < w.heap.size ∧ w.rangeAt b (o + k * 3) (enl L[k])) := hr1
  have H2 : Hid (∀ k (hk : k < L.length), ∃ b o, q = some ⟨b, o, none⟩ ∧ b < w.heap.size ∧ w.rangeAt b (o + k * 3) (enl L[k])) := hr2
  clear hr1 hr2
  have hne : ((L.length : Int) != (L.length : Int)) = false := by simp
  go_enter Tryz.func22, Tryz.ntmps22
  go_wp2
  go_loopw [5] (fun i wr => ∃ k : Nat, k ≤ L.length ∧ i = .int .i64 k ∧ Below w.heap.size w wr) (fun i _ => (L.length - intOf i).toNat)
  case atStart => exact ⟨0, Nat.zero_le _, rfl, Below.refl _ _⟩
  case round =>
    obtain ⟨k, hk, rfl, hb⟩ := hrel
    have HB : Hid (Below w.heap.size w wr) := hb
    clear hb
    by_cases hlt : k < L.length
    · obtain ⟨b, o, rfl, hbl, hx1⟩ := H1.out k hlt
      obtain ⟨b2, o2, rfl, hbl2, hx2⟩ := H2.out k hlt
      have HR1 : Hid (∀ wx, Below w.heap.size w wx → wx.rangeAt b (o + k * 3) (enl L[k])) := fun wx hx j u hu => (World.cell?_of_block (w := w) (a := ⟨b, o + k * 3 + j, none⟩) (hx.block b hbl)).trans (hx1 j u hu)
      have HR2 : Hid (∀ wx, Below w.heap.size w wx → wx.rangeAt b2 (o2 + k * 3) (enl L[k])) := fun wx hx j u hu => (World.cell?_of_block (w := w) (a := ⟨b2, o2 + k * 3 + j, none⟩) (hx.block b2 hbl2)).trans (hx2 j u hu)
      clear hx1 hx2
      generalize L[k] = e at *
      obtain ⟨ed, ek, ea⟩ := e
      have zk : (k : Int) < (L.length : Int) := by omega
      go_upto_region 6 with fail
      refine wp_region_held_drew (S := fun wx => Below w.heap.size w wx) (by kernel_rfl) HB.out.drew (fun hHeld => ?_)
      clear HB
      generalize wr.drew = V1 at *
      refine wpAnyH_take (i := 0) (v := (.slice (some ⟨b, o, none⟩) L.length cap)) rfl (by kernel_rfl) (by kernel_rfl) (by kernel_rfl) (fun _ _ _ h => h) (Or.inl ⟨by rfl, fun wx hSw => by kernel_rfl⟩) (by assumption) ?_
      simp only [Act.put, List.getElem_toArray, List.getElem_cons_zero, List.setIfInBounds_toArray, List.set_cons_zero, List.set_cons_succ]
      refine wpAnyH_take (i := 1) (v := (.int .i64 k)) rfl (by kernel_rfl) (by kernel_rfl) (by kernel_rfl) (fun _ _ _ h => h) (Or.inl ⟨by rfl, fun wx hSw => by kernel_rfl⟩) (by assumption) ?_
      simp only [Act.put, List.getElem_toArray, List.getElem_cons_succ, List.getElem_cons_zero, List.setIfInBounds_toArray, List.set_cons_zero, List.set_cons_succ]
      refine wpAnyH_take (i := 2) (v := (.pointer (some ⟨b, o + k * 3, none⟩))) rfl (by kernel_rfl) (by kernel_rfl) (by kernel_rfl) (fun _ _ _ h => h) (Or.inl ⟨by rfl, fun wx hSw => by ((try dsimp only at hSw); go_simp)⟩) (by assumption) ?_
      simp only [Act.put, List.getElem_toArray, List.getElem_cons_succ, List.getElem_cons_zero, List.setIfInBounds_toArray, List.set_cons_zero, List.set_cons_succ]
      refine wpAnyH_take (i := 3) (v := (.agg (enl ⟨ed, ek, ea⟩).toArray)) rfl (by kernel_rfl) (by kernel_rfl) (by kernel_rfl) (fun _ _ _ h => h) (yieldsIf_load_mid (by rfl) 114 (.tmp 19) rfl _ _ rfl _ _ (fun _ h => HR1.out _ h) Tryz.underlying114 rfl (by kernel_rfl)) (by assumption) ?_
      simp only [Act.put, List.getElem_toArray, List.getElem_cons_succ, List.getElem_cons_zero, List.setIfInBounds_toArray, List.set_cons_zero, List.set_cons_succ]
      refine wpAnyH_take (i := 4) (v := (.slice (some ⟨b2, o2, none⟩) L.length cap2)) rfl (by kernel_rfl) (by kernel_rfl) (by kernel_rfl) (fun _ _ _ h => h) (Or.inl ⟨by rfl, fun wx hSw => by kernel_rfl⟩) (by assumption) ?_
      simp only [Act.put, List.getElem_toArray, List.getElem_cons_succ, List.getElem_cons_zero, List.setIfInBounds_toArray, List.set_cons_zero, List.set_cons_succ]
      refine wpAnyH_take (i := 5) (v := (.int .i64 k)) rfl (by kernel_rfl) (by kernel_rfl) (by kernel_rfl) (fun _ _ _ h => h) (Or.inl ⟨by rfl, fun wx hSw => by kernel_rfl⟩) (by assumption) ?_
      simp only [Act.put, List.getElem_toArray, List.getElem_cons_succ, List.getElem_cons_zero, List.setIfInBounds_toArray, List.set_cons_zero, List.set_cons_succ]
      refine wpAnyH_take (i := 6) (v := (.pointer (some ⟨b2, o2 + k * 3, none⟩))) rfl (by kernel_rfl) (by kernel_rfl) (by kernel_rfl) (fun _ _ _ h => h) (Or.inl ⟨by rfl, fun wx hSw => by ((try dsimp only at hSw); go_simp)⟩) (by assumption) ?_
      simp only [Act.put, List.getElem_toArray, List.getElem_cons_succ, List.getElem_cons_zero, List.setIfInBounds_toArray, List.set_cons_zero, List.set_cons_succ]
      refine wpAnyH_take (i := 7) (v := (.agg (enl ⟨ed, ek, ea⟩).toArray)) rfl (by kernel_rfl) (by kernel_rfl) (by kernel_rfl) (fun _ _ _ h => h) (yieldsIf_load_mid (by rfl) 114 (.tmp 23) rfl _ _ rfl _ _ (fun _ h => HR2.out _ h) Tryz.underlying114 rfl (by kernel_rfl)) (by assumption) ?_
      simp only [Act.put, List.getElem_toArray, List.getElem_cons_succ, List.getElem_cons_zero, List.setIfInBounds_toArray, List.set_cons_zero, List.set_cons_succ]
      have HB1 : Hid (Below w.heap.size w V1) := hHeld
      refine wpAnyH_take (i := 8) (v := (.bool false)) rfl (by kernel_rfl) (by kernel_rfl) (by kernel_rfl) (fun _ _ _ h => h) (Or.inl ⟨by rfl, fun wx hSw => by (unfold enl; go_simp)⟩) (by assumption) ?_
      simp only [Act.put, List.getElem_toArray, List.getElem_cons_succ, List.getElem_cons_zero, List.setIfInBounds_toArray, List.set_cons_zero, List.set_cons_succ]
      refine wpAnyH_done (by kernel_rfl) ?_ _
      clear hHeld HR1 HR2
      go_wp2
      exact ⟨⟨k + 1, hlt, rfl, HB1.out⟩, by simp [intOf]; omega⟩
    · obtain rfl : k = L.length := by omega
      have zk : ¬ (L.length : Int) < (L.length : Int) := by omega
      go_wp2
      go_ret
      exact ⟨rfl, HB.out⟩
def ToldPost (w : World) (t : Ln.Terms) (l : List Ln.Ev) (e : Ending) (w' : World) : Prop :=
  ∃ B E, e = .returned (.pointer (some ⟨B, 0, none⟩)) ∧ E.Perm l ∧ Lo w' B t E (Ln.start t) t.st [] (Wd (fun _ => False) w w') ∧ Below w.heap.size w w'
theorem Wd.comp {w w1 w2 : World} {b : Nat} (h12 : w1.heap.size ≤ w2.heap.size) (h01 : w.heap.size ≤ w1.heap.size) (h : Wd (Wd (fun _ => False) w w1) w1 w2 b) : Wd (fun _ => False) w w2 b := by
  rcases h with (h | h) | h
  · exact h.elim
  · exact .inr ⟨h.1, by omega⟩
  · exact .inr ⟨by omega, h.2⟩
theorem Lim.below {w w1 : World} (h : Lim w) (hb : Below w.heap.size w w1) : Lim w1 := h.keep (S := fun _ => False) (Keep.below hb) (fun x => x)
theorem add_zero {t : Ln.Terms} {E l : List Ln.Ev} {e : Ln.Ev} (k : Nat) (hp : E.Perm (l.take k)) (hk : k < l.length) (hl : l.length ≤ 40) (he : l[k] = e) (hg : evF t e = 0) (hd : l.Pairwise (fun a b => ¬ a.s = b.s)) : addC t E e = 0 := by
  have hlen : E.length = k := by rw [hp.length_eq, List.length_take]; omega
  rw [addC_eq, if_neg (by simp [hg]), if_neg (by omega)]
  have hs : ¬ hasS e.s E = true := by
    intro h
    obtain ⟨x, hx, hq⟩ := List.any_eq_true.1 h
    have hx2 := hp.mem_iff.1 hx
    obtain ⟨j, hj, rfl⟩ := List.getElem_of_mem hx2
    have hjk : j < k := by rw [List.length_take] at hj; omega
    rw [List.getElem_take] at hq
    have := List.pairwise_iff_getElem.1 hd j k (by omega) hk hjk
    rw [he] at this
    simp at hq
    exact this hq
  rw [if_neg hs]
set_option maxRecDepth 10000 in
set_option maxHeartbeats 2000000 in
theorem told_any (w : World) (t : Ln.Terms) (ht : rtB t = true) (Eb : Nat) (v : Value) (l : List Ln.Ev) (h : EvV w Eb v l) (hl : l.length ≤ 40) (hg : ∀ e ∈ l, evF t e = 0) (hd : l.Pairwise (fun a b => ¬ a.s = b.s)) (hlim : Lim w) :
    Calls Tryz.prog 15 #[tmV t, v] w (ToldPost w t l) := by
  obtain ⟨p, cap, rfl, hcap, hat⟩ := h
  have HAt : Hid (EvAt w Eb p l) := hat
  have HG : Hid (∀ e ∈ l, evF t e = 0) := hg
  have HD : Hid (l.Pairwise (fun a b => ¬ a.s = b.s)) := hd
  have HLm : Hid (Lim w) := hlim
  have a0 : At (w.alloc (.cells (tml t).toArray 23)) w.heap.size (tml t) := At.alloc w (tml t) _
  have b0 : Below w.heap.size w (w.alloc (.cells (tml t).toArray 23)) := (Below.refl _ _).alloc (Nat.le_refl _) _
  have hO := fun W => openL t W ht
  clear hat hg hd hlim
  unfold tmV at *
  go_enter Tryz.func15, Tryz.ntmps15
  go_upto_region 1 with fail
  change Code.wp _ _ _ _ (w.alloc (.cells (tml t).toArray 23))
  generalize w.alloc (.cells (tml t).toArray 23) = V at *
  refine wp_region_lit ?_
  refine wpList_load_mid rfl 23 (.tmp 2) rfl _ 0 rfl (tml t) _ a0.range Tryz.underlying23 rfl (by kernel_rfl) ?_
  simp only [Act.put, List.setIfInBounds_toArray, List.set_cons_zero, List.set_cons_succ]
  clear a0
  go_wp2_with fail
  refine (hO V).mono ?_
  rintro e w1 ⟨B, rfl, hLo, hb1⟩
  have hbw : Below w.heap.size w w1 := b0.trans (hb1.mono b0.size)
  have HLo : Hid (Lo w1 B t [] (Ln.start t) t.st [] (Wd (fun _ => False) w w1)) := hLo.mono (fun b _ hb => .inr ⟨Nat.le_trans b0.size (Wd.fresh hb), by rcases hb with h | h; exact h.elim; exact h.2⟩)
  have HBw : Hid (Below w.heap.size w w1) := hbw
  clear hO hLo hb1 hbw b0
  go_wp2
  go_loopw [7, 8] (fun i _ wr => ∃ (k : Nat) (E : List Ln.Ev), k ≤ l.length ∧ i = .int .i64 k ∧ E.Perm (l.take k) ∧ Lo wr B t E (Ln.start t) t.st [] (Wd (fun _ => False) w wr) ∧ Below w.heap.size w wr) (fun i _ _ => (l.length - intOf i).toNat)
  case atStart => exact ⟨0, [], Nat.zero_le _, rfl, by simp, HLo.out, HBw.out⟩
  case round =>
    obtain ⟨k, E, hk, rfl, hp, hLo, hb⟩ := hrel
    have HP : Hid (E.Perm (l.take k)) := hp
    have HLo2 : Hid (Lo wr B t E (Ln.start t) t.st [] (Wd (fun _ => False) w wr)) := hLo
    have HB2 : Hid (Below w.heap.size w wr) := hb
    clear hp hLo hb HLo HBw
    by_cases hlt : k < l.length
    · obtain ⟨o, rfl, hEl, hr⟩ := HAt.out.range k hlt
      have hr2 : wr.rangeAt Eb (o + k * 4) (evl l[k]) := fun j u hu => (World.cell?_of_block (w := w) (a := ⟨Eb, o + k * 4 + j, none⟩) (HB2.out.block Eb hEl)).trans (hr j u hu)
      have hA := addL wr B t E _ _ _ _ HLo2.out l[k] (HLm.out.below HB2.out)
      have hz := add_zero k HP.out hlt hl rfl (HG.out _ (List.getElem_mem hlt)) HD.out
      rw [hz] at hA
      have HPk : Hid (∀ E' : List Ln.Ev, E'.Perm (l[k] :: E) → E'.Perm (l.take (k + 1))) := fun E' h => by
        rw [List.take_succ_eq_append_getElem hlt]
        exact h.trans ((List.Perm.cons _ HP.out).trans (List.perm_append_singleton _ _).symm)
      clear hr hz
      generalize l[k] = e at *
      unfold evV at hA
      have zk : (k : Int) < (l.length : Int) := by omega
      go_upto_region 7 with fail
      refine wp_region_lit ?_
      refine wpList_val (.pointer (some ⟨B, 0, none⟩)) wr rfl rfl ?_
      simp only [Act.put, List.setIfInBounds_toArray, List.set_cons_zero, List.set_cons_succ]
      refine wpList_val (.slice (some ⟨Eb, o, none⟩) l.length cap) wr rfl rfl ?_
      simp only [Act.put, List.setIfInBounds_toArray, List.set_cons_zero, List.set_cons_succ]
      refine wpList_val (.int .i64 k) wr rfl rfl ?_
      simp only [Act.put, List.setIfInBounds_toArray, List.set_cons_zero, List.set_cons_succ]
      refine wpList_val (.pointer (some ⟨Eb, o + k * 4, none⟩)) wr rfl (by go_simp) ?_
      simp only [Act.put, List.setIfInBounds_toArray, List.set_cons_zero, List.set_cons_succ]
      refine wpList_load_mid rfl 50 (.tmp 29) rfl _ _ rfl (evl e) _ hr2 Tryz.underlying50 rfl (by kernel_rfl) ?_
      simp only [Act.put, List.setIfInBounds_toArray, List.set_cons_zero, List.set_cons_succ]
      clear hr2
      go_wp2_with fail
      refine hA.mono ?_
      rintro x w2 ⟨rfl, hk2, ⟨hn, _⟩ | ⟨_, E', hE', hLo'⟩⟩
      · simp at hn
      · have HB3 : Hid (Below w.heap.size w w2) := Keep.fresh HB2.out hk2 (fun b x => Wd.fresh x)
        have HL3 : Hid (Lo w2 B t E' (Ln.start t) t.st [] (Wd (fun _ => False) w w2)) := hLo'.mono (fun b _ hb => Wd.comp hk2.size HB2.out.size hb)
        have HE3 : Hid (E'.Perm (l.take (k + 1))) := HPk.out E' hE'
        clear hA hk2 hE' hLo' HPk HP HLo2 HB2
        go_wp2
        exact ⟨⟨k + 1, E', hlt, rfl, HE3.out, HL3.out, HB3.out⟩, by simp [intOf]; omega⟩
    · obtain rfl : k = l.length := by omega
      have HE : Hid (ToldPost w t l (.returned (.pointer (some ⟨B, 0, none⟩))) wr) := ⟨B, E, rfl, by have := HP.out; rwa [List.take_length] at this, HLo2.out, HB2.out⟩
      have zk : ¬ (l.length : Int) < (l.length : Int) := by omega
      clear HP HLo2 HB2
      go_wp2
      go_ret
      exact HE.out
end Go.Proofs.YtanndhoimpnhpaaGreatDoor
namespace Go.Proofs.YtanndhoimpnhpaaGreatDoor
open Go.RowKit
end Go.Proofs.YtanndhoimpnhpaaGreatDoor
namespace Go.Proofs.YtanndhoimpnhpaaGreatDoor
open Go.RowKit
end Go.Proofs.YtanndhoimpnhpaaGreatDoor
namespace Go.Proofs.YtanndhoimpnhpaaGreatDoor
open Go.ChangeShapes Go.WideShapes Go.RowKit Go.WideMaps Go.Maps Cal
structure One (w : World) (NT : Nat) (B : Nat) (t : Ln.Terms) (E : List Ln.Ev) (g : Ln.St) (d : Int) (L : List En) (F : Nat → Prop) (wx : World) : Prop where
  lo : Lo wx B t E g d L F
  nt : ¬ F NT
  ge : ∀ b, F b → w.heap.size ≤ b
  lt : ∀ b, F b → b < wx.heap.size
structure Two (w : World) (NT : Nat) (t : Ln.Terms) (E : List Ln.Ev) (B1 B2 : Nat) (g1 : Ln.St) (d1 : Int) (L1 : List En) (g2 : Ln.St) (d2 : Int) (L2 : List En) (F1 F2 : Nat → Prop) (wx : World) : Prop where
  x : One w NT B1 t E g1 d1 L1 F1 wx
  y : One w NT B2 t E g2 d2 L2 F2 wx
  ap : ∀ b, F1 b → ¬ F2 b
  bl : Below w.heap.size w wx
theorem One.keep {S F : Nat → Prop} {w wx wy : World} {NT B : Nat} {t : Ln.Terms} {E : List Ln.Ev} {g : Ln.St} {d : Int} {L : List En} (h : One w NT B t E g d L F wx) (hk : Keep S wx wy) (hs : ∀ b, F b → ¬ S b) : One w NT B t E g d L F wy :=
  ⟨h.lo.keep hk (fun b _ hb => hs b hb), h.nt, h.ge, fun b hb => Nat.lt_of_lt_of_le (h.lt b hb) hk.size⟩
theorem One.below {F : Nat → Prop} {w wx wy : World} {NT B : Nat} {t : Ln.Terms} {E : List Ln.Ev} {g : Ln.St} {d : Int} {L : List En} (h : One w NT B t E g d L F wx) (hb : Below wx.heap.size wx wy) : One w NT B t E g d L F wy := h.keep (S := fun _ => False) (Keep.below hb) (fun _ _ x => x)
theorem Two.below {F1 F2 : Nat → Prop} {w wx wy : World} {NT B1 B2 : Nat} {t : Ln.Terms} {E : List Ln.Ev} {g1 g2 : Ln.St} {d1 d2 : Int} {L1 L2 : List En} (h : Two w NT t E B1 B2 g1 d1 L1 g2 d2 L2 F1 F2 wx) (hb : Below wx.heap.size wx wy) : Two w NT t E B1 B2 g1 d1 L1 g2 d2 L2 F1 F2 wy :=
  ⟨h.x.below hb, h.y.below hb, h.ap, h.bl.trans (hb.mono h.bl.size)⟩
theorem One.run {F : Nat → Prop} {w wx : World} {NT B : Nat} {t : Ln.Terms} {E : List Ln.Ev} {g : Ln.St} {d : Int} {L : List En} (h : One w NT B t E g d L F wx) (hb : Below w.heap.size w wx) (hmv : Mv w) (hL : L.length ≤ 4000000000000) (m : Nat) (h0 : d ≤ t.st + m) (hm : m ≤ 3700) (hNT : NT < wx.heap.size) :
    Calls Tryz.prog 17 #[.pointer (some ⟨B, 0, none⟩), .int .i64 (t.st + m)] wx fun e wy => e = .returned (.int .i64 0) ∧ One w NT B t E (Ln.run t cdOf (wtOf t.ba) E m) (t.st + m) (bkP t.st (fun k => (yOf t E k).am) L m) (Wd F wx wy) wy ∧ Keep F wx wy := by
  have hg := hmv.lt
  refine (runL wx B t E g d L F h.lo hL m h0 hm (hmv.below hb) (fun x => by have := h.ge _ x; omega)).mono ?_
  rintro e wy ⟨rfl, h1, h2⟩
  refine ⟨rfl, ⟨h1, ?_, ?_, ?_⟩, h2⟩
  · rintro (x | x)
    · exact h.nt x
    · omega
  · rintro b (x | x)
    · exact h.ge b x
    · have := hb.size; omega
  · rintro b (x | x)
    · exact Nat.lt_of_lt_of_le (h.lt b x) h2.size
    · exact x.2
theorem Two.runX {F1 F2 : Nat → Prop} {w wx : World} {NT B1 B2 : Nat} {t : Ln.Terms} {E : List Ln.Ev} {g1 g2 : Ln.St} {d1 d2 : Int} {L1 L2 : List En} (h : Two w NT t E B1 B2 g1 d1 L1 g2 d2 L2 F1 F2 wx) (hmv : Mv w) (hL : L1.length ≤ 4000000000000) (m : Nat) (h0 : d1 ≤ t.st + m) (hm : m ≤ 3700) (hNT : At wx NT (tml t)) :
    Calls Tryz.prog 17 #[.pointer (some ⟨B1, 0, none⟩), .int .i64 (t.st + m)] wx fun e wy => e = .returned (.int .i64 0) ∧ (∃ F, Two w NT t E B1 B2 (Ln.run t cdOf (wtOf t.ba) E m) (t.st + m) (bkP t.st (fun k => (yOf t E k).am) L1 m) g2 d2 L2 F F2 wy) ∧ At wy NT (tml t) := by
  have hl := At.lt (v := .int .i64 t.st) hNT
  refine (h.x.run h.bl hmv hL m h0 hm hl).mono ?_
  rintro e wy ⟨rfl, h1, h2⟩
  refine ⟨rfl, ⟨_, h1, h.y.keep h2 (fun b hb hx => h.ap b hx hb), ?_, Keep.fresh h.bl h2 h.x.ge⟩, At.keep (v := .int .i64 t.st) hNT h2 h.x.nt⟩
  rintro b (x | x)
  · exact h.ap b x
  · intro y; have := h.y.lt b y; omega
theorem Two.runY {F1 F2 : Nat → Prop} {w wx : World} {NT B1 B2 : Nat} {t : Ln.Terms} {E : List Ln.Ev} {g1 g2 : Ln.St} {d1 d2 : Int} {L1 L2 : List En} (h : Two w NT t E B1 B2 g1 d1 L1 g2 d2 L2 F1 F2 wx) (hmv : Mv w) (hL : L2.length ≤ 4000000000000) (m : Nat) (h0 : d2 ≤ t.st + m) (hm : m ≤ 3700) (hNT : At wx NT (tml t)) :
    Calls Tryz.prog 17 #[.pointer (some ⟨B2, 0, none⟩), .int .i64 (t.st + m)] wx fun e wy => e = .returned (.int .i64 0) ∧ (∃ F, Two w NT t E B1 B2 g1 d1 L1 (Ln.run t cdOf (wtOf t.ba) E m) (t.st + m) (bkP t.st (fun k => (yOf t E k).am) L2 m) F1 F wy) ∧ At wy NT (tml t) := by
  have hl := At.lt (v := .int .i64 t.st) hNT
  refine (h.y.run h.bl hmv hL m h0 hm hl).mono ?_
  rintro e wy ⟨rfl, h1, h2⟩
  refine ⟨rfl, ⟨_, h.x.keep h2 (fun b hb hx => h.ap b hb hx), h1, ?_, Keep.fresh h.bl h2 h.y.ge⟩, At.keep (v := .int .i64 t.st) hNT h2 h.y.nt⟩
  intro b hb
  rintro (x | x)
  · exact h.ap b hb x
  · have := h.x.lt b hb; omega
theorem Lo.facts {w : World} {B : Nat} {t : Ln.Terms} {E : List Ln.Ev} {g : Ln.St} {d : Int} {L : List En} {F : Nat → Prop} (h : Lo w B t E g d L F) : E.Pairwise So.Ah ∧ (∀ e ∈ E, Ln.OkE t e) ∧ E.length ≤ 40 ∧ Ln.OkT t := by
  obtain ⟨_, _, _, _, h1, _⟩ := h
  exact ⟨h1.so, h1.ok, h1.le, h1.ot⟩
noncomputable def amOf (t : Ln.Terms) (E : List Ln.Ev) : Nat → Nat → Int := fun k => (yOf t E k).am
theorem amOf_bd {t : Ln.Terms} {E : List Ln.Ev} (hE : ∀ e ∈ E, Ln.OkE t e) (hl : E.length ≤ 40) (ht : Ln.OkT t) : ∀ k j, k < 3700 → 1 ≤ j → j ≤ 12 → I64 (amOf t E k j) := fun k j hk h1 h12 => by
  have := am_bd ht E hE hl k hk j h1 h12
  show -9223372036854775808 ≤ (yOf t E k).am j ∧ (yOf t E k).am j ≤ 9223372036854775807
  omega
end Go.Proofs.YtanndhoimpnhpaaGreatDoor
namespace Go.Proofs.YtanndhoimpnhpaaGreatDoor.Ln
open Go.Proofs.YtanndhoimpnhpaaGreatDoor Cal
end Go.Proofs.YtanndhoimpnhpaaGreatDoor.Ln
namespace Go.Proofs.YtanndhoimpnhpaaGreatDoor
open Go.ChangeShapes Go.WideShapes Go.ChangeAt Go.RowKit Lg Cal
end Go.Proofs.YtanndhoimpnhpaaGreatDoor
namespace Go.Proofs.YtanndhoimpnhpaaGreatDoor
open Go.ChangeShapes Go.WideShapes Go.RowKit Go.WideMaps Go.Maps Cal
end Go.Proofs.YtanndhoimpnhpaaGreatDoor
namespace Go.Proofs.YtanndhoimpnhpaaGreatDoor
open Go.ChangeShapes Go.WideShapes Go.RowKit Go.WideMaps Go.Maps Cal
end Go.Proofs.YtanndhoimpnhpaaGreatDoor
namespace Go.Proofs.YtanndhoimpnhpaaGreatDoor
open Go.ChangeShapes Go.WideShapes Go.ChangeAt Go.RowKit Lg Cal
end Go.Proofs.YtanndhoimpnhpaaGreatDoor
namespace Go.Proofs.YtanndhoimpnhpaaGreatDoor
open Go.ChangeShapes Go.WideShapes Go.ChangeAt Go.RowKit Go.WideMaps Go.Maps Lg Cal
theorem ah_distinct {E l : List Ln.Ev} (h : E.Perm l) (hd : l.Pairwise (fun a b => ¬ a.s = b.s)) : E.Pairwise (fun a b => ¬ a.s = b.s) :=
  (h.symm.pairwise_iff (fun x => fun y => x y.symm)).1 hd
end Go.Proofs.YtanndhoimpnhpaaGreatDoor
namespace Go.Proofs.YtanndhoimpnhpaaGreatDoor
open Go.RowKit Cal
def EnOk (st day : Int) (e : En) : Prop := st ≤ e.d ∧ e.d < day ∧ 1 ≤ e.k ∧ e.k ≤ 12 ∧ ¬ e.a = 0 ∧ I64 e.a
theorem wrap_neg0 {n : Int} (h : I64 n) (h0 : ¬ n = 0) : ¬ wrap64 (-n) = 0 := by
  unfold wrap64
  unfold I64 at h
  omega
theorem kindsW_ok {n : Int} {h am : Nat → Int} {e : En} (hh : ∀ i, I64 (h i)) (ha : ∀ i, 1 ≤ i → i ≤ 12 → I64 (am i)) : ∀ j, j ≤ 12 → e ∈ kindsW n h am j → ¬ e.a = 0 ∧ I64 e.a
  | 0, _, he => by simp [kindsW] at he
  | j + 1, hj, he => by
    rw [kindsW] at he
    rcases List.mem_append.1 he with he | he
    · exact kindsW_ok hh ha j (by omega) he
    · unfold kindW at he
      split at he
      · simp at he
      · rcases List.mem_append.1 he with he | he
        · split at he
          · simp at he
          · rename_i h0
            rw [List.mem_singleton.1 he]
            exact ⟨wrap_neg0 (hh _) h0, wrap64_i64 _⟩
        · split at he
          · simp at he
          · rename_i h0
            rw [List.mem_singleton.1 he]
            exact ⟨h0, ha _ (by omega) hj⟩
theorem bkP_ok {st : Int} {am : Nat → Nat → Int} {L : List En} {e : En} : ∀ m : Nat, (∀ k j, k < m → 1 ≤ j → j ≤ 12 → I64 (am k j)) → e ∈ bkP st am L m → e ∈ L ∨ EnOk st (st + m) e
  | 0, _, he => .inl he
  | m + 1, ha, he => by
    rw [bkP] at he
    rcases List.mem_append.1 he with h | h
    · rcases bkP_ok m (fun k j hk => ha k j (by omega)) h with h1 | h1
      · exact .inl h1
      · obtain ⟨h2, h3, h4⟩ := h1
        exact .inr ⟨h2, by omega, h4⟩
    · have h1 := kindsW_mem h
      have h2 := kindsW_ok (fun i => sumOf_i64 _ _ _) (fun j h1 h2 => ha m j (by omega) h1 h2) 12 (Nat.le_refl _) h
      exact .inr ⟨by omega, by omega, by omega, by omega, h2⟩
theorem run_in {t : Ln.Terms} {E : List Ln.Ev} (hE : ∀ e ∈ E, Ln.OkE t e) (hl : E.length ≤ 40) (ht : Ln.OkT t) (m : Nat) (hm : m ≤ 3700) : ∀ n ∈ nwN (Ln.run t cdOf (wtOf t.ba) E m), InR n := by
  have hI := Ln.run_inv ht cdOf (wtOf t.ba) (wsOf t.ba t.st) (wsOf_le _ _) (wsOf_eq _ _) E hE m
  have hs := sw_bd t.ba t.st ht.st0 ht.st1 m hm
  have hb := Ln.tot_bound ht E hE hl m
  have h1 := hI.bound hs hb
  have h2 := Ln.run_fn_bd ht E hE hl m hm
  have q0 := hI.pr
  have q1 := hI.it
  have q2 := hI.du
  have q3 := hI.la
  have q4 := hI.fi
  have q5 := hI.cr
  have q6 := hI.rt0
  have q7 := hI.rt1
  have q8 := hI.cr1
  have q9 := hI.fi1
  intro n hn
  simp only [nwN, List.mem_cons, List.not_mem_nil, or_false] at hn
  unfold InR
  rcases hn with rfl | rfl | rfl | rfl | rfl | rfl | rfl <;> omega
structure Sav (t : Ln.Terms) (E : List Ln.Ev) (g : Ln.St) (day : Int) (L : List En) : Prop where
  rt : rtB t = true
  so : E.Pairwise So.Ah
  ds : E.Pairwise (fun a b => ¬ a.s = b.s)
  f0 : ∀ e ∈ E, evF t e = 0 ∧ InR e.s
  le : E.length ≤ 40
  d0 : t.st ≤ day
  d1 : day ≤ t.st + 3700
  nw : ∀ n ∈ nwN g, InR n
  en : ∀ e ∈ L, EnOk t.st day e
theorem evF_in {t : Ln.Terms} {e : Ln.Ev} (ht : Ln.OkT t) (h : evF t e = 0) : InR e.d ∧ InR e.k ∧ InR e.a := by
  unfold evF at h
  have h1 := ht.st0
  have h2 := ht.st1
  split at h
  · omega
  · split at h
    · omega
    · split at h
      · omega
      · rename_i a b c
        have hf : fitsB e.k e.a = true := by
          cases hx : fitsB e.k e.a with
          | true => rfl
          | false => exact absurd hx c
        unfold fitsB at hf
        unfold InR
        refine ⟨by omega, by omega, ?_⟩
        split at hf
        · simp at hf; omega
        · split at hf
          · simp at hf; omega
          · split at hf
            · simp at hf; omega
            · simp at hf; omega
theorem Sav.tel {t : Ln.Terms} {E : List Ln.Ev} {g : Ln.St} {day : Int} {L : List En} (h : Sav t E g day L) : Tel t E day L := by
  refine ⟨h.rt, fun i hi => ⟨fun x hx => ?_, ?_⟩, h.d0, h.d1, fun e he => ?_⟩
  · have hm : x ∈ E.take i := List.mem_of_getLast? hx
    have hp := h.so
    rw [← List.take_append_drop i E, List.drop_eq_getElem_cons hi] at hp
    exact (List.pairwise_append.1 hp).2.2 x hm E[i] List.mem_cons_self
  · have h1 := h.le
    rw [addC_eq, if_neg (by rw [(h.f0 E[i] (List.getElem_mem hi)).1]; simp), if_neg (by rw [List.length_take]; omega), if_neg]
    intro hx
    unfold hasS at hx
    rw [List.any_eq_true] at hx
    obtain ⟨x, hm, hq⟩ := hx
    have hp := h.ds
    rw [← List.take_append_drop i E, List.drop_eq_getElem_cons hi] at hp
    exact (List.pairwise_append.1 hp).2.2 x hm E[i] List.mem_cons_self (by simpa using hq)
  · obtain ⟨h1, h2, h3, h4, h5, _⟩ := h.en e he
    exact ⟨h1, h2, h3, h4, h5⟩
theorem Sav.rg {t : Ln.Terms} {E : List Ln.Ev} {g : Ln.St} {day : Int} {L : List En} (h : Sav t E g day L) : Rg t E g day L := by
  have ht := rt_ok h.rt
  have h0 := ht.st0
  have h1 := ht.st1
  have hd0 := h.d0
  have hd1 := h.d1
  refine ⟨fun n hn => ?_, fun e he n hn => ?_, h.nw, by unfold InR; omega, fun e he n hn => ?_⟩
  · have a1 := ht.pr0
    have a2 := ht.pr1
    have a3 := ht.rt0
    have a4 := ht.rt1
    have a5 := ht.fi0
    have a6 := ht.fi1
    have hrt := h.rt
    unfold rtB at hrt
    simp at hrt
    simp only [tmN, List.mem_cons, List.not_mem_nil, or_false] at hn
    unfold InR
    rcases hn with rfl | rfl | rfl | rfl | rfl | rfl <;> omega
  · obtain ⟨a1, a2⟩ := h.f0 e he
    obtain ⟨b1, b2, b3⟩ := evF_in ht a1
    simp only [evN, List.mem_cons, List.not_mem_nil, or_false] at hn
    rcases hn with rfl | rfl | rfl | rfl
    · exact b1
    · exact b2
    · exact a2
    · exact b3
  · obtain ⟨a1, a2, a3, a4, _, a5⟩ := h.en e he
    simp only [enN, List.mem_cons, List.not_mem_nil, or_false] at hn
    rcases hn with rfl | rfl | rfl
    · unfold InR; omega
    · unfold InR; omega
    · exact a5
theorem Sav.len {t : Ln.Terms} {E : List Ln.Ev} {g : Ln.St} {day : Int} {L : List En} (h : Sav t E g day L) : (txtB t E g day L).length ≤ 5000 + 100 * L.length := by
  have hr := h.rg
  have h1 := lineB_len wLoan (tmN t) hr.tm
  have h2 := evT_len E hr.ev
  have h3 := lineB_len wAt [day] (fun n hn => by rw [List.mem_singleton.1 hn]; exact hr.dy)
  have h4 := lineB_len wNow (nwN g) hr.nw
  have h5 := enT_len L hr.en
  have h6 := lineB_len wEnd [] (fun n hn => by simp at hn)
  have h7 := h.le
  have e1 : wLoan.length = 4 := rfl
  have e2 : wAt.length = 2 := rfl
  have e3 : wNow.length = 3 := rfl
  have e4 : wEnd.length = 3 := rfl
  have e5 : (tmN t).length = 6 := rfl
  have e6 : (nwN g).length = 7 := rfl
  unfold txtB
  simp only [List.length_append, List.length_cons, List.length_nil] at *
  omega
theorem Sav.told {t : Ln.Terms} {E : List Ln.Ev} {g : Ln.St} {day : Int} {L : List En} (h : Sav t E g day L) : told (txtB t E g day L) = some ⟨t, E, cents g, day, L⟩ := txt_told h.tel h.rg
theorem Sav.run {t : Ln.Terms} {E : List Ln.Ev} {g : Ln.St} {day : Int} {L : List En} (h : Sav t E g day L) (hE : ∀ e ∈ E, Ln.OkE t e) (m : Nat) (h0 : day ≤ t.st + m) (hm : m ≤ 3700) :
    Sav t E (Ln.run t cdOf (wtOf t.ba) E m) (t.st + m) (bkP t.st (fun k => (yOf t E k).am) L m) := by
  refine ⟨h.rt, h.so, h.ds, h.f0, h.le, by omega, by omega, run_in hE h.le (rt_ok h.rt) m hm, fun e he => ?_⟩
  rcases bkP_ok m (fun k j hk h1 h2 => amOf_bd hE h.le (rt_ok h.rt) k j (by omega) h1 h2) he with h1 | h1
  · obtain ⟨a1, a2, a3⟩ := h.en e h1
    exact ⟨a1, by omega, a3⟩
  · exact h1
theorem Sav.start {t : Ln.Terms} (h : rtB t = true) : Sav t [] (Ln.start t) t.st [] := by
  have ht := rt_ok h
  refine ⟨h, List.Pairwise.nil, List.Pairwise.nil, fun e he => by simp at he, by simp, by omega, by omega, run_in (E := []) (fun e he => by simp at he) (by simp) ht 0 (by omega), fun e he => by simp at he⟩
theorem Sav.evs {t : Ln.Terms} {E E' : List Ln.Ev} {g : Ln.St} {day : Int} {L : List En} (h : Sav t E g day L) (so : E'.Pairwise So.Ah) (ds : E'.Pairwise (fun a b => ¬ a.s = b.s)) (f0 : ∀ e ∈ E', evF t e = 0 ∧ InR e.s) (le : E'.length ≤ 40) : Sav t E' g day L :=
  ⟨h.rt, so, ds, f0, le, h.d0, h.d1, h.nw, h.en⟩
theorem Sav.cents {t : Ln.Terms} {E : List Ln.Ev} {g : Ln.St} {day : Int} {L : List En} (h : Sav t E g day L) : Sav t E (cents g) day L :=
  ⟨h.rt, h.so, h.ds, h.f0, h.le, h.d0, h.d1, h.nw, h.en⟩
end Go.Proofs.YtanndhoimpnhpaaGreatDoor
namespace Go.Proofs.YtanndhoimpnhpaaGreatDoor
open Go.ChangeShapes Go.WideShapes Go.ChangeAt Go.RowKit Lg Cal Txt
theorem bj_mem : ∀ (P : List (List UInt8)) (p : List UInt8), p ∈ P → p.length ≤ (bj P).length
  | [], _, h => absurd h List.not_mem_nil
  | q :: P, p, h => by
    rcases List.mem_cons.1 h with rfl | h
    · simp [bj]; omega
    · have := bj_mem P p h
      simp only [bj, List.length_cons, List.length_append]
      omega
set_option maxRecDepth 10000 in
set_option maxHeartbeats 4000000 in
theorem read_any (w : World) (R : Nat) (s word : List UInt8) (c d n : Nat) (X : List Value) (nv : Value) (hA : At w R [.string (bs s)]) (hs : s.length < 4294967281) (hP : Pt w R nv c d n) (hX : At w c X) (hd : d + n ≤ X.length) (hcR : ¬ c = R) (hw : NoB word) (hwl : NoL word) (hw1 : 0 < word.length) (hn : n ≤ 100) (hg : Gl w) :
    Calls Tryz.prog 73 #[.pointer (some ⟨R, 0, none⟩), .string (bs word), nv] w (RdPost w R s word c d n X) := by
  obtain ⟨m, hm⟩ := hg.mx
  obtain ⟨pn, capn, rfl, hcapn, hpt⟩ := hP
  have c0 : w.cell? ⟨R, 0, none⟩ = some (.string (bs s)) := hA.cell 0 rfl
  have HM : Hid (∀ wx, Below w.heap.size w wx → wx.cell? ⟨4, 0, none⟩ = some (.int .i64 m)) := fun wx hx => (hx.cell (World.block_lt_of_cell? w _ hm)).trans hm
  have HG : Hid (Gl w) := hg
  have HA : Hid (At w R [.string (bs s)]) := hA
  have HX : Hid (At w c X) := hX
  have HPt : Hid (∀ k, k < n → ∃ b o, pn = some ⟨b, o, none⟩ ∧ b < w.heap.size ∧ ¬ b = R ∧ ¬ b = c ∧ w.cell? ⟨b, o + k, none⟩ = some (.pointer (some ⟨c, d + k, none⟩))) := hpt
  have HW : Hid (NoB word ∧ NoL word) := ⟨hw, hwl⟩
  clear hA hX hpt hw hwl hg
  rcases nl_cases s with hno | ⟨line, r, hsl, hnl⟩
  · have HE : Hid (∀ wx, Below w.heap.size w wx → RdPost w R s word c d n X (.returned (.bool false)) wx) := fun wx hx => .inr ⟨fun ⟨ns, r, h⟩ => nx_none hno ⟨n, ns, r, h⟩, rfl, hx⟩
    have hC := Tryz.strings_Cut (bs s) (bs [10]) m w (by rw [bs_size]; exact hs) hm
    rw [bs_list, bs_list, cut_tail hno] at hC
    dsimp only at hC
    have HSp : Hid (∀ wx, Below w.heap.size w wx → Calls Tryz.prog 102 #[.string ⟨s.toArray⟩, .string ⟨#[32]⟩, .int .i64 ((n : Int) + 2)] wx fun e w' => ∃ p q z, e = .returned (.slice p q z) ∧ Below wx.heap.size wx w') := fun wx hx => by
      have h1 := Tryz.strings_SplitN (bs s) (bs [32]) (n + 2) m wx (by rw [bs_size]; exact hs) (HM.out wx hx) (by decide) (by omega) (by omega)
      rw [show (((n + 2 : Nat) : Int)) = (n : Int) + 2 by omega] at h1
      refine h1.mono ?_
      rintro e w' ⟨rfl, rfl⟩
      exact ⟨_, _, _, rfl, (Below.refl _ _).alloc (Nat.le_refl _) _⟩
    generalize bs s = S at *
    go_enter Tryz.func73, Tryz.ntmps73
    go_wp2_with fail
    refine hC.mono ?_
    rintro e w1 ⟨rfl, q, rfl⟩
    have hb1 : Below w.heap.size w (w.drewN q) := ⟨rfl, rfl, rfl, Nat.le_refl _, fun _ _ => rfl⟩
    have hS := HSp.out _ hb1
    clear hC
    generalize w.drewN q = w1 at *
    go_wp2_with fail
    refine hS.mono ?_
    rintro e w2 ⟨p, q, z, rfl, hb2⟩
    have HE2 := HE.out w2 (hb1.trans (hb2.mono hb1.size))
    have HE3 : Hid (RdPost w R s word c d n X (.returned (.bool false)) w2) := HE2
    clear hS hb2 hb1 HE2
    go_wp2
    go_ret
    exact HE3.out
  · obtain ⟨word0, P, hline, hw0, hPb⟩ := cut_blanks line
    subst hline
    have HNx : Hid (∀ ns q, Nx s word n ns q → word0 = word ∧ Says P ns ∧ P.length = n ∧ r = q) := fun ns q h => by
      rw [hsl] at h
      exact nx_line HW.out.1 HW.out.2 hw0 hPb hnl h
    have HE : Hid (∀ wx, Below w.heap.size w wx → ¬ (word0 = word ∧ (∃ ns, Says P ns) ∧ P.length = n) → RdPost w R s word c d n X (.returned (.bool false)) wx) := fun wx hx hn => .inr ⟨fun ⟨ns, q, h⟩ => hn (by
      obtain ⟨h1, h2, h3, _⟩ := HNx.out ns q h
      exact ⟨h1, ⟨ns, h2⟩, h3⟩), rfl, hx⟩
    have hll : (word0 ++ bj P).length < 4294967281 := by rw [hsl, List.length_append] at hs; omega
    have hC := Tryz.strings_Cut (bs s) (bs [10]) m w (by rw [bs_size]; exact hs) hm
    rw [bs_list, bs_list, hsl, cut_line hnl] at hC
    rw [← hsl] at hC
    dsimp only at hC
    have HSp : Hid (∀ wx, Below w.heap.size w wx → Calls Tryz.prog 102 #[.string ⟨(word0 ++ bj P).toArray⟩, .string ⟨#[32]⟩, .int .i64 ((n : Int) + 2)] wx fun e w' => ∃ Y z, e = .returned (.slice (some ⟨wx.heap.size, 0, none⟩) Y.length z) ∧ Y.length ≤ z ∧ (0 < word0.length → 1 < z) ∧ ((P.length = n ∧ Y = (word0 :: P).map bs) ∨ (¬ P.length = n ∧ ¬ Y.length = n + 1)) ∧ Below wx.heap.size wx w' ∧ ∀ j (hj : j < Y.length), w'.cell? ⟨wx.heap.size, j, none⟩ = some (.string Y[j])) := fun wx hx => by
      have h1 := Tryz.strings_SplitN (bs (word0 ++ bj P)) (bs [32]) (n + 2) m wx (by rw [bs_size]; exact hll) (HM.out wx hx) (by decide) (by omega) (by omega)
      rw [show (((n + 2 : Nat) : Int)) = (n : Int) + 2 by omega] at h1
      refine h1.mono ?_
      rintro e w' ⟨rfl, rfl⟩
      have hsp := split_line word0 P n hw0 hPb
      have hle : (Lib.splitB (bs [32]) 0 (min (n + 2) ((bs (word0 ++ bj P)).size + 1) - 1) (bs (word0 ++ bj P))).length ≤ min (n + 2) ((bs (word0 ++ bj P)).size + 1) := by
        have h2 : ∀ (k : Nat) (x : ByteArray), (Lib.splitB (bs [32]) 0 k x).length ≤ k + 1 := fun k => by
          induction k with
          | zero => intro x; simp [Lib.splitB]
          | succ k ih =>
            intro x
            rw [Lib.splitB]
            split
            · simp
            · rw [List.length_cons]
              have := ih (x.extract ((Lib.indexB x (bs [32])).toNat + (bs [32]).size) x.size)
              omega
        have := h2 (min (n + 2) ((bs (word0 ++ bj P)).size + 1) - 1) (bs (word0 ++ bj P))
        omega
      refine ⟨_, _, rfl, hle, fun h0 => ?_, hsp, (Below.refl _ _).alloc (Nat.le_refl _) _, fun j hj => ?_⟩
      · rw [bs_size, List.length_append]; omega
      exact (At.alloc wx _ 9 j (.string _) (by rw [List.getElem?_append_left (by rw [List.length_map]; exact hj), List.getElem?_map, List.getElem?_eq_getElem hj]; rfl)).1
    have HL : Hid (NoB word0 ∧ (∀ p ∈ P, NoB p) ∧ (word0 ++ bj P).length < 4294967281 ∧ s = word0 ++ bj P ++ 10 :: r) := ⟨hw0, hPb, hll, hsl⟩
    clear hw0 hPb hll hsl hnl
    generalize bs s = S at *
    go_enter Tryz.func73, Tryz.ntmps73
    go_wp2_with fail
    refine hC.mono ?_
    rintro e w1 ⟨rfl, q, rfl⟩
    have hb1 : Below w.heap.size w (w.drewN q) := ⟨rfl, rfl, rfl, Nat.le_refl _, fun _ _ => rfl⟩
    have hS := HSp.out _ hb1
    clear hC
    generalize w.drewN q = w1 at *
    go_wp2_with fail
    refine hS.mono ?_
    rintro e w2 ⟨Y, z, rfl, hYz, hz1, hor, hb2, hcl⟩
    have HB2 : Hid (Below w.heap.size w w2) := hb1.trans (hb2.mono hb1.size)
    have HN : Hid (w.heap.size ≤ w1.heap.size ∧ w1.heap.size ≤ w2.heap.size) := ⟨hb1.size, hb2.size⟩
    have HCl : Hid (∀ j (hj : j < Y.length), w2.cell? ⟨w1.heap.size, j, none⟩ = some (.string Y[j])) := hcl
    clear hS hb2 hb1 hcl
    generalize w1.heap.size = N at *
    rcases hor with ⟨hPn, hY⟩ | ⟨hPn, hY⟩
    · subst hPn
      subst hY
      have eY : ((word0 :: P).map bs).length = P.length + 1 := by simp
      have c20 : w2.cell? ⟨N, 0, none⟩ = some (.string (bs word0)) := HCl.out 0 (by simp)
      have HC2 : Hid (∀ j (hj : j < P.length), w2.cell? ⟨N, 1 + j, none⟩ = some (.string (bs P[j]))) := fun j hj => by
        have := HCl.out (1 + j) (by simp; omega)
        rw [this]
        simp [Nat.add_comm 1 j]
      rw [eY] at hYz ⊢
      clear eY HCl
      by_cases hww : word0 = word
      · have hq : ((bs word0).toList == (bs word).toList) = true := by rw [ba_beq, hww]; simp
        have hq2 : ((bs word0).toList != (bs word).toList) = false := by rw [bne, hq]; rfl
        have HWw : Hid (word0 = word) := hww
        have HNl : Hid (N < w2.heap.size) := World.block_lt_of_cell? _ _ c20
        have hRn := rnums_any w2 (.slice (some ⟨N, 1, none⟩) P.length (z - 1)) P ⟨_, _, rfl, by omega, fun k hk => ⟨N, 1, rfl, HNl.out, HC2.out k hk⟩⟩ (by omega) (fun p hp => by
          have h1 := HL.out.2.2.1
          have h2 := bj_mem P p hp
          rw [List.length_append] at h1
          omega) (HG.out.below HB2.out)
        have hz2 : 1 < z := hz1 (by rw [hww]; exact hw1)
        clear hww hz1
        generalize bs word0 = S0 at *
        generalize bs word = Sw at *
        go_wp2_with fail
        refine hRn.mono ?_
        rintro e w3 ⟨hb3, hx⟩
        clear hRn
        have HB3 : Hid (Below w.heap.size w w3) := HB2.out.trans (hb3.mono HB2.out.size)
        rcases hx with ⟨ns, N2, hsay, rfl, hN2, hA2⟩ | ⟨hno, v, rfl⟩
        · have enl : ns.length = P.length := by have := congrArg List.length hsay.1; rw [List.length_map] at this; omega
          rw [enl] at hA2 ⊢
          have HSay : Hid (Says P ns) := hsay
          have HNs : Hid (ns.length = P.length) := enl
          have HRn : Hid (At w3 N2 (hc P.length (fun j => ns.getD j 0))) := hA2
          have HN2 : Hid (w.heap.size ≤ N2) := Nat.le_trans (Nat.le_trans HN.out.1 HN.out.2) hN2
          have HX3 : Hid (At w3 c X) := HX.out.lower HB3.out
          have HR3 : Hid (At w3 R [.string S]) := HA.out.lower HB3.out
          clear enl hsay hA2 hN2 hb3 HN HE HNx HSp HC2 c20 hYz
          go_wp2
          go_loopw [13, 14, 56] (fun _ _ s56 wr => ∃ k : Nat, k ≤ P.length ∧ s56 = .int .i64 k ∧ At wr c (setl X d ((ns.take k).map (Value.int .i64))) ∧ Keep (fun x => x = c) w3 wr) (fun _ _ s56 _ => P.length - (intOf s56).toNat)
          case atStart => exact ⟨0, Nat.zero_le _, rfl, HX3.out, Keep.refl _ _⟩
          case round =>
            obtain ⟨k, hk, rfl, hAc, hkp⟩ := hrel
            have HAc : Hid (At wr c (setl X d ((ns.take k).map (Value.int .i64)))) := hAc
            have HK : Hid (Keep (fun x => x = c) w3 wr) := hkp
            clear hAc hkp
            by_cases hlt : k < P.length
            · have zk : (k : Int) < (P.length : Int) := by omega
              obtain ⟨b, o, rfl, hbl, hbR, hbc, hcell⟩ := HPt.out k hlt
              have hp1 : wr.cell? ⟨b, o + k, none⟩ = some (.pointer (some ⟨c, d + k, none⟩)) :=
                ((World.cell?_of_block (w := w3) (a := ⟨b, o + k, none⟩) (HK.out.block b (Nat.lt_of_lt_of_le hbl HB3.out.size) hbc)).trans (World.cell?_of_block (w := w) (a := ⟨b, o + k, none⟩) (HB3.out.block b hbl))).trans hcell
              have hln : (ns.take k).length = k := by rw [List.length_take, HNs.out]; omega
              have hcl : c < w.heap.size := by
                have h1 := HX.out d X[d] (List.getElem?_eq_getElem (by omega))
                exact World.block_lt_of_cell? _ _ h1.1
              have hNc : ¬ N2 = c := by have := HN2.out; omega
              have hr1 : wr.cell? ⟨N2, k, none⟩ = some (.int .i64 (ns.getD k 0)) := by
                have h1 := HRn.out k _ (hc_at _ _ k hlt)
                exact (World.cell?_of_block (w := w3) (a := ⟨N2, k, none⟩) (HK.out.block N2 (World.block_lt_of_cell? _ _ h1.1) hNc)).trans h1.1
              have hdk : d + k < (setl X d ((ns.take k).map (Value.int .i64))).length := by rw [setl_len]; omega
              have h3 := HAc.out (d + k) _ (List.getElem?_eq_getElem hdk)
              have c3 := h3.1
              have f3 := h3.2
              have HTk : Hid (setl X d ((ns.take (k + 1)).map (Value.int .i64)) = (setl X d ((ns.take k).map (Value.int .i64))).set (d + k) (.int .i64 (ns.getD k 0))) := by
                have hkn : k < ns.length := by rw [HNs.out]; exact hlt
                show _ = _
                rw [List.take_succ_eq_append_getElem hkn, List.map_append, List.map_singleton, setl_snoc, List.length_map, hln, List.getD_eq_getElem?_getD, List.getElem?_eq_getElem hkn]
                rfl
              have HA4 : Hid (At (wr.setCell ⟨c, d + k, none⟩ (.int .i64 (ns.getD k 0))) c (setl X d ((ns.take (k + 1)).map (Value.int .i64)))) := by
                have := HAc.out.set (d + k) hdk (.int .i64 (ns.getD k 0))
                rw [← HTk.out] at this
                exact this
              have HK4 : Hid (Keep (fun x => x = c) w3 (wr.setCell ⟨c, d + k, none⟩ (.int .i64 (ns.getD k 0)))) := HK.out.set (S := fun x => x = c) rfl (d + k) _
              clear h3 hcell hbl hbR hbc hcl hNc hln
              generalize (setl X d ((ns.take k).map (Value.int .i64)))[d + k] = old at *
              clear hdk HTk
              generalize ns.getD k 0 = zz at *
              go_wp2_with fail
              generalize wr.setCell ⟨c, d + k, none⟩ (.int .i64 zz) = w4 at *
              exact ⟨⟨k + 1, hlt, rfl, HA4.out, HK4.out⟩, by simp [intOf]; omega⟩
            · obtain rfl : k = P.length := by omega
              have zk : ¬ (P.length : Int) < (P.length : Int) := by omega
              have hR4 : At wr R [.string S] := HR3.out.block (HK.out.block R (At.lt HR3.out) (fun e => hcR e.symm))
              have c4 : wr.cell? ⟨R, 0, none⟩ = some (.string S) := hR4.cell 0 rfl
              have f4 : wr.frozen? ⟨R, 0, none⟩ = false := hR4.free 0 rfl
              have HE3 : Hid (RdPost w R s word c d P.length X (.returned (.bool true)) (wr.setCell ⟨R, 0, none⟩ (.string (bs r)))) := by
                refine .inl ⟨ns, r, ⟨?_, HNs.out, HSay.out.2⟩, rfl, hR4.set 0 (by simp) _, ?_, ?_⟩
                · rw [HL.out.2.2.2, HWw.out, lnum_bj, ← HSay.out.1]
                · have := HAc.out
                  rw [← HNs.out, List.take_length] at this
                  exact this.other (fun e => hcR e.symm) 0 _
                · exact ((Keep.below HB3.out).trans (HK.out.mono (fun k _ h => .inr h))).set (S := fun x => x = R ∨ x = c) (.inl rfl) 0 _
              clear hR4
              go_wp2_with fail
              go_ret
              exact HE3.out
        · have HE3 : Hid (RdPost w R s word c d P.length X (.returned (.bool false)) w3) := HE.out _ HB3.out (fun h => hno h.2.1)
          clear hno hb3
          go_wp2
          go_ret
          exact HE3.out
      · have hq : ((bs word0).toList == (bs word).toList) = false := by rw [ba_beq]; exact decide_eq_false (fun h => hww (by have := bs_eq h; rwa [bs_list] at this))
        have hq2 : ((bs word0).toList != (bs word).toList) = true := by rw [bne, hq]; rfl
        have HE3 : Hid (RdPost w R s word c d P.length X (.returned (.bool false)) w2) := HE.out _ HB2.out (fun h => hww h.1)
        clear hww
        generalize bs word0 = S0 at *
        generalize bs word = Sw at *
        go_wp2
        go_ret
        exact HE3.out
    · have HE3 : Hid (RdPost w R s word c d n X (.returned (.bool false)) w2) := HE.out _ HB2.out (fun h => hPn h.2.2)
      have zy : ((Y.length : Int) != (n : Int) + 1) = true := by rw [bne_iff_ne]; omega
      clear hPn hY
      go_wp2
      go_ret
      exact HE3.out
end Go.Proofs.YtanndhoimpnhpaaGreatDoor
