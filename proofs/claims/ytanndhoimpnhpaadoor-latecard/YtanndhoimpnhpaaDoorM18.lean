/- Joined by program: KpD, Bq, Bc, KpI, Two. -/
import Derived.Test.YtanndhoimpnhpaaDoorM17
import Derived.Test.YtanndhoimpnhpaaDoorM8
import Derived.Test.YtanndhoimpnhpaaDoorM11
import Derived.Laws.OwnMore
/- A loan that is told of events; two lists of entries compared. -/
namespace Go.Proofs.YtanndhoimpnhpaaDoor
open Go.ChangeShapes Go.WideShapes Go.RowKit Go.WideMaps Go.Maps Cal

/-- A list of entries in memory. -/
def enl (e : En) : List Value := [.int .i64 e.d, .int .i64 e.k, .int .i64 e.a]
def EnV (w : World) (v : Value) (L : List En) : Prop :=
  ∃ p cap, v = .slice p L.length cap ∧ L.length ≤ cap ∧ ∀ k (hk : k < L.length), ∃ b o, p = some ⟨b, o, none⟩ ∧ b < w.heap.size ∧ w.rangeAt b (o + k * 3) (enl L[k])
theorem EnV.below {w w' : World} {v : Value} {L : List En} (h : EnV w v L) (hb : Below w.heap.size w w') : EnV w' v L := by
  obtain ⟨p, cap, h1, h2, h3⟩ := h
  refine ⟨p, cap, h1, h2, fun k hk => ?_⟩
  obtain ⟨b, o, h4, h5, h6⟩ := h3 k hk
  exact ⟨b, o, h4, Nat.lt_of_lt_of_le h5 hb.size, fun j u hu => (World.cell?_of_block (w := w) (a := ⟨b, o + k * 3 + j, none⟩) (hb.block b h5)).trans (h6 j u hu)⟩
theorem own_en {w : World} {base : Nat} {v : Value} {L : List En} (h : w.ownsRow base 98 3 v L.length (ens L)) : EnV w v L := by
  obtain ⟨hl, hn | ⟨g, cap, cur, rfl, hg⟩⟩ := id h
  · obtain ⟨rfl, hz⟩ := hn
    have hE : L = [] := List.length_eq_zero_iff.1 hz
    subst hE
    exact ⟨none, 0, rfl, Nat.le_refl _, fun k hk => absurd hk (Nat.not_lt_zero k)⟩
  · have hlt := (own_base h (b := g) rfl).2
    refine ⟨some ⟨g, 0, none⟩, cap, rfl, hg.2.2.1, fun k hk => ⟨g, 0, rfl, hlt, ?_⟩⟩
    obtain ⟨q0, q1, q2⟩ := en_range h rfl k hk
    intro j u hu
    rw [Nat.zero_add]
    match j, hu with
    | 0, hu => cases hu; exact q0
    | 1, hu => cases hu; exact q1
    | 2, hu => cases hu; exact q2

set_option maxRecDepth 10000 in
set_option maxHeartbeats 2000000 in
theorem same_true (w : World) (v u : Value) (L : List En) (h1 : EnV w v L) (h2 : EnV w u L) (hL : L.length ≤ 4000000000000) :
    Calls Tryd.prog 24 #[v, u] w fun e w' => e = .returned (.bool true) ∧ Below w.heap.size w w' := by
  obtain ⟨p, cap, rfl, hc1, hr1⟩ := h1
  obtain ⟨q, cap2, rfl, hc2, hr2⟩ := h2
  have H1 : Hid (∀ k (hk : k < L.length), ∃ b o, p = some ⟨b, o, none⟩ ∧ b < w.heap.size ∧ w.rangeAt b (o + k * 3) (enl L[k])) := hr1
  have H2 : Hid (∀ k (hk : k < L.length), ∃ b o, q = some ⟨b, o, none⟩ ∧ b < w.heap.size ∧ w.rangeAt b (o + k * 3) (enl L[k])) := hr2
  clear hr1 hr2
  have hne : ((L.length : Int) != (L.length : Int)) = false := by simp
  go_enter Tryd.func24, Tryd.ntmps24
  go_wp2
  go_loopw [5] (fun i wr => ∃ k : Nat, k ≤ L.length ∧ i = .int .i64 k ∧ Below w.heap.size w wr) (fun i _ => (L.length - intOf i).toNat)
  case atStart => exact ⟨0, Nat.zero_le _, rfl, Below.refl _ _⟩
  case round =>
    obtain ⟨k, hk, rfl, hb⟩ := hrel
    have HB : Hid (Below w.heap.size w wr) := hb
    clear hb
    by_cases hlt : k < L.length
    · obtain ⟨b, o, rfl, hbl, hx1⟩ := H1.out k hlt
      obtain ⟨b2, o2, rfl, hbl2, hx2⟩ := H2.out k hlt
      have HR1 : Hid (∀ wx, Below w.heap.size w wx → wx.rangeAt b (o + k * 3) (enl L[k])) := fun wx hx j u hu => (World.cell?_of_block (w := w) (a := ⟨b, o + k * 3 + j, none⟩) (hx.block b hbl)).trans (hx1 j u hu)
      have HR2 : Hid (∀ wx, Below w.heap.size w wx → wx.rangeAt b2 (o2 + k * 3) (enl L[k])) := fun wx hx j u hu => (World.cell?_of_block (w := w) (a := ⟨b2, o2 + k * 3 + j, none⟩) (hx.block b2 hbl2)).trans (hx2 j u hu)
      clear hx1 hx2
      generalize L[k] = e at *
      obtain ⟨ed, ek, ea⟩ := e
      have zk : (k : Int) < (L.length : Int) := by omega
      go_upto_region 6 with fail
      refine wp_region_held_drew (S := fun wx => Below w.heap.size w wx) (by kernel_rfl) HB.out.drew (fun hHeld => ?_)
      clear HB
      generalize wr.drew = V1 at *
      refine wpAnyH_take (i := 0) (v := (.slice (some ⟨b, o, none⟩) L.length cap)) rfl (by kernel_rfl) (by kernel_rfl) (by kernel_rfl) (fun _ _ _ h => h) (Or.inl ⟨by rfl, fun wx hSw => by kernel_rfl⟩) (by assumption) ?_
      simp only [Act.put, List.getElem_toArray, List.getElem_cons_zero, List.setIfInBounds_toArray, List.set_cons_zero, List.set_cons_succ]
      refine wpAnyH_take (i := 1) (v := (.int .i64 k)) rfl (by kernel_rfl) (by kernel_rfl) (by kernel_rfl) (fun _ _ _ h => h) (Or.inl ⟨by rfl, fun wx hSw => by kernel_rfl⟩) (by assumption) ?_
      simp only [Act.put, List.getElem_toArray, List.getElem_cons_succ, List.getElem_cons_zero, List.setIfInBounds_toArray, List.set_cons_zero, List.set_cons_succ]
      refine wpAnyH_take (i := 2) (v := (.pointer (some ⟨b, o + k * 3, none⟩))) rfl (by kernel_rfl) (by kernel_rfl) (by kernel_rfl) (fun _ _ _ h => h) (Or.inl ⟨by rfl, fun wx hSw => by ((try dsimp only at hSw); go_simp)⟩) (by assumption) ?_
      simp only [Act.put, List.getElem_toArray, List.getElem_cons_succ, List.getElem_cons_zero, List.setIfInBounds_toArray, List.set_cons_zero, List.set_cons_succ]
      refine wpAnyH_take (i := 3) (v := (.agg (enl ⟨ed, ek, ea⟩).toArray)) rfl (by kernel_rfl) (by kernel_rfl) (by kernel_rfl) (fun _ _ _ h => h) (yieldsIf_load_mid (by rfl) 98 (.tmp 19) rfl _ _ rfl _ _ (fun _ h => HR1.out _ h) Tryd.underlying98 rfl (by kernel_rfl)) (by assumption) ?_
      simp only [Act.put, List.getElem_toArray, List.getElem_cons_succ, List.getElem_cons_zero, List.setIfInBounds_toArray, List.set_cons_zero, List.set_cons_succ]
      refine wpAnyH_take (i := 4) (v := (.slice (some ⟨b2, o2, none⟩) L.length cap2)) rfl (by kernel_rfl) (by kernel_rfl) (by kernel_rfl) (fun _ _ _ h => h) (Or.inl ⟨by rfl, fun wx hSw => by kernel_rfl⟩) (by assumption) ?_
      simp only [Act.put, List.getElem_toArray, List.getElem_cons_succ, List.getElem_cons_zero, List.setIfInBounds_toArray, List.set_cons_zero, List.set_cons_succ]
      refine wpAnyH_take (i := 5) (v := (.int .i64 k)) rfl (by kernel_rfl) (by kernel_rfl) (by kernel_rfl) (fun _ _ _ h => h) (Or.inl ⟨by rfl, fun wx hSw => by kernel_rfl⟩) (by assumption) ?_
      simp only [Act.put, List.getElem_toArray, List.getElem_cons_succ, List.getElem_cons_zero, List.setIfInBounds_toArray, List.set_cons_zero, List.set_cons_succ]
      refine wpAnyH_take (i := 6) (v := (.pointer (some ⟨b2, o2 + k * 3, none⟩))) rfl (by kernel_rfl) (by kernel_rfl) (by kernel_rfl) (fun _ _ _ h => h) (Or.inl ⟨by rfl, fun wx hSw => by ((try dsimp only at hSw); go_simp)⟩) (by assumption) ?_
      simp only [Act.put, List.getElem_toArray, List.getElem_cons_succ, List.getElem_cons_zero, List.setIfInBounds_toArray, List.set_cons_zero, List.set_cons_succ]
      refine wpAnyH_take (i := 7) (v := (.agg (enl ⟨ed, ek, ea⟩).toArray)) rfl (by kernel_rfl) (by kernel_rfl) (by kernel_rfl) (fun _ _ _ h => h) (yieldsIf_load_mid (by rfl) 98 (.tmp 23) rfl _ _ rfl _ _ (fun _ h => HR2.out _ h) Tryd.underlying98 rfl (by kernel_rfl)) (by assumption) ?_
      simp only [Act.put, List.getElem_toArray, List.getElem_cons_succ, List.getElem_cons_zero, List.setIfInBounds_toArray, List.set_cons_zero, List.set_cons_succ]
      have HB1 : Hid (Below w.heap.size w V1) := hHeld
      refine wpAnyH_take (i := 8) (v := (.bool false)) rfl (by kernel_rfl) (by kernel_rfl) (by kernel_rfl) (fun _ _ _ h => h) (Or.inl ⟨by rfl, fun wx hSw => by (unfold enl; go_simp)⟩) (by assumption) ?_
      simp only [Act.put, List.getElem_toArray, List.getElem_cons_succ, List.getElem_cons_zero, List.setIfInBounds_toArray, List.set_cons_zero, List.set_cons_succ]
      refine wpAnyH_done (by kernel_rfl) ?_ _
      clear hHeld HR1 HR2
      go_wp2
      exact ⟨⟨k + 1, hlt, rfl, HB1.out⟩, by simp [intOf]; omega⟩
    · obtain rfl : k = L.length := by omega
      have zk : ¬ (L.length : Int) < (L.length : Int) := by omega
      go_wp2
      go_ret
      exact ⟨rfl, HB.out⟩

/-- What told hands back. -/
def ToldPost (w : World) (t : Ln.Terms) (l : List Ln.Ev) (e : Ending) (w' : World) : Prop :=
  ∃ B E, e = .returned (.pointer (some ⟨B, 0, none⟩)) ∧ E.Perm l ∧ Lo w' B t E (Ln.start t) t.st [] (Wd (fun _ => False) w w') ∧ Below w.heap.size w w'
theorem Wd.comp {w w1 w2 : World} {b : Nat} (h12 : w1.heap.size ≤ w2.heap.size) (h01 : w.heap.size ≤ w1.heap.size) (h : Wd (Wd (fun _ => False) w w1) w1 w2 b) : Wd (fun _ => False) w w2 b := by
  rcases h with (h | h) | h
  · exact h.elim
  · exact .inr ⟨h.1, by omega⟩
  · exact .inr ⟨by omega, h.2⟩
theorem Lim.below {w w1 : World} (h : Lim w) (hb : Below w.heap.size w w1) : Lim w1 := h.keep (S := fun _ => False) (Keep.below hb) (fun x => x)
theorem add_zero {t : Ln.Terms} {E l : List Ln.Ev} {e : Ln.Ev} (k : Nat) (hp : E.Perm (l.take k)) (hk : k < l.length) (hl : l.length ≤ 40) (he : l[k] = e) (hg : evF t e = 0) (hd : l.Pairwise (fun a b => ¬ a.s = b.s)) : addC t E e = 0 := by
  have hlen : E.length = k := by rw [hp.length_eq, List.length_take]; omega
  rw [addC_eq, if_neg (by simp [hg]), if_neg (by omega)]
  have hs : ¬ hasS e.s E = true := by
    intro h
    obtain ⟨x, hx, hq⟩ := List.any_eq_true.1 h
    have hx2 := hp.mem_iff.1 hx
    obtain ⟨j, hj, rfl⟩ := List.getElem_of_mem hx2
    have hjk : j < k := by rw [List.length_take] at hj; omega
    rw [List.getElem_take] at hq
    have := List.pairwise_iff_getElem.1 hd j k (by omega) hk hjk
    rw [he] at this
    simp at hq
    exact this hq
  rw [if_neg hs]

set_option maxRecDepth 10000 in
set_option maxHeartbeats 2000000 in
theorem told_any (w : World) (t : Ln.Terms) (ht : rtB t = true) (Eb : Nat) (v : Value) (l : List Ln.Ev) (h : EvV w Eb v l) (hl : l.length ≤ 40) (hg : ∀ e ∈ l, evF t e = 0) (hd : l.Pairwise (fun a b => ¬ a.s = b.s)) (hlim : Lim w) :
    Calls Tryd.prog 22 #[tmV t, v] w (ToldPost w t l) := by
  obtain ⟨p, cap, rfl, hcap, hat⟩ := h
  have HAt : Hid (EvAt w Eb p l) := hat
  have HG : Hid (∀ e ∈ l, evF t e = 0) := hg
  have HD : Hid (l.Pairwise (fun a b => ¬ a.s = b.s)) := hd
  have HLm : Hid (Lim w) := hlim
  have a0 : At (w.alloc (.cells (tml t).toArray 41)) w.heap.size (tml t) := At.alloc w (tml t) _
  have b0 : Below w.heap.size w (w.alloc (.cells (tml t).toArray 41)) := (Below.refl _ _).alloc (Nat.le_refl _) _
  have hO := fun W => openL t W ht
  clear hat hg hd hlim
  unfold tmV at *
  go_enter Tryd.func22, Tryd.ntmps22
  go_upto_region 1 with fail
  change Code.wp _ _ _ _ (w.alloc (.cells (tml t).toArray 41))
  generalize w.alloc (.cells (tml t).toArray 41) = V at *
  refine wp_region_lit ?_
  refine wpList_load_mid rfl 41 (.tmp 2) rfl _ 0 rfl (tml t) _ a0.range Tryd.underlying41 rfl (by kernel_rfl) ?_
  simp only [Act.put, List.setIfInBounds_toArray, List.set_cons_zero, List.set_cons_succ]
  clear a0
  go_wp2_with fail
  refine (hO V).mono ?_
  rintro e w1 ⟨B, rfl, hLo, hb1⟩
  have hbw : Below w.heap.size w w1 := b0.trans (hb1.mono b0.size)
  have HLo : Hid (Lo w1 B t [] (Ln.start t) t.st [] (Wd (fun _ => False) w w1)) := hLo.mono (fun b _ hb => .inr ⟨Nat.le_trans b0.size (Wd.fresh hb), by rcases hb with h | h; exact h.elim; exact h.2⟩)
  have HBw : Hid (Below w.heap.size w w1) := hbw
  clear hO hLo hb1 hbw b0
  go_wp2
  go_loopw [7, 8] (fun i _ wr => ∃ (k : Nat) (E : List Ln.Ev), k ≤ l.length ∧ i = .int .i64 k ∧ E.Perm (l.take k) ∧ Lo wr B t E (Ln.start t) t.st [] (Wd (fun _ => False) w wr) ∧ Below w.heap.size w wr) (fun i _ _ => (l.length - intOf i).toNat)
  case atStart => exact ⟨0, [], Nat.zero_le _, rfl, by simp, HLo.out, HBw.out⟩
  case round =>
    obtain ⟨k, E, hk, rfl, hp, hLo, hb⟩ := hrel
    have HP : Hid (E.Perm (l.take k)) := hp
    have HLo2 : Hid (Lo wr B t E (Ln.start t) t.st [] (Wd (fun _ => False) w wr)) := hLo
    have HB2 : Hid (Below w.heap.size w wr) := hb
    clear hp hLo hb HLo HBw
    by_cases hlt : k < l.length
    · obtain ⟨o, rfl, hEl, hr⟩ := HAt.out.range k hlt
      have hr2 : wr.rangeAt Eb (o + k * 4) (evl l[k]) := fun j u hu => (World.cell?_of_block (w := w) (a := ⟨Eb, o + k * 4 + j, none⟩) (HB2.out.block Eb hEl)).trans (hr j u hu)
      have hA := addL wr B t E _ _ _ _ HLo2.out l[k] (HLm.out.below HB2.out)
      have hz := add_zero k HP.out hlt hl rfl (HG.out _ (List.getElem_mem hlt)) HD.out
      rw [hz] at hA
      have HPk : Hid (∀ E' : List Ln.Ev, E'.Perm (l[k] :: E) → E'.Perm (l.take (k + 1))) := fun E' h => by
        rw [List.take_succ_eq_append_getElem hlt]
        exact h.trans ((List.Perm.cons _ HP.out).trans (List.perm_append_singleton _ _).symm)
      clear hr hz
      generalize l[k] = e at *
      unfold evV at hA
      have zk : (k : Int) < (l.length : Int) := by omega
      go_upto_region 7 with fail
      refine wp_region_lit ?_
      refine wpList_val (.pointer (some ⟨B, 0, none⟩)) wr rfl rfl ?_
      simp only [Act.put, List.setIfInBounds_toArray, List.set_cons_zero, List.set_cons_succ]
      refine wpList_val (.slice (some ⟨Eb, o, none⟩) l.length cap) wr rfl rfl ?_
      simp only [Act.put, List.setIfInBounds_toArray, List.set_cons_zero, List.set_cons_succ]
      refine wpList_val (.int .i64 k) wr rfl rfl ?_
      simp only [Act.put, List.setIfInBounds_toArray, List.set_cons_zero, List.set_cons_succ]
      refine wpList_val (.pointer (some ⟨Eb, o + k * 4, none⟩)) wr rfl (by go_simp) ?_
      simp only [Act.put, List.setIfInBounds_toArray, List.set_cons_zero, List.set_cons_succ]
      refine wpList_load_mid rfl 53 (.tmp 29) rfl _ _ rfl (evl e) _ hr2 Tryd.underlying53 rfl (by kernel_rfl) ?_
      simp only [Act.put, List.setIfInBounds_toArray, List.set_cons_zero, List.set_cons_succ]
      clear hr2
      go_wp2_with fail
      refine hA.mono ?_
      rintro x w2 ⟨rfl, hk2, ⟨hn, _⟩ | ⟨_, E', hE', hLo'⟩⟩
      · simp at hn
      · have HB3 : Hid (Below w.heap.size w w2) := Keep.fresh HB2.out hk2 (fun b x => Wd.fresh x)
        have HL3 : Hid (Lo w2 B t E' (Ln.start t) t.st [] (Wd (fun _ => False) w w2)) := hLo'.mono (fun b _ hb => Wd.comp hk2.size HB2.out.size hb)
        have HE3 : Hid (E'.Perm (l.take (k + 1))) := HPk.out E' hE'
        clear hA hk2 hE' hLo' HPk HP HLo2 HB2
        go_wp2
        exact ⟨⟨k + 1, E', hlt, rfl, HE3.out, HL3.out, HB3.out⟩, by simp [intOf]; omega⟩
    · obtain rfl : k = l.length := by omega
      have HE : Hid (ToldPost w t l (.returned (.pointer (some ⟨B, 0, none⟩))) wr) := ⟨B, E, rfl, by have := HP.out; rwa [List.take_length] at this, HLo2.out, HB2.out⟩
      have zk : ¬ (l.length : Int) < (l.length : Int) := by omega
      clear HP HLo2 HB2
      go_wp2
      go_ret
      exact HE.out
end Go.Proofs.YtanndhoimpnhpaaDoor

/- A book that was put right says what must be; a book that is right stays as it is. (Plain.) -/
namespace Go.Proofs.YtanndhoimpnhpaaDoor
open Go.RowKit

theorem wrap_neg (s : Int) : wrap64 (s + wrap64 (-s)) = 0 := by
  unfold wrap64
  omega
theorem wrap_zero (a : Int) (h : I64 a) : wrap64 (0 + a) = a := by
  unfold I64 at h
  unfold wrap64
  omega
/-- What was put right for a day says what must be. -/
theorem sum_put (L : List En) (n : Int) (h am : Nat → Int) : ∀ (J j : Nat), 1 ≤ j → j ≤ J → (∀ i, 1 ≤ i → i ≤ J → h i = sumOf L n i) → I64 (am j) → sumOf (L ++ kindsW n h am J) n j = am j
  | 0, j, h1, h2, _, _ => by omega
  | J + 1, j, h1, h2, hh, ha => by
    have e : L ++ kindsW n h am (J + 1) = (L ++ kindsW n h am J) ++ kindW n (J + 1) (h (J + 1)) (am (J + 1)) := by
      simp only [kindsW, List.append_assoc]
    rw [e]
    by_cases hj : j ≤ J
    · rw [sumOf_append _ _ _ _ (fun x hx => by have := kindW_mem hx; omega)]
      exact sum_put L n h am J j h1 hj (fun i hi hi2 => hh i hi (by omega)) ha
    · obtain rfl : j = J + 1 := by omega
      have hs : sumOf (L ++ kindsW n h am J) n ((J + 1 : Nat) : Int) = h (J + 1) := by
        rw [sumOf_kinds L n h am J (J + 1) (by omega), hh (J + 1) (by omega) (Nat.le_refl _)]
      have hd : ∀ (M : List En) (x : Int), sumOf (M ++ [⟨n, ((J + 1 : Nat) : Int), x⟩]) n ((J + 1 : Nat) : Int) = wrap64 (sumOf M n ((J + 1 : Nat) : Int) + x) := fun M x => by
        rw [sumOf_snoc, if_pos ⟨rfl, rfl⟩]
      unfold kindW
      generalize h (J + 1) = is at *
      generalize am (J + 1) = a at *
      by_cases h3 : is = a
      · rw [if_pos h3, List.append_nil, hs, h3]
      · rw [if_neg h3]
        by_cases h4 : is = 0
        · rw [if_pos h4, List.nil_append]
          by_cases h5 : a = 0
          · omega
          · rw [if_neg h5, hd, hs, h4, wrap_zero a ha]
        · rw [if_neg h4]
          by_cases h5 : a = 0
          · rw [if_pos h5, List.append_nil, hd, hs, wrap_neg, h5]
          · rw [if_neg h5, ← List.append_assoc, hd, hd, hs, wrap_neg, wrap_zero a ha]
theorem kindsW_none (n : Int) (h am : Nat → Int) : ∀ J, (∀ j, 1 ≤ j → j ≤ J → h j = am j) → kindsW n h am J = []
  | 0, _ => rfl
  | J + 1, hh => by
    simp only [kindsW]
    rw [kindsW_none n h am J (fun j h1 h2 => hh j h1 (by omega)), List.nil_append]
    unfold kindW
    rw [if_pos (hh (J + 1) (by omega) (Nat.le_refl _))]
theorem kindsW_congr (n : Int) (h h' am : Nat → Int) : ∀ J, (∀ j, 1 ≤ j → j ≤ J → h j = h' j) → kindsW n h am J = kindsW n h' am J
  | 0, _ => rfl
  | J + 1, hh => by
    simp only [kindsW]
    rw [kindsW_congr n h h' am J (fun j h1 h2 => hh j h1 (by omega)), hh (J + 1) (by omega) (Nat.le_refl _)]
end Go.Proofs.YtanndhoimpnhpaaDoor

/- The book of a loan whose events were all known: day by day; it comes to the same in however many steps. (Plain.) -/
namespace Go.Proofs.YtanndhoimpnhpaaDoor
open Go.RowKit

/-- What the first k days write into an empty book. -/
def cleanB (st : Int) (am : Nat → Nat → Int) : Nat → List En
  | 0 => []
  | k + 1 => cleanB st am k ++ kindsW (st + k) (fun _ => 0) (am k) 12
theorem cleanB_mem {st : Int} {am : Nat → Nat → Int} {e : En} : ∀ {k : Nat}, e ∈ cleanB st am k → st ≤ e.d ∧ e.d < st + k ∧ 1 ≤ e.k ∧ e.k ≤ 12
  | 0, h => by simp [cleanB] at h
  | k + 1, h => by
    rcases List.mem_append.1 h with h | h
    · have := cleanB_mem h
      omega
    · have := kindsW_mem h
      omega
theorem sumOf_none (L : List En) (d k : Int) (h : ∀ e ∈ L, ¬ (d = e.d ∧ k = e.k)) : sumOf L d k = 0 := by
  have := sumOf_append [] L d k h
  rwa [List.nil_append] at this
theorem sum_clean (st : Int) (am : Nat → Nat → Int) (M : Nat) (ha : ∀ k j, k < M → 1 ≤ j → j ≤ 12 → I64 (am k j)) (j : Nat) (h1 : 1 ≤ j) (h12 : j ≤ 12) : ∀ p k : Nat, p ≤ M → k < p → sumOf (cleanB st am p) (st + k) j = am k j
  | 0, k, _, h => absurd h (Nat.not_lt_zero k)
  | p + 1, k, hM, h => by
    simp only [cleanB]
    by_cases hk : k < p
    · rw [sumOf_append _ _ _ _ (fun x hx => by have := kindsW_mem hx; omega)]
      exact sum_clean st am M ha j h1 h12 p k (by omega) hk
    · obtain rfl : k = p := by omega
      exact sum_put _ _ _ _ 12 j h1 h12 (fun i _ _ => (sumOf_none _ _ _ (fun x hx => by have := cleanB_mem hx; omega)).symm) (ha k j (by omega) h1 h12)
theorem bkP_clean (st : Int) (am : Nat → Nat → Int) (M : Nat) (ha : ∀ k j, k < M → 1 ≤ j → j ≤ 12 → I64 (am k j)) (p : Nat) (hp : p ≤ M) : ∀ m, bkP st am (cleanB st am p) m = cleanB st am (max p m)
  | 0 => by rw [Nat.max_eq_left (Nat.zero_le _)]; rfl
  | m + 1 => by
    simp only [bkP]
    rw [bkP_clean st am M ha p hp m]
    by_cases h : m < p
    · rw [Nat.max_eq_left (by omega), Nat.max_eq_left (by omega), kindsW_none _ _ _ 12 (fun j h1 h2 => sum_clean st am M ha j h1 h2 p m hp h), List.append_nil]
    · rw [Nat.max_eq_right (by omega), Nat.max_eq_right (by omega)]
      simp only [cleanB]
      rw [kindsW_congr _ _ (fun _ => 0) _ 12 (fun j _ _ => sumOf_none _ _ _ (fun x hx => by have := cleanB_mem hx; omega))]
/-- The sums of a book that was put right. -/
theorem bkP_mem {st : Int} {am : Nat → Nat → Int} {L : List En} {e : En} : ∀ {m : Nat}, e ∈ bkP st am L m → e ∈ L ∨ (st ≤ e.d ∧ e.d < st + m ∧ 1 ≤ e.k ∧ e.k ≤ 12)
  | 0, h => .inl h
  | m + 1, h => by
    rcases List.mem_append.1 h with h | h
    · rcases bkP_mem h with h | h
      · exact .inl h
      · exact .inr (by omega)
    · have := kindsW_mem h
      exact .inr (by omega)
theorem bkP_pre (st : Int) (am : Nat → Nat → Int) (L : List En) : ∀ m, ∃ M, bkP st am L m = L ++ M
  | 0 => ⟨[], (List.append_nil L).symm⟩
  | m + 1 => by
    obtain ⟨M, h⟩ := bkP_pre st am L m
    exact ⟨M ++ kindsW (st + m) (fun j => sumOf (bkP st am L m) (st + m) j) (am m) 12, by
      show bkP st am L m ++ _ = _
      rw [← List.append_assoc, ← h]⟩
theorem sum_bkP (st : Int) (am : Nat → Nat → Int) (M : Nat) (ha : ∀ k j, k < M → 1 ≤ j → j ≤ 12 → I64 (am k j)) (L : List En) (j : Nat) (h1 : 1 ≤ j) (h12 : j ≤ 12) : ∀ p k : Nat, p ≤ M → k < p → sumOf (bkP st am L p) (st + k) j = am k j
  | 0, k, _, h => absurd h (Nat.not_lt_zero k)
  | p + 1, k, hM, h => by
    simp only [bkP]
    by_cases hk : k < p
    · rw [sumOf_append _ _ _ _ (fun x hx => by have := kindsW_mem hx; omega)]
      exact sum_bkP st am M ha L j h1 h12 p k (by omega) hk
    · obtain rfl : k = p := by omega
      exact sum_put _ _ _ _ 12 j h1 h12 (fun i _ _ => rfl) (ha k j (by omega) h1 h12)
theorem cleanB_len (st : Int) (am : Nat → Nat → Int) : ∀ k, (cleanB st am k).length ≤ 24 * k
  | 0 => Nat.le_refl _
  | k + 1 => by
    have h1 := cleanB_len st am k
    have h2 := kindsW_len (st + k) (fun _ => 0) (am k) 12
    simp only [cleanB, List.length_append]
    omega
end Go.Proofs.YtanndhoimpnhpaaDoor

/- The sums of a list of entries, as the statement Late asks them: accruekeep's sums. -/
namespace Go.Proofs.YtanndhoimpnhpaaDoor
open Go.ChangeShapes Go.WideShapes Go.RowKit Go.WideMaps Go.Maps Cal

/-- The sum of the entries of a place. -/
def smF (st : Int) (L : List En) (j : Nat) : Int := L.foldl (fun s e => if 13 * (e.d - st) + e.k = (j : Int) then wrap64 (s + e.a) else s) 0
theorem smF_take (st : Int) (L : List En) (k : Nat) (hk : k < L.length) (j : Nat) : smF st (L.take (k + 1)) j = if 13 * (L[k].d - st) + L[k].k = (j : Int) then wrap64 (smF st (L.take k) j + L[k].a) else smF st (L.take k) j := by
  unfold smF
  rw [List.take_succ_eq_append_getElem hk, List.foldl_append]
  rfl
/-- What an entry of a loan is. -/
def InL (st : Int) (L : List En) : Prop := ∀ e ∈ L, st ≤ e.d ∧ e.d < st + 900 ∧ 1 ≤ e.k ∧ e.k ≤ 12
theorem smF_sum (st : Int) (L : List En) (h : InL st L) (m q : Nat) (hq : 1 ≤ q) (hq2 : q ≤ 12) : smF st L (13 * m + q) = sumOf L (st + m) q := by
  unfold smF sumOf
  have : ∀ (l : List En) (s : Int), (∀ e ∈ l, st ≤ e.d ∧ e.d < st + 900 ∧ 1 ≤ e.k ∧ e.k ≤ 12) → l.foldl (fun s e => if 13 * (e.d - st) + e.k = ((13 * m + q : Nat) : Int) then wrap64 (s + e.a) else s) s = l.foldl (fun s e => if st + (m : Int) = e.d ∧ (q : Int) = e.k then wrap64 (s + e.a) else s) s := by
    intro l
    induction l with
    | nil => intro s _; rfl
    | cons e r ih =>
      intro s hl
      have he := hl e (by simp)
      simp only [List.foldl_cons]
      rw [ih _ (fun x hx => hl x (by simp [hx]))]
      congr 1
      by_cases hc : st + (m : Int) = e.d ∧ (q : Int) = e.k
      · rw [if_pos hc, if_pos (by omega)]
      · rw [if_neg hc, if_neg (by omega)]
  exact this L 0 h
theorem smF_zero (st : Int) (L : List En) (h : InL st L) (m : Nat) : smF st L (13 * m) = 0 := by
  unfold smF
  have : ∀ (l : List En), (∀ e ∈ l, st ≤ e.d ∧ e.d < st + 900 ∧ 1 ≤ e.k ∧ e.k ≤ 12) → l.foldl (fun s e => if 13 * (e.d - st) + e.k = ((13 * m : Nat) : Int) then wrap64 (s + e.a) else s) 0 = 0 := by
    intro l
    induction l with
    | nil => intro _; rfl
    | cons e r ih =>
      intro hl
      have he := hl e (by simp)
      simp only [List.foldl_cons]
      rw [if_neg (by omega)]
      exact ih (fun x hx => hl x (by simp [hx]))
  exact this L h
/-- Two books that sum up alike, do so here. -/
theorem smF_same (st : Int) (L M : List En) (h1 : InL st L) (h2 : InL st M) (h : ∀ (m q : Nat), 1 ≤ q → q ≤ 12 → sumOf L (st + m) q = sumOf M (st + m) q) (j : Nat) : smF st L j = smF st M j := by
  have e : j = 13 * (j / 13) + j % 13 := (Nat.div_add_mod j 13).symm
  have hr : j % 13 < 13 := Nat.mod_lt _ (by decide)
  rw [e]
  generalize j / 13 = m at *
  generalize j % 13 = q at *
  by_cases hq : q = 0
  · subst hq
    rw [Nat.add_zero, smF_zero st L h1 m, smF_zero st M h2 m]
  · rw [smF_sum st L h1 m q (by omega) (by omega), smF_sum st M h2 m q (by omega) (by omega), h m q (by omega) (by omega)]

theorem infoInt : (Tryd.prog.info? 3).map (fun i => (i.zero, i.size, i.bytes)) = some (some (.int .i64 0), 1, 8) := by kernel_rfl
theorem made_hc (n : Nat) : madeCells #[.int .i64 0] n = (hc n (fun _ => 0)).toArray := by
  have h : (madeCells #[.int .i64 0] n).toList = hc n (fun _ => 0) := by
    rw [toList_madeCells_one]
    refine List.ext_getElem (by simp [hc]) (fun i h1 h2 => ?_)
    simp [hc]
  rw [← h]
theorem make_sums (w : World) : (Instr.makeSlice 47 (.int .i64 11713) (.int .i64 11713)).run Tryd.prog w = .ok (.slice (some ⟨w.heap.size, 0, none⟩) 11713 11713) (w.alloc (.cells (hc 11713 (fun _ => 0)).toArray 3)) := by
  obtain ⟨i0, hi0, hz0, hz1, hz2⟩ := info_parts infoInt
  have h := run_make (P := Tryd.prog) w 47 3 i0 _ Tryd.underlying47 hi0 hz0 .i64 .i64 11713 11713 (by omega) (by omega) (by rw [hz2]; omega) (by omega)
  rw [hz1, show ((11713 : Int).toNat * 1) = 11713 from rfl, show (11713 : Int).toNat = 11713 from rfl, show (Value.int .i64 0).cells = #[.int .i64 0] from rfl, made_hc] at h
  exact h

set_option maxRecDepth 10000 in
set_option maxHeartbeats 2000000 in
theorem sums_any (w : World) (v : Value) (L : List En) (h : EnV w v L) (hL : L.length ≤ 4000000000000) (st : Int) (hin : InL st L) :
    Calls Tryd.prog 27 #[v, .int .i64 st] w fun e w' => e = .returned (.slice (some ⟨w.heap.size, 0, none⟩) 11713 11713) ∧ At w' w.heap.size (hc 11713 (smF st L)) ∧ Below w.heap.size w w' := by
  obtain ⟨p, cap, rfl, hcap, hr⟩ := h
  have HR : Hid (∀ k (hk : k < L.length), ∃ b o, p = some ⟨b, o, none⟩ ∧ b < w.heap.size ∧ w.rangeAt b (o + k * 3) (enl L[k])) := hr
  have HIn : Hid (InL st L) := hin
  have HA0 : Hid (At (w.alloc (.cells (hc 11713 (fun _ => 0)).toArray 3)) w.heap.size (hc 11713 (smF st (L.take 0)))) := At.alloc w _ _
  have HB0 : Hid (Below w.heap.size w (w.alloc (.cells (hc 11713 (fun _ => 0)).toArray 3))) := (Below.refl _ _).alloc (Nat.le_refl _) _
  have hmk := make_sums w
  clear hr hin
  generalize w.alloc (.cells (hc 11713 (fun _ => 0)).toArray 3) = V0 at *
  go_enter Tryd.func27, Tryd.ntmps27
  go_wp2
  clear hmk
  go_loopw [6, 7] (fun s6 _ wr => ∃ k : Nat, k ≤ L.length ∧ s6 = .int .i64 k ∧ At wr w.heap.size (hc 11713 (smF st (L.take k))) ∧ Below w.heap.size w wr) (fun s6 _ _ => (L.length - intOf s6).toNat)
  case atStart => exact ⟨0, Nat.zero_le _, rfl, HA0.out, HB0.out⟩
  case round =>
    obtain ⟨k, hk, rfl, hA, hb⟩ := hrel
    have HA : Hid (At wr w.heap.size (hc 11713 (smF st (L.take k)))) := hA
    have HB : Hid (Below w.heap.size w wr) := hb
    clear hA hb HA0 HB0
    by_cases hlt : k < L.length
    · obtain ⟨b, o, rfl, hbl, hx⟩ := HR.out k hlt
      have hx2 : wr.rangeAt b (o + k * 3) (enl L[k]) := fun j u hu => (World.cell?_of_block (w := w) (a := ⟨b, o + k * 3 + j, none⟩) (HB.out.block b hbl)).trans (hx j u hu)
      have e0 : wr.cell? ⟨b, o + k * 3, none⟩ = some (.int .i64 L[k].d) := hx2 0 _ rfl
      have e1 : wr.cell? ⟨b, o + k * 3 + 1, none⟩ = some (.int .i64 L[k].k) := hx2 1 _ rfl
      have e2 : wr.cell? ⟨b, o + k * 3 + 2, none⟩ = some (.int .i64 L[k].a) := hx2 2 _ rfl
      have hin := HIn.out L[k] (List.getElem_mem hlt)
      have HT : Hid (∀ j : Nat, smF st (L.take (k + 1)) j = if 13 * (L[k].d - st) + L[k].k = (j : Int) then wrap64 (smF st (L.take k) j + L[k].a) else smF st (L.take k) j) := smF_take st L k hlt
      clear hx hx2
      generalize hf : smF st (L.take k) = f at *
      clear hf
      generalize L[k] = e at *
      obtain ⟨ed, ek, ea⟩ := e
      dsimp only at e0 e1 e2 hin HT
      obtain ⟨q, hq⟩ : ∃ q : Nat, 13 * (ed - st) + ek = (q : Int) := ⟨(13 * (ed - st) + ek).toNat, by omega⟩
      have hql : q < 11713 := by omega
      have c1 := HA.out.cell q (hc_at 11713 f q hql)
      have c2 := HA.out.free q (hc_at 11713 f q hql)
      have HA2 : Hid (At (wr.setCell ⟨w.heap.size, q, none⟩ (.int .i64 (wrap64 (f q + ea)))) w.heap.size (hc 11713 (smF st (L.take (k + 1))))) := by
        have h2 := HA.out.set q (by rw [hc_len]; exact hql) (.int .i64 (wrap64 (f q + ea)))
        rw [hc_set 11713 f (smF st (L.take (k + 1))) q _ (fun j _ => ?_)] at h2
        · exact h2
        · rw [HT.out j, hq]
          by_cases hj : j = q
          · subst hj; rw [if_pos rfl, if_pos rfl]
          · rw [if_neg (by omega), if_neg hj]
      have HB2 : Hid (Below w.heap.size w (wr.setCell ⟨w.heap.size, q, none⟩ (.int .i64 (wrap64 (f q + ea))))) := Keep.fresh HB.out ((Keep.refl _ _).set (S := fun b => b = w.heap.size) rfl q _) (fun b hb => Nat.le_of_eq hb.symm)
      have zk : (k : Int) < (L.length : Int) := by omega
      have y1 : IntKind.i64.wrap (ed - st) = ed - st := by rw [IntKind.wrap_i64]; omega
      have y2 : IntKind.i64.wrap (13 * (ed - st)) = 13 * (ed - st) := by rw [IntKind.wrap_i64]; omega
      have y3 : IntKind.i64.wrap (13 * (ed - st) + ek) = (q : Int) := by rw [IntKind.wrap_i64]; omega
      have y4 : (0 : Int) ≤ (q : Int) := by omega
      have y5 : (q : Int) < 11713 := by omega
      have HKl : Hid (k < L.length) := hlt
      clear HA HB HT hin hq
      generalize f q = x at *
      go_wp2
      go_region
      clear y1 y2 y3 e0 e1
      go_wp2
      go_region
      clear c1 c2 e2
      go_wp2
      exact ⟨⟨k + 1, HKl.out, rfl, HA2.out.drew.drew, HB2.out.drew.drew⟩, by have := HKl.out; simp [intOf]; omega⟩
    · obtain rfl : k = L.length := by omega
      rw [List.take_length] at HA
      have zk : ¬ (L.length : Int) < (L.length : Int) := by omega
      go_wp2
      go_ret
      exact ⟨rfl, HA.out, HB.out⟩
end Go.Proofs.YtanndhoimpnhpaaDoor

/- Two loans side by side, apart in memory. -/
namespace Go.Proofs.YtanndhoimpnhpaaDoor
open Go.ChangeShapes Go.WideShapes Go.RowKit Go.WideMaps Go.Maps Cal

/-- A loan in blocks F that are from w on; NT: a block that is not the loan's. -/
structure One (w : World) (NT : Nat) (B : Nat) (t : Ln.Terms) (E : List Ln.Ev) (g : Ln.St) (d : Int) (L : List En) (F : Nat → Prop) (wx : World) : Prop where
  lo : Lo wx B t E g d L F
  nt : ¬ F NT
  ge : ∀ b, F b → w.heap.size ≤ b
  lt : ∀ b, F b → b < wx.heap.size
structure Two (w : World) (NT : Nat) (t : Ln.Terms) (E : List Ln.Ev) (B1 B2 : Nat) (g1 : Ln.St) (d1 : Int) (L1 : List En) (g2 : Ln.St) (d2 : Int) (L2 : List En) (F1 F2 : Nat → Prop) (wx : World) : Prop where
  x : One w NT B1 t E g1 d1 L1 F1 wx
  y : One w NT B2 t E g2 d2 L2 F2 wx
  ap : ∀ b, F1 b → ¬ F2 b
  bl : Below w.heap.size w wx
theorem One.keep {S F : Nat → Prop} {w wx wy : World} {NT B : Nat} {t : Ln.Terms} {E : List Ln.Ev} {g : Ln.St} {d : Int} {L : List En} (h : One w NT B t E g d L F wx) (hk : Keep S wx wy) (hs : ∀ b, F b → ¬ S b) : One w NT B t E g d L F wy :=
  ⟨h.lo.keep hk (fun b _ hb => hs b hb), h.nt, h.ge, fun b hb => Nat.lt_of_lt_of_le (h.lt b hb) hk.size⟩
theorem One.below {F : Nat → Prop} {w wx wy : World} {NT B : Nat} {t : Ln.Terms} {E : List Ln.Ev} {g : Ln.St} {d : Int} {L : List En} (h : One w NT B t E g d L F wx) (hb : Below wx.heap.size wx wy) : One w NT B t E g d L F wy := h.keep (S := fun _ => False) (Keep.below hb) (fun _ _ x => x)
theorem Two.below {F1 F2 : Nat → Prop} {w wx wy : World} {NT B1 B2 : Nat} {t : Ln.Terms} {E : List Ln.Ev} {g1 g2 : Ln.St} {d1 d2 : Int} {L1 L2 : List En} (h : Two w NT t E B1 B2 g1 d1 L1 g2 d2 L2 F1 F2 wx) (hb : Below wx.heap.size wx wy) : Two w NT t E B1 B2 g1 d1 L1 g2 d2 L2 F1 F2 wy :=
  ⟨h.x.below hb, h.y.below hb, h.ap, h.bl.trans (hb.mono h.bl.size)⟩
theorem Two.drew {F1 F2 : Nat → Prop} {w wx : World} {NT B1 B2 : Nat} {t : Ln.Terms} {E : List Ln.Ev} {g1 g2 : Ln.St} {d1 d2 : Int} {L1 L2 : List En} (h : Two w NT t E B1 B2 g1 d1 L1 g2 d2 L2 F1 F2 wx) : Two w NT t E B1 B2 g1 d1 L1 g2 d2 L2 F1 F2 wx.drew := h.below (Below.refl _ _).drew
theorem One.run {F : Nat → Prop} {w wx : World} {NT B : Nat} {t : Ln.Terms} {E : List Ln.Ev} {g : Ln.St} {d : Int} {L : List En} (h : One w NT B t E g d L F wx) (hb : Below w.heap.size w wx) (hmv : Mv w) (hL : L.length ≤ 4000000000000) (m : Nat) (h0 : d ≤ t.st + m) (hm : m ≤ 3700) (hNT : NT < wx.heap.size) :
    Calls Tryd.prog 18 #[.pointer (some ⟨B, 0, none⟩), .int .i64 (t.st + m)] wx fun e wy => e = .returned (.int .i64 0) ∧ One w NT B t E (Ln.run t cdOf (wtOf t.ba) E m) (t.st + m) (bkP t.st (fun k => (yOf t E k).am) L m) (Wd F wx wy) wy ∧ Keep F wx wy := by
  have hg := hmv.lt
  refine (runL wx B t E g d L F h.lo hL m h0 hm (hmv.below hb) (fun x => by have := h.ge _ x; omega)).mono ?_
  rintro e wy ⟨rfl, h1, h2⟩
  refine ⟨rfl, ⟨h1, ?_, ?_, ?_⟩, h2⟩
  · rintro (x | x)
    · exact h.nt x
    · omega
  · rintro b (x | x)
    · exact h.ge b x
    · have := hb.size; omega
  · rintro b (x | x)
    · exact Nat.lt_of_lt_of_le (h.lt b x) h2.size
    · exact x.2
theorem Two.runX {F1 F2 : Nat → Prop} {w wx : World} {NT B1 B2 : Nat} {t : Ln.Terms} {E : List Ln.Ev} {g1 g2 : Ln.St} {d1 d2 : Int} {L1 L2 : List En} (h : Two w NT t E B1 B2 g1 d1 L1 g2 d2 L2 F1 F2 wx) (hmv : Mv w) (hL : L1.length ≤ 4000000000000) (m : Nat) (h0 : d1 ≤ t.st + m) (hm : m ≤ 3700) (hNT : At wx NT (tml t)) :
    Calls Tryd.prog 18 #[.pointer (some ⟨B1, 0, none⟩), .int .i64 (t.st + m)] wx fun e wy => e = .returned (.int .i64 0) ∧ (∃ F, Two w NT t E B1 B2 (Ln.run t cdOf (wtOf t.ba) E m) (t.st + m) (bkP t.st (fun k => (yOf t E k).am) L1 m) g2 d2 L2 F F2 wy) ∧ At wy NT (tml t) := by
  have hl := At.lt (v := .int .i64 t.st) hNT
  refine (h.x.run h.bl hmv hL m h0 hm hl).mono ?_
  rintro e wy ⟨rfl, h1, h2⟩
  refine ⟨rfl, ⟨_, h1, h.y.keep h2 (fun b hb hx => h.ap b hx hb), ?_, Keep.fresh h.bl h2 h.x.ge⟩, At.keep (v := .int .i64 t.st) hNT h2 h.x.nt⟩
  rintro b (x | x)
  · exact h.ap b x
  · intro y; have := h.y.lt b y; omega
theorem Two.runY {F1 F2 : Nat → Prop} {w wx : World} {NT B1 B2 : Nat} {t : Ln.Terms} {E : List Ln.Ev} {g1 g2 : Ln.St} {d1 d2 : Int} {L1 L2 : List En} (h : Two w NT t E B1 B2 g1 d1 L1 g2 d2 L2 F1 F2 wx) (hmv : Mv w) (hL : L2.length ≤ 4000000000000) (m : Nat) (h0 : d2 ≤ t.st + m) (hm : m ≤ 3700) (hNT : At wx NT (tml t)) :
    Calls Tryd.prog 18 #[.pointer (some ⟨B2, 0, none⟩), .int .i64 (t.st + m)] wx fun e wy => e = .returned (.int .i64 0) ∧ (∃ F, Two w NT t E B1 B2 g1 d1 L1 (Ln.run t cdOf (wtOf t.ba) E m) (t.st + m) (bkP t.st (fun k => (yOf t E k).am) L2 m) F1 F wy) ∧ At wy NT (tml t) := by
  have hl := At.lt (v := .int .i64 t.st) hNT
  refine (h.y.run h.bl hmv hL m h0 hm hl).mono ?_
  rintro e wy ⟨rfl, h1, h2⟩
  refine ⟨rfl, ⟨_, h.x.keep h2 (fun b hb hx => h.ap b hb hx), h1, ?_, Keep.fresh h.bl h2 h.y.ge⟩, At.keep (v := .int .i64 t.st) hNT h2 h.y.nt⟩
  intro b hb
  rintro (x | x)
  · exact h.ap b hb x
  · have := h.x.lt b hb; omega
/-- The facts of a loan's events, out of memory. -/
theorem Lo.facts {w : World} {B : Nat} {t : Ln.Terms} {E : List Ln.Ev} {g : Ln.St} {d : Int} {L : List En} {F : Nat → Prop} (h : Lo w B t E g d L F) : E.Pairwise So.Ah ∧ (∀ e ∈ E, Ln.OkE t e) ∧ E.length ≤ 40 ∧ Ln.OkT t := by
  obtain ⟨_, _, _, _, h1, _⟩ := h
  exact ⟨h1.so, h1.ok, h1.le, h1.ot⟩
/-- The amounts of a loan's days. -/
noncomputable def amOf (t : Ln.Terms) (E : List Ln.Ev) : Nat → Nat → Int := fun k => (yOf t E k).am
theorem amOf_bd {t : Ln.Terms} {E : List Ln.Ev} (hE : ∀ e ∈ E, Ln.OkE t e) (hl : E.length ≤ 40) (ht : Ln.OkT t) : ∀ k j, k < 3700 → 1 ≤ j → j ≤ 12 → I64 (amOf t E k j) := fun k j hk h1 h12 => by
  have := am_bd ht E hE hl k hk j h1 h12
  show -9223372036854775808 ≤ (yOf t E k).am j ∧ (yOf t E k).am j ≤ 9223372036854775807
  omega
/-- A book that was right at day p is right at day m. -/
theorem clean_on {t : Ln.Terms} {E : List Ln.Ev} (hE : ∀ e ∈ E, Ln.OkE t e) (hl : E.length ≤ 40) (ht : Ln.OkT t) (p m : Nat) (hp : p ≤ m) (hm : m ≤ 3700) : bkP t.st (fun k => (yOf t E k).am) (cleanB t.st (amOf t E) p) m = cleanB t.st (amOf t E) m := by
  have := bkP_clean t.st (amOf t E) 3700 (amOf_bd hE hl ht) p (by omega) m
  rw [Nat.max_eq_right hp] at this
  exact this
end Go.Proofs.YtanndhoimpnhpaaDoor
