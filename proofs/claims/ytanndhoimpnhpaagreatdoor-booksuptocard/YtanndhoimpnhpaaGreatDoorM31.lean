/- Joined by program: Env, BsI, BsJ, BsL. -/
import Derived.Test.YtanndhoimpnhpaaGreatDoorM27
import Derived.Test.YtanndhoimpnhpaaGreatDoorM30
import Derived.Test.YtanndhoimpnhpaaGreatDoorM28
/- A list of entries in memory. (Plain: of neither side.) -/
namespace Go.Proofs.YtanndhoimpnhpaaGreatDoor
open Go.ChangeShapes Go.WideShapes Go.RowKit Go.WideMaps Go.Maps Cal

theorem own_low {w : World} {base : Nat} {T : TypeId} {size : Nat} {v : Value} {n : Nat} {xs : List Value} (h : w.ownsRow base T size v n xs) : w.ownsRow 0 T size v n xs := by
  obtain ⟨h1, h2 | ⟨g, cap, cur, h3, _, h5⟩⟩ := h
  · exact ⟨h1, .inl h2⟩
  · exact ⟨h1, .inr ⟨g, cap, cur, h3, Nat.zero_le _, h5⟩⟩
/-- A list of entries in memory. -/
def enl (e : En) : List Value := [.int .i64 e.d, .int .i64 e.k, .int .i64 e.a]
def EnV (w : World) (v : Value) (L : List En) : Prop :=
  ∃ p cap, v = .slice p L.length cap ∧ L.length ≤ cap ∧ ∀ k (hk : k < L.length), ∃ b o, p = some ⟨b, o, none⟩ ∧ b < w.heap.size ∧ w.rangeAt b (o + k * 3) (enl L[k])
theorem EnV.below {w w' : World} {v : Value} {L : List En} (h : EnV w v L) (hb : Below w.heap.size w w') : EnV w' v L := by
  obtain ⟨p, cap, h1, h2, h3⟩ := h
  refine ⟨p, cap, h1, h2, fun k hk => ?_⟩
  obtain ⟨b, o, h4, h5, h6⟩ := h3 k hk
  exact ⟨b, o, h4, Nat.lt_of_lt_of_le h5 hb.size, fun j u hu => (World.cell?_of_block (w := w) (a := ⟨b, o + k * 3 + j, none⟩) (hb.block b h5)).trans (h6 j u hu)⟩
theorem own_en {w : World} {base : Nat} {v : Value} {L : List En} (h : w.ownsRow base 114 3 v L.length (ens L)) : EnV w v L := by
  obtain ⟨hl, hn | ⟨g, cap, cur, rfl, hg⟩⟩ := id h
  · obtain ⟨rfl, hz⟩ := hn
    have hE : L = [] := List.length_eq_zero_iff.1 hz
    subst hE
    exact ⟨none, 0, rfl, Nat.le_refl _, fun k hk => absurd hk (Nat.not_lt_zero k)⟩
  · have hlt := (own_base h (b := g) rfl).2
    refine ⟨some ⟨g, 0, none⟩, cap, rfl, hg.2.2.1, fun k hk => ⟨g, 0, rfl, hlt, ?_⟩⟩
    obtain ⟨q0, q1, q2⟩ := en_range h rfl k hk
    intro j u hu
    rw [Nat.zero_add]
    match j, hu with
    | 0, hu => cases hu; exact q0
    | 1, hu => cases hu; exact q1
    | 2, hu => cases hu; exact q2

end Go.Proofs.YtanndhoimpnhpaaGreatDoor

/- The statements' sameInts, sameEntries: two lists that hold the same. -/
namespace Go.Proofs.YtanndhoimpnhpaaGreatDoor
open Go.ChangeShapes Go.WideShapes Go.ChangeAt Go.RowKit Go.WideMaps Go.Maps Cal

/-- A list of numbers in memory. -/
def IsV (w : World) (v : Value) (zs : List Int) : Prop :=
  ∃ p cap, v = .slice p zs.length cap ∧ zs.length ≤ cap ∧ ∀ k (hk : k < zs.length), ∃ b o, p = some ⟨b, o, none⟩ ∧ b < w.heap.size ∧ w.cell? ⟨b, o + k, none⟩ = some (.int .i64 zs[k])
theorem IsV.below {w w' : World} {v : Value} {zs : List Int} (h : IsV w v zs) (hb : Below w.heap.size w w') : IsV w' v zs := by
  obtain ⟨p, cap, h1, h2, h3⟩ := h
  refine ⟨p, cap, h1, h2, fun k hk => ?_⟩
  obtain ⟨b, o, h4, h5, h6⟩ := h3 k hk
  exact ⟨b, o, h4, Nat.lt_of_lt_of_le h5 hb.size, (World.cell?_of_block (w := w) (a := ⟨b, o + k, none⟩) (hb.block b h5)).trans h6⟩
theorem OwT.isv {w : World} {v : Value} {zs : List Int} (h : OwT w 1 v zs.length (isl zs)) : IsV w v zs := by
  obtain ⟨T, hl, hn | ⟨g, cap, cur, rfl, hg⟩⟩ := id h
  · obtain ⟨rfl, hz⟩ := hn
    obtain rfl : zs = [] := List.length_eq_zero_iff.1 hz
    exact ⟨none, 0, rfl, Nat.le_refl _, fun k hk => absurd hk (Nat.not_lt_zero k)⟩
  · have ho : w.ownsRow 0 T 1 (.slice (some ⟨g, 0, none⟩) zs.length cap) zs.length (isl zs) := ⟨hl, .inr ⟨g, cap, cur, rfl, hg⟩⟩
    refine ⟨_, cap, rfl, hg.2.2.1, fun k hk => ⟨g, 0, rfl, (own_base ho (b := g) rfl).2, ?_⟩⟩
    rw [Nat.zero_add, ho.cellAt k (by omega)]
    unfold isl
    rw [List.getElem?_map, List.getElem?_eq_getElem hk]
    rfl
theorem OwT.env {w : World} {v : Value} {L : List En} (h : OwT w 3 v L.length (ens L)) : EnV w v L := by
  obtain ⟨T, hl, hn | ⟨g, cap, cur, rfl, hg⟩⟩ := id h
  · obtain ⟨rfl, hz⟩ := hn
    obtain rfl : L = [] := List.length_eq_zero_iff.1 hz
    exact ⟨none, 0, rfl, Nat.le_refl _, fun k hk => absurd hk (Nat.not_lt_zero k)⟩
  · have ho : w.ownsRow 0 T 3 (.slice (some ⟨g, 0, none⟩) L.length cap) L.length (ens L) := ⟨hl, .inr ⟨g, cap, cur, rfl, hg⟩⟩
    refine ⟨_, cap, rfl, hg.2.2.1, fun k hk => ⟨g, 0, rfl, (own_base ho (b := g) rfl).2, ?_⟩⟩
    obtain ⟨q0, q1, q2⟩ := en_range ho rfl k hk
    intro j u hu
    rw [Nat.zero_add]
    match j, hu with
    | 0, hu => cases hu; exact q0
    | 1, hu => cases hu; exact q1
    | 2, hu => cases hu; exact q2

set_option maxRecDepth 10000 in
set_option maxHeartbeats 2000000 in
theorem lawInts_true (w : World) (v u : Value) (L : List Int) (h1 : IsV w v L) (h2 : IsV w u L) (hL : L.length ≤ 4000000000000) :
    Calls Tryz.prog 62 #[v, u] w fun e w' => e = .returned (.bool true) ∧ Below w.heap.size w w' := by
  obtain ⟨p, cap, rfl, hc1, hr1⟩ := h1
  obtain ⟨q, cap2, rfl, hc2, hr2⟩ := h2
  have H1 : Hid (∀ k (hk : k < L.length), ∃ b o, p = some ⟨b, o, none⟩ ∧ b < w.heap.size ∧ w.cell? ⟨b, o + k, none⟩ = some (.int .i64 L[k])) := hr1
  have H2 : Hid (∀ k (hk : k < L.length), ∃ b o, q = some ⟨b, o, none⟩ ∧ b < w.heap.size ∧ w.cell? ⟨b, o + k, none⟩ = some (.int .i64 L[k])) := hr2
  clear hr1 hr2
  have hne : ((L.length : Int) != (L.length : Int)) = false := by simp
  go_enter Tryz.func62, Tryz.ntmps62
  go_wp2
  go_loopw [5] (fun i wr => ∃ k : Nat, k ≤ L.length ∧ i = .int .i64 k ∧ Below w.heap.size w wr) (fun i _ => (L.length - intOf i).toNat)
  case atStart => exact ⟨0, Nat.zero_le _, rfl, Below.refl _ _⟩
  case round =>
    obtain ⟨k, hk, rfl, hb⟩ := hrel
    have HB : Hid (Below w.heap.size w wr) := hb
    clear hb
    by_cases hlt : k < L.length
    · obtain ⟨b, o, rfl, hbl, hx1⟩ := H1.out k hlt
      obtain ⟨b2, o2, rfl, hbl2, hx2⟩ := H2.out k hlt
      have HR1 : Hid (∀ wx, Below w.heap.size w wx → wx.cell? ⟨b, o + k, none⟩ = some (.int .i64 L[k])) := fun wx hx => (World.cell?_of_block (w := w) (a := ⟨b, o + k, none⟩) (hx.block b hbl)).trans hx1
      have HR2 : Hid (∀ wx, Below w.heap.size w wx → wx.cell? ⟨b2, o2 + k, none⟩ = some (.int .i64 L[k])) := fun wx hx => (World.cell?_of_block (w := w) (a := ⟨b2, o2 + k, none⟩) (hx.block b2 hbl2)).trans hx2
      clear hx1 hx2
      generalize L[k] = e at *
      have zk : (k : Int) < (L.length : Int) := by omega
      go_upto_region 6 with fail
      refine wp_region_held_drew (S := fun wx => Below w.heap.size w wx) (by kernel_rfl) HB.out.drew (fun hHeld => ?_)
      clear HB
      generalize wr.drew = V1 at *
      refine wpAnyH_take (i := 0) (v := (.slice (some ⟨b, o, none⟩) L.length cap)) rfl (by kernel_rfl) (by kernel_rfl) (by kernel_rfl) (fun _ _ _ h => h) (Or.inl ⟨by rfl, fun wx hSw => by kernel_rfl⟩) (by assumption) ?_
      simp only [Act.put, List.getElem_toArray, List.getElem_cons_zero, List.setIfInBounds_toArray, List.set_cons_zero, List.set_cons_succ]
      refine wpAnyH_take (i := 1) (v := (.int .i64 k)) rfl (by kernel_rfl) (by kernel_rfl) (by kernel_rfl) (fun _ _ _ h => h) (Or.inl ⟨by rfl, fun wx hSw => by kernel_rfl⟩) (by assumption) ?_
      simp only [Act.put, List.getElem_toArray, List.getElem_cons_succ, List.getElem_cons_zero, List.setIfInBounds_toArray, List.set_cons_zero, List.set_cons_succ]
      refine wpAnyH_take (i := 2) (v := (.pointer (some ⟨b, o + k, none⟩))) rfl (by kernel_rfl) (by kernel_rfl) (by kernel_rfl) (fun _ _ _ h => h) (Or.inl ⟨by rfl, fun wx hSw => by ((try dsimp only at hSw); go_simp)⟩) (by assumption) ?_
      simp only [Act.put, List.getElem_toArray, List.getElem_cons_succ, List.getElem_cons_zero, List.setIfInBounds_toArray, List.set_cons_zero, List.set_cons_succ]
      refine wpAnyH_take (i := 3) (v := (.int .i64 e)) rfl (by kernel_rfl) (by kernel_rfl) (by kernel_rfl) (fun _ _ _ h => h) (Or.inl ⟨by rfl, fun wx hSw => by (have hc := HR1.out wx hSw; go_simp)⟩) (by assumption) ?_
      simp only [Act.put, List.getElem_toArray, List.getElem_cons_succ, List.getElem_cons_zero, List.setIfInBounds_toArray, List.set_cons_zero, List.set_cons_succ]
      refine wpAnyH_take (i := 4) (v := (.slice (some ⟨b2, o2, none⟩) L.length cap2)) rfl (by kernel_rfl) (by kernel_rfl) (by kernel_rfl) (fun _ _ _ h => h) (Or.inl ⟨by rfl, fun wx hSw => by kernel_rfl⟩) (by assumption) ?_
      simp only [Act.put, List.getElem_toArray, List.getElem_cons_succ, List.getElem_cons_zero, List.setIfInBounds_toArray, List.set_cons_zero, List.set_cons_succ]
      refine wpAnyH_take (i := 5) (v := (.int .i64 k)) rfl (by kernel_rfl) (by kernel_rfl) (by kernel_rfl) (fun _ _ _ h => h) (Or.inl ⟨by rfl, fun wx hSw => by kernel_rfl⟩) (by assumption) ?_
      simp only [Act.put, List.getElem_toArray, List.getElem_cons_succ, List.getElem_cons_zero, List.setIfInBounds_toArray, List.set_cons_zero, List.set_cons_succ]
      refine wpAnyH_take (i := 6) (v := (.pointer (some ⟨b2, o2 + k, none⟩))) rfl (by kernel_rfl) (by kernel_rfl) (by kernel_rfl) (fun _ _ _ h => h) (Or.inl ⟨by rfl, fun wx hSw => by ((try dsimp only at hSw); go_simp)⟩) (by assumption) ?_
      simp only [Act.put, List.getElem_toArray, List.getElem_cons_succ, List.getElem_cons_zero, List.setIfInBounds_toArray, List.set_cons_zero, List.set_cons_succ]
      refine wpAnyH_take (i := 7) (v := (.int .i64 e)) rfl (by kernel_rfl) (by kernel_rfl) (by kernel_rfl) (fun _ _ _ h => h) (Or.inl ⟨by rfl, fun wx hSw => by (have hc := HR2.out wx hSw; go_simp)⟩) (by assumption) ?_
      simp only [Act.put, List.getElem_toArray, List.getElem_cons_succ, List.getElem_cons_zero, List.setIfInBounds_toArray, List.set_cons_zero, List.set_cons_succ]
      have HB1 : Hid (Below w.heap.size w V1) := hHeld
      refine wpAnyH_take (i := 8) (v := (.bool false)) rfl (by kernel_rfl) (by kernel_rfl) (by kernel_rfl) (fun _ _ _ h => h) (Or.inl ⟨by rfl, fun wx hSw => by go_simp⟩) (by assumption) ?_
      simp only [Act.put, List.getElem_toArray, List.getElem_cons_succ, List.getElem_cons_zero, List.setIfInBounds_toArray, List.set_cons_zero, List.set_cons_succ]
      refine wpAnyH_done (by kernel_rfl) ?_ _
      clear hHeld HR1 HR2
      go_wp2
      exact ⟨⟨k + 1, hlt, rfl, HB1.out⟩, by simp [intOf]; omega⟩
    · obtain rfl : k = L.length := by omega
      have zk : ¬ (L.length : Int) < (L.length : Int) := by omega
      go_wp2
      go_ret
      exact ⟨rfl, HB.out⟩

set_option maxRecDepth 10000 in
set_option maxHeartbeats 2000000 in
theorem lawEntries_true (w : World) (v u : Value) (L : List En) (h1 : EnV w v L) (h2 : EnV w u L) (hL : L.length ≤ 4000000000000) :
    Calls Tryz.prog 63 #[v, u] w fun e w' => e = .returned (.bool true) ∧ Below w.heap.size w w' := by
  obtain ⟨p, cap, rfl, hc1, hr1⟩ := h1
  obtain ⟨q, cap2, rfl, hc2, hr2⟩ := h2
  have H1 : Hid (∀ k (hk : k < L.length), ∃ b o, p = some ⟨b, o, none⟩ ∧ b < w.heap.size ∧ w.rangeAt b (o + k * 3) (enl L[k])) := hr1
  have H2 : Hid (∀ k (hk : k < L.length), ∃ b o, q = some ⟨b, o, none⟩ ∧ b < w.heap.size ∧ w.rangeAt b (o + k * 3) (enl L[k])) := hr2
  clear hr1 hr2
  have hne : ((L.length : Int) != (L.length : Int)) = false := by simp
  go_enter Tryz.func63, Tryz.ntmps63
  go_wp2
  go_loopw [5] (fun i wr => ∃ k : Nat, k ≤ L.length ∧ i = .int .i64 k ∧ Below w.heap.size w wr) (fun i _ => (L.length - intOf i).toNat)
  case atStart => exact ⟨0, Nat.zero_le _, rfl, Below.refl _ _⟩
  case round =>
    obtain ⟨k, hk, rfl, hb⟩ := hrel
    have HB : Hid (Below w.heap.size w wr) := hb
    clear hb
    by_cases hlt : k < L.length
    · obtain ⟨b, o, rfl, hbl, hx1⟩ := H1.out k hlt
      obtain ⟨b2, o2, rfl, hbl2, hx2⟩ := H2.out k hlt
      have HR1 : Hid (∀ wx, Below w.heap.size w wx → wx.rangeAt b (o + k * 3) (enl L[k])) := fun wx hx j u hu => (World.cell?_of_block (w := w) (a := ⟨b, o + k * 3 + j, none⟩) (hx.block b hbl)).trans (hx1 j u hu)
      have HR2 : Hid (∀ wx, Below w.heap.size w wx → wx.rangeAt b2 (o2 + k * 3) (enl L[k])) := fun wx hx j u hu => (World.cell?_of_block (w := w) (a := ⟨b2, o2 + k * 3 + j, none⟩) (hx.block b2 hbl2)).trans (hx2 j u hu)
      clear hx1 hx2
      generalize L[k] = e at *
      obtain ⟨ed, ek, ea⟩ := e
      have zk : (k : Int) < (L.length : Int) := by omega
      go_upto_region 6 with fail
      refine wp_region_held_drew (S := fun wx => Below w.heap.size w wx) (by kernel_rfl) HB.out.drew (fun hHeld => ?_)
      clear HB
      generalize wr.drew = V1 at *
      refine wpAnyH_take (i := 0) (v := (.slice (some ⟨b, o, none⟩) L.length cap)) rfl (by kernel_rfl) (by kernel_rfl) (by kernel_rfl) (fun _ _ _ h => h) (Or.inl ⟨by rfl, fun wx hSw => by kernel_rfl⟩) (by assumption) ?_
      simp only [Act.put, List.getElem_toArray, List.getElem_cons_zero, List.setIfInBounds_toArray, List.set_cons_zero, List.set_cons_succ]
      refine wpAnyH_take (i := 1) (v := (.int .i64 k)) rfl (by kernel_rfl) (by kernel_rfl) (by kernel_rfl) (fun _ _ _ h => h) (Or.inl ⟨by rfl, fun wx hSw => by kernel_rfl⟩) (by assumption) ?_
      simp only [Act.put, List.getElem_toArray, List.getElem_cons_succ, List.getElem_cons_zero, List.setIfInBounds_toArray, List.set_cons_zero, List.set_cons_succ]
      refine wpAnyH_take (i := 2) (v := (.pointer (some ⟨b, o + k * 3, none⟩))) rfl (by kernel_rfl) (by kernel_rfl) (by kernel_rfl) (fun _ _ _ h => h) (Or.inl ⟨by rfl, fun wx hSw => by ((try dsimp only at hSw); go_simp)⟩) (by assumption) ?_
      simp only [Act.put, List.getElem_toArray, List.getElem_cons_succ, List.getElem_cons_zero, List.setIfInBounds_toArray, List.set_cons_zero, List.set_cons_succ]
      refine wpAnyH_take (i := 3) (v := (.agg (enl ⟨ed, ek, ea⟩).toArray)) rfl (by kernel_rfl) (by kernel_rfl) (by kernel_rfl) (fun _ _ _ h => h) (yieldsIf_load_mid (by rfl) 114 (.tmp 19) rfl _ _ rfl _ _ (fun _ h => HR1.out _ h) Tryz.underlying114 rfl (by kernel_rfl)) (by assumption) ?_
      simp only [Act.put, List.getElem_toArray, List.getElem_cons_succ, List.getElem_cons_zero, List.setIfInBounds_toArray, List.set_cons_zero, List.set_cons_succ]
      refine wpAnyH_take (i := 4) (v := (.slice (some ⟨b2, o2, none⟩) L.length cap2)) rfl (by kernel_rfl) (by kernel_rfl) (by kernel_rfl) (fun _ _ _ h => h) (Or.inl ⟨by rfl, fun wx hSw => by kernel_rfl⟩) (by assumption) ?_
      simp only [Act.put, List.getElem_toArray, List.getElem_cons_succ, List.getElem_cons_zero, List.setIfInBounds_toArray, List.set_cons_zero, List.set_cons_succ]
      refine wpAnyH_take (i := 5) (v := (.int .i64 k)) rfl (by kernel_rfl) (by kernel_rfl) (by kernel_rfl) (fun _ _ _ h => h) (Or.inl ⟨by rfl, fun wx hSw => by kernel_rfl⟩) (by assumption) ?_
      simp only [Act.put, List.getElem_toArray, List.getElem_cons_succ, List.getElem_cons_zero, List.setIfInBounds_toArray, List.set_cons_zero, List.set_cons_succ]
      refine wpAnyH_take (i := 6) (v := (.pointer (some ⟨b2, o2 + k * 3, none⟩))) rfl (by kernel_rfl) (by kernel_rfl) (by kernel_rfl) (fun _ _ _ h => h) (Or.inl ⟨by rfl, fun wx hSw => by ((try dsimp only at hSw); go_simp)⟩) (by assumption) ?_
      simp only [Act.put, List.getElem_toArray, List.getElem_cons_succ, List.getElem_cons_zero, List.setIfInBounds_toArray, List.set_cons_zero, List.set_cons_succ]
      refine wpAnyH_take (i := 7) (v := (.agg (enl ⟨ed, ek, ea⟩).toArray)) rfl (by kernel_rfl) (by kernel_rfl) (by kernel_rfl) (fun _ _ _ h => h) (yieldsIf_load_mid (by rfl) 114 (.tmp 23) rfl _ _ rfl _ _ (fun _ h => HR2.out _ h) Tryz.underlying114 rfl (by kernel_rfl)) (by assumption) ?_
      simp only [Act.put, List.getElem_toArray, List.getElem_cons_succ, List.getElem_cons_zero, List.setIfInBounds_toArray, List.set_cons_zero, List.set_cons_succ]
      have HB1 : Hid (Below w.heap.size w V1) := hHeld
      refine wpAnyH_take (i := 8) (v := (.bool false)) rfl (by kernel_rfl) (by kernel_rfl) (by kernel_rfl) (fun _ _ _ h => h) (Or.inl ⟨by rfl, fun wx hSw => by (unfold enl; go_simp)⟩) (by assumption) ?_
      simp only [Act.put, List.getElem_toArray, List.getElem_cons_succ, List.getElem_cons_zero, List.setIfInBounds_toArray, List.set_cons_zero, List.set_cons_succ]
      refine wpAnyH_done (by kernel_rfl) ?_ _
      clear hHeld HR1 HR2
      go_wp2
      exact ⟨⟨k + 1, hlt, rfl, HB1.out⟩, by simp [intOf]; omega⟩
    · obtain rfl : k = L.length := by omega
      have zk : ¬ (L.length : Int) < (L.length : Int) := by omega
      go_wp2
      go_ret
      exact ⟨rfl, HB.out⟩

end Go.Proofs.YtanndhoimpnhpaaGreatDoor

/- The statements' looks: each list still reads as it was written over. -/
namespace Go.Proofs.YtanndhoimpnhpaaGreatDoor
open Go.ChangeShapes Go.WideShapes Go.ChangeAt Go.RowKit Go.WideMaps Go.Maps Cal

/-- The k-th element of a row of lists. -/
theorem row_elem {w : World} {TS : TypeId} {lv : Value} {Ls : List Value} (h : w.ownsRow 0 TS 1 lv Ls.length Ls) (k : Nat) (hk : k < Ls.length) : ∃ g cap, lv = .slice (some ⟨g, 0, none⟩) Ls.length cap ∧ Ls.length ≤ cap ∧ g < w.heap.size ∧ w.cell? ⟨g, k, none⟩ = some Ls[k] := by
  obtain ⟨h1, ⟨_, h2⟩ | ⟨g, cap, cur, rfl, hg⟩⟩ := id h
  · omega
  · refine ⟨g, cap, rfl, hg.2.2.1, (own_base h (b := g) rfl).2, ?_⟩
    rw [h.cellAt k (by omega), List.getElem?_eq_getElem hk]
set_option maxRecDepth 10000 in
set_option maxHeartbeats 4000000 in
theorem looks_any (w : World) (W : Nat) (B : Bv) (p0 d0 p1 d1 : Value) (c : Nat) (Q : Nat → Prop) (hA : At w W (wlb B p0 d0 p1 d1)) (hB : Bok w B c Q) (hc : c ≤ 200000000) :
    Calls Tryz.prog 27 #[.pointer (some ⟨W, 0, none⟩)] w fun e w' => e = .returned (.bool true) ∧ w' = w := by
  obtain ⟨τ, L1, W1, R1, L2, W2, R2, h1, h2, _, hn1, hn2⟩ := hB
  obtain ⟨q1, cap1, e1⟩ := own_slice h1.ol
  obtain ⟨q2, cap2, e2⟩ := own_slice h2.ol
  have HO1 : Hid (w.ownsRow 0 38 1 (.slice q1 L1.length cap1) L1.length L1) := by show w.ownsRow _ _ _ _ _ _; rw [← e1]; exact h1.ol
  have HO2 : Hid (w.ownsRow 0 54 1 (.slice q2 L2.length cap2) L2.length L2) := by show w.ownsRow _ _ _ _ _ _; rw [← e2]; exact h2.ol
  have HR1 : Hid (∀ j v, L1[j]? = some v → RdV w 1 v (mkI (j / 4))) := fun j v hj => (h1.ls j v hj).1
  have HR2 : Hid (∀ j v, L2[j]? = some v → RdV w 3 v (mkE (j / 4))) := fun j v hj => (h2.ls j v hj).1
  have c0 : w.cell? ⟨W, 0, none⟩ = some (.slice q1 L1.length cap1) := by rw [← e1]; exact hA.cell 0 rfl
  have c1 : w.cell? ⟨W, 1, none⟩ = some (.slice q2 L2.length cap2) := by rw [← e2]; exact hA.cell 1 rfl
  clear hA h1 h2 e1 e2
  go_enter Tryz.func27, Tryz.ntmps27
  go_wp2
  go_loop [3, 4] (fun s3 _ => ∃ j : Nat, j ≤ L1.length ∧ s3 = .int .i64 j) (fun s3 _ => (L1.length - intOf s3).toNat)
  case atStart => exact ⟨0, Nat.zero_le _, rfl⟩
  case round =>
    obtain ⟨j, hj, rfl⟩ := hrel
    by_cases hlt : j < L1.length
    · have zj : (j : Int) < (L1.length : Int) := by omega
      obtain ⟨g, cap, eg, hcap, _, hcell⟩ := row_elem HO1.out j hlt
      injection eg with eg1 _ eg3
      subst eg1 eg3
      obtain ⟨p, n, pc, ev, hn, hnc, hrd⟩ := HR1.out j L1[j] (List.getElem?_eq_getElem hlt)
      rw [ev] at hcell
      have HRd : Hid (∀ i, i < n → ∃ b, p = some ⟨b, 0, none⟩ ∧ b < w.heap.size ∧ w.rangeAt b (i * 1) (mkI (j / 4))) := hrd
      clear hrd ev
      go_wp2
      go_loop [4] (fun s4 => ∃ i : Nat, i ≤ n ∧ s4 = .int .i64 i) (fun s4 => (n - intOf s4).toNat)
      case atStart => exact ⟨0, Nat.zero_le _, rfl⟩
      case round =>
        obtain ⟨i, hi, rfl⟩ := hrel
        by_cases hil : i < n
        · have zi : (i : Int) < (n : Int) := by omega
          obtain ⟨b, rfl, _, hr⟩ := HRd.out i hil
          have hcb : w.cell? ⟨b, i, none⟩ = some (.int .i64 (-7 - ((j / 4 : Nat) : Int))) := by have := hr 0 _ rfl; rwa [Nat.mul_one] at this
          have zq : ((j / 4 : Nat) : Int) = (j : Int) / 4 := by omega
          rw [zq] at hcb
          clear hr zq
          go_wp2
          exact ⟨⟨i + 1, hil, rfl⟩, by simp [intOf]; omega⟩
        · obtain rfl : i = n := by omega
          have zi : ¬ (i : Int) < (i : Int) := by omega
          go_wp2
          exact ⟨⟨j + 1, hlt, rfl⟩, by simp [intOf]; omega⟩
    · obtain rfl : j = L1.length := by omega
      have zj : ¬ (L1.length : Int) < (L1.length : Int) := by omega
      go_wp2
      go_loop [5, 6] (fun s5 _ => ∃ j : Nat, j ≤ L2.length ∧ s5 = .int .i64 j) (fun s5 _ => (L2.length - intOf s5).toNat)
      case atStart => exact ⟨0, Nat.zero_le _, rfl⟩
      case round =>
        obtain ⟨j, hj2, rfl⟩ := hrel
        by_cases hlt2 : j < L2.length
        · have zj2 : (j : Int) < (L2.length : Int) := by omega
          obtain ⟨g, cap, eg, hcap, _, hcell⟩ := row_elem HO2.out j hlt2
          injection eg with eg1 _ eg3
          subst eg1 eg3
          obtain ⟨p, n, pc, ev, hn, hnc, hrd⟩ := HR2.out j L2[j] (List.getElem?_eq_getElem hlt2)
          rw [ev] at hcell
          have HRd : Hid (∀ i, i < n → ∃ b, p = some ⟨b, 0, none⟩ ∧ b < w.heap.size ∧ w.rangeAt b (i * 3) (mkE (j / 4))) := hrd
          clear hrd ev
          go_wp2
          go_loop [6] (fun s6 => ∃ i : Nat, i ≤ n ∧ s6 = .int .i64 i) (fun s6 => (n - intOf s6).toNat)
          case atStart => exact ⟨0, Nat.zero_le _, rfl⟩
          case round =>
            obtain ⟨i, hi, rfl⟩ := hrel
            by_cases hil : i < n
            · have zi : (i : Int) < (n : Int) := by omega
              obtain ⟨b, rfl, _, hr⟩ := HRd.out i hil
              have zq : ((j / 4 : Nat) : Int) = (j : Int) / 4 := by omega
              have hcb : w.rangeAt b (i * 3) [.int .i64 0, .int .i64 (-7 - (j : Int) / 4), .int .i64 0] := by rw [← zq]; exact hr
              have hb0 : w.cell? ⟨b, i * 3, none⟩ = some (.int .i64 0) := hcb 0 _ rfl
              have hb1 : w.cell? ⟨b, i * 3 + 1, none⟩ = some (.int .i64 (-7 - (j : Int) / 4)) := hcb 1 _ rfl
              have hb2 : w.cell? ⟨b, i * 3 + 2, none⟩ = some (.int .i64 0) := hcb 2 _ rfl
              clear hr zq hcb
              go_wp2
              exact ⟨⟨i + 1, hil, rfl⟩, by simp [intOf]; omega⟩
            · obtain rfl : i = n := by omega
              have zi : ¬ (i : Int) < (i : Int) := by omega
              go_wp2
              exact ⟨⟨j + 1, hlt2, rfl⟩, by simp [intOf]; omega⟩
        · obtain rfl : j = L2.length := by omega
          have zj2 : ¬ (L2.length : Int) < (L2.length : Int) := by omega
          go_wp2
          go_ret
          exact ⟨rfl, rfl⟩
end Go.Proofs.YtanndhoimpnhpaaGreatDoor

/- The statements' settle: what its loops keep. -/
namespace Go.Proofs.YtanndhoimpnhpaaGreatDoor
open Go.ChangeShapes Go.WideShapes Go.ChangeAt Go.RowKit Go.WideMaps Go.Maps Cal

/-- So many lists of each half were written over. -/
structure SetS (w : World) (W : Nat) (wv1 rv1 wv2 rv2 : Value) (ps W1 R1 W2 R2 : List Value) (c : Nat) (Q : Nat → Prop) (i1 i2 : Nat) (wr : World) (lv1 lv2 : Value) (τ : Nat → Nat) (L1 L2 : List Value) : Prop where
  wa : At wr W (lv1 :: lv2 :: wv1 :: rv1 :: wv2 :: rv2 :: ps)
  s1 : SideI wr lv1 wv1 rv1 L1 W1 R1 i1 τ
  s2 : SideE wr lv2 wv2 rv2 L2 W2 R2 i2 τ
  tq : ∀ b, τ b ≠ 0 → Wd Q w wr b
  tw : τ W = 0
  kp : Keep (fun b => b = W ∨ Q b) w wr
  n1 : L1.length + 4 * (W1.length - i1) ≤ 4 * c
  n2 : L2.length + 4 * (W2.length - i2) ≤ 4 * c
section
variable {w wr wx : World} {W : Nat} {wv1 rv1 wv2 rv2 : Value} {ps W1 R1 W2 R2 : List Value} {c : Nat} {Q : Nat → Prop} {i1 i2 : Nat} {lv1 lv2 : Value} {τ : Nat → Nat} {L1 L2 : List Value}
theorem SetS.lt (h : SetS w W wv1 rv1 wv2 rv2 ps W1 R1 W2 R2 c Q i1 i2 wr lv1 lv2 τ L1 L2) (hq : ∀ b, Q b → b < w.heap.size) (b : Nat) (hb : τ b ≠ 0) : b < wr.heap.size := by
  rcases h.tq b hb with h1 | h1
  · exact Nat.lt_of_lt_of_le (hq b h1) h.kp.size
  · exact h1.2
theorem SetS.below (h : SetS w W wv1 rv1 wv2 rv2 ps W1 R1 W2 R2 c Q i1 i2 wr lv1 lv2 τ L1 L2) (hb : Below wr.heap.size wr wx) : SetS w W wv1 rv1 wv2 rv2 ps W1 R1 W2 R2 c Q i1 i2 wx lv1 lv2 τ L1 L2 :=
  ⟨At.keep (S := fun _ => False) h.wa (Keep.below hb) (fun x => x), h.s1.keep (S := fun _ => False) (Keep.below hb) (fun _ _ x => x), h.s2.keep (S := fun _ => False) (Keep.below hb) (fun _ _ x => x), fun b hz => (h.tq b hz).elim .inl (fun x => .inr ⟨x.1, Nat.lt_of_lt_of_le x.2 hb.size⟩), h.tw, h.kp.trans (Keep.below hb), h.n1, h.n2⟩
/-- A block with a tag is one of Q, or is new: so what is kept, is kept but for W and Q. -/
theorem SetS.kept {S : Nat → Prop} (h : SetS w W wv1 rv1 wv2 rv2 ps W1 R1 W2 R2 c Q i1 i2 wr lv1 lv2 τ L1 L2) (hk : Keep S wr wx) (hs : ∀ b, S b → b = W ∨ τ b ≠ 0) : Keep (fun b => b = W ∨ Q b) w wx := by
  refine ⟨hk.os.trans h.kp.os, hk.tape.trans h.kp.tape, hk.output.trans h.kp.output, Nat.le_trans h.kp.size hk.size, fun b hb hn => ?_⟩
  refine (hk.block b (Nat.lt_of_lt_of_le hb h.kp.size) (fun hx => ?_)).trans (h.kp.block b hb hn)
  rcases hs b hx with h1 | h1
  · exact hn (.inl h1)
  · rcases h.tq b h1 with h2 | h2
    · exact hn (.inr h2)
    · omega
theorem SetS.more {τ' : Nat → Nat} (h : SetS w W wv1 rv1 wv2 rv2 ps W1 R1 W2 R2 c Q i1 i2 wr lv1 lv2 τ L1 L2) (ht : ∀ b, τ' b ≠ 0 → (τ b ≠ 0 ∨ wr.heap.size ≤ b) ∧ b < wx.heap.size) : ∀ b, τ' b ≠ 0 → Wd Q w wx b := fun b hb => by
  have hs := h.kp.size
  obtain ⟨h1 | h1, h2⟩ := ht b hb
  · rcases h.tq b h1 with h3 | h3
    · exact .inl h3
    · exact .inr ⟨h3.1, h2⟩
  · exact .inr ⟨by omega, h2⟩
/-- The first that waits of the numbers. -/
theorem SetS.get1 (h : SetS w W wv1 rv1 wv2 rv2 ps W1 R1 W2 R2 c Q i1 i2 wr lv1 lv2 τ L1 L2) (hi : i1 < W1.length) : ∃ n xs, okI n xs ∧ OwT wr 1 W1[i1] n xs ∧ (∀ b, W1[i1].ownBlock = some b → τ b = 100 + 2 * i1 + 0) := by
  obtain ⟨r, hr⟩ : ∃ r, R1[i1]? = some r := ⟨_, List.getElem?_eq_getElem (by rw [h.s1.rl]; exact hi)⟩
  obtain ⟨n, xs, h1, h2, _, h4, _⟩ := h.s1.ws i1 W1[i1] r (Nat.le_refl _) (List.getElem?_eq_getElem hi) hr
  exact ⟨n, xs, h1, h2, h4⟩
theorem SetS.get2 (h : SetS w W wv1 rv1 wv2 rv2 ps W1 R1 W2 R2 c Q i1 i2 wr lv1 lv2 τ L1 L2) (hi : i2 < W2.length) : ∃ n xs, okE n xs ∧ OwT wr 3 W2[i2] n xs ∧ (∀ b, W2[i2].ownBlock = some b → τ b = 100 + 2 * i2 + 1) := by
  obtain ⟨r, hr⟩ : ∃ r, R2[i2]? = some r := ⟨_, List.getElem?_eq_getElem (by rw [h.s2.rl]; exact hi)⟩
  obtain ⟨n, xs, h1, h2, _, h4, _⟩ := h.s2.ws i2 W2[i2] r (Nat.le_refl _) (List.getElem?_eq_getElem hi) hr
  exact ⟨n, xs, h1, h2, h4⟩
theorem SetS.mark1 (h : SetS w W wv1 rv1 wv2 rv2 ps W1 R1 W2 R2 c Q i1 i2 wr lv1 lv2 τ L1 L2) (hq : ∀ b, Q b → b < w.heap.size) (hi : i1 < W1.length) {lv' x y z : Value} (hA : At wx W (lv' :: lv2 :: wv1 :: rv1 :: wv2 :: rv2 :: ps)) (hM : MarkTo wr 38 1 W (mkI (L1.length / 4)) lv1 L1 W1[i1] lv' x y z wx) : ∃ τ', SetS w W wv1 rv1 wv2 rv2 ps W1 R1 W2 R2 c Q (i1 + 1) i2 wx lv' lv2 τ' (L1 ++ [W1[i1], x, y, z]) L2 := by
  obtain ⟨_, _, _, _, ht⟩ := h.get1 hi
  have h0 := h.lt hq
  have hWl : W < wr.heap.size := At.lt h.wa
  refine ⟨_, hA, h.s1.mark (by omega) hM (List.getElem?_eq_getElem hi) rfl h0 h.tw, h.s2.mark_other (by omega) (by omega) (by omega) h.s1.tl ht hM h0 h.tw, h.more (hM.tags h.s1.tl h0 ht), hM.not h.s1.tl h0 ht W hWl h.tw, h.kept hM.kp (fun b hb => ?_), ?_, h.n2⟩
  · rcases hb with hb | hb | hb
    · exact .inl hb
    · exact .inr (by rw [h.s1.tl b hb]; omega)
    · exact .inr (by rw [ht b hb]; omega)
  · have := h.n1
    simp only [List.length_append, List.length_cons, List.length_nil]
    omega
theorem SetS.mark2 (h : SetS w W wv1 rv1 wv2 rv2 ps W1 R1 W2 R2 c Q i1 i2 wr lv1 lv2 τ L1 L2) (hq : ∀ b, Q b → b < w.heap.size) (hi : i2 < W2.length) {lv' x y z : Value} (hA : At wx W (lv1 :: lv' :: wv1 :: rv1 :: wv2 :: rv2 :: ps)) (hM : MarkTo wr 54 3 W (mkE (L2.length / 4)) lv2 L2 W2[i2] lv' x y z wx) : ∃ τ', SetS w W wv1 rv1 wv2 rv2 ps W1 R1 W2 R2 c Q i1 (i2 + 1) wx lv1 lv' τ' L1 (L2 ++ [W2[i2], x, y, z]) := by
  obtain ⟨_, _, _, _, ht⟩ := h.get2 hi
  have h0 := h.lt hq
  have hWl : W < wr.heap.size := At.lt h.wa
  refine ⟨_, hA, h.s1.mark_other (by omega) (by omega) (by omega) h.s2.tl ht hM h0 h.tw, h.s2.mark (by omega) hM (List.getElem?_eq_getElem hi) rfl h0 h.tw, h.more (hM.tags h.s2.tl h0 ht), hM.not h.s2.tl h0 ht W hWl h.tw, h.kept hM.kp (fun b hb => ?_), h.n1, ?_⟩
  · rcases hb with hb | hb | hb
    · exact .inl hb
    · exact .inr (by rw [h.s2.tl b hb]; omega)
    · exact .inr (by rw [ht b hb]; omega)
  · have := h.n2
    simp only [List.length_append, List.length_cons, List.length_nil]
    omega
/-- Behind all: the book in which nothing waits. -/
theorem SetS.done (h : SetS w W wv1 rv1 wv2 rv2 ps W1 R1 W2 R2 c Q W1.length W2.length wr lv1 lv2 τ L1 L2) (hk : Keep (fun b => b = W) wr wx) : Bok wx ⟨lv1, lv2, .slice none 0 0, .slice none 0 0, .slice none 0 0, .slice none 0 0⟩ c (Wd Q w wx) ∧ Keep (fun b => b = W ∨ Q b) w wx := by
  have hs : ∀ b, τ b ≠ 0 → ¬ b = W := fun b hb e => hb (by rw [e]; exact h.tw)
  refine ⟨⟨τ, L1, [], [], L2, [], [], (h.s1.keep hk (fun b hb => hs b hb.pos)).done, (h.s2.keep hk (fun b hb => hs b hb.pos)).done, fun b hb => ?_, ?_, ?_⟩, h.kept hk (fun b hb => .inl hb)⟩
  · rcases h.tq b hb with h1 | h1
    · exact .inl h1
    · exact .inr ⟨h1.1, Nat.lt_of_lt_of_le h1.2 hk.size⟩
  · have := h.n1
    simp only [List.length_nil]
    omega
  · have := h.n2
    simp only [List.length_nil]
    omega
end
/-- What settle has done. -/
def SettPost (w : World) (W : Nat) (p0 d0 p1 d1 : Value) (c : Nat) (Q : Nat → Prop) (e : Ending) (w' : World) : Prop :=
  e = .returned (.bool true) ∧ ∃ B', At w' W (wlb B' p0 d0 p1 d1) ∧ Bok w' B' c (Wd Q w w') ∧ Keep (fun b => b = W ∨ Q b) w w'
end Go.Proofs.YtanndhoimpnhpaaGreatDoor
