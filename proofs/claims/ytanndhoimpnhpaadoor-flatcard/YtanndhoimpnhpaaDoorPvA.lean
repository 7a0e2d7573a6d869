/- Events as a slice that is cut; how many of them are of a day. -/
import Derived.Test.YtanndhoimpnhpaaDoorProg
import Derived.WalkKit
import Derived.Test.YtanndhoimpnhpaaDoorEv
import Derived.Test.YtanndhoimpnhpaaDoorAt
namespace Go.Proofs.YtanndhoimpnhpaaDoor
open Go.RowKit

/-- Events that lie in memory from where a slice points to. -/
def EvAt (w : World) (E : Nat) (p : Option Addr) (l : List Ln.Ev) : Prop :=
  ∀ k (hk : k < l.length), ∃ o, p = some ⟨E, o, none⟩ ∧ E < w.heap.size ∧ w.cell? ⟨E, o + k * 4, none⟩ = some (.int .i64 l[k].d) ∧ w.cell? ⟨E, o + k * 4 + 1, none⟩ = some (.int .i64 l[k].k) ∧ w.cell? ⟨E, o + k * 4 + 2, none⟩ = some (.int .i64 l[k].s) ∧ w.cell? ⟨E, o + k * 4 + 3, none⟩ = some (.int .i64 l[k].a)
/-- A slice of events. -/
def EvV (w : World) (E : Nat) (v : Value) (l : List Ln.Ev) : Prop := ∃ p cap, v = .slice p l.length cap ∧ l.length ≤ cap ∧ EvAt w E p l
theorem EvAt.keep {S : Nat → Prop} {w w' : World} {E : Nat} {p : Option Addr} {l : List Ln.Ev} (h : EvAt w E p l) (hk : Keep S w w') (hs : l ≠ [] → ¬ S E) : EvAt w' E p l := by
  intro k hkl
  obtain ⟨o, rfl, hl, c0, c1, c2, c3⟩ := h k hkl
  have hb := hk.block E hl (hs (fun e => by subst e; exact absurd hkl (Nat.not_lt_zero k)))
  exact ⟨o, rfl, Nat.lt_of_lt_of_le hl hk.size, (World.cell?_of_block (w := w) (a := ⟨E, o + k * 4, none⟩) hb).trans c0, (World.cell?_of_block (w := w) (a := ⟨E, o + k * 4 + 1, none⟩) hb).trans c1, (World.cell?_of_block (w := w) (a := ⟨E, o + k * 4 + 2, none⟩) hb).trans c2, (World.cell?_of_block (w := w) (a := ⟨E, o + k * 4 + 3, none⟩) hb).trans c3⟩
theorem EvV.keep {S : Nat → Prop} {w w' : World} {E : Nat} {v : Value} {l : List Ln.Ev} (h : EvV w E v l) (hk : Keep S w w') (hs : l ≠ [] → ¬ S E) : EvV w' E v l := by
  obtain ⟨p, cap, h1, h2, h3⟩ := h
  exact ⟨p, cap, h1, h2, h3.keep hk hs⟩
theorem EvAt.take {w : World} {E : Nat} {p : Option Addr} {l m : List Ln.Ev} (h : EvAt w E p (l ++ m)) : EvAt w E p l := by
  intro k hk
  obtain ⟨o, h1⟩ := h k (by rw [List.length_append]; omega)
  rw [List.getElem_append_left hk] at h1
  exact ⟨o, h1⟩
theorem EvAt.drop {w : World} {E o : Nat} {l m : List Ln.Ev} (h : EvAt w E (some ⟨E, o, none⟩) (l ++ m)) : EvAt w E (some ⟨E, o + l.length * 4, none⟩) m := by
  intro k hk
  obtain ⟨o', h0, h1⟩ := h (l.length + k) (by rw [List.length_append]; omega)
  injection h0 with h0
  injection h0 with e1 e2
  subst e2
  rw [List.getElem_append_right (by omega)] at h1
  simp only [Nat.add_sub_cancel_left] at h1
  have e : o + (l.length + k) * 4 = o + l.length * 4 + k * 4 := by omega
  rw [e] at h1
  exact ⟨o + l.length * 4, rfl, h1⟩
/-- A slice cut in two. -/
theorem EvV.cut {w : World} {E : Nat} {v : Value} {l m : List Ln.Ev} (h : EvV w E v (l ++ m)) :
    ∃ v1 v2, (∀ W : World, (Instr.sliceAt 50 v none (some (.int .i64 l.length)) none).run Tryd.prog W = .ok v1 W) ∧ EvV w E v1 l ∧ (∀ W : World, (Instr.sliceAt 50 v (some (.int .i64 l.length)) none none).run Tryd.prog W = .ok v2 W) ∧ EvV w E v2 m := by
  obtain ⟨p, cap, rfl, hc, hat⟩ := h
  have hl : (l ++ m).length = l.length + m.length := List.length_append
  rw [hl] at hc
  refine ⟨.slice p l.length cap, .slice (if cap = l.length then p else p.map (·.add (l.length * 4))) m.length (cap - l.length), ?_, ⟨p, cap, rfl, by omega, hat.take⟩, ?_, _, _, rfl, by omega, ?_⟩
  · intro W
    have hp : (if cap = 0 then p else Option.map (fun x => x.add 0) p) = p := by
      split
      · rfl
      · cases p <;> simp [Addr.add]
    simp [Instr.sliceAt, run_underlying Tryd.underlying50, Instr.slice, Instr.sliceBounds, Instr.sliceBound, asIntOf, Result.andThen, show l.length ≤ cap by omega, hp]
  · intro W
    have hx : (0 : Int) ≤ l.length ∧ (l.length : Int) ≤ l.length + m.length := by omega
    simp [Instr.sliceAt, run_underlying Tryd.underlying50, Instr.slice, Instr.sliceBounds, Instr.sliceBound, asIntOf, Result.andThen, hx, hl]
  · by_cases hm : m = []
    · subst hm
      intro k hk
      exact absurd hk (Nat.not_lt_zero k)
    · have hml : 0 < m.length := List.length_pos_iff.2 hm
      rw [if_neg (by omega)]
      obtain ⟨o, rfl, _⟩ := hat 0 (by omega)
      have := hat.drop
      by_cases hz : l.length = 0
      · simpa [Addr.add, hz] using this
      · have h4 : ¬ l.length * 4 = 0 := by omega
        simpa [Addr.add, h4] using this
/-- How many of the first ones are of day d. -/
def cnt (d : Int) : List Ln.Ev → Nat
  | [] => 0
  | e :: r => if e.d = d then cnt d r + 1 else 0
theorem cnt_le (d : Int) : ∀ l : List Ln.Ev, cnt d l ≤ l.length
  | [] => Nat.le_refl _
  | e :: r => by
    have := cnt_le d r
    simp only [cnt, List.length_cons]
    split <;> omega
theorem cnt_lt (d : Int) : ∀ (l : List Ln.Ev) (k : Nat), k < cnt d l → ∃ h : k < l.length, l[k].d = d
  | [], k, h => absurd h (Nat.not_lt_zero k)
  | e :: r, k, h => by
    simp only [cnt] at h
    by_cases he : e.d = d
    · rw [if_pos he] at h
      match k, h with
      | 0, _ => exact ⟨by simp, he⟩
      | k + 1, h =>
        obtain ⟨h1, h2⟩ := cnt_lt d r k (by omega)
        exact ⟨by simp; omega, h2⟩
    · rw [if_neg he] at h
      exact absurd h (Nat.not_lt_zero k)
theorem cnt_end (d : Int) : ∀ (l : List Ln.Ev) (h : cnt d l < l.length), ¬ l[cnt d l].d = d
  | [], h => absurd h (Nat.not_lt_zero _)
  | e :: r, h => by
    by_cases he : e.d = d
    · have e1 : cnt d (e :: r) = cnt d r + 1 := by simp only [cnt]; rw [if_pos he]
      have h2 : cnt d r < r.length := by rw [e1] at h; simpa using h
      have := cnt_end d r h2
      simp only [e1, List.getElem_cons_succ]
      exact this
    · have e1 : cnt d (e :: r) = 0 := by simp only [cnt]; rw [if_neg he]
      simp only [e1, List.getElem_cons_zero]
      exact he
theorem cnt_is (d : Int) (l : List Ln.Ev) (k : Nat) (hk : k ≤ l.length) (h1 : ∀ j (hj : j < l.length), j < k → l[j].d = d) (h2 : ∀ h : k < l.length, ¬ l[k].d = d) : cnt d l = k := by
  have hle := cnt_le d l
  rcases Nat.lt_trichotomy (cnt d l) k with h | h | h
  · exact absurd (h1 _ (by omega) h) (cnt_end d l (by omega))
  · exact h
  · obtain ⟨h3, h4⟩ := cnt_lt d l k h
    exact absurd h4 (h2 h3)
set_option maxHeartbeats 1000000 in
theorem countOfDay_any (w : World) (E : Nat) (v : Value) (l : List Ln.Ev) (h : EvV w E v l) (hl : l.length ≤ 1000000) (d : Int) :
    Calls Tryd.prog 43 #[v, .int .i64 d] w fun e w' => e = .returned (.int .i64 (cnt d l)) ∧ w' = w := by
  obtain ⟨p, cap, rfl, hc, hat⟩ := h
  have HAt : Hid (EvAt w E p l) := hat
  clear hat
  go_enter Tryd.func43, Tryd.ntmps43
  go_wp2
  go_loop [5] (fun i => ∃ k : Nat, k ≤ l.length ∧ i = .int .i64 k ∧ ∀ j (hj : j < l.length), j < k → l[j].d = d) (fun i => (l.length - intOf i).toNat)
  case atStart => exact ⟨0, Nat.zero_le _, rfl, fun j _ h => absurd h (Nat.not_lt_zero j)⟩
  case round =>
    obtain ⟨k, hk, rfl, hlow⟩ := hrel
    have HL : Hid (∀ j (hj : j < l.length), j < k → l[j].d = d) := hlow
    clear hlow
    by_cases hlt : k < l.length
    · obtain ⟨o, rfl, _, c0, _, _, _⟩ := HAt.out k hlt
      have HC : Hid (¬ l[k].d = d → cnt d l = k) := fun hne => cnt_is d l k hk HL.out (fun _ => hne)
      have HD : Hid (l[k].d = d → ∀ j (hj : j < l.length), j < k + 1 → l[j].d = d) := fun he j hj hjk => by
        by_cases e : j = k
        · subst e; exact he
        · exact HL.out j hj (by omega)
      clear HL
      generalize l[k].d = x at *
      by_cases hx : x = d
      · have hxb : (x == d) = true := by simp [hx]
        have HX := HD.out hx
        go_wp2
        exact ⟨⟨k + 1, hlt, rfl, HX⟩, by simp [intOf]; omega⟩
      · have hxb : (x == d) = false := by simp [hx]
        have HX : Hid (cnt d l = k) := HC.out hx
        go_wp2
        go_ret
        exact ⟨by rw [HX.out]; rfl, rfl⟩
    · obtain rfl : k = l.length := by omega
      have HX : Hid (cnt d l = l.length) := cnt_is d l l.length (Nat.le_refl _) HL.out (fun h => absurd h hlt)
      go_wp2
      go_ret
      exact ⟨by rw [HX.out]; rfl, rfl⟩
end Go.Proofs.YtanndhoimpnhpaaDoor
