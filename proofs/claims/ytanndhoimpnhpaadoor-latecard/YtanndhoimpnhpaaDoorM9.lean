/- Joined by program: Ev, PvA, PvB, PrK, Sw. -/
import Derived.WalkKit
import Derived.Test.YtanndhoimpnhpaaDoorM1
import Derived.Test.YtanndhoimpnhpaaDoorProg
import Derived.Test.YtanndhoimpnhpaaDoorM6
import Derived.Test.YtanndhoimpnhpaaDoorM8
import Derived.Test.YtanndhoimpnhpaaDoorM3
/- Events as cells and in order; what the document's rules say of one. (Plain: of neither side.) -/
namespace Go.Proofs.YtanndhoimpnhpaaDoor
open Go.RowKit

/-- The cells of events, one behind the other. -/
def evs : List Ln.Ev → List Value
  | [] => []
  | e :: r => .int .i64 e.d :: .int .i64 e.k :: .int .i64 e.s :: .int .i64 e.a :: evs r
theorem evs_at : ∀ (l : List Ln.Ev) (k : Nat) (h : k < l.length), (evs l)[k * 4]? = some (.int .i64 l[k].d) ∧ (evs l)[k * 4 + 1]? = some (.int .i64 l[k].k) ∧ (evs l)[k * 4 + 2]? = some (.int .i64 l[k].s) ∧ (evs l)[k * 4 + 3]? = some (.int .i64 l[k].a)
  | e :: r, 0, _ => ⟨rfl, rfl, rfl, rfl⟩
  | e :: r, k + 1, h => by
    have ih := evs_at r k (by simpa using h)
    have e1 : (k + 1) * 4 = k * 4 + 1 + 1 + 1 + 1 := by omega
    rw [e1]
    exact ih
def fitsB (k a : Int) : Bool :=
  if k = 1 ∨ k = 5 then decide (1 ≤ a) && decide (a ≤ 100000000000) else if k = 2 then decide (0 ≤ a) && decide (a ≤ 1000000) else if k = 3 then decide (1 ≤ a) && decide (a ≤ 400) else decide (a = 0)
def aheadB (a b : Ln.Ev) : Bool := if ¬ a.d = b.d then decide (a.d < b.d) else if ¬ a.k = b.k then decide (a.k < b.k) else decide (a.s < b.s)
/-- Has an event this number? -/
def hasS (q : Int) (l : List Ln.Ev) : Bool := l.any (fun e => e.s == q)
theorem hasS_take (q : Int) (l : List Ln.Ev) (k : Nat) (hk : k < l.length) : hasS q (l.take (k + 1)) = (hasS q (l.take k) || (l[k].s == q)) := by
  unfold hasS
  rw [List.take_succ_eq_append_getElem hk, List.any_append]
  simp
theorem hasS_at (q : Int) (l : List Ln.Ev) (k : Nat) (hk : k < l.length) (h : l[k].s = q) : hasS q l = true := by
  unfold hasS
  rw [List.any_eq_true]
  exact ⟨l[k], List.getElem_mem hk, by simp [h]⟩
/-- What Add answers. -/
def addC (t : Ln.Terms) (l : List Ln.Ev) (e : Ln.Ev) : Int :=
  if e.k < 1 ∨ 5 < e.k then 4
  else if e.d < t.st ∨ t.st + 3700 < e.d then 5
  else if fitsB e.k e.a = false then 6
  else if 40 ≤ l.length then 7
  else if hasS e.s l = true then 8
  else 0


end Go.Proofs.YtanndhoimpnhpaaDoor
namespace Go.Proofs.YtanndhoimpnhpaaDoor.So
open Go.Proofs.YtanndhoimpnhpaaDoor

/-- e at place k. -/
def insAt (e : Ln.Ev) (out : List Ln.Ev) (k : Nat) : List Ln.Ev := out.take k ++ e :: out.drop k
theorem insAt_len (e : Ln.Ev) (out : List Ln.Ev) (k : Nat) (hk : k ≤ out.length) : (insAt e out k).length = out.length + 1 := by
  unfold insAt
  simp
  omega
theorem insAt_end (e : Ln.Ev) (out : List Ln.Ev) : insAt e out out.length = out ++ [e] := by
  unfold insAt
  simp
theorem insAt_down (out : List Ln.Ev) (j : Nat) (hj : j < out.length) : insAt out[j] out (j + 1) = insAt out[j] out j := by
  unfold insAt
  rw [List.take_succ_eq_append_getElem hj, List.append_assoc, List.drop_eq_getElem_cons hj]
  rfl
theorem insAt_set (h e : Ln.Ev) (out : List Ln.Ev) (k : Nat) (hk : k ≤ out.length) : (insAt h out k).set k e = insAt e out k := by
  unfold insAt
  rw [List.set_append_right _ _ (by simp; omega)]
  simp [Nat.min_eq_left hk]
theorem insAt_low (e : Ln.Ev) (out : List Ln.Ev) (k j : Nat) (hk : k ≤ out.length) (hj : j < k) : (insAt e out k)[j]? = some (out[j]'(by omega)) := by
  unfold insAt
  rw [List.getElem?_append_left (by simp; omega), List.getElem?_take_of_lt hj, List.getElem?_eq_getElem (by omega)]
theorem insAt_perm (e : Ln.Ev) (out : List Ln.Ev) (k : Nat) : (insAt e out k).Perm (e :: out) := by
  unfold insAt
  refine List.perm_middle.trans ?_
  rw [List.take_append_drop]

abbrev Ah (a b : Ln.Ev) : Prop := aheadB a b = true
theorem ah_iff (a b : Ln.Ev) : Ah a b ↔ a.d < b.d ∨ (a.d = b.d ∧ (a.k < b.k ∨ (a.k = b.k ∧ a.s < b.s))) := by
  unfold Ah aheadB
  by_cases h1 : a.d = b.d
  · by_cases h2 : a.k = b.k
    · simp [h1, h2]
    · simp [h1, h2]
  · simp [h1]
theorem ah_trans {a b c : Ln.Ev} (h : Ah a b) (k : Ah b c) : Ah a c := by
  rw [ah_iff] at *
  omega
theorem ah_total {a b : Ln.Ev} (h : ¬ a.s = b.s) : Ah a b ∨ Ah b a := by
  rw [ah_iff, ah_iff]
  omega
theorem ah_irrefl (a : Ln.Ev) : ¬ Ah a a := by
  rw [ah_iff]
  omega
theorem ins_sorted (e : Ln.Ev) (out : List Ln.Ev) (k : Nat) (hk : k ≤ out.length) (hs : out.Pairwise Ah) (hd : ∀ x ∈ out, ¬ x.s = e.s)
    (hi : ∀ j (hj : j < out.length), k ≤ j → Ah e out[j]) (hlo : k = 0 ∨ ∃ h : k - 1 < out.length, ¬ Ah e out[k - 1]) : (insAt e out k).Pairwise Ah := by
  unfold insAt
  have hp : (out.take k ++ out.drop k).Pairwise Ah := by rw [List.take_append_drop]; exact hs
  obtain ⟨p1, p2, p3⟩ := List.pairwise_append.1 hp
  have hlow : ∀ a ∈ out.take k, Ah a e := by
    intro a ha
    rcases hlo with rfl | ⟨h, hn⟩
    · simp at ha
    · have hk0 : k ≠ 0 := by
        intro h0
        subst h0
        simp at ha
      have hlast : Ah out[k - 1] e := by
        rcases ah_total (a := e) (b := out[k - 1]) (fun x => hd _ (List.getElem_mem h) x.symm) with x | x
        · exact absurd x hn
        · exact x
      obtain ⟨j, hj, rfl⟩ := List.getElem_of_mem ha
      have hj' : j < k := by simp at hj; omega
      rw [List.getElem_take]
      by_cases e1 : j = k - 1
      · subst e1
        exact hlast
      · exact ah_trans (List.pairwise_iff_getElem.1 hs j (k - 1) (by omega) h (by omega)) hlast
  refine List.pairwise_append.2 ⟨p1, List.pairwise_cons.2 ⟨?_, p2⟩, ?_⟩
  · intro b hb
    obtain ⟨j, hj, rfl⟩ := List.getElem_of_mem hb
    rw [List.getElem_drop]
    exact hi _ _ (by omega)
  · intro a ha b hb
    rcases List.mem_cons.1 hb with rfl | hb
    · exact hlow a ha
    · exact p3 a ha b hb
/-- Of events with different numbers there is one order. -/
theorem sorted_one : ∀ {l m : List Ln.Ev}, l.Perm m → l.Pairwise Ah → m.Pairwise Ah → l = m := by
  intro l m hp hl hm
  exact List.Perm.eq_of_pairwise (fun a b _ _ h1 h2 => absurd (ah_trans h1 h2) (ah_irrefl a)) hl hm hp

/-! ### Cells -/
theorem evs_append : ∀ (l m : List Ln.Ev), evs (l ++ m) = evs l ++ evs m
  | [], m => rfl
  | e :: r, m => by
    show _ :: _ :: _ :: _ :: evs (r ++ m) = _
    rw [evs_append r m]
    rfl
theorem evs_len : ∀ l : List Ln.Ev, (evs l).length = l.length * 4
  | [] => rfl
  | e :: r => by
    show (evs r).length + 1 + 1 + 1 + 1 = _
    rw [evs_len r]
    simp
    omega
theorem evs_set : ∀ (l : List Ln.Ev) (k : Nat) (_ : k < l.length) (e : Ln.Ev), ((((evs l).set (k * 4) (.int .i64 e.d)).set (k * 4 + 1) (.int .i64 e.k)).set (k * 4 + 2) (.int .i64 e.s)).set (k * 4 + 3) (.int .i64 e.a) = evs (l.set k e)
  | x :: r, 0, _, e => rfl
  | x :: r, k + 1, h, e => by
    have ih := evs_set r k (by simpa using h) e
    have e1 : (k + 1) * 4 = k * 4 + 1 + 1 + 1 + 1 := by omega
    rw [e1]
    show _ :: _ :: _ :: _ :: ((((evs r).set (k * 4) (.int .i64 e.d)).set (k * 4 + 1) (.int .i64 e.k)).set (k * 4 + 2) (.int .i64 e.s)).set (k * 4 + 3) (.int .i64 e.a) = _
    rw [ih]
    rfl
end Go.Proofs.YtanndhoimpnhpaaDoor.So

/- Events as a slice that is cut; how many of them are of a day. -/
namespace Go.Proofs.YtanndhoimpnhpaaDoor
open Go.RowKit

/-- Events that lie in memory from where a slice points to. -/
def EvAt (w : World) (E : Nat) (p : Option Addr) (l : List Ln.Ev) : Prop :=
  ∀ k (hk : k < l.length), ∃ o, p = some ⟨E, o, none⟩ ∧ E < w.heap.size ∧ w.cell? ⟨E, o + k * 4, none⟩ = some (.int .i64 l[k].d) ∧ w.cell? ⟨E, o + k * 4 + 1, none⟩ = some (.int .i64 l[k].k) ∧ w.cell? ⟨E, o + k * 4 + 2, none⟩ = some (.int .i64 l[k].s) ∧ w.cell? ⟨E, o + k * 4 + 3, none⟩ = some (.int .i64 l[k].a)
/-- A slice of events. -/
def EvV (w : World) (E : Nat) (v : Value) (l : List Ln.Ev) : Prop := ∃ p cap, v = .slice p l.length cap ∧ l.length ≤ cap ∧ EvAt w E p l
theorem EvAt.keep {S : Nat → Prop} {w w' : World} {E : Nat} {p : Option Addr} {l : List Ln.Ev} (h : EvAt w E p l) (hk : Keep S w w') (hs : l ≠ [] → ¬ S E) : EvAt w' E p l := by
  intro k hkl
  obtain ⟨o, rfl, hl, c0, c1, c2, c3⟩ := h k hkl
  have hb := hk.block E hl (hs (fun e => by subst e; exact absurd hkl (Nat.not_lt_zero k)))
  exact ⟨o, rfl, Nat.lt_of_lt_of_le hl hk.size, (World.cell?_of_block (w := w) (a := ⟨E, o + k * 4, none⟩) hb).trans c0, (World.cell?_of_block (w := w) (a := ⟨E, o + k * 4 + 1, none⟩) hb).trans c1, (World.cell?_of_block (w := w) (a := ⟨E, o + k * 4 + 2, none⟩) hb).trans c2, (World.cell?_of_block (w := w) (a := ⟨E, o + k * 4 + 3, none⟩) hb).trans c3⟩
theorem EvV.keep {S : Nat → Prop} {w w' : World} {E : Nat} {v : Value} {l : List Ln.Ev} (h : EvV w E v l) (hk : Keep S w w') (hs : l ≠ [] → ¬ S E) : EvV w' E v l := by
  obtain ⟨p, cap, h1, h2, h3⟩ := h
  exact ⟨p, cap, h1, h2, h3.keep hk hs⟩
theorem EvAt.take {w : World} {E : Nat} {p : Option Addr} {l m : List Ln.Ev} (h : EvAt w E p (l ++ m)) : EvAt w E p l := by
  intro k hk
  obtain ⟨o, h1⟩ := h k (by rw [List.length_append]; omega)
  rw [List.getElem_append_left hk] at h1
  exact ⟨o, h1⟩
theorem EvAt.drop {w : World} {E o : Nat} {l m : List Ln.Ev} (h : EvAt w E (some ⟨E, o, none⟩) (l ++ m)) : EvAt w E (some ⟨E, o + l.length * 4, none⟩) m := by
  intro k hk
  obtain ⟨o', h0, h1⟩ := h (l.length + k) (by rw [List.length_append]; omega)
  injection h0 with h0
  injection h0 with e1 e2
  subst e2
  rw [List.getElem_append_right (by omega)] at h1
  simp only [Nat.add_sub_cancel_left] at h1
  have e : o + (l.length + k) * 4 = o + l.length * 4 + k * 4 := by omega
  rw [e] at h1
  exact ⟨o + l.length * 4, rfl, h1⟩
/-- A slice cut in two. -/
theorem EvV.cut {w : World} {E : Nat} {v : Value} {l m : List Ln.Ev} (h : EvV w E v (l ++ m)) :
    ∃ v1 v2, (∀ W : World, (Instr.sliceAt 50 v none (some (.int .i64 l.length)) none).run Tryd.prog W = .ok v1 W) ∧ EvV w E v1 l ∧ (∀ W : World, (Instr.sliceAt 50 v (some (.int .i64 l.length)) none none).run Tryd.prog W = .ok v2 W) ∧ EvV w E v2 m := by
  obtain ⟨p, cap, rfl, hc, hat⟩ := h
  have hl : (l ++ m).length = l.length + m.length := List.length_append
  rw [hl] at hc
  refine ⟨.slice p l.length cap, .slice (if cap = l.length then p else p.map (·.add (l.length * 4))) m.length (cap - l.length), ?_, ⟨p, cap, rfl, by omega, hat.take⟩, ?_, _, _, rfl, by omega, ?_⟩
  · intro W
    have hp : (if cap = 0 then p else Option.map (fun x => x.add 0) p) = p := by
      split
      · rfl
      · cases p <;> simp [Addr.add]
    simp [Instr.sliceAt, run_underlying Tryd.underlying50, Instr.slice, Instr.sliceBounds, Instr.sliceBound, asIntOf, Result.andThen, show l.length ≤ cap by omega, hp]
  · intro W
    have hx : (0 : Int) ≤ l.length ∧ (l.length : Int) ≤ l.length + m.length := by omega
    simp [Instr.sliceAt, run_underlying Tryd.underlying50, Instr.slice, Instr.sliceBounds, Instr.sliceBound, asIntOf, Result.andThen, hx, hl]
  · by_cases hm : m = []
    · subst hm
      intro k hk
      exact absurd hk (Nat.not_lt_zero k)
    · have hml : 0 < m.length := List.length_pos_iff.2 hm
      rw [if_neg (by omega)]
      obtain ⟨o, rfl, _⟩ := hat 0 (by omega)
      have := hat.drop
      by_cases hz : l.length = 0
      · simpa [Addr.add, hz] using this
      · have h4 : ¬ l.length * 4 = 0 := by omega
        simpa [Addr.add, h4] using this
/-- How many of the first ones are of day d. -/
def cnt (d : Int) : List Ln.Ev → Nat
  | [] => 0
  | e :: r => if e.d = d then cnt d r + 1 else 0
theorem cnt_le (d : Int) : ∀ l : List Ln.Ev, cnt d l ≤ l.length
  | [] => Nat.le_refl _
  | e :: r => by
    have := cnt_le d r
    simp only [cnt, List.length_cons]
    split <;> omega
theorem cnt_lt (d : Int) : ∀ (l : List Ln.Ev) (k : Nat), k < cnt d l → ∃ h : k < l.length, l[k].d = d
  | [], k, h => absurd h (Nat.not_lt_zero k)
  | e :: r, k, h => by
    simp only [cnt] at h
    by_cases he : e.d = d
    · rw [if_pos he] at h
      match k, h with
      | 0, _ => exact ⟨by simp, he⟩
      | k + 1, h =>
        obtain ⟨h1, h2⟩ := cnt_lt d r k (by omega)
        exact ⟨by simp; omega, h2⟩
    · rw [if_neg he] at h
      exact absurd h (Nat.not_lt_zero k)
theorem cnt_end (d : Int) : ∀ (l : List Ln.Ev) (h : cnt d l < l.length), ¬ l[cnt d l].d = d
  | [], h => absurd h (Nat.not_lt_zero _)
  | e :: r, h => by
    by_cases he : e.d = d
    · have e1 : cnt d (e :: r) = cnt d r + 1 := by simp only [cnt]; rw [if_pos he]
      have h2 : cnt d r < r.length := by rw [e1] at h; simpa using h
      have := cnt_end d r h2
      simp only [e1, List.getElem_cons_succ]
      exact this
    · have e1 : cnt d (e :: r) = 0 := by simp only [cnt]; rw [if_neg he]
      simp only [e1, List.getElem_cons_zero]
      exact he
theorem cnt_is (d : Int) (l : List Ln.Ev) (k : Nat) (hk : k ≤ l.length) (h1 : ∀ j (hj : j < l.length), j < k → l[j].d = d) (h2 : ∀ h : k < l.length, ¬ l[k].d = d) : cnt d l = k := by
  have hle := cnt_le d l
  rcases Nat.lt_trichotomy (cnt d l) k with h | h | h
  · exact absurd (h1 _ (by omega) h) (cnt_end d l (by omega))
  · exact h
  · obtain ⟨h3, h4⟩ := cnt_lt d l k h
    exact absurd h4 (h2 h3)
set_option maxHeartbeats 1000000 in
theorem countOfDay_any (w : World) (E : Nat) (v : Value) (l : List Ln.Ev) (h : EvV w E v l) (hl : l.length ≤ 1000000) (d : Int) :
    Calls Tryd.prog 43 #[v, .int .i64 d] w fun e w' => e = .returned (.int .i64 (cnt d l)) ∧ w' = w := by
  obtain ⟨p, cap, rfl, hc, hat⟩ := h
  have HAt : Hid (EvAt w E p l) := hat
  clear hat
  go_enter Tryd.func43, Tryd.ntmps43
  go_wp2
  go_loop [5] (fun i => ∃ k : Nat, k ≤ l.length ∧ i = .int .i64 k ∧ ∀ j (hj : j < l.length), j < k → l[j].d = d) (fun i => (l.length - intOf i).toNat)
  case atStart => exact ⟨0, Nat.zero_le _, rfl, fun j _ h => absurd h (Nat.not_lt_zero j)⟩
  case round =>
    obtain ⟨k, hk, rfl, hlow⟩ := hrel
    have HL : Hid (∀ j (hj : j < l.length), j < k → l[j].d = d) := hlow
    clear hlow
    by_cases hlt : k < l.length
    · obtain ⟨o, rfl, _, c0, _, _, _⟩ := HAt.out k hlt
      have HC : Hid (¬ l[k].d = d → cnt d l = k) := fun hne => cnt_is d l k hk HL.out (fun _ => hne)
      have HD : Hid (l[k].d = d → ∀ j (hj : j < l.length), j < k + 1 → l[j].d = d) := fun he j hj hjk => by
        by_cases e : j = k
        · subst e; exact he
        · exact HL.out j hj (by omega)
      clear HL
      generalize l[k].d = x at *
      by_cases hx : x = d
      · have hxb : (x == d) = true := by simp [hx]
        have HX := HD.out hx
        go_wp2
        exact ⟨⟨k + 1, hlt, rfl, HX⟩, by simp [intOf]; omega⟩
      · have hxb : (x == d) = false := by simp [hx]
        have HX : Hid (cnt d l = k) := HC.out hx
        go_wp2
        go_ret
        exact ⟨by rw [HX.out]; rfl, rfl⟩
    · obtain rfl : k = l.length := by omega
      have HX : Hid (cnt d l = l.length) := cnt_is d l l.length (Nat.le_refl _) HL.out (fun h => absurd h hlt)
      go_wp2
      go_ret
      exact ⟨by rw [HX.out]; rfl, rfl⟩
end Go.Proofs.YtanndhoimpnhpaaDoor

/- A loan is opened: the program's New, Open, Balance. -/
namespace Go.Proofs.YtanndhoimpnhpaaDoor
open Go.ChangeShapes Go.WideShapes Go.RowKit Go.WideMaps Go.Maps Cal

/-- The cells of a loan: terms, events, what Balance tells, where the book lies. -/
def ll (t : Ln.Terms) (v : Value) (g : Ln.St) (day : Int) (bk : Value) : List Value :=
  [.int .i64 t.st, .int .i64 t.pr, .int .i64 t.rt, .int .i64 t.fi, .int .i64 t.ba, .int .i64 t.du, v, .int .i64 g.pr, .int .i64 g.it, .int .i64 g.du, .int .i64 g.la, .int .i64 g.fi, .int .i64 g.cr, .int .i64 g.rt, .int .i64 day, bk]
theorem keepO {w W W' : World} {B : Nat} {l : List Value} {v : Value} (hb : Below W.heap.size W W') (h : At W B (v :: l) ∧ Below w.heap.size w W) : At W' B (v :: l) ∧ Below w.heap.size w W' :=
  ⟨h.1.keep (S := fun _ => False) (Keep.below hb) (fun x => x), h.2.trans (hb.mono h.2.size)⟩
theorem new_any (w : World) :
    Calls Tryd.prog 40 #[] w fun e w' => (∃ P Mb, e = .returned (.pointer (some ⟨P, 0, none⟩)) ∧ w.heap.size ≤ Mb ∧ BkIs w' P (.slice none 0 0) Mb []) ∧ Below w.heap.size w w' := by
  have hmm := @run_makeMap Tryd.prog
  go_enter Tryd.func40, Tryd.ntmps40
  go_wp2
  go_ret
  have e1 : (w.alloc (.map #[] 0)).heap.size = w.heap.size + 1 := by simp
  have b1 : Below w.heap.size w (w.alloc (.map #[] 0)) := (Below.refl _ _).alloc (Nat.le_refl _) _
  have m1 : MapIs (w.alloc (.map #[] 0)) w.heap.size 0 (fun _ _ => 0) := MapIs.made w
  have a2 : At ((w.alloc (.map #[] 0)).alloc (.cells #[.slice none 0 0, .map (some w.heap.size)] 114)) (w.alloc (.map #[] 0)).heap.size [.slice none 0 0, .map (some w.heap.size)] := At.alloc _ _ _
  have b2 : Below (w.alloc (.map #[] 0)).heap.size (w.alloc (.map #[] 0)) ((w.alloc (.map #[] 0)).alloc (.cells #[.slice none 0 0, .map (some w.heap.size)] 114)) := (Below.refl _ _).alloc (Nat.le_refl _) _
  rw [e1] at a2
  refine ⟨⟨w.heap.size + 1, w.heap.size, rfl, Nat.le_refl _, a2, ⟨rfl, .inl ⟨rfl, rfl⟩⟩, m1.block (b2.block _ (by omega)), Nat.lt_succ_self _⟩, b1.trans (b2.mono (by omega))⟩
theorem open_bad (t : Ln.Terms) (w : World) (h : rtB t = false) :
    Calls Tryd.prog 17 #[tmV t] w fun e w' => e = .returned (.tuple #[.pointer none, .int .i64 3]) ∧ Below w.heap.size w w' := by
  have hR := fun W => right_any t W
  rw [h] at hR
  unfold tmV at *
  have b0 : Below w.heap.size w (w.alloc (.cells (tml t).toArray 41)) := (Below.refl _ _).alloc (Nat.le_refl _) _
  go_enter Tryd.func17, Tryd.ntmps17
  go_wp2_with fail
  refine (hR _).mono ?_
  rintro e w1 ⟨rfl, hb1⟩
  have b1 := b0.trans (hb1.mono b0.size)
  clear hR hb1 b0
  go_wp2
  go_ret2
  exact ⟨rfl, b1⟩

set_option maxRecDepth 10000 in
set_option maxHeartbeats 2000000 in
theorem open_good (t : Ln.Terms) (w : World) (h : rtB t = true) :
    Calls Tryd.prog 17 #[tmV t] w fun e w' => (∃ B P Mb, e = .returned (.tuple #[.pointer (some ⟨B, 0, none⟩), .int .i64 0]) ∧ w.heap.size ≤ B ∧ w.heap.size ≤ Mb ∧ P < B ∧ At w' B (ll t (.slice none 0 0) (Ln.start t) t.st (.pointer (some ⟨P, 0, none⟩))) ∧ BkIs w' P (.slice none 0 0) Mb []) ∧ Below w.heap.size w w' := by
  have hR := fun W => right_any t W
  rw [h] at hR
  have hF := fun W => first_any t W
  have hB := fun W => balance_any t (Ln.start t) 0 0 0 t.st W (Int.le_refl _) (by show (0 : Int) ≤ _; decide)
  have a0 : At (w.alloc (.cells (tml t).toArray 41)) w.heap.size (tml t) := At.alloc w (tml t) _
  have b0 : Below w.heap.size w (w.alloc (.cells (tml t).toArray 41)) := (Below.refl _ _).alloc (Nat.le_refl _) _
  unfold tmV at *
  go_enter Tryd.func17, Tryd.ntmps17
  go_wp2_with fail
  refine (hR _).mono ?_
  rintro e w1 ⟨rfl, hb1⟩
  obtain ⟨a1, b1⟩ := keepO (v := .int .i64 t.st) hb1 ⟨a0, b0⟩
  clear hR hb1 b0 a0
  go_wp2_with fail
  refine wp_region_held_drew (S := fun wx => At wx w.heap.size (tml t) ∧ Below w.heap.size w wx) (by kernel_rfl) ⟨a1.drew, b1.drew⟩ (fun hHeld => ?_)
  refine wpAnyH_take (i := 0) (v := (.agg (tml t).toArray)) rfl (by kernel_rfl) (by kernel_rfl) (by kernel_rfl) (fun _ _ _ h => h) (yieldsIf_load_mid (by rfl) 41 (.tmp 1) rfl _ _ rfl _ _ (fun _ h => h.1.range) Tryd.underlying41 rfl (by kernel_rfl)) (by assumption) ?_
  simp only [Act.put, List.getElem_toArray, List.getElem_cons_zero, List.setIfInBounds_toArray, List.set_cons_zero, List.set_cons_succ]
  refine wpAnyH_take (i := 1) (v := (.agg (tml t).toArray)) rfl (by kernel_rfl) (by kernel_rfl) (by kernel_rfl) (fun _ _ _ h => h) (yieldsIf_load_mid (by rfl) 41 (.tmp 1) rfl _ _ rfl _ _ (fun _ h => h.1.range) Tryd.underlying41 rfl (by kernel_rfl)) (by assumption) ?_
  simp only [Act.put, List.getElem_toArray, List.getElem_cons_succ, List.getElem_cons_zero, List.setIfInBounds_toArray, List.set_cons_zero, List.set_cons_succ]
  refine wpAnyH_take (i := 3) (v := (.pointer (some ⟨w.heap.size, 0, none⟩))) rfl (by kernel_rfl) (by kernel_rfl) (by kernel_rfl) (fun _ _ _ h => h) (Or.inl ⟨by rfl, fun wx hSw => by (dsimp only at hSw; go_simp)⟩) (by assumption) ?_
  simp only [Act.put, List.getElem_toArray, List.getElem_cons_succ, List.getElem_cons_zero, List.setIfInBounds_toArray, List.set_cons_zero, List.set_cons_succ]
  refine wpAnyH_take (i := 4) (v := (.int .i64 t.st)) rfl (by kernel_rfl) (by kernel_rfl) (by kernel_rfl) (fun _ _ _ h => h) (Or.inl ⟨by rfl, fun wx hSw => by (have hc : wx.cell? ⟨w.heap.size, 0, none⟩ = some (.int .i64 t.st) := hSw.1.cell 0 rfl; go_simp)⟩) (by assumption) ?_
  simp only [Act.put, List.getElem_toArray, List.getElem_cons_succ, List.getElem_cons_zero, List.setIfInBounds_toArray, List.set_cons_zero, List.set_cons_succ]
  clear a1 b1
  refine wpAnyH_ready (rs := [2]) (by kernel_rfl) (by simp) ?_
  refine AllReadyH.cons rfl (fun K hK => ?_) AllReadyH.nil
  go_simp
  refine (hF _).mono ?_
  rintro e w2 ⟨rfl, hb2⟩
  go_wp2_with fail
  refine hK.out _ _ (keepO (v := .int .i64 t.st) hb2 hHeld) (fun hHeld' => ?_)
  clear hK K hHeld hb2
  refine wpAnyH_ready (rs := [5]) (by kernel_rfl) (by simp) ?_
  refine AllReadyH.cons rfl (fun K hK => ?_) AllReadyH.nil
  go_simp
  refine (hB _).mono ?_
  rintro e w3 ⟨rfl, hb3⟩
  go_wp2_with fail
  refine hK.out _ _ (keepO (v := .int .i64 t.st) hb3 hHeld') (fun hHeld'' => ?_)
  clear hK K hHeld' hb3
  refine wpAnyH_ready (rs := [6]) (by kernel_rfl) (by simp) ?_
  refine AllReadyH.cons rfl (fun K hK => ?_) AllReadyH.nil
  have hsz := hHeld''.2.size
  go_simp
  refine (new_any _).mono ?_
  rintro e w5 ⟨⟨P, Mb, rfl, hMw, hbk⟩, hb4⟩
  go_wp2_with fail
  refine hK.out _ _ (keepO (v := .int .i64 t.st) hb4 hHeld'') (fun hHeld''' => ?_)
  clear hK K hHeld'' hb4
  have hMw : w.heap.size ≤ Mb := Nat.le_trans hsz hMw
  refine wpAnyH_take (i := 7) (v := (.agg (ll t (.slice none 0 0) (Ln.start t) t.st (.pointer (some ⟨P, 0, none⟩))).toArray)) rfl (by kernel_rfl) (by kernel_rfl) (by kernel_rfl) (fun _ _ _ h => h) (Or.inl ⟨by rfl, fun wx hSw => by kernel_rfl⟩) (by assumption) ?_
  simp only [Act.put, List.getElem_toArray, List.getElem_cons_succ, List.getElem_cons_zero, List.setIfInBounds_toArray, List.set_cons_zero, List.set_cons_succ]
  refine wpAnyH_ready (rs := [8]) (by kernel_rfl) (by simp) ?_
  refine AllReadyH.cons rfl (fun K hK => ?_) AllReadyH.nil
  have a4 : At (w5.alloc (.cells (ll t (.slice none 0 0) (Ln.start t) t.st (.pointer (some ⟨P, 0, none⟩))).toArray 85)) w5.heap.size (ll t (.slice none 0 0) (Ln.start t) t.st (.pointer (some ⟨P, 0, none⟩))) := At.alloc w5 _ _
  have b4 := hHeld'''.2.size
  have hbk4 := hbk.keep (S := fun _ => False) (Keep.below (S := fun _ => False) ((Below.refl _ _).alloc (Nat.le_refl _) (.cells (ll t (.slice none 0 0) (Ln.start t) t.st (.pointer (some ⟨P, 0, none⟩))).toArray 85))) (fun _ _ h => h)
  have hPB : P < w5.heap.size := At.lt hbk.pl
  rw [if_pos (by rfl)]
  refine wp_valD (.pointer (some ⟨w5.heap.size, 0, none⟩)) (w5.alloc (.cells (ll t (.slice none 0 0) (Ln.start t) t.st (.pointer (some ⟨P, 0, none⟩))).toArray 85)) (by kernel_rfl) ?_
  refine hK.out _ _ (keepO (v := .int .i64 t.st) ((Below.refl _ _).alloc (Nat.le_refl _) _) hHeld''') (fun hHeld4 => ?_)
  clear hK K hHeld''' hbk
  generalize w5.alloc (.cells (ll t (.slice none 0 0) (Ln.start t) t.st (.pointer (some ⟨P, 0, none⟩))).toArray 85) = w4 at *
  generalize w5.heap.size = B at *
  simp only [Act.put, List.getElem_toArray, List.getElem_cons_succ, List.getElem_cons_zero, List.setIfInBounds_toArray, List.set_cons_zero, List.set_cons_succ]
  refine wpAnyH_take (i := 9) (v := (.pointer (some ⟨B, 0, none⟩))) rfl (by kernel_rfl) (by kernel_rfl) (by kernel_rfl) (fun _ _ _ h => h) (Or.inl ⟨by rfl, fun wx hSw => by (dsimp only at hSw; go_simp)⟩) (by assumption) ?_
  simp only [Act.put, List.getElem_toArray, List.getElem_cons_succ, List.getElem_cons_zero, List.setIfInBounds_toArray, List.set_cons_zero, List.set_cons_succ]
  refine wpAnyH_take (i := 10) (v := (.int .i64 0)) rfl (by kernel_rfl) (by kernel_rfl) (by kernel_rfl) (fun _ _ _ h => h) (Or.inl ⟨by rfl, fun wx hSw => by (dsimp only at hSw; go_simp)⟩) (by assumption) ?_
  simp only [Act.put, List.getElem_toArray, List.getElem_cons_succ, List.getElem_cons_zero, List.setIfInBounds_toArray, List.set_cons_zero, List.set_cons_succ]
  refine wpAnyH_done (by kernel_rfl) ?_ _
  have b5 := hHeld4.2
  clear hHeld4
  go_wp2
  go_ret2
  exact ⟨⟨B, P, Mb, rfl, b4, hMw, hPB, a4, hbk4⟩, b5⟩
end Go.Proofs.YtanndhoimpnhpaaDoor

/- One day of the program is a day of the loan. -/
namespace Go.Proofs.YtanndhoimpnhpaaDoor
open Go.RowKit Cal

theorem late_fn (t : Ln.Terms) (w : Int) (y : Ln.Dy) : (Ln.late t w y).g.fn = y.g.fn + y.g.la * (t.fi * w) := rfl
theorem pass_any (w : World) (t : Ln.Terms) (n : Int) (g : Ln.St) (c i f : Int) (l : List Ln.Ev) (p : Option Addr) (cap : Nat)
    (hev : ∀ k (hk : k < l.length), ∃ E o, p = some ⟨E, o, none⟩ ∧ E < w.heap.size ∧ w.cell? ⟨E, o + k * 4, none⟩ = some (.int .i64 l[k].d) ∧ w.cell? ⟨E, o + k * 4 + 1, none⟩ = some (.int .i64 l[k].k) ∧ w.cell? ⟨E, o + k * 4 + 2, none⟩ = some (.int .i64 l[k].s) ∧ w.cell? ⟨E, o + k * 4 + 3, none⟩ = some (.int .i64 l[k].a))
    (hll : l.length ≤ 1000000) (hm : Mv w) (hg : 1 < w.heap.size) (n0 : 0 ≤ n) (n1 : n ≤ 109572) (L : Int) (s : Nat) (hI : Ln.Inv t L s g) (ht : Ln.OkT t) (hl : ∀ e ∈ l, Ln.OkE t e) (hn : ∀ e ∈ l, e.d = n)
    (wt : Nat) (hwt : wtOf t.ba n = wt) (hw3 : wt ≤ 3) (hs : s + wt ≤ 4320) (hL : L + (if n = t.st then t.pr else 0) + Ln.lents n l ≤ 4100000000000) (hfn : (Ln.day t n (cdOf n) wt l g).g.fn / Ln.den t ≤ 8000000000000000000) :
    Calls Tryd.prog 44 #[stV t g c i f, tmV t, .int .i64 n, .slice p l.length cap] w fun e w' => (∃ c' i' f', e = .returned (.tuple #[stV t (Ln.day t n (cdOf n) wt l g).g c' i' f', amV (Ln.day t n (cdOf n) wt l g).am])) ∧ Below w.heap.size w w' := by
  have hd := Ln.den_bd t
  have hlen := Ln.lents_nn n l hl
  have hpr := ht.pr0
  have hL0 := hI.L0
  have hif : 0 ≤ (if n = t.st then t.pr else 0) := by split <;> omega
  have I0 := hI.early n (cdOf n) ht
  have A0 := Ln.Am.early (n := n) hI (by omega) (by omega) ht (cdOf n)
  have If := Ln.Inv.events n l I0 hl
  have fe := Ln.events_fn n l (Ln.early t n (cdOf n) g)
  rw [Ln.early_fn] at fe
  have hfn' : ((l.foldl (Ln.event n) (Ln.early t n (cdOf n) g)).g.fn + (l.foldl (Ln.event n) (Ln.early t n (cdOf n) g)).g.la * (t.fi * wt)) / Ln.den t ≤ 8000000000000000000 := hfn
  have hw0 : (0 : Int) ≤ wt := by omega
  have m2 : 0 ≤ (l.foldl (Ln.event n) (Ln.early t n (cdOf n) g)).g.la * (t.fi * wt) := Int.mul_nonneg If.la (Int.mul_nonneg ht.fi0 hw0)
  have hg0 : g.fn / Ln.den t ≤ 8000000000000000000 := Int.le_trans (Int.ediv_le_ediv (by omega) (by omega)) hfn'
  have Af := Ln.Am.events n l A0 I0 (by omega) (by rw [Ln.early_fn]; exact hg0) hL hl
  refine pass_core w t n g c i f l p cap (Ln.early t n (cdOf n) g) _ hev hll ?_ ?_ ?_
  · intro W P kW hP hp
    exact pbegin_any W P t n g n0 (by omega) hp (hm.keep kW (fun x => x)) (by omega) L s hI (by omega) (by omega) hg0 ht
  · intro W P k hk kW hP hp
    have hlk : ∀ e ∈ l.take k, Ln.OkE t e := fun e he => hl e (List.mem_of_mem_take he)
    have hmem : l[k] ∈ l := List.getElem_mem hk
    have e1 : Ln.lents n l = Ln.lents n (l.take k) + (Ln.lent n l[k] + Ln.lents n (l.drop (k + 1))) := by
      have : l = l.take k ++ (l[k] :: l.drop (k + 1)) := by rw [List.getElem_cons_drop, List.take_append_drop]
      conv => lhs; rw [this]
      rw [Ln.lents_append]
      rfl
    have e2 : Ln.lent n l[k] = l[k].a := by
      unfold Ln.lent
      rw [if_pos (hn _ hmem)]
    have e3 := Ln.lents_nn n (l.drop (k + 1)) (fun e he => hl e (List.mem_of_mem_drop he))
    have e4 := (hl _ hmem).a0
    have Ik := Ln.Inv.events n (l.take k) I0 hlk
    have fk := Ln.events_fn n (l.take k) (Ln.early t n (cdOf n) g)
    rw [Ln.early_fn] at fk
    have Ak := Ln.Am.events n (l.take k) A0 I0 (by omega) (by rw [Ln.early_fn]; exact hg0) (by omega) hlk
    rw [foldl_take n _ l k hk]
    exact happen_any W P t n _ hp (hm.keep kW (by omega)) (by omega) n0 (by omega) _ s l[k] Ik (by omega) (by omega) (by rw [fk]; exact hg0) Ak (hl _ hmem) (hn _ hmem)
  · intro W P kW hP hp
    exact pend_any W P t n _ hp (hm.keep kW (by omega)) (by omega) n0 n1 _ s If wt hwt hw3 hs hL hfn' ht Af
end Go.Proofs.YtanndhoimpnhpaaDoor

/- Weights of days: each at most three; of 3700 days at most 4320 in all; what fines come to. -/
namespace Go.Proofs.YtanndhoimpnhpaaDoor.Cal

theorem has_civ : ∀ n : Nat, n ≤ 109573 → ∃ y m d : Int, Ok y m d ∧ num y m d = n
  | 0, _ => ⟨1900, 1, 1, ok_mk (by decide) (by decide) (by decide) (by decide) (by decide) (by decide), by decide⟩
  | n + 1, h => by
    obtain ⟨y, m, d, hok, hn⟩ := has_civ n (by omega)
    exact ⟨_, _, _, next_ok y m d hok (by omega), by rw [next_num y m d hok]; omega⟩
theorem t_next (n : Int) (h0 : 0 ≤ n) (h1 : n ≤ 109572) : ∃ p q, IsT (n + 1) p ∧ IsT n q ∧ 0 ≤ p - q ∧ p - q ≤ 3 := by
  obtain ⟨y, m, d, hok, hn⟩ := has_civ n.toNat (by omega)
  rw [Int.toNat_of_nonneg h0] at hn
  have hb := t3_next y m d hok
  exact ⟨_, _, ⟨_, _, _, next_ok y m d hok (by omega), by rw [next_num y m d hok, hn], rfl⟩, ⟨y, m, d, hok, hn, rfl⟩, hb.1, hb.2⟩
theorem wtOf_bd (b n : Int) : 0 ≤ wtOf b n ∧ wtOf b n ≤ 3 := by
  by_cases h : b = 3 ∧ 0 ≤ n ∧ n ≤ 109572
  · obtain ⟨h3, h0, h1⟩ := h
    obtain ⟨p, q, hp, hq, b0, b1⟩ := t_next n h0 h1
    rw [h3, wtOf_three h0 h1 hp hq]
    exact ⟨b0, b1⟩
  · unfold wtOf
    rw [if_neg h]
    decide
theorem is_t (n : Int) (h0 : 0 ≤ n) (h1 : n ≤ 109573) : IsT n (tOf n) := by
  obtain ⟨y, m, d, hok, hn⟩ := has_civ n.toNat (by omega)
  rw [Int.toNat_of_nonneg h0] at hn
  have : IsT n (t3 y m d) := ⟨y, m, d, hok, hn, rfl⟩
  rw [tOf_is this]
  exact this
/-- The weight of the k-th day. -/
noncomputable def wsOf (b st : Int) (k : Nat) : Nat := (wtOf b (st + k)).toNat
theorem wsOf_le (b st : Int) (k : Nat) : wsOf b st k ≤ 3 := by
  have := wtOf_bd b (st + k)
  unfold wsOf
  omega
theorem wsOf_eq (b st : Int) (k : Nat) : wtOf b (st + k) = wsOf b st k := by
  have := wtOf_bd b (st + k)
  unfold wsOf
  omega
theorem sw_one (b st : Int) (h : ¬ b = 3) : ∀ k : Nat, Ln.sw (wsOf b st) k = k
  | 0 => rfl
  | k + 1 => by
    show Ln.sw (wsOf b st) k + wsOf b st k = k + 1
    rw [sw_one b st h k]
    unfold wsOf
    rw [wtOf_one _ h]
    rfl
theorem sw_three (st : Int) (h0 : 0 ≤ st) : ∀ k : Nat, st + k ≤ 109573 → (Ln.sw (wsOf 3 st) k : Int) = tOf (st + k) - tOf st
  | 0, _ => by simp [Ln.sw]
  | k + 1, h => by
    have ih := sw_three st h0 k (by omega)
    have hw : wtOf 3 (st + k) = tOf (st + k + 1) - tOf (st + k) := wtOf_three (by omega) (by omega) (is_t _ (by omega) (by omega)) (is_t _ (by omega) (by omega))
    have he := wsOf_eq 3 st k
    show ((Ln.sw (wsOf 3 st) k + wsOf 3 st k : Nat) : Int) = _
    have e : st + ((k + 1 : Nat) : Int) = st + k + 1 := by omega
    rw [e]
    omega
theorem t_far (st : Int) (k : Nat) (hk : k ≤ 3700) (p q : Int) (hp : IsT (st + k) p) (hq : IsT st q) : p - q ≤ 4320 := by
  obtain ⟨y, m, d, ⟨a1, a2, a3, a4, a5, a6⟩, hn, rfl⟩ := hp
  obtain ⟨y', m', d', ⟨b1, b2, b3, b4, b5, b6⟩, hn', rfl⟩ := hq
  have i1 := in_year y m d a3 a4 a5 a6
  have i2 := in_year y' m' d' b3 b4 b5 b6
  have l2 := lp_01 y'
  unfold num at hn hn'
  have hy : y - y' ≤ 11 := by
    have hz : ys y - ys y' ≤ 3700 + 366 := by omega
    unfold ys at hz
    omega
  unfold t3 cap
  (repeat' split) <;> omega
theorem sw_bd (b st : Int) (h0 : 0 ≤ st) (h1 : st ≤ 105872) (k : Nat) (hk : k ≤ 3700) : Ln.sw (wsOf b st) k ≤ 4320 := by
  by_cases h : b = 3
  · subst h
    have e := sw_three st h0 k (by omega)
    have := t_far st k hk _ _ (is_t (st + k) (by omega) (by omega)) (is_t st h0 (by omega))
    omega
  · rw [sw_one b st h k]
    omega
end Go.Proofs.YtanndhoimpnhpaaDoor.Cal
namespace Go.Proofs.YtanndhoimpnhpaaDoor.Ln
open Cal
theorem tot_bound {t : Terms} (ht : OkT t) (l : List Ev) (hl : ∀ e ∈ l, OkE t e) (hn : l.length ≤ 40) (k : Nat) : (if 0 < k then t.pr else 0) + tot t k l ≤ 4100000000000 := by
  have h1 := tot_le t k l hl
  have h2 := ht.pr0
  have h3 := ht.pr1
  split <;> omega
/-- What fines come to, in all. -/
theorem run_fn {t : Terms} (ht : OkT t) (l : List Ev) (hl : ∀ e ∈ l, OkE t e) (hn : l.length ≤ 40) : ∀ k : Nat, k ≤ 3700 → (run t cdOf (wtOf t.ba) l k).fn ≤ 656820000000000000000000 * (sw (wsOf t.ba t.st) k : Int)
  | 0, _ => by simp [run, start, sw]
  | k + 1, hk => by
    have ih := run_fn ht l hl hn k (by omega)
    have hI := run_inv ht cdOf (wtOf t.ba) (wsOf t.ba t.st) (wsOf_le _ _) (wsOf_eq _ _) l hl k
    have hs := sw_bd t.ba t.st ht.st0 ht.st1 k (by omega)
    have hlk := tot_bound ht l hl hn (k + 1)
    have ts := tot_succ t k l
    have I1 := Inv.events (t.st + k) l (hI.early (t.st + k) (cdOf (t.st + k)) ht) hl
    have hL : (if 0 < k then t.pr else 0) + tot t k l + (if t.st + (k : Int) = t.st then t.pr else 0) + lents (t.st + k) l ≤ 4100000000000 := by
      rw [if_pos (Nat.succ_pos k)] at hlk
      by_cases h0 : 0 < k
      · rw [if_pos h0, if_neg (by omega)]; omega
      · rw [if_neg h0, if_pos (by omega)]; omega
    have hb := I1.bound hs hL
    have g1 := I1.pr
    have g2 := I1.it
    have g3 := I1.du
    have g4 := I1.la
    have fe := events_fn (t.st + k) l (early t (t.st + k) (cdOf (t.st + k)) (run t cdOf (wtOf t.ba) l k))
    rw [early_fn] at fe
    have hw := wsOf_eq t.ba t.st k
    have hw3 := wsOf_le t.ba t.st k
    have e : (run t cdOf (wtOf t.ba) l (k + 1)).fn = (run t cdOf (wtOf t.ba) l k).fn + (l.foldl (event (t.st + k)) (early t (t.st + k) (cdOf (t.st + k)) (run t cdOf (wtOf t.ba) l k))).g.la * (t.fi * wtOf t.ba (t.st + k)) := by
      rw [← fe]
      rfl
    rw [e, hw]
    generalize (l.foldl (event (t.st + k)) (early t (t.st + k) (cdOf (t.st + k)) (run t cdOf (wtOf t.ba) l k))).g.la = la at *
    have m1 : t.fi * (wsOf t.ba t.st k : Int) ≤ 1000000 * (wsOf t.ba t.st k : Int) := Int.mul_le_mul_of_nonneg_right ht.fi1 (by omega)
    have m0 : 0 ≤ t.fi * (wsOf t.ba t.st k : Int) := Int.mul_nonneg ht.fi0 (by omega)
    have m2 : la * (t.fi * (wsOf t.ba t.st k : Int)) ≤ 656820000000000000 * (1000000 * (wsOf t.ba t.st k : Int)) := Int.mul_le_mul (by omega) m1 m0 (by decide)
    show _ ≤ 656820000000000000000000 * ((sw (wsOf t.ba t.st) k + wsOf t.ba t.st k : Nat) : Int)
    omega
theorem run_fn_bd {t : Terms} (ht : OkT t) (l : List Ev) (hl : ∀ e ∈ l, OkE t e) (hn : l.length ≤ 40) (k : Nat) (hk : k ≤ 3700) : (run t cdOf (wtOf t.ba) l k).fn / den t ≤ 8000000000000000000 := by
  have h := run_fn ht l hl hn k hk
  have hs := sw_bd t.ba t.st ht.st0 ht.st1 k hk
  have hd := den_bd t
  refine Int.le_trans (Int.ediv_le_ediv (b := 656820000000000000000000 * 4320) (by omega) (by omega)) ?_
  refine Int.ediv_le_of_le_mul (by omega) ?_
  omega
end Go.Proofs.YtanndhoimpnhpaaDoor.Ln
