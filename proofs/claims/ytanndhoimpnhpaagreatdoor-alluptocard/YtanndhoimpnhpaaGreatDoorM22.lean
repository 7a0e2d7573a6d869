/- Joined by program: BsA, BsB, BsC, BsG, BsK. -/
import Derived.Test.YtanndhoimpnhpaaGreatDoorM21
import Derived.Test.YtanndhoimpnhpaaGreatDoorM6
import Derived.Test.YtanndhoimpnhpaaGreatDoorM1
import Derived.Laws.OwnMore
import Derived.OwnWalk
namespace Go.Proofs.YtanndhoimpnhpaaGreatDoor
open Go.RowKit
def OwT (w : World) (sz : Nat) (v : Value) (n : Nat) (xs : List Value) : Prop := ∃ T, w.ownsRow 0 T sz v n xs
theorem OwT.slice {w : World} {sz : Nat} {v : Value} {n : Nat} {xs : List Value} (h : OwT w sz v n xs) : ∃ p cap, v = .slice p n cap := by
  obtain ⟨T, h⟩ := h
  exact own_slice h
theorem OwT.lt {w : World} {sz : Nat} {v : Value} {n : Nat} {xs : List Value} (h : OwT w sz v n xs) {b : Nat} (hb : v.ownBlock = some b) : b < w.heap.size := by
  obtain ⟨T, h⟩ := h
  exact (own_base h hb).2
theorem OwT.keep {S : Nat → Prop} {w w' : World} {sz : Nat} {v : Value} {n : Nat} {xs : List Value} (h : OwT w sz v n xs) (hk : Keep S w w') (hs : ∀ b, v.ownBlock = some b → ¬ S b) : OwT w' sz v n xs := by
  obtain ⟨T, h⟩ := h
  exact ⟨T, own_keep h hk hs⟩
theorem OwT.below {w w' : World} {sz : Nat} {v : Value} {n : Nat} {xs : List Value} (h : OwT w sz v n xs) (hb : Below w.heap.size w w') : OwT w' sz v n xs := h.keep (S := fun _ => False) (Keep.below hb) (fun _ _ x => x)
theorem OwT.len {w : World} {sz : Nat} {v : Value} {n : Nat} {xs : List Value} (h : OwT w sz v n xs) : xs.length = n * sz := by
  obtain ⟨T, h⟩ := h
  exact h.1
theorem OwT.form {w : World} {sz : Nat} {v : Value} {n : Nat} {xs : List Value} (h : OwT w sz v n xs) (hn : 0 < n) : ∃ T g cap, v = .slice (some ⟨g, 0, none⟩) n cap ∧ n ≤ cap ∧ w.ownsRow 0 T sz v n xs := by
  obtain ⟨T, h⟩ := h
  obtain ⟨h1, ⟨rfl, rfl⟩ | ⟨g, cap, cur, rfl, h2, h3, h4, h5⟩⟩ := id h
  · omega
  · exact ⟨T, g, cap, rfl, h4, h⟩
theorem run_append_roomT {P : Program} (w : World) (t ty e T : TypeId) (i : TypeInfo) (ht : P.underlying t = some (.slice e)) (hi : P.info? e = some i)
    (g sLen sCap : Nat) (cur : Array Value) (hg : w.heap[g]? = some (.cells cur T (0, 0)))
    (a : Addr) (m c : Nat) (news : List Value) (hl : news.length = m * i.size) (hnews : ∀ j u, news[j]? = some u → w.cell? (a.add j) = some u) (h1 : ∀ u ∈ news, u.oneCell' = true)
    (hroom : sLen + m ≤ sCap) (hfit : sLen * i.size + news.length ≤ cur.size) :
    (Builtin.append_ #[t, t] ty #[.slice (some ⟨g, 0, none⟩) sLen sCap, .slice (some a) m c]).run P w =
      .ok (.slice (some ⟨g, 0, none⟩) (sLen + m) sCap) (w.setRow g (cur.toList.take (sLen * i.size) ++ news ++ cur.toList.drop (sLen * i.size + news.length)).toArray) := by
  have hf := run_firstCells_some (P := P) w i.size m a m c news hl hnews
  have hst := run_storeCells_at P g (sLen * i.size) T news 0 cur w hg (by simpa using hfit) h1
  simp only [Nat.add_zero] at hst
  simp [Builtin.append_, run_underlying ht, sizeOf, typeInfo, hi, Builtin.lenOf, hroom, hf, Addr.add_lit, hst]
def Lies (w : World) (v v' : Value) (w' : World) : Prop := (v'.ownBlock = v.ownBlock ∧ Keep (fun b => v.ownBlock = some b) w w') ∨ (v'.ownBlock = some w.heap.size ∧ Below w.heap.size w w')
theorem run_append_T {P : Program} (w : World) (t ty e : TypeId) (i : TypeInfo) (z : Value) (size bytes : Nat) (ht : P.underlying t = some (.slice e)) (hi : P.info? e = some i) (hz : i.zero = some z)
    (hsize : i.size = size) (hby : i.bytes = bytes) (hzs : z.cells.size = size)
    (v : Value) (n : Nat) (xs : List Value) (hown : OwT w size v n xs)
    (a : Addr) (m c : Nat) (hm0 : 0 < m) (news : List Value) (hl : news.length = m * size) (hnews : ∀ j u, news[j]? = some u → w.cell? (a.add j) = some u) (h1 : ∀ u ∈ news, u.oneCell' = true)
    (h63 : n + m ≤ maxLen) (hbytes : (n + m) * bytes ≤ 140737488355328) :
    ∃ v' w', (Builtin.append_ #[t, t] ty #[v, .slice (some a) m c]).run P w = .ok v' w' ∧ OwT w' size v' (n + m) (xs ++ news) ∧ Lies w v v' w' := by
  subst hsize
  subst hby
  obtain ⟨T, hown⟩ := hown
  have hsmall : n + m ≤ 9223372036854775807 := by simp only [maxLen] at h63; omega
  have hlen : (xs ++ news).length = (n + m) * i.size := by rw [List.length_append, hown.1, hl, Nat.add_mul]
  have grown : ∀ (old : Nat), old < n + m →
      (w.drew.alloc (.cells (xs.toArray ++ news.toArray ++ Builtin.zeroCells z.cells (grownCap w (n + m) old e - (n + m))) e)).ownsRow 0 e i.size
        (.slice (some ⟨w.heap.size, 0, none⟩) (n + m) (grownCap w (n + m) old e)) (n + m) (xs ++ news) ∧
      Below w.heap.size w (w.drew.alloc (.cells (xs.toArray ++ news.toArray ++ Builtin.zeroCells z.cells (grownCap w (n + m) old e - (n + m))) e)) := by
    intro old ho
    have hge := grownCap_ge w (n + m) old e
    have hcm : grownCap w (n + m) old e ≤ maxLen := grownCap_le_maxLen w (n + m) old e h63
    refine ⟨⟨hlen, .inr ⟨w.heap.size, _, _, rfl, Nat.zero_le _, heap_alloc_new w.drew _, hge, hcm, ?_, ?_⟩⟩, ((Below.refl _ _).drew).alloc (Nat.le_refl _) _⟩
    · simp only [Array.size_append, List.size_toArray, size_zeroCells, hzs, hown.1, hl, ← Nat.add_mul]
      congr 1
      omega
    · simp only [Array.toList_append, List.append_assoc]
      rw [← List.append_assoc, ← hlen]
      exact List.take_left
  rcases hown.2 with ⟨rfl, rfl⟩ | ⟨g, cap, cur, rfl, hbg, hg, hnc, hcm, hcs, htake⟩
  · have hx : xs = [] := List.eq_nil_of_length_eq_zero (by simpa using hown.1)
    subst hx
    have hr := run_append_nil (P := P) w t ty e i z ht hi hz a m c news hl hnews (by omega) (by omega) (by have hb := hbytes; simp only [Nat.zero_add] at hb; omega)
    have hgr := grown 0 (by omega)
    simp only [Nat.zero_add, List.nil_append, Array.empty_append] at hgr ⊢
    exact ⟨_, _, hr, ⟨e, hgr.1⟩, .inr ⟨rfl, hgr.2⟩⟩
  · by_cases hroom : n + m ≤ cap
    · have hfit : n * i.size + news.length ≤ cur.size := by rw [hl, hcs, ← Nat.add_mul]; exact Nat.mul_le_mul_right _ hroom
      have hr := run_append_roomT (P := P) w t ty e T i ht hi g n cap cur hg a m c news hl hnews h1 hroom hfit
      refine ⟨_, _, hr, ⟨T, hlen, .inr ⟨g, cap, _, rfl, hbg, setRow_heap w g cur _ T _ hg, hroom, hcm, ?_, ?_⟩⟩, .inl ⟨rfl, ⟨rfl, rfl, rfl, by simp, fun k _ hk => setRow_other w g k _ (fun e => hk (by simp [Value.ownBlock, e]))⟩⟩⟩
      · simp only [List.size_toArray, List.length_append, List.length_take, List.length_drop, Array.length_toList]
        omega
      · rw [htake, ← hlen]
        exact List.take_left
    · have holds : ∀ j u, xs[j]? = some u → w.cell? ((⟨g, 0, none⟩ : Addr).add j) = some u := hown.cells (g := g) rfl
      have hr := run_append_grow (P := P) w t ty e i z ht hi hz ⟨g, 0, none⟩ n cap xs hown.1 holds a m c news hl hnews (by omega) (by omega) (growslice_fits (by omega) hbytes)
      have hgr := grown cap (by omega)
      exact ⟨_, _, hr, ⟨e, hgr.1⟩, .inr ⟨rfl, hgr.2⟩⟩
theorem wp_append_T {Pr : Program} {o : Oper} {a : Act} (w : World) {K : Act → World → Prop} {Q : Exit → Act → World → Prop} (s x : Operand) (t : TypeId)
    (ho : o.op = .call { callee := .builtin .append, args := #[s, x], argTypes := #[t, t] })
    (e : TypeId) (i : TypeInfo) (z : Value) (size bytes : Nat) (ht : Pr.underlying t = some (.slice e)) (hi : Pr.info? e = some i) (hz : i.zero = some z)
    (hsize : i.size = size) (hby : i.bytes = bytes) (hzs : z.cells.size = size)
    (v : Value) (n : Nat) (xs : List Value) (hs : a.eval s = v) (hown : OwT w size v n xs)
    (ad : Addr) (m c : Nat) (hm0 : 0 < m) (news : List Value) (hx : a.eval x = .slice (some ad) m c) (hl : news.length = m * size) (hnews : ∀ j u, news[j]? = some u → w.cell? (ad.add j) = some u) (h1 : ∀ u ∈ news, u.oneCell' = true)
    (h63 : n + m ≤ maxLen) (hbytes : (n + m) * bytes ≤ 140737488355328)
    (h : ∀ v' w', OwT w' size v' (n + m) (xs ++ news) → Lies w v v' w' → K (a.put o.dst v') w') : o.wp Pr a w K Q := by
  obtain ⟨v', w', hr, h2, h3⟩ := run_append_T (P := Pr) w t o.type e i z size bytes ht hi hz hsize hby hzs v n xs hown ad m c hm0 news hl hnews h1 h63 hbytes
  unfold Oper.wp execOp
  simp only [ho, resolve, invoke, builtin, Sem.run_bind, Sem.run_pure, Result.andThen_ok, List.map_toArray, List.map_cons, List.map_nil, hs, hx, hr]
  exact h v' w' h2 h3
theorem wpList_append_T {Pr : Program} {ops : Array Oper} {rest : List Oper} {o : Oper} {a : Act} (w : World) {Q : Exit → Act → World → Prop} (hgd : o.guard = none) (s x : Operand) (t : TypeId)
    (ho : o.op = .call { callee := .builtin .append, args := #[s, x], argTypes := #[t, t] })
    (e : TypeId) (i : TypeInfo) (z : Value) (size bytes : Nat) (ht : Pr.underlying t = some (.slice e)) (hi : Pr.info? e = some i) (hz : i.zero = some z)
    (hsize : i.size = size) (hby : i.bytes = bytes) (hzs : z.cells.size = size)
    (v : Value) (n : Nat) (xs : List Value) (hs : a.eval s = v) (hown : OwT w size v n xs)
    (ad : Addr) (m c : Nat) (hm0 : 0 < m) (news : List Value) (hx : a.eval x = .slice (some ad) m c) (hl : news.length = m * size) (hnews : ∀ j u, news[j]? = some u → w.cell? (ad.add j) = some u) (h1 : ∀ u ∈ news, u.oneCell' = true)
    (h63 : n + m ≤ maxLen) (hbytes : (n + m) * bytes ≤ 140737488355328)
    (h : ∀ v' w', OwT w' size v' (n + m) (xs ++ news) → Lies w v v' w' → wpList Pr ops Q rest (a.put o.dst v') w') : wpList Pr ops Q (o :: rest) a w :=
  wpList_plain hgd fun _ hK => wp_append_T w s x t ho e i z size bytes ht hi hz hsize hby hzs v n xs hs hown ad m c hm0 news hx hl hnews h1 h63 hbytes (fun v' w' h2 h3 => hK _ _ (h v' w' h2 h3))
def reps (n : Nat) (c : List Value) : List Value := (List.replicate n c).flatten
theorem reps_len (n : Nat) (c : List Value) : (reps n c).length = n * c.length := by simp [reps]
theorem reps_succ (n : Nat) (c : List Value) : reps (n + 1) c = reps n c ++ c := by
  unfold reps
  rw [List.replicate_succ', List.flatten_append]
  simp
theorem reps_at (c : List Value) : ∀ (n i : Nat), i < n → ∀ (j : Nat) (u : Value), c[j]? = some u → (reps n c)[i * c.length + j]? = some u
  | 0, i, h, _, _, _ => absurd h (Nat.not_lt_zero i)
  | n + 1, i, h, j, u, hu => by
    have hj := (List.getElem?_eq_some_iff.1 hu).1
    rw [reps_succ]
    by_cases hi : i < n
    · have h1 := reps_at c n i hi j u hu
      rw [List.getElem?_append_left (List.getElem?_eq_some_iff.1 h1).1]
      exact h1
    · obtain rfl : i = n := by omega
      rw [List.getElem?_append_right (by rw [reps_len]; omega), reps_len, Nat.add_sub_cancel_left]
      exact hu
def fil (k : Nat) (c xs : List Value) : List Value := reps k c ++ xs.drop (k * c.length)
theorem fil_zero (c xs : List Value) : fil 0 c xs = xs := by simp [fil, reps]
theorem fil_all (n : Nat) (c xs : List Value) (h : xs.length = n * c.length) : fil n c xs = reps n c := by
  unfold fil
  rw [List.drop_of_length_le (by omega), List.append_nil]
theorem setl_app (a : List Value) : ∀ (m b : List Value) (o : Nat), o = a.length → m.length ≤ b.length → setl (a ++ b) o m = a ++ (m ++ b.drop m.length)
  | [], b, o, _, _ => by simp [setl]
  | x :: m, b, o, ho, hb => by
    match b, hb with
    | y :: b, hb =>
      have h1 : (a ++ y :: b).set o x = (a ++ [x]) ++ b := by
        subst ho
        simp
      show setl ((a ++ y :: b).set o x) (o + 1) m = _
      rw [h1]
      have h2 := setl_app (a ++ [x]) m b (o + 1) (by simp [ho]) (by simpa using hb)
      rw [h2]
      simp
theorem fil_succ (k : Nat) (c xs : List Value) (h : (k + 1) * c.length ≤ xs.length) : setl (fil k c xs) (k * c.length) c = fil (k + 1) c xs := by
  unfold fil
  have e : (k + 1) * c.length = k * c.length + c.length := by rw [Nat.add_mul, Nat.one_mul]
  rw [setl_app (reps k c) c _ _ (reps_len k c).symm (by rw [List.length_drop]; omega), reps_succ, List.append_assoc, List.drop_drop, e]
theorem own_setl {base : Nat} {T : TypeId} {sz n cap g : Nat} : ∀ (m : List Value) (o : Nat) (xs : List Value) (w : World), w.ownsRow base T sz (.slice (some ⟨g, 0, none⟩) n cap) n xs → (w.setCells g o m).ownsRow base T sz (.slice (some ⟨g, 0, none⟩) n cap) n (setl xs o m)
  | [], _, _, _, h => h
  | x :: m, o, xs, w, h => own_setl m (o + 1) (xs.set o x) (w.setCell ⟨g, o, none⟩ x) (h.stored o x).1
def RdV (w : World) (sz : Nat) (v : Value) (c : List Value) : Prop := ∃ p n cap, v = .slice p n cap ∧ n ≤ 4611686018427387904 ∧ n ≤ cap ∧ ∀ i, i < n → ∃ b, p = some ⟨b, 0, none⟩ ∧ b < w.heap.size ∧ w.rangeAt b (i * sz) c
theorem RdV.keep {S : Nat → Prop} {w w' : World} {sz : Nat} {v : Value} {c : List Value} (h : RdV w sz v c) (hk : Keep S w w') (hs : ∀ b, v.ownBlock = some b → ¬ S b) : RdV w' sz v c := by
  obtain ⟨p, n, cap, rfl, h1, h2, h3⟩ := h
  refine ⟨p, n, cap, rfl, h1, h2, fun i hi => ?_⟩
  obtain ⟨b, rfl, hb, hr⟩ := h3 i hi
  exact ⟨b, rfl, Nat.lt_of_lt_of_le hb hk.size, fun j u hu => (World.cell?_of_block (w := w) (a := ⟨b, i * sz + j, none⟩) (hk.block b hb (hs b rfl))).trans (hr j u hu)⟩
theorem OwT.rd {w : World} {sz : Nat} {v : Value} {n : Nat} {c : List Value} (h : OwT w sz v n (reps n c)) (hc : c.length = sz) (hn : n ≤ 4611686018427387904) : RdV w sz v c := by
  subst hc
  by_cases h0 : 0 < n
  · obtain ⟨T, g, cap, rfl, hcap, ho⟩ := h.form h0
    refine ⟨_, n, cap, rfl, hn, hcap, fun i hi => ⟨g, rfl, (own_base ho (b := g) rfl).2, fun j u hu => ?_⟩⟩
    have h1 := reps_at c n i hi j u hu
    have h2 := ho.cellAt (i * c.length + j) (by have := (List.getElem?_eq_some_iff.1 h1).1; rw [reps_len] at this; exact this)
    rw [h2]
    exact h1
  · obtain rfl : n = 0 := by omega
    obtain ⟨T, h1, ⟨rfl, _⟩ | ⟨g, cap, cur, rfl, _, _, hcap, _⟩⟩ := h
    · exact ⟨none, 0, 0, rfl, hn, Nat.le_refl _, fun i hi => absurd hi (Nat.not_lt_zero i)⟩
    · exact ⟨_, 0, cap, rfl, hn, hcap, fun i hi => absurd hi (Nat.not_lt_zero i)⟩
structure Chain (w0 w : World) (sz : Nat) (l : Value) (c : List Value) (v : Value) (n : Nat) (us : List Value) : Prop where
  ow : OwT w sz v n (reps n c)
  us : ∀ u ∈ us, RdV w sz u c ∧ (∀ b, u.ownBlock = some b → (l.ownBlock = some b ∨ w0.heap.size ≤ b) ∧ b < w.heap.size) ∧ (∀ p k cap b, u = .slice p k cap → p = some ⟨b, 0, none⟩ → v.ownBlock = some b → k ≤ n)
  kp : Keep (fun b => l.ownBlock = some b) w0 w
  vb : ∀ b, v.ownBlock = some b → l.ownBlock = some b ∨ w0.heap.size ≤ b
theorem Chain.below {w0 w w' : World} {sz : Nat} {l : Value} {c : List Value} {v : Value} {n : Nat} {us : List Value} (h : Chain w0 w sz l c v n us) (hb : Below w.heap.size w w') : Chain w0 w' sz l c v n us :=
  ⟨h.ow.below hb, fun u hu => ⟨(h.us u hu).1.keep (S := fun _ => False) (Keep.below hb) (fun _ _ x => x), fun b hub => ⟨((h.us u hu).2.1 b hub).1, Nat.lt_of_lt_of_le ((h.us u hu).2.1 b hub).2 hb.size⟩, (h.us u hu).2.2⟩, h.kp.trans (Keep.below hb), h.vb⟩
theorem Chain.app {w0 w w' : World} {sz : Nat} {l : Value} {c : List Value} {v v' : Value} {n : Nat} {us : List Value} (h : Chain w0 w sz l c v n us) (hc : c.length = sz) (hn : n + 1 ≤ 4611686018427387904) (ho : OwT w' sz v' (n + 1) (reps n c ++ c)) (hl : Lies w v v' w') : Chain w0 w' sz l c v' (n + 1) (us ++ [v']) := by
  rw [← reps_succ] at ho
  have hrd := ho.rd hc hn
  obtain ⟨T, g, cap, rfl, hcap, hoR⟩ := ho.form (by omega)
  have hvl : ∀ b, (Value.slice (some ⟨g, 0, none⟩) (n + 1) cap).ownBlock = some b → (l.ownBlock = some b ∨ w0.heap.size ≤ b) ∧ b < w'.heap.size := fun b hb => by
    refine ⟨?_, ho.lt hb⟩
    rcases hl with ⟨h1, _⟩ | ⟨h1, _⟩
    · exact h.vb b (h1.symm.trans hb)
    · rw [h1] at hb
      cases hb
      exact .inr h.kp.size
  refine ⟨ho, fun u hu => ?_, ?_, fun b hb => (hvl b hb).1⟩
  · rcases List.mem_append.1 hu with hu | hu
    · obtain ⟨h1, h2, h3⟩ := h.us u hu
      rcases hl with ⟨hl1, hk⟩ | ⟨hl1, hb⟩
      · have e1 : v.ownBlock = some g := hl1.symm
        refine ⟨?_, fun b hb => ⟨(h2 b hb).1, Nat.lt_of_lt_of_le (h2 b hb).2 hk.size⟩, fun p k cp b e2 e3 e4 => ?_⟩
        · by_cases hug : u.ownBlock = some g
          · obtain ⟨p, k, cp, rfl, hk1, hk2, hk3⟩ := h1
            refine ⟨p, k, cp, rfl, hk1, hk2, fun i hi => ?_⟩
            obtain ⟨b, rfl, hb1, hb2⟩ := hk3 i hi
            have hbg : b = g := by simpa [Value.ownBlock] using hug
            subst hbg
            have hkn := h3 _ k cp b rfl rfl e1
            obtain ⟨p', n', cap', e5, _, _, hr⟩ := hrd
            injection e5 with e6 e7 e8
            subst e6 e7 e8
            obtain ⟨b', e9, hb3, hb4⟩ := hr i (by omega)
            cases e9
            exact ⟨b, rfl, hb3, hb4⟩
          · exact h1.keep hk (fun b hb hx => hug (hb.trans (hx.symm.trans e1)))
        · have e5 : some g = some b := e4
          cases e5
          have := h3 p k cp g e2 e3 e1
          omega
      · refine ⟨h1.keep (S := fun _ => False) (Keep.below hb) (fun _ _ x => x), fun b hub => ⟨(h2 b hub).1, Nat.lt_of_lt_of_le (h2 b hub).2 hb.size⟩, fun p k cp b e2 e3 e4 => ?_⟩
        rw [hl1] at e4
        cases e4
        subst e2 e3
        have := (h2 _ rfl).2
        exact absurd this (Nat.lt_irrefl _)
    · obtain rfl : u = _ := by simpa using hu
      exact ⟨hrd, hvl, fun p k cp b e2 e3 e4 => by injection e2 with _ e5 _; omega⟩
  · rcases hl with ⟨_, hk⟩ | ⟨_, hb⟩
    · refine ⟨hk.os.trans h.kp.os, hk.tape.trans h.kp.tape, hk.output.trans h.kp.output, Nat.le_trans h.kp.size hk.size, fun x hx hn' => ?_⟩
      refine (hk.block x (Nat.lt_of_lt_of_le hx h.kp.size) (fun hv => ?_)).trans (h.kp.block x hx hn')
      rcases h.vb x hv with h1 | h1
      · exact hn' h1
      · omega
    · exact h.kp.trans (Keep.below hb)
end Go.Proofs.YtanndhoimpnhpaaGreatDoor
namespace Go.Proofs.YtanndhoimpnhpaaGreatDoor
open Go.RowKit
def Sd (s i x : Nat) : Prop := x = 10 + s ∨ x = 12 + s ∨ x = 14 + s ∨ x = 16 + s ∨ x = 18 + s ∨ ∃ k, i ≤ k ∧ x = 100 + 2 * k + s
structure Side (w : World) (TS : TypeId) (sz : Nat) (ok : Nat → List Value → Prop) (mk : Nat → List Value) (lv wv rv : Value) (Ls Ws Rs : List Value) (i : Nat) (τ : Nat → Nat) (s : Nat) : Prop where
  ol : w.ownsRow 0 TS 1 lv Ls.length Ls
  ow : w.ownsRow 0 TS 1 wv Ws.length Ws
  or : w.ownsRow 0 TS 1 rv Ws.length Rs
  tl : ∀ b, lv.ownBlock = some b → τ b = 10 + s
  tw : ∀ b, wv.ownBlock = some b → τ b = 12 + s
  tr : ∀ b, rv.ownBlock = some b → τ b = 14 + s
  ls : ∀ j v, Ls[j]? = some v → RdV w sz v (mk (j / 4)) ∧ ∀ b, v.ownBlock = some b → τ b = 16 + s
  lm : Ls.length % 4 = 0
  ws : ∀ k v r, i ≤ k → Ws[k]? = some v → Rs[k]? = some r → ∃ n xs, ok n xs ∧ OwT w sz v n xs ∧ OwT w sz r n xs ∧ (∀ b, v.ownBlock = some b → τ b = 100 + 2 * k + s) ∧ (∀ b, r.ownBlock = some b → τ b = 18 + s)
section
variable {w w' : World} {TS : TypeId} {sz : Nat} {ok : Nat → List Value → Prop} {mk : Nat → List Value} {lv wv rv : Value} {Ls Ws Rs : List Value} {i : Nat} {τ τ' : Nat → Nat} {s : Nat}
theorem Side.rl (h : Side w TS sz ok mk lv wv rv Ls Ws Rs i τ s) : Rs.length = Ws.length := by
  have := h.or.1
  omega
theorem Side.nil (w : World) (TS : TypeId) (sz : Nat) (ok : Nat → List Value → Prop) (mk : Nat → List Value) (τ : Nat → Nat) (s : Nat) : Side w TS sz ok mk (.slice none 0 0) (.slice none 0 0) (.slice none 0 0) [] [] [] 0 τ s :=
  ⟨World.ownsRow_nil _ _ _ _, World.ownsRow_nil _ _ _ _, World.ownsRow_nil _ _ _ _, fun b hb => (by cases hb), fun b hb => (by cases hb), fun b hb => (by cases hb), fun j v hj => (by simp at hj), rfl, fun k v r _ hk => (by simp at hk)⟩
theorem Side.keep {S : Nat → Prop} (h : Side w TS sz ok mk lv wv rv Ls Ws Rs i τ s) (hk : Keep S w w') (hs : ∀ b, Sd s i (τ b) → ¬ S b) : Side w' TS sz ok mk lv wv rv Ls Ws Rs i τ s where
  ol := own_keep h.ol hk (fun b hb => hs b (.inl (h.tl b hb)))
  ow := own_keep h.ow hk (fun b hb => hs b (.inr (.inl (h.tw b hb))))
  or := own_keep h.or hk (fun b hb => hs b (.inr (.inr (.inl (h.tr b hb)))))
  tl := h.tl
  tw := h.tw
  tr := h.tr
  ls := fun j v hj => ⟨(h.ls j v hj).1.keep hk (fun b hb => hs b (.inr (.inr (.inr (.inl ((h.ls j v hj).2 b hb)))))), (h.ls j v hj).2⟩
  lm := h.lm
  ws := fun k v r hik hv hr => by
    obtain ⟨n, xs, h1, h2, h3, h4, h5⟩ := h.ws k v r hik hv hr
    exact ⟨n, xs, h1, h2.keep hk (fun b hb => hs b (.inr (.inr (.inr (.inr (.inr ⟨k, hik, h4 b hb⟩)))))), h3.keep hk (fun b hb => hs b (.inr (.inr (.inr (.inr (.inl (h5 b hb))))))), h4, h5⟩
theorem Side.tau (h : Side w TS sz ok mk lv wv rv Ls Ws Rs i τ s) (ht : ∀ b, Sd s i (τ b) → τ' b = τ b) : Side w TS sz ok mk lv wv rv Ls Ws Rs i τ' s where
  ol := h.ol
  ow := h.ow
  or := h.or
  tl := fun b hb => (ht b (.inl (h.tl b hb))).trans (h.tl b hb)
  tw := fun b hb => (ht b (.inr (.inl (h.tw b hb)))).trans (h.tw b hb)
  tr := fun b hb => (ht b (.inr (.inr (.inl (h.tr b hb))))).trans (h.tr b hb)
  ls := fun j v hj => ⟨(h.ls j v hj).1, fun b hb => (ht b (.inr (.inr (.inr (.inl ((h.ls j v hj).2 b hb)))))).trans ((h.ls j v hj).2 b hb)⟩
  lm := h.lm
  ws := fun k v r hik hv hr => by
    obtain ⟨n, xs, h1, h2, h3, h4, h5⟩ := h.ws k v r hik hv hr
    exact ⟨n, xs, h1, h2, h3, fun b hb => (ht b (.inr (.inr (.inr (.inr (.inr ⟨k, hik, h4 b hb⟩)))))).trans (h4 b hb), fun b hb => (ht b (.inr (.inr (.inr (.inr (.inl (h5 b hb))))))).trans (h5 b hb)⟩
end
def tauC (τ : Nat → Nat) (s k : Nat) (wv' rv' v r : Value) : Nat → Nat := fun b => if v.ownBlock = some b then 100 + 2 * k + s else if wv'.ownBlock = some b then 12 + s else if rv'.ownBlock = some b then 14 + s else if r.ownBlock = some b then 18 + s else τ b
structure CameTo (w : World) (TS : TypeId) (sz W : Nat) (wv rv : Value) (Ws Rs : List Value) (v : Value) (n : Nat) (xs : List Value) (wv' rv' r : Value) (w' : World) : Prop where
  ow : w'.ownsRow 0 TS 1 wv' (Ws.length + 1) (Ws ++ [v])
  or : w'.ownsRow 0 TS 1 rv' (Ws.length + 1) (Rs ++ [r])
  cr : OwT w' sz r n xs
  kp : Keep (fun b => b = W ∨ wv.ownBlock = some b ∨ rv.ownBlock = some b) w w'
  nw : OwnNew w wv wv'
  nr : OwnNew w rv rv'
  rn : ∀ b, r.ownBlock = some b → w.heap.size ≤ b
  a1 : ∀ b, wv'.ownBlock = some b → ¬ rv'.ownBlock = some b
  a2 : ∀ b, wv'.ownBlock = some b → ¬ r.ownBlock = some b
  a3 : ∀ b, rv'.ownBlock = some b → ¬ r.ownBlock = some b
section
variable {w w' : World} {TS : TypeId} {sz W : Nat} {ok : Nat → List Value → Prop} {mk : Nat → List Value} {lv wv rv wv' rv' v r : Value} {Ls Ws Rs : List Value} {n : Nat} {xs : List Value} {τ : Nat → Nat} {s : Nat}
theorem CameTo.tag (h : CameTo w TS sz W wv rv Ws Rs v n xs wv' rv' r w') (tw : ∀ b, wv.ownBlock = some b → τ b = 12 + s) (tr : ∀ b, rv.ownBlock = some b → τ b = 14 + s) (h0 : ∀ b, τ b ≠ 0 → b < w.heap.size) (hv : ∀ b, v.ownBlock = some b → τ b = 0) (k : Nat) (b : Nat) (hb : τ b ≠ 0) (h2 : τ b ≠ 12 + s) (h3 : τ b ≠ 14 + s) : tauC τ s k wv' rv' v r b = τ b := by
  have hl := h0 b hb
  unfold tauC
  rw [if_neg (fun e => hb (hv b e)), if_neg, if_neg, if_neg (fun e => by have := h.rn b e; omega)]
  · intro e
    rcases h.nr with h1 | ⟨c, h1, h4⟩
    · exact h3 (tr b (h1.symm.trans e))
    · rw [h1] at e
      cases e
      omega
  · intro e
    rcases h.nw with h1 | ⟨c, h1, h4⟩
    · exact h2 (tw b (h1.symm.trans e))
    · rw [h1] at e
      cases e
      omega
theorem Side.came (hS : Side w TS sz ok mk lv wv rv Ls Ws Rs 0 τ s) (hs : s < 2) (h : CameTo w TS sz W wv rv Ws Rs v n xs wv' rv' r w') (h0 : ∀ b, τ b ≠ 0 → b < w.heap.size) (hv : ∀ b, v.ownBlock = some b → τ b = 0) (hvl : ∀ b, v.ownBlock = some b → b < w.heap.size ∧ ¬ b = W) (hok : ok n xs) (hvo : OwT w sz v n xs) (hW : τ W = 0) :
    Side w' TS sz ok mk lv wv' rv' Ls (Ws ++ [v]) (Rs ++ [r]) 0 (tauC τ s Ws.length wv' rv' v r) s := by
  have nz : ∀ b x, τ b = x → x ≠ 0 → ¬ b = W := fun b x hb hx e => by subst e; omega
  have tg := h.tag hS.tw hS.tr h0 hv Ws.length
  have kk : ∀ b, τ b ≠ 0 → τ b ≠ 12 + s → τ b ≠ 14 + s → ¬ (b = W ∨ wv.ownBlock = some b ∨ rv.ownBlock = some b) := fun b h1 h2 h3 hx => by
    rcases hx with hx | hx | hx
    · subst hx; exact h1 hW
    · exact h2 (hS.tw b hx)
    · exact h3 (hS.tr b hx)
  have hl := hS.rl
  refine ⟨own_keep hS.ol h.kp (fun b hb => kk b (by rw [hS.tl b hb]; omega) (by rw [hS.tl b hb]; omega) (by rw [hS.tl b hb]; omega)), ?_, ?_, fun b hb => (tg b (by rw [hS.tl b hb]; omega) (by rw [hS.tl b hb]; omega) (by rw [hS.tl b hb]; omega)).trans (hS.tl b hb), fun b hb => ?_, fun b hb => ?_, fun j u hj => ?_, hS.lm, fun k u q hik hu hq => ?_⟩
  · rw [List.length_append]; exact h.ow
  · rw [List.length_append]; exact h.or
  · unfold tauC
    rw [if_neg, if_pos hb]
    intro e
    rcases h.nw with h1 | ⟨c, h1, h4⟩
    · have := hv b e
      have := hS.tw b (h1.symm.trans hb)
      omega
    · rw [h1] at hb
      cases hb
      have := (hvl _ e).1
      omega
  · unfold tauC
    rw [if_neg, if_neg (fun e => h.a1 b e hb), if_pos hb]
    intro e
    rcases h.nr with h1 | ⟨c, h1, h4⟩
    · have := hv b e
      have := hS.tr b (h1.symm.trans hb)
      omega
    · rw [h1] at hb
      cases hb
      have := (hvl _ e).1
      omega
  · obtain ⟨h1, h2⟩ := hS.ls j u hj
    refine ⟨h1.keep h.kp (fun b hb => kk b (by rw [h2 b hb]; omega) (by rw [h2 b hb]; omega) (by rw [h2 b hb]; omega)), fun b hb => ?_⟩
    exact (tg b (by rw [h2 b hb]; omega) (by rw [h2 b hb]; omega) (by rw [h2 b hb]; omega)).trans (h2 b hb)
  · by_cases hk : k < Ws.length
    · rw [List.getElem?_append_left hk] at hu
      rw [List.getElem?_append_left (by omega)] at hq
      obtain ⟨m, ys, h1, h2, h3, h4, h5⟩ := hS.ws k u q hik hu hq
      refine ⟨m, ys, h1, h2.keep h.kp (fun b hb => kk b (by rw [h4 b hb]; omega) (by rw [h4 b hb]; omega) (by rw [h4 b hb]; omega)), h3.keep h.kp (fun b hb => kk b (by rw [h5 b hb]; omega) (by rw [h5 b hb]; omega) (by rw [h5 b hb]; omega)), fun b hb => ?_, fun b hb => ?_⟩
      · exact (tg b (by rw [h4 b hb]; omega) (by rw [h4 b hb]; omega) (by rw [h4 b hb]; omega)).trans (h4 b hb)
      · exact (tg b (by rw [h5 b hb]; omega) (by rw [h5 b hb]; omega) (by rw [h5 b hb]; omega)).trans (h5 b hb)
    · have hk2 : k = Ws.length := by
        have := (List.getElem?_eq_some_iff.1 hu).1
        rw [List.length_append, List.length_singleton] at this
        omega
      subst hk2
      obtain rfl : v = u := by simpa using hu
      obtain rfl : r = q := by rw [← hl] at hq; simpa using hq
      refine ⟨n, xs, hok, hvo.keep h.kp (fun b hb hx => ?_), h.cr, fun b hb => ?_, fun b hb => ?_⟩
      · have h1 := hv b hb
        rcases hx with hx | hx | hx
        · exact (hvl b hb).2 hx
        · have := hS.tw b hx; omega
        · have := hS.tr b hx; omega
      · unfold tauC
        rw [if_pos hb]
      · have hbn := h.rn b hb
        unfold tauC
        rw [if_neg (fun e => by have := (hvl b e).1; omega), if_neg (fun e => h.a2 b e hb), if_neg (fun e => h.a3 b e hb), if_pos hb]
theorem Side.came_other {TS2 : TypeId} {sz2 : Nat} {ok2 : Nat → List Value → Prop} {mk2 : Nat → List Value} {lv2 wv2 rv2 : Value} {Ls2 Ws2 Rs2 : List Value} {s2 : Nat} (h2 : Side w TS2 sz2 ok2 mk2 lv2 wv2 rv2 Ls2 Ws2 Rs2 0 τ s2) (hs : s < 2) (hs2 : s2 < 2) (hne : ¬ s = s2) (tw : ∀ b, wv.ownBlock = some b → τ b = 12 + s) (tr : ∀ b, rv.ownBlock = some b → τ b = 14 + s) (h : CameTo w TS sz W wv rv Ws Rs v n xs wv' rv' r w') (h0 : ∀ b, τ b ≠ 0 → b < w.heap.size) (hv : ∀ b, v.ownBlock = some b → τ b = 0) (hW : τ W = 0) (k : Nat) :
    Side w' TS2 sz2 ok2 mk2 lv2 wv2 rv2 Ls2 Ws2 Rs2 0 (tauC τ s k wv' rv' v r) s2 := by
  have sd : ∀ x, Sd s2 0 x → x ≠ 0 ∧ x ≠ 12 + s ∧ x ≠ 14 + s := by
    rintro x (rfl | rfl | rfl | rfl | rfl | ⟨k, _, rfl⟩) <;> omega
  refine (h2.keep h.kp (fun b hb hx => ?_)).tau (fun b hb => h.tag tw tr h0 hv k b (sd _ hb).1 (sd _ hb).2.1 (sd _ hb).2.2)
  obtain ⟨e1, e2, e3⟩ := sd _ hb
  rcases hx with hx | hx | hx
  · subst hx; exact e1 hW
  · exact e2 (tw b hx)
  · exact e3 (tr b hx)
theorem CameTo.tags (h : CameTo w TS sz W wv rv Ws Rs v n xs wv' rv' r w') (tw : ∀ b, wv.ownBlock = some b → τ b = 12 + s) (tr : ∀ b, rv.ownBlock = some b → τ b = 14 + s) (h0 : ∀ b, τ b ≠ 0 → b < w.heap.size) (hvl : ∀ b, v.ownBlock = some b → b < w.heap.size) (k : Nat) (b : Nat) (hb : tauC τ s k wv' rv' v r b ≠ 0) : (τ b ≠ 0 ∨ v.ownBlock = some b ∨ w.heap.size ≤ b) ∧ b < w'.heap.size := by
  have hz := h.kp.size
  unfold tauC at hb
  by_cases e1 : v.ownBlock = some b
  · have := hvl b e1
    exact ⟨.inr (.inl e1), by omega⟩
  · rw [if_neg e1] at hb
    by_cases e2 : wv'.ownBlock = some b
    · refine ⟨?_, (own_base h.ow e2).2⟩
      rcases h.nw with h1 | ⟨c, h1, h4⟩
      · exact .inl (by rw [tw b (h1.symm.trans e2)]; omega)
      · rw [h1] at e2; cases e2; exact .inr (.inr h4)
    · rw [if_neg e2] at hb
      by_cases e3 : rv'.ownBlock = some b
      · refine ⟨?_, (own_base h.or e3).2⟩
        rcases h.nr with h1 | ⟨c, h1, h4⟩
        · exact .inl (by rw [tr b (h1.symm.trans e3)]; omega)
        · rw [h1] at e3; cases e3; exact .inr (.inr h4)
      · rw [if_neg e3] at hb
        by_cases e4 : r.ownBlock = some b
        · exact ⟨.inr (.inr (h.rn b e4)), h.cr.lt e4⟩
        · rw [if_neg e4] at hb
          have := h0 b hb
          exact ⟨.inl hb, by omega⟩
end
end Go.Proofs.YtanndhoimpnhpaaGreatDoor
namespace Go.Proofs.YtanndhoimpnhpaaGreatDoor
open Go.RowKit
def tauM (τ : Nat → Nat) (s : Nat) (lv' l : Value) (n0 n1 : Nat) : Nat → Nat := fun b => if lv'.ownBlock = some b then 10 + s else if l.ownBlock = some b ∨ (n0 ≤ b ∧ b < n1) then 16 + s else τ b
structure MarkTo (w : World) (TS : TypeId) (sz W : Nat) (c : List Value) (lv : Value) (Ls : List Value) (l lv' x y z : Value) (w' : World) : Prop where
  ol : w'.ownsRow 0 TS 1 lv' (Ls.length + 4) (Ls ++ [l, x, y, z])
  us : ∀ u ∈ [l, x, y, z], RdV w' sz u c ∧ ∀ b, u.ownBlock = some b → (l.ownBlock = some b ∨ w.heap.size ≤ b) ∧ b < w'.heap.size ∧ ¬ lv'.ownBlock = some b
  kp : Keep (fun b => b = W ∨ lv.ownBlock = some b ∨ l.ownBlock = some b) w w'
  nl : OwnNew w lv lv'
section
variable {w w' : World} {TS : TypeId} {sz W : Nat} {ok : Nat → List Value → Prop} {mk : Nat → List Value} {lv wv rv lv' l x y z : Value} {Ls Ws Rs c : List Value} {i : Nat} {τ : Nat → Nat} {s : Nat}
theorem MarkTo.tag (h : MarkTo w TS sz W c lv Ls l lv' x y z w') (tl : ∀ b, lv.ownBlock = some b → τ b = 10 + s) (h0 : ∀ b, τ b ≠ 0 → b < w.heap.size) (hl : ∀ b, l.ownBlock = some b → τ b = 100 + 2 * i + s) (b : Nat) (hb : τ b ≠ 0) (h2 : τ b ≠ 10 + s) (h3 : τ b ≠ 100 + 2 * i + s) : tauM τ s lv' l w.heap.size w'.heap.size b = τ b := by
  have hlt := h0 b hb
  unfold tauM
  rw [if_neg, if_neg]
  · rintro (e | e)
    · exact h3 (hl b e)
    · omega
  · intro e
    rcases h.nl with h1 | ⟨d, h1, h4⟩
    · exact h2 (tl b (h1.symm.trans e))
    · rw [h1] at e
      cases e
      omega
theorem Side.mark (hS : Side w TS sz ok mk lv wv rv Ls Ws Rs i τ s) (hs : s < 2) (h : MarkTo w TS sz W c lv Ls l lv' x y z w') (hi : Ws[i]? = some l) (hc : c = mk (Ls.length / 4)) (h0 : ∀ b, τ b ≠ 0 → b < w.heap.size) (hW : τ W = 0) :
    Side w' TS sz ok mk lv' wv rv (Ls ++ [l, x, y, z]) Ws Rs (i + 1) (tauM τ s lv' l w.heap.size w'.heap.size) s := by
  subst hc
  have hil := (List.getElem?_eq_some_iff.1 hi).1
  obtain ⟨r, hr⟩ : ∃ r, Rs[i]? = some r := ⟨_, List.getElem?_eq_getElem (by rw [hS.rl]; exact hil)⟩
  obtain ⟨_, _, _, _, _, hl, _⟩ := hS.ws i l r (Nat.le_refl _) hi hr
  have tg := h.tag (i := i) hS.tl h0 hl
  have kk : ∀ b, τ b ≠ 0 → τ b ≠ 10 + s → τ b ≠ 100 + 2 * i + s → ¬ (b = W ∨ lv.ownBlock = some b ∨ l.ownBlock = some b) := fun b h1 h2 h3 hx => by
    rcases hx with hx | hx | hx
    · subst hx; exact h1 hW
    · exact h2 (hS.tl b hx)
    · exact h3 (hl b hx)
  have t4 : ∀ u ∈ [l, x, y, z], ∀ b, u.ownBlock = some b → tauM τ s lv' l w.heap.size w'.heap.size b = 16 + s := fun u hu b hb => by
    obtain ⟨h1, h2, h3⟩ := (h.us u hu).2 b hb
    unfold tauM
    rw [if_neg h3, if_pos]
    rcases h1 with h1 | h1
    · exact .inl h1
    · exact .inr ⟨h1, h2⟩
  refine ⟨?_, own_keep hS.ow h.kp (fun b hb => kk b (by rw [hS.tw b hb]; omega) (by rw [hS.tw b hb]; omega) (by rw [hS.tw b hb]; omega)), own_keep hS.or h.kp (fun b hb => kk b (by rw [hS.tr b hb]; omega) (by rw [hS.tr b hb]; omega) (by rw [hS.tr b hb]; omega)), fun b hb => ?_, fun b hb => ?_, fun b hb => ?_, fun j u hj => ?_, ?_, fun k u q hik hu hq => ?_⟩
  · rw [List.length_append]; exact h.ol
  · unfold tauM
    rw [if_pos hb]
  · exact (tg b (by rw [hS.tw b hb]; omega) (by rw [hS.tw b hb]; omega) (by rw [hS.tw b hb]; omega)).trans (hS.tw b hb)
  · exact (tg b (by rw [hS.tr b hb]; omega) (by rw [hS.tr b hb]; omega) (by rw [hS.tr b hb]; omega)).trans (hS.tr b hb)
  · by_cases hj2 : j < Ls.length
    · rw [List.getElem?_append_left hj2] at hj
      obtain ⟨h1, h2⟩ := hS.ls j u hj
      exact ⟨h1.keep h.kp (fun b hb => kk b (by rw [h2 b hb]; omega) (by rw [h2 b hb]; omega) (by rw [h2 b hb]; omega)), fun b hb => (tg b (by rw [h2 b hb]; omega) (by rw [h2 b hb]; omega) (by rw [h2 b hb]; omega)).trans (h2 b hb)⟩
    · rw [List.getElem?_append_right (by omega)] at hj
      have hm := List.mem_of_getElem? hj
      have hj4 : j - Ls.length < 4 := by have := (List.getElem?_eq_some_iff.1 hj).1; simpa using this
      have hd : j / 4 = Ls.length / 4 := by have := hS.lm; omega
      rw [hd]
      exact ⟨(h.us u hm).1, t4 u hm⟩
  · rw [List.length_append]
    have := hS.lm
    simp only [List.length_cons, List.length_nil]
    omega
  · obtain ⟨n, xs, h1, h2, h3, h4, h5⟩ := hS.ws k u q (by omega) hu hq
    exact ⟨n, xs, h1, h2.keep h.kp (fun b hb => kk b (by rw [h4 b hb]; omega) (by rw [h4 b hb]; omega) (by rw [h4 b hb]; omega)), h3.keep h.kp (fun b hb => kk b (by rw [h5 b hb]; omega) (by rw [h5 b hb]; omega) (by rw [h5 b hb]; omega)), fun b hb => (tg b (by rw [h4 b hb]; omega) (by rw [h4 b hb]; omega) (by rw [h4 b hb]; omega)).trans (h4 b hb), fun b hb => (tg b (by rw [h5 b hb]; omega) (by rw [h5 b hb]; omega) (by rw [h5 b hb]; omega)).trans (h5 b hb)⟩
theorem Side.mark_other {TS2 : TypeId} {sz2 : Nat} {ok2 : Nat → List Value → Prop} {mk2 : Nat → List Value} {lv2 wv2 rv2 : Value} {Ls2 Ws2 Rs2 : List Value} {s2 i2 : Nat} (h2 : Side w TS2 sz2 ok2 mk2 lv2 wv2 rv2 Ls2 Ws2 Rs2 i2 τ s2) (hs : s < 2) (hs2 : s2 < 2) (hne : ¬ s = s2) (tl : ∀ b, lv.ownBlock = some b → τ b = 10 + s) (hl : ∀ b, l.ownBlock = some b → τ b = 100 + 2 * i + s) (h : MarkTo w TS sz W c lv Ls l lv' x y z w') (h0 : ∀ b, τ b ≠ 0 → b < w.heap.size) (hW : τ W = 0) :
    Side w' TS2 sz2 ok2 mk2 lv2 wv2 rv2 Ls2 Ws2 Rs2 i2 (tauM τ s lv' l w.heap.size w'.heap.size) s2 := by
  have sd : ∀ q, Sd s2 i2 q → q ≠ 0 ∧ q ≠ 10 + s ∧ q ≠ 100 + 2 * i + s := by
    rintro q (rfl | rfl | rfl | rfl | rfl | ⟨k, _, rfl⟩) <;> omega
  refine (h2.keep h.kp (fun b hb hx => ?_)).tau (fun b hb => h.tag tl h0 hl b (sd _ hb).1 (sd _ hb).2.1 (sd _ hb).2.2)
  obtain ⟨e1, e2, e3⟩ := sd _ hb
  rcases hx with hx | hx | hx
  · subst hx; exact e1 hW
  · exact e2 (tl b hx)
  · exact e3 (hl b hx)
theorem MarkTo.tags (h : MarkTo w TS sz W c lv Ls l lv' x y z w') (tl : ∀ b, lv.ownBlock = some b → τ b = 10 + s) (h0 : ∀ b, τ b ≠ 0 → b < w.heap.size) (hl : ∀ b, l.ownBlock = some b → τ b = 100 + 2 * i + s) (b : Nat) (hb : tauM τ s lv' l w.heap.size w'.heap.size b ≠ 0) : (τ b ≠ 0 ∨ w.heap.size ≤ b) ∧ b < w'.heap.size := by
  have hz := h.kp.size
  unfold tauM at hb
  by_cases e1 : lv'.ownBlock = some b
  · refine ⟨?_, (own_base h.ol e1).2⟩
    rcases h.nl with h1 | ⟨d, h1, h4⟩
    · exact .inl (by rw [tl b (h1.symm.trans e1)]; omega)
    · rw [h1] at e1; cases e1; exact .inr h4
  · rw [if_neg e1] at hb
    by_cases e2 : l.ownBlock = some b ∨ (w.heap.size ≤ b ∧ b < w'.heap.size)
    · rcases e2 with e2 | e2
      · have h1 : τ b ≠ 0 := by rw [hl b e2]; omega
        have := h0 b h1
        exact ⟨.inl h1, by omega⟩
      · exact ⟨.inr e2.1, e2.2⟩
    · rw [if_neg e2] at hb
      have := h0 b hb
      exact ⟨.inl hb, by omega⟩
theorem MarkTo.not (h : MarkTo w TS sz W c lv Ls l lv' x y z w') (tl : ∀ b, lv.ownBlock = some b → τ b = 10 + s) (h0 : ∀ b, τ b ≠ 0 → b < w.heap.size) (hl : ∀ b, l.ownBlock = some b → τ b = 100 + 2 * i + s) (b : Nat) (hb : b < w.heap.size) (hz : τ b = 0) : tauM τ s lv' l w.heap.size w'.heap.size b = 0 := by
  rcases Nat.eq_zero_or_pos (tauM τ s lv' l w.heap.size w'.heap.size b) with h1 | h1
  · exact h1
  · rcases (h.tags tl h0 hl b (by omega)).1 with h2 | h2
    · exact absurd hz h2
    · omega
theorem Side.done (hS : Side w TS sz ok mk lv wv rv Ls Ws Rs Ws.length τ s) : Side w TS sz ok mk lv (.slice none 0 0) (.slice none 0 0) Ls [] [] 0 τ s :=
  ⟨hS.ol, World.ownsRow_nil _ _ _ _, World.ownsRow_nil _ _ _ _, hS.tl, fun b hb => (by cases hb), fun b hb => (by cases hb), hS.ls, hS.lm, fun k v r _ hk => (by simp at hk)⟩
end
end Go.Proofs.YtanndhoimpnhpaaGreatDoor
namespace Go.Proofs.YtanndhoimpnhpaaGreatDoor
open Go.RowKit
theorem run_append_copy {P : Program} (w : World) (t ty e : TypeId) (i : TypeInfo) (z : Value) (size bytes : Nat) (ht : P.underlying t = some (.slice e)) (hi : P.info? e = some i) (hz : i.zero = some z)
    (hsize : i.size = size) (hby : i.bytes = bytes) (hzs : z.cells.size = size) (hsz : 0 < size)
    (v : Value) (n : Nat) (xs : List Value) (hown : OwT w size v n xs) (h1 : ∀ u ∈ xs, u.oneCell' = true) (h63 : n ≤ maxLen) (hbytes : n * bytes ≤ 140737488355328) :
    ∃ v' w', (Builtin.append_ #[t, t] ty #[.slice none 0 0, v]).run P w = .ok v' w' ∧ OwT w' size v' n xs ∧ Below w.heap.size w w' ∧ ∀ b, v'.ownBlock = some b → b = w.heap.size := by
  obtain ⟨T, hown⟩ := hown
  rcases hown.2 with ⟨rfl, rfl⟩ | ⟨g, cap, cur, rfl, hbg, hg, hnc, hcm, hcs, htake⟩
  · have hx : xs = [] := List.eq_nil_of_length_eq_zero (by simpa using hown.1)
    subst hx
    refine ⟨.slice none 0 0, w, ?_, ⟨e, World.ownsRow_nil w 0 e size⟩, Below.refl _ _, fun b hb => (by cases hb)⟩
    simp [Builtin.append_, run_underlying ht, sizeOf, typeInfo, hi, Builtin.lenOf, Builtin.firstCells]
  · have holds : ∀ j u, xs[j]? = some u → w.cell? ((⟨g, 0, none⟩ : Addr).add j) = some u := hown.cells (g := g) rfl
    obtain ⟨v', w', hr, h2, h3, _, h5⟩ := run_append_own_at (P := P) w 0 t ty e i z size bytes ht hi hz hsize hby hzs hsz (.slice none 0 0) 0 [] (World.ownsRow_nil w 0 e size) ⟨g, 0, none⟩ n cap xs hown.1 holds h1 (by omega) (by rw [Nat.zero_add]; exact hbytes) (Nat.zero_le _)
    rw [Nat.zero_add, List.nil_append] at h2
    refine ⟨v', w', hr, ⟨e, h2⟩, ⟨h3.os, h3.tape, h3.output, h3.size, fun k hk => h3.block k hk (fun x => by cases x)⟩, fun b hb => ?_⟩
    rcases h5 with h5 | h5
    · rw [h5] at hb; cases hb
    · rw [h5] at hb; cases hb; rfl
theorem wp_append_copy {Pr : Program} {o : Oper} {a : Act} (w : World) {K : Act → World → Prop} {Q : Exit → Act → World → Prop} (s x : Operand) (t : TypeId)
    (ho : o.op = .call { callee := .builtin .append, args := #[s, x], argTypes := #[t, t] })
    (e : TypeId) (i : TypeInfo) (z : Value) (size bytes : Nat) (ht : Pr.underlying t = some (.slice e)) (hi : Pr.info? e = some i) (hz : i.zero = some z)
    (hsize : i.size = size) (hby : i.bytes = bytes) (hzs : z.cells.size = size) (hsz : 0 < size)
    (v : Value) (n : Nat) (xs : List Value) (hs : a.eval s = .slice none 0 0) (hx : a.eval x = v) (hown : OwT w size v n xs) (h1 : ∀ u ∈ xs, u.oneCell' = true)
    (h63 : n ≤ maxLen) (hbytes : n * bytes ≤ 140737488355328)
    (h : ∀ v' w', OwT w' size v' n xs → Below w.heap.size w w' → (∀ b, v'.ownBlock = some b → b = w.heap.size) → K (a.put o.dst v') w') : o.wp Pr a w K Q := by
  obtain ⟨v', w', hr, h2, h3, h4⟩ := run_append_copy (P := Pr) w t o.type e i z size bytes ht hi hz hsize hby hzs hsz v n xs hown h1 h63 hbytes
  unfold Oper.wp execOp
  simp only [ho, resolve, invoke, builtin, Sem.run_bind, Sem.run_pure, Result.andThen_ok, List.map_toArray, List.map_cons, List.map_nil, hs, hx, hr]
  exact h v' w' h2 h3 h4
structure RowTo (w : World) (TS : TypeId) (W : Nat) (lv : Value) (Ls : List Value) (v lv' : Value) (w' : World) : Prop where
  ol : w'.ownsRow 0 TS 1 lv' (Ls.length + 1) (Ls ++ [v])
  kp : Keep (fun b => b = W ∨ lv.ownBlock = some b) w w'
  nl : OwnNew w lv lv'
theorem row_to {w V w1 : World} {TS : TypeId} {W : Nat} {lv : Value} {Ls : List Value} {v lv' : Value} (hV : Below w.heap.size w V) (ha : ∀ b, lv.ownBlock = some b → ¬ b = W) (hW : W < w.heap.size) (ho : w1.ownsRow 0 TS 1 lv' (Ls.length + 1) (Ls ++ [v])) (hg : V.grownBy w1 lv.ownBlock) (hat : lv'.ownBlock = lv.ownBlock ∨ lv'.ownBlock = some V.heap.size) (j : Nat) (q : Value) : RowTo w TS W lv Ls v lv' (w1.setCell ⟨W, j, none⟩ q) := by
  have kg : Keep (fun b => lv.ownBlock = some b) V w1 := ⟨hg.os, hg.tape, hg.output, hg.size, fun b hb hs => hg.block b hb (fun e => hs e.symm)⟩
  have kq : Keep (fun b => b = W) w1 (w1.setCell ⟨W, j, none⟩ q) := (Keep.refl _ _).set (S := fun b => b = W) rfl j q
  have hz := hV.size
  refine ⟨own_keep ho kq (fun b hb => ?_), ?_, ?_⟩
  · rcases hat with e | e
    · exact ha b (e.symm.trans hb)
    · rw [e] at hb; cases hb; omega
  · exact ((Keep.below hV).trans (kg.mono (fun b _ hb => .inr hb))).trans (kq.mono (fun b _ hb => .inl hb))
  · rcases hat with e | e
    · exact .inl e
    · exact .inr ⟨_, e, hz⟩
theorem came_make {w w2 w3 w5 : World} {TS : TypeId} {sz W : Nat} {wv rv : Value} {Ws Rs : List Value} {v : Value} {n : Nat} {xs : List Value} {wv' rv' r : Value} (hl : Rs.length = Ws.length) (hW : W < w.heap.size) (how : w.ownsRow 0 TS 1 wv Ws.length Ws) (hor : w.ownsRow 0 TS 1 rv Ws.length Rs) (a1 : ∀ b, wv.ownBlock = some b → ¬ b = W ∧ ¬ rv.ownBlock = some b)
    (h1 : RowTo w TS W wv Ws v wv' w2) (h2 : Below w2.heap.size w2 w3) (hr : OwT w3 sz r n xs) (hrb : ∀ b, r.ownBlock = some b → w2.heap.size ≤ b) (h3 : RowTo w3 TS W rv Rs r rv' w5) : CameTo w TS sz W wv rv Ws Rs v n xs wv' rv' r w5 := by
  have z1 := h1.kp.size
  have z2 := h2.size
  have z3 := h3.kp.size
  have lw : ∀ b, wv.ownBlock = some b → b < w.heap.size := fun b hb => (own_base how hb).2
  have lr : ∀ b, rv.ownBlock = some b → b < w.heap.size := fun b hb => (own_base hor hb).2
  have lw' : ∀ b, wv'.ownBlock = some b → b < w2.heap.size := fun b hb => (own_base h1.ol hb).2
  have e1 : ∀ b, wv'.ownBlock = some b → ¬ b = W ∧ ¬ rv.ownBlock = some b := fun b hb => by
    rcases h1.nl with e | ⟨c, e, hc⟩
    · exact a1 b (e.symm.trans hb)
    · rw [e] at hb
      cases hb
      exact ⟨by omega, fun x => by have := lr _ x; omega⟩
  have lr' : ∀ b, rv'.ownBlock = some b → rv.ownBlock = some b ∨ w3.heap.size ≤ b := fun b hb => by
    rcases h3.nl with e | ⟨c, e, hc⟩
    · exact .inl (e.symm.trans hb)
    · rw [e] at hb; cases hb; exact .inr hc
  refine ⟨own_keep (own_keep (S := fun _ => False) h1.ol (Keep.below h2) (fun _ _ x => x)) h3.kp (fun b hb hx => ?_), by rw [← hl]; exact h3.ol, hr.keep h3.kp (fun b hb hx => ?_), ?_, h1.nl, ?_, fun b hb => by have := hrb b hb; omega, fun b hb hx => ?_, fun b hb hx => ?_, fun b hb hx => ?_⟩
  · rcases hx with hx | hx
    · exact (e1 b hb).1 hx
    · exact (e1 b hb).2 hx
  · have := hrb b hb
    rcases hx with hx | hx
    · omega
    · have := lr b hx; omega
  · refine ((h1.kp.mono (fun b _ hb => ?_)).trans (Keep.below h2)).trans (h3.kp.mono (fun b _ hb => ?_))
    · rcases hb with hb | hb
      · exact .inl hb
      · exact .inr (.inl hb)
    · rcases hb with hb | hb
      · exact .inl hb
      · exact .inr (.inr hb)
  · rcases h3.nl with e | ⟨c, e, hc⟩
    · exact .inl e
    · exact .inr ⟨c, e, by omega⟩
  · rcases lr' b hx with h | h
    · exact (e1 b hb).2 h
    · have := lw' b hb; omega
  · have := hrb b hx
    have := lw' b hb
    omega
  · have h5 := hr.lt hx
    rcases lr' b hb with h | h
    · have := lr b h
      have := hrb b hx
      omega
    · omega
end Go.Proofs.YtanndhoimpnhpaaGreatDoor
namespace Go.Proofs.YtanndhoimpnhpaaGreatDoor
open Go.RowKit
def isl (zs : List Int) : List Value := zs.map (Value.int .i64)
def okI (n : Nat) (xs : List Value) : Prop := n ≤ 4000000000000 ∧ ∃ zs : List Int, zs.length = n ∧ xs = isl zs
def okE (n : Nat) (xs : List Value) : Prop := n ≤ 4000000000000 ∧ ∃ L : List En, L.length = n ∧ xs = ens L
def mkI (j : Nat) : List Value := [.int .i64 (-7 - j)]
def mkE (j : Nat) : List Value := [.int .i64 0, .int .i64 (-7 - j), .int .i64 0]
end Go.Proofs.YtanndhoimpnhpaaGreatDoor
