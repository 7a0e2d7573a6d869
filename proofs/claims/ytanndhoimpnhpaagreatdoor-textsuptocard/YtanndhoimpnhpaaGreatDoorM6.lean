/- Joined by program: TxU, TxV, TxW, Mp. -/
import Derived.Test.YtanndhoimpnhpaaGreatDoorM5
import Derived.Test.YtanndhoimpnhpaaGreatDoorM3
import Derived.Lib.AppendIntMem
import Derived.Lib.ConvBytes
import Derived.Test.YtanndhoimpnhpaaGreatDoorM1
import Derived.Deep.RegionHeld3
import Derived.Test.YtanndhoimpnhpaaGreatDoorProg
import Derived.WalkKit
import Derived.Maps.OwnOps
import Derived.Maps.Views
import Derived.DeepKeys4
import Derived.WideKeyEntry
namespace Go.Proofs.YtanndhoimpnhpaaGreatDoor
open Go.ChangeShapes Go.WideShapes Go.ChangeAt Go.RowKit Lg Cal Txt
structure Gl (w : World) : Prop where
  mx : ∃ m, w.cell? ⟨4, 0, none⟩ = some (.int .i64 m)
  tb : Lib.TabIs Tryz.prog w "internal/strconv.uint64pow10" .u64 Lib.pow10Tab
  es : ∃ tp p, w.var? Tryz.prog "strconv.ErrSyntax" = some #[.iface tp p]
  er : ∃ tp p, w.var? Tryz.prog "strconv.ErrRange" = some #[.iface tp p]
theorem var_below {w w' : World} {name : String} {x : Array Value} (h : w.var? Tryz.prog name = some x) (hb : Below w.heap.size w w') : w'.var? Tryz.prog name = some x := by
  unfold World.var? at *
  cases hg : Tryz.prog.globalNamed name with
  | none => simp [hg] at h
  | some g =>
    simp only [hg, Option.bind_some] at h ⊢
    have hlt : g < w.heap.size := by
      rcases Nat.lt_or_ge g w.heap.size with h' | h'
      · exact h'
      · rw [Array.getElem?_eq_none h'] at h; simp at h
    rw [hb.block g hlt]
    exact h
theorem Gl.below {w w' : World} (h : Gl w) (hb : Below w.heap.size w w') : Gl w' := by
  obtain ⟨m, hm⟩ := h.mx
  obtain ⟨t1, p1, h1⟩ := h.es
  obtain ⟨t2, p2, h2⟩ := h.er
  exact ⟨⟨m, (hb.cell (World.block_lt_of_cell? w _ hm)).trans hm⟩, Lib.tabBelow_of_tabIs h.tb w' hb, ⟨t1, p1, var_below h1 hb⟩, ⟨t2, p2, var_below h2 hb⟩⟩
def IsS (w : World) (v : Value) (P : List (List UInt8)) : Prop :=
  ∃ p cap, v = .slice p P.length cap ∧ P.length ≤ cap ∧ ∀ k (hk : k < P.length), ∃ b o, p = some ⟨b, o, none⟩ ∧ b < w.heap.size ∧ w.cell? ⟨b, o + k, none⟩ = some (.string (bs P[k]))
theorem atoi_any (w : World) (p : List UInt8) (hp : p.length ≤ 281474976710656) (hg : Gl w) :
    Calls Tryz.prog 129 #[.string (bs p)] w fun e w' => Below w.heap.size w w' ∧ ((∃ z, Lib.atoiAll p = .ok z ∧ e = .returned (.tuple #[.int .i64 z, .nilIface])) ∨ ((∀ n, InR n → ¬ p = Lib.itoa n) ∧ ∃ z t q, e = .returned (.tuple #[.int .i64 z, .iface t (.pointer q)]))) := by
  have hno : (∀ z, ¬ Lib.atoiAll p = .ok z) → ∀ n, InR n → ¬ p = Lib.itoa n := fun h n hn e => h n (by rw [e]; exact atoi_itoa n hn)
  cases hc : Lib.atoiAll p with
  | ok z =>
    refine (Tryz.strconv_Atoi_ok (bs p) (by rw [bs_size]; omega) z (by rw [bs_list]; exact hc) w).mono ?_
    rintro e w' ⟨rfl, hw⟩
    refine ⟨?_, .inl ⟨z, rfl, rfl⟩⟩
    rcases hw with rfl | ⟨t, rfl⟩
    · exact Below.refl _ _
    · exact ⟨rfl, rfl, rfl, by rw [Lib.bytesWorld_size]; omega, fun j hj => Lib.bytesWorld_at_old w 5 t j hj⟩
  | «syntax» =>
    obtain ⟨t1, p1, h1⟩ := hg.es
    refine (Tryz.strconv_Atoi_syntax_var (bs p) (by rw [bs_size]; omega) (by rw [bs_list]; exact hc) t1 p1 w h1).mono ?_
    rintro e w' ⟨N, rfl, _, _, hb⟩
    exact ⟨hb, .inr ⟨hno (fun z h => by rw [hc] at h; cases h), _, _, _, rfl⟩⟩
  | range =>
    obtain ⟨t1, p1, h1⟩ := hg.er
    refine (Tryz.strconv_Atoi_range_var (bs p) (by rw [bs_size]; omega) (by rw [bs_list]; exact hc) t1 p1 w h1).mono ?_
    rintro e w' ⟨N, rfl, _, _, hb⟩
    exact ⟨hb, .inr ⟨hno (fun z h => by rw [hc] at h; cases h), _, _, _, rfl⟩⟩
theorem itoa_any (w : World) (z : Int) (hz : InR z) (hg : Gl w) :
    Calls Tryz.prog 130 #[.int .i64 z] w fun e w' => e = .returned (.string (bs (Lib.itoa z))) ∧ Below w.heap.size w w' := by
  refine (Tryz.strconv_Itoa z hz.1 hz.2 w hg.tb).mono ?_
  rintro e w' ⟨rfl, k, os, rfl⟩
  exact ⟨rfl, Lib.below_grow _ w (Nat.le_refl _) k os⟩
def NumsPost (w : World) (P : List (List UInt8)) (e : Ending) (w' : World) : Prop :=
  Below w.heap.size w w' ∧ ((∃ ns N, Says P ns ∧ e = .returned (.tuple #[.slice (some ⟨N, 0, none⟩) ns.length ns.length, .bool true]) ∧ w.heap.size ≤ N ∧ At w' N (hc ns.length (fun j => ns.getD j 0))) ∨ ((¬ ∃ ns, Says P ns) ∧ ∃ v, e = .returned (.tuple #[v, .bool false])))
set_option maxRecDepth 10000 in
set_option maxHeartbeats 4000000 in
theorem rnums_any (w : World) (v : Value) (P : List (List UInt8)) (hv : IsS w v P) (hn : P.length ≤ 1000) (hp : ∀ p ∈ P, p.length ≤ 281474976710656) (hg : Gl w) :
    Calls Tryz.prog 103 #[v] w (NumsPost w P) := by
  obtain ⟨pv, cap, rfl, hcap, hcell⟩ := hv
  have HCell : Hid (∀ wx, Below w.heap.size w wx → ∀ k (hk : k < P.length), ∃ b o, pv = some ⟨b, o, none⟩ ∧ wx.cell? ⟨b, o + k, none⟩ = some (.string (bs P[k]))) := fun wx hx k hk => by
    obtain ⟨b, o, h1, h2, h3⟩ := hcell k hk
    exact ⟨b, o, h1, (World.cell?_of_block (w := w) (a := ⟨b, o + k, none⟩) (hx.block b h2)).trans h3⟩
  have HPl : Hid (∀ p ∈ P, p.length ≤ 281474976710656) := hp
  have HG : Hid (∀ wx, Below w.heap.size w wx → Gl wx) := fun wx hx => hg.below hx
  have hmk := dmake w P.length (by omega)
  have b1 : Below w.heap.size w (w.alloc (.cells (hc P.length (fun _ => 0)).toArray 3)) := (Below.refl _ _).alloc (Nat.le_refl _) _
  have a1 : At (w.alloc (.cells (hc P.length (fun _ => 0)).toArray 3)) w.heap.size (hc P.length (fun _ => 0)) := At.alloc w _ _
  have HBad : Hid (∀ k (hk : k < P.length) wx, Below w.heap.size w wx → (∀ n, InR n → ¬ P[k] = Lib.itoa n) → NumsPost w P (.returned (.tuple #[.slice none 0 0, .bool false])) wx) := fun k hk wx hx hno => by
    refine ⟨hx, .inr ⟨fun ⟨ms, hm⟩ => ?_, _, rfl⟩⟩
    have e1 : k < ms.length := by have := congrArg List.length hm.1; rw [List.length_map] at this; omega
    refine hno ms[k] (hm.2 _ (List.getElem_mem e1)) ?_
    have e2 : P[k]? = (ms.map Lib.itoa)[k]? := congrArg (fun l : List (List UInt8) => l[k]?) hm.1
    rw [List.getElem?_eq_getElem hk, List.getElem?_map, List.getElem?_eq_getElem e1] at e2
    exact Option.some.inj e2
  clear hcell hp hg
  go_enter Tryz.func103, Tryz.ntmps103
  go_wp2
  have HB1 : Hid (Below w.heap.size w (w.alloc (.cells (hc P.length (fun _ => 0)).toArray 3))) := b1
  have HA1 : Hid (At (w.alloc (.cells (hc P.length (fun _ => 0)).toArray 3)) w.heap.size (hc P.length (fun _ => 0))) := a1
  clear hmk b1 a1
  obtain ⟨N, hN⟩ : ∃ N, N = w.heap.size := ⟨_, rfl⟩
  have HN : Hid (N = w.heap.size) := hN
  rw [← hN]
  clear hN
  go_loopw [5, 6, 7, 8, 14] (fun _ _ _ _ s14 wr => ∃ (k : Nat) (ns : List Int), k ≤ P.length ∧ s14 = .int .i64 k ∧ Says (P.take k) ns ∧ ns.length = k ∧ At wr N (hc P.length (fun j => ns.getD j 0)) ∧ Below w.heap.size w wr) (fun _ _ _ _ s14 _ => P.length - (intOf s14).toNat)
  case atStart => exact ⟨0, [], Nat.zero_le _, rfl, ⟨rfl, fun n hn => absurd hn List.not_mem_nil⟩, rfl, by rw [HN.out]; exact HA1.out, HB1.out⟩
  case round =>
    clear HB1 HA1
    obtain ⟨k, ns, hk, rfl, hsay, hnl, hA, hb⟩ := hrel
    have HSay : Hid (Says (P.take k) ns) := hsay
    have HNl : Hid (ns.length = k) := hnl
    have HA : Hid (At wr N (hc P.length (fun j => ns.getD j 0))) := hA
    have HB : Hid (Below w.heap.size w wr) := hb
    clear hsay hnl hA hb
    by_cases hlt : k < P.length
    · have zk : (k : Int) < (P.length : Int) := by omega
      obtain ⟨b, o, rfl, hcl⟩ := HCell.out wr HB.out k hlt
      have hAt := atoi_any wr P[k] (HPl.out _ (List.getElem_mem hlt)) (HG.out _ HB.out)
      have HBd := HBad.out k hlt
      have HBd2 : Hid (∀ wx, Below w.heap.size w wx → (∀ n, InR n → ¬ P[k] = Lib.itoa n) → NumsPost w P (.returned (.tuple #[.slice none 0 0, .bool false])) wx) := HBd
      have HTk : Hid (P.take (k + 1) = P.take k ++ [P[k]]) := List.take_succ_eq_append_getElem hlt
      clear HBd
      generalize P[k] = pc at *
      go_wp2_with fail
      refine hAt.mono ?_
      rintro e w1 ⟨hb1, hx⟩
      clear hAt hcl
      have HB2 : Hid (Below w.heap.size w w1) := HB.out.trans (hb1.mono HB.out.size)
      have HA2 : Hid (At w1 N (hc P.length (fun j => ns.getD j 0))) := HA.out.block (hb1.block N (by
        have h1 := HA.out k (.int .i64 (ns.getD k 0)) (hc_at _ _ k hlt)
        exact World.block_lt_of_cell? _ _ h1.1))
      clear hb1
      rcases hx with ⟨z, hz, rfl⟩ | ⟨hno, z, tt, q, rfl⟩
      · have hIn : InR z := Lib.atoiAll_bounds hz
        have hIt := itoa_any w1 z hIn (HG.out _ HB2.out)
        have HZ : Hid (Lib.atoiAll pc = .ok z) := hz
        have HIn : Hid (InR z) := hIn
        clear hz hIn
        by_cases heq : Lib.itoa z = pc
        · have hq : ((bs (Lib.itoa z)).toList == (bs pc).toList) = true := by rw [ba_beq, heq]; simp
          have hq2 : ((bs (Lib.itoa z)).toList != (bs pc).toList) = false := by rw [bne, hq]; rfl
          have HEq : Hid (Lib.itoa z = pc) := heq
          clear heq
          generalize bs (Lib.itoa z) = Sz at *
          generalize bs pc = Sp at *
          go_wp2_with fail
          refine hIt.mono ?_
          rintro e w3 ⟨rfl, hb3⟩
          have hNl3 : N < w1.heap.size := by
            have h1 := HA2.out k (.int .i64 (ns.getD k 0)) (hc_at _ _ k hlt)
            exact World.block_lt_of_cell? _ _ h1.1
          have hA3 : At w3 N (hc P.length (fun j => ns.getD j 0)) := HA2.out.block (hb3.block N hNl3)
          have c3 : w3.cell? ⟨N, k, none⟩ = some (.int .i64 (ns.getD k 0)) := (hA3 k _ (hc_at _ _ k hlt)).1
          have f3 : w3.frozen? ⟨N, k, none⟩ = false := (hA3 k _ (hc_at _ _ k hlt)).2
          have HA4 : Hid (At (w3.setCell ⟨N, k, none⟩ (.int .i64 z)) N (hc P.length (fun j => (ns ++ [z]).getD j 0))) := by
            have := hA3.set k (by rw [hc_len]; exact hlt) (.int .i64 z)
            rw [hc_set P.length _ (fun j => (ns ++ [z]).getD j 0) k z (fun j hj => ?_)] at this
            · exact this
            · simp only [List.getD_eq_getElem?_getD]
              by_cases hjk : j = k
              · rw [if_pos hjk, hjk, List.getElem?_append_right (by rw [HNl.out]; exact Nat.le_refl _), HNl.out, Nat.sub_self]
                rfl
              · rw [if_neg hjk]
                rcases Nat.lt_or_ge j k with h | h
                · rw [List.getElem?_append_left (by rw [HNl.out]; exact h)]
                · rw [List.getElem?_eq_none (by rw [List.length_append, HNl.out, List.length_singleton]; omega), List.getElem?_eq_none (by rw [HNl.out]; exact h)]
          have HB4 : Hid (Below w.heap.size w (w3.setCell ⟨N, k, none⟩ (.int .i64 z))) := (HB2.out.trans (hb3.mono HB2.out.size)).setCell (p := ⟨N, k, none⟩) (by rw [← HN.out]; exact Nat.le_refl N) _
          have HSy : Hid (Says (P.take (k + 1)) (ns ++ [z])) := by
            refine ⟨?_, fun n hn => ?_⟩
            · rw [HTk.out, HSay.out.1, ← HEq.out, List.map_append]
              rfl
            · rcases List.mem_append.1 hn with h | h
              · exact HSay.out.2 n h
              · rw [List.mem_singleton] at h; subst h; exact HIn.out
          clear hIt hb3 hA3 hNl3
          go_wp2_with fail
          generalize w3.setCell ⟨N, k, none⟩ (.int .i64 z) = w4 at *
          exact ⟨⟨k + 1, ns ++ [z], hlt, rfl, HSy.out, by rw [List.length_append, HNl.out]; rfl, HA4.out, HB4.out⟩, by simp [intOf]; omega⟩
        · have hq : ((bs (Lib.itoa z)).toList == (bs pc).toList) = false := by rw [ba_beq]; exact decide_eq_false (fun h => heq (by have := bs_eq h; rwa [bs_list] at this))
          have hq2 : ((bs (Lib.itoa z)).toList != (bs pc).toList) = true := by rw [bne, hq]; rfl
          have HNo : Hid (∀ n, InR n → ¬ pc = Lib.itoa n) := fun n hn e => heq (by
            have h1 := atoi_itoa n hn
            rw [← e, HZ.out] at h1
            injection h1 with h1
            rw [h1, e])
          clear heq
          generalize bs (Lib.itoa z) = Sz at *
          generalize bs pc = Sp at *
          go_wp2_with fail
          refine hIt.mono ?_
          rintro e w3 ⟨rfl, hb3⟩
          have HE : Hid (NumsPost w P (.returned (.tuple #[.slice none 0 0, .bool false])) w3) := HBd2.out _ (HB2.out.trans (hb3.mono HB2.out.size)) HNo.out
          clear hIt hb3
          go_wp2_with fail
          go_ret2
          exact HE.out
      · have HE : Hid (NumsPost w P (.returned (.tuple #[.slice none 0 0, .bool false])) w1) := HBd2.out _ HB2.out hno
        clear hno
        go_wp2_with fail
        go_ret2
        exact HE.out
    · obtain rfl : k = P.length := by omega
      have zk : ¬ (P.length : Int) < (P.length : Int) := by omega
      have HE : Hid (NumsPost w P (.returned (.tuple #[.slice (some ⟨N, 0, none⟩) P.length P.length, .bool true])) wr) := by
        refine ⟨HB.out, .inl ⟨ns, N, ?_, by rw [HNl.out], by rw [HN.out]; exact Nat.le_refl _, by rw [HNl.out]; exact HA.out⟩⟩
        have := HSay.out
        rwa [List.take_length] at this
      go_wp2
      go_ret2
      exact HE.out
end Go.Proofs.YtanndhoimpnhpaaGreatDoor
namespace Go.Proofs.YtanndhoimpnhpaaGreatDoor
open Go.ChangeShapes Go.WideShapes Go.ChangeAt Go.RowKit Lg Cal Txt
theorem nl_cases : ∀ s : List UInt8, NoL s ∨ ∃ line r, s = line ++ 10 :: r ∧ NoL line
  | [] => .inl (fun c hc => by simp at hc)
  | c :: s => by
    by_cases hc : c = 10
    · exact .inr ⟨[], s, by rw [hc]; rfl, fun c hc => by simp at hc⟩
    · rcases nl_cases s with h | ⟨line, r, h1, h2⟩
      · refine .inl (fun x hx => ?_)
        rcases List.mem_cons.1 hx with e | e
        · rw [e]; exact hc
        · exact h x e
      · refine .inr ⟨c :: line, r, by rw [h1]; rfl, fun x hx => ?_⟩
        rcases List.mem_cons.1 hx with e | e
        · rw [e]; exact hc
        · exact h2 x e
theorem setl_snoc : ∀ (l X : List Value) (d : Nat) (v : Value), setl X d (l ++ [v]) = (setl X d l).set (d + l.length) v
  | [], X, d, v => by simp [setl]
  | u :: l, X, d, v => by
    rw [List.cons_append, setl, setl_snoc l (X.set d u) (d + 1) v, setl, List.length_cons]
    congr 1
    omega
theorem setl_len : ∀ (l X : List Value) (d : Nat), (setl X d l).length = X.length
  | [], _, _ => rfl
  | u :: l, X, d => by rw [setl, setl_len l (X.set d u) (d + 1), List.length_set]
theorem At.lower {w w' : World} {c : Nat} {X : List Value} (h : At w c X) (hb : Below w.heap.size w w') : At w' c X := fun i v hv =>
  (h.block (hb.block c (World.block_lt_of_cell? _ _ (h i v hv).1))) i v hv
theorem lnum_noL (ns : List Int) : NoL (lnum ns) := by
  induction ns with
  | nil => intro c hc; simp [lnum] at hc
  | cons n r ih =>
    intro c hc
    have hd : ∀ u : Nat, ∀ c ∈ Lib.decDigits u, ¬ c = 10 := fun u c hc e => by
      have h1 := allD_dec u
      unfold allD at h1
      rw [List.all_eq_true] at h1
      have h2 := dg_bd (h1 c hc)
      subst e
      have h3 : ((10 : UInt8).toNat : Int) = 10 := rfl
      omega
    simp only [lnum, List.mem_cons, List.mem_append] at hc
    rcases hc with h | h | h
    · rw [h]; decide
    · unfold Lib.itoa at h
      split at h
      · rcases List.mem_cons.1 h with h | h
        · rw [h]; decide
        · exact hd _ c h
      · exact hd _ c h
    · exact ih c h
def Nx (s word : List UInt8) (n : Nat) (ns : List Int) (r : List UInt8) : Prop := s = word ++ lnum ns ++ 10 :: r ∧ ns.length = n ∧ ∀ m ∈ ns, InR m
theorem nl_one : ∀ (a b r q : List UInt8), NoL a → NoL b → a ++ 10 :: r = b ++ 10 :: q → a = b ∧ r = q
  | [], [], r, q, _, _, h => by simp at h; exact ⟨rfl, h⟩
  | [], c :: b, _, _, _, hb, h => by
    simp only [List.nil_append, List.cons_append, List.cons.injEq] at h
    exact absurd h.1.symm (hb c (by simp))
  | c :: a, [], _, _, ha, _, h => by
    simp only [List.nil_append, List.cons_append, List.cons.injEq] at h
    exact absurd h.1 (ha c (by simp))
  | c :: a, d :: b, r, q, ha, hb, h => by
    simp only [List.cons_append, List.cons.injEq] at h
    obtain ⟨h1, h2⟩ := nl_one a b r q (fun x hx => ha x (by simp [hx])) (fun x hx => hb x (by simp [hx])) h.2
    exact ⟨by rw [h.1, h1], h2⟩
theorem NoL.app {a b : List UInt8} (ha : NoL a) (hb : NoL b) : NoL (a ++ b) := fun c hc => by
  rcases List.mem_append.1 hc with h | h
  · exact ha c h
  · exact hb c h
theorem nx_line {word word0 : List UInt8} {P : List (List UInt8)} {r : List UInt8} (hw : NoB word) (hwl : NoL word) (hw0 : NoB word0) (hP : ∀ p ∈ P, NoB p) (hl : NoL (word0 ++ bj P)) {n : Nat} {ns : List Int} {q : List UInt8} (h : Nx (word0 ++ bj P ++ 10 :: r) word n ns q) : word0 = word ∧ Says P ns ∧ P.length = n ∧ r = q := by
  obtain ⟨h1, h2, h3⟩ := h
  obtain ⟨e1, e2⟩ := nl_one _ _ r q hl (hwl.app (lnum_noL ns)) h1
  rw [lnum_bj] at e1
  obtain ⟨e3, e4⟩ := cut_one word0 word P _ hw0 hw hP (fun p hp => by obtain ⟨n, _, rfl⟩ := List.mem_map.1 hp; exact noB_itoa n) e1
  exact ⟨e3, ⟨e4, h3⟩, by rw [e4, List.length_map]; exact h2, e2⟩
theorem nx_none {s word : List UInt8} (h : NoL s) : ¬ ∃ n ns r, Nx s word n ns r := fun ⟨_, _, _, h1, _⟩ => h 10 (by rw [h1]; simp) rfl
def Pt (w : World) (R : Nat) (nv : Value) (c d n : Nat) : Prop :=
  ∃ p cap, nv = .slice p n cap ∧ n ≤ cap ∧ ∀ k, k < n → ∃ b o, p = some ⟨b, o, none⟩ ∧ b < w.heap.size ∧ ¬ b = R ∧ ¬ b = c ∧ w.cell? ⟨b, o + k, none⟩ = some (.pointer (some ⟨c, d + k, none⟩))
def RdPost (w : World) (R : Nat) (s word : List UInt8) (c d n : Nat) (X : List Value) (e : Ending) (w' : World) : Prop :=
  (∃ ns r, Nx s word n ns r ∧ e = .returned (.bool true) ∧ At w' R [.string (bs r)] ∧ At w' c (setl X d (ns.map (Value.int .i64))) ∧ Keep (fun x => x = R ∨ x = c) w w') ∨
  ((¬ ∃ ns r, Nx s word n ns r) ∧ e = .returned (.bool false) ∧ Below w.heap.size w w')
end Go.Proofs.YtanndhoimpnhpaaGreatDoor
namespace Go.Proofs.YtanndhoimpnhpaaGreatDoor
open Go.ChangeShapes Go.WideShapes Go.ChangeAt Go.RowKit Lg Cal Txt
theorem bj_mem : ∀ (P : List (List UInt8)) (p : List UInt8), p ∈ P → p.length ≤ (bj P).length
  | [], _, h => absurd h List.not_mem_nil
  | q :: P, p, h => by
    rcases List.mem_cons.1 h with rfl | h
    · simp [bj]; omega
    · have := bj_mem P p h
      simp only [bj, List.length_cons, List.length_append]
      omega
set_option maxRecDepth 10000 in
set_option maxHeartbeats 4000000 in
theorem read_any (w : World) (R : Nat) (s word : List UInt8) (c d n : Nat) (X : List Value) (nv : Value) (hA : At w R [.string (bs s)]) (hs : s.length < 4294967281) (hP : Pt w R nv c d n) (hX : At w c X) (hd : d + n ≤ X.length) (hcR : ¬ c = R) (hw : NoB word) (hwl : NoL word) (hw1 : 0 < word.length) (hn : n ≤ 100) (hg : Gl w) :
    Calls Tryz.prog 73 #[.pointer (some ⟨R, 0, none⟩), .string (bs word), nv] w (RdPost w R s word c d n X) := by
  obtain ⟨m, hm⟩ := hg.mx
  obtain ⟨pn, capn, rfl, hcapn, hpt⟩ := hP
  have c0 : w.cell? ⟨R, 0, none⟩ = some (.string (bs s)) := hA.cell 0 rfl
  have HM : Hid (∀ wx, Below w.heap.size w wx → wx.cell? ⟨4, 0, none⟩ = some (.int .i64 m)) := fun wx hx => (hx.cell (World.block_lt_of_cell? w _ hm)).trans hm
  have HG : Hid (Gl w) := hg
  have HA : Hid (At w R [.string (bs s)]) := hA
  have HX : Hid (At w c X) := hX
  have HPt : Hid (∀ k, k < n → ∃ b o, pn = some ⟨b, o, none⟩ ∧ b < w.heap.size ∧ ¬ b = R ∧ ¬ b = c ∧ w.cell? ⟨b, o + k, none⟩ = some (.pointer (some ⟨c, d + k, none⟩))) := hpt
  have HW : Hid (NoB word ∧ NoL word) := ⟨hw, hwl⟩
  clear hA hX hpt hw hwl hg
  rcases nl_cases s with hno | ⟨line, r, hsl, hnl⟩
  · have HE : Hid (∀ wx, Below w.heap.size w wx → RdPost w R s word c d n X (.returned (.bool false)) wx) := fun wx hx => .inr ⟨fun ⟨ns, r, h⟩ => nx_none hno ⟨n, ns, r, h⟩, rfl, hx⟩
    have hC := Tryz.strings_Cut (bs s) (bs [10]) m w (by rw [bs_size]; exact hs) hm
    rw [bs_list, bs_list, cut_tail hno] at hC
    dsimp only at hC
    have HSp : Hid (∀ wx, Below w.heap.size w wx → Calls Tryz.prog 102 #[.string ⟨s.toArray⟩, .string ⟨#[32]⟩, .int .i64 ((n : Int) + 2)] wx fun e w' => ∃ p q z, e = .returned (.slice p q z) ∧ Below wx.heap.size wx w') := fun wx hx => by
      have h1 := Tryz.strings_SplitN (bs s) (bs [32]) (n + 2) m wx (by rw [bs_size]; exact hs) (HM.out wx hx) (by decide) (by omega) (by omega)
      rw [show (((n + 2 : Nat) : Int)) = (n : Int) + 2 by omega] at h1
      refine h1.mono ?_
      rintro e w' ⟨rfl, rfl⟩
      exact ⟨_, _, _, rfl, (Below.refl _ _).alloc (Nat.le_refl _) _⟩
    generalize bs s = S at *
    go_enter Tryz.func73, Tryz.ntmps73
    go_wp2_with fail
    refine hC.mono ?_
    rintro e w1 ⟨rfl, q, rfl⟩
    have hb1 : Below w.heap.size w (w.drewN q) := ⟨rfl, rfl, rfl, Nat.le_refl _, fun _ _ => rfl⟩
    have hS := HSp.out _ hb1
    clear hC
    generalize w.drewN q = w1 at *
    go_wp2_with fail
    refine hS.mono ?_
    rintro e w2 ⟨p, q, z, rfl, hb2⟩
    have HE2 := HE.out w2 (hb1.trans (hb2.mono hb1.size))
    have HE3 : Hid (RdPost w R s word c d n X (.returned (.bool false)) w2) := HE2
    clear hS hb2 hb1 HE2
    go_wp2
    go_ret
    exact HE3.out
  · obtain ⟨word0, P, hline, hw0, hPb⟩ := cut_blanks line
    subst hline
    have HNx : Hid (∀ ns q, Nx s word n ns q → word0 = word ∧ Says P ns ∧ P.length = n ∧ r = q) := fun ns q h => by
      rw [hsl] at h
      exact nx_line HW.out.1 HW.out.2 hw0 hPb hnl h
    have HE : Hid (∀ wx, Below w.heap.size w wx → ¬ (word0 = word ∧ (∃ ns, Says P ns) ∧ P.length = n) → RdPost w R s word c d n X (.returned (.bool false)) wx) := fun wx hx hn => .inr ⟨fun ⟨ns, q, h⟩ => hn (by
      obtain ⟨h1, h2, h3, _⟩ := HNx.out ns q h
      exact ⟨h1, ⟨ns, h2⟩, h3⟩), rfl, hx⟩
    have hll : (word0 ++ bj P).length < 4294967281 := by rw [hsl, List.length_append] at hs; omega
    have hC := Tryz.strings_Cut (bs s) (bs [10]) m w (by rw [bs_size]; exact hs) hm
    rw [bs_list, bs_list, hsl, cut_line hnl] at hC
    rw [← hsl] at hC
    dsimp only at hC
    have HSp : Hid (∀ wx, Below w.heap.size w wx → Calls Tryz.prog 102 #[.string ⟨(word0 ++ bj P).toArray⟩, .string ⟨#[32]⟩, .int .i64 ((n : Int) + 2)] wx fun e w' => ∃ Y z, e = .returned (.slice (some ⟨wx.heap.size, 0, none⟩) Y.length z) ∧ Y.length ≤ z ∧ (0 < word0.length → 1 < z) ∧ ((P.length = n ∧ Y = (word0 :: P).map bs) ∨ (¬ P.length = n ∧ ¬ Y.length = n + 1)) ∧ Below wx.heap.size wx w' ∧ ∀ j (hj : j < Y.length), w'.cell? ⟨wx.heap.size, j, none⟩ = some (.string Y[j])) := fun wx hx => by
      have h1 := Tryz.strings_SplitN (bs (word0 ++ bj P)) (bs [32]) (n + 2) m wx (by rw [bs_size]; exact hll) (HM.out wx hx) (by decide) (by omega) (by omega)
      rw [show (((n + 2 : Nat) : Int)) = (n : Int) + 2 by omega] at h1
      refine h1.mono ?_
      rintro e w' ⟨rfl, rfl⟩
      have hsp := split_line word0 P n hw0 hPb
      have hle : (Lib.splitB (bs [32]) 0 (min (n + 2) ((bs (word0 ++ bj P)).size + 1) - 1) (bs (word0 ++ bj P))).length ≤ min (n + 2) ((bs (word0 ++ bj P)).size + 1) := by
        have h2 : ∀ (k : Nat) (x : ByteArray), (Lib.splitB (bs [32]) 0 k x).length ≤ k + 1 := fun k => by
          induction k with
          | zero => intro x; simp [Lib.splitB]
          | succ k ih =>
            intro x
            rw [Lib.splitB]
            split
            · simp
            · rw [List.length_cons]
              have := ih (x.extract ((Lib.indexB x (bs [32])).toNat + (bs [32]).size) x.size)
              omega
        have := h2 (min (n + 2) ((bs (word0 ++ bj P)).size + 1) - 1) (bs (word0 ++ bj P))
        omega
      refine ⟨_, _, rfl, hle, fun h0 => ?_, hsp, (Below.refl _ _).alloc (Nat.le_refl _) _, fun j hj => ?_⟩
      · rw [bs_size, List.length_append]; omega
      exact (At.alloc wx _ 9 j (.string _) (by rw [List.getElem?_append_left (by rw [List.length_map]; exact hj), List.getElem?_map, List.getElem?_eq_getElem hj]; rfl)).1
    have HL : Hid (NoB word0 ∧ (∀ p ∈ P, NoB p) ∧ (word0 ++ bj P).length < 4294967281 ∧ s = word0 ++ bj P ++ 10 :: r) := ⟨hw0, hPb, hll, hsl⟩
    clear hw0 hPb hll hsl hnl
    generalize bs s = S at *
    go_enter Tryz.func73, Tryz.ntmps73
    go_wp2_with fail
    refine hC.mono ?_
    rintro e w1 ⟨rfl, q, rfl⟩
    have hb1 : Below w.heap.size w (w.drewN q) := ⟨rfl, rfl, rfl, Nat.le_refl _, fun _ _ => rfl⟩
    have hS := HSp.out _ hb1
    clear hC
    generalize w.drewN q = w1 at *
    go_wp2_with fail
    refine hS.mono ?_
    rintro e w2 ⟨Y, z, rfl, hYz, hz1, hor, hb2, hcl⟩
    have HB2 : Hid (Below w.heap.size w w2) := hb1.trans (hb2.mono hb1.size)
    have HN : Hid (w.heap.size ≤ w1.heap.size ∧ w1.heap.size ≤ w2.heap.size) := ⟨hb1.size, hb2.size⟩
    have HCl : Hid (∀ j (hj : j < Y.length), w2.cell? ⟨w1.heap.size, j, none⟩ = some (.string Y[j])) := hcl
    clear hS hb2 hb1 hcl
    generalize w1.heap.size = N at *
    rcases hor with ⟨hPn, hY⟩ | ⟨hPn, hY⟩
    · subst hPn
      subst hY
      have eY : ((word0 :: P).map bs).length = P.length + 1 := by simp
      have c20 : w2.cell? ⟨N, 0, none⟩ = some (.string (bs word0)) := HCl.out 0 (by simp)
      have HC2 : Hid (∀ j (hj : j < P.length), w2.cell? ⟨N, 1 + j, none⟩ = some (.string (bs P[j]))) := fun j hj => by
        have := HCl.out (1 + j) (by simp; omega)
        rw [this]
        simp [Nat.add_comm 1 j]
      rw [eY] at hYz ⊢
      clear eY HCl
      by_cases hww : word0 = word
      · have hq : ((bs word0).toList == (bs word).toList) = true := by rw [ba_beq, hww]; simp
        have hq2 : ((bs word0).toList != (bs word).toList) = false := by rw [bne, hq]; rfl
        have HWw : Hid (word0 = word) := hww
        have HNl : Hid (N < w2.heap.size) := World.block_lt_of_cell? _ _ c20
        have hRn := rnums_any w2 (.slice (some ⟨N, 1, none⟩) P.length (z - 1)) P ⟨_, _, rfl, by omega, fun k hk => ⟨N, 1, rfl, HNl.out, HC2.out k hk⟩⟩ (by omega) (fun p hp => by
          have h1 := HL.out.2.2.1
          have h2 := bj_mem P p hp
          rw [List.length_append] at h1
          omega) (HG.out.below HB2.out)
        have hz2 : 1 < z := hz1 (by rw [hww]; exact hw1)
        clear hww hz1
        generalize bs word0 = S0 at *
        generalize bs word = Sw at *
        go_wp2_with fail
        refine hRn.mono ?_
        rintro e w3 ⟨hb3, hx⟩
        clear hRn
        have HB3 : Hid (Below w.heap.size w w3) := HB2.out.trans (hb3.mono HB2.out.size)
        rcases hx with ⟨ns, N2, hsay, rfl, hN2, hA2⟩ | ⟨hno, v, rfl⟩
        · have enl : ns.length = P.length := by have := congrArg List.length hsay.1; rw [List.length_map] at this; omega
          rw [enl] at hA2 ⊢
          have HSay : Hid (Says P ns) := hsay
          have HNs : Hid (ns.length = P.length) := enl
          have HRn : Hid (At w3 N2 (hc P.length (fun j => ns.getD j 0))) := hA2
          have HN2 : Hid (w.heap.size ≤ N2) := Nat.le_trans (Nat.le_trans HN.out.1 HN.out.2) hN2
          have HX3 : Hid (At w3 c X) := HX.out.lower HB3.out
          have HR3 : Hid (At w3 R [.string S]) := HA.out.lower HB3.out
          clear enl hsay hA2 hN2 hb3 HN HE HNx HSp HC2 c20 hYz
          go_wp2
          go_loopw [13, 14, 56] (fun _ _ s56 wr => ∃ k : Nat, k ≤ P.length ∧ s56 = .int .i64 k ∧ At wr c (setl X d ((ns.take k).map (Value.int .i64))) ∧ Keep (fun x => x = c) w3 wr) (fun _ _ s56 _ => P.length - (intOf s56).toNat)
          case atStart => exact ⟨0, Nat.zero_le _, rfl, HX3.out, Keep.refl _ _⟩
          case round =>
            obtain ⟨k, hk, rfl, hAc, hkp⟩ := hrel
            have HAc : Hid (At wr c (setl X d ((ns.take k).map (Value.int .i64)))) := hAc
            have HK : Hid (Keep (fun x => x = c) w3 wr) := hkp
            clear hAc hkp
            by_cases hlt : k < P.length
            · have zk : (k : Int) < (P.length : Int) := by omega
              obtain ⟨b, o, rfl, hbl, hbR, hbc, hcell⟩ := HPt.out k hlt
              have hp1 : wr.cell? ⟨b, o + k, none⟩ = some (.pointer (some ⟨c, d + k, none⟩)) :=
                ((World.cell?_of_block (w := w3) (a := ⟨b, o + k, none⟩) (HK.out.block b (Nat.lt_of_lt_of_le hbl HB3.out.size) hbc)).trans (World.cell?_of_block (w := w) (a := ⟨b, o + k, none⟩) (HB3.out.block b hbl))).trans hcell
              have hln : (ns.take k).length = k := by rw [List.length_take, HNs.out]; omega
              have hcl : c < w.heap.size := by
                have h1 := HX.out d X[d] (List.getElem?_eq_getElem (by omega))
                exact World.block_lt_of_cell? _ _ h1.1
              have hNc : ¬ N2 = c := by have := HN2.out; omega
              have hr1 : wr.cell? ⟨N2, k, none⟩ = some (.int .i64 (ns.getD k 0)) := by
                have h1 := HRn.out k _ (hc_at _ _ k hlt)
                exact (World.cell?_of_block (w := w3) (a := ⟨N2, k, none⟩) (HK.out.block N2 (World.block_lt_of_cell? _ _ h1.1) hNc)).trans h1.1
              have hdk : d + k < (setl X d ((ns.take k).map (Value.int .i64))).length := by rw [setl_len]; omega
              have h3 := HAc.out (d + k) _ (List.getElem?_eq_getElem hdk)
              have c3 := h3.1
              have f3 := h3.2
              have HTk : Hid (setl X d ((ns.take (k + 1)).map (Value.int .i64)) = (setl X d ((ns.take k).map (Value.int .i64))).set (d + k) (.int .i64 (ns.getD k 0))) := by
                have hkn : k < ns.length := by rw [HNs.out]; exact hlt
                show _ = _
                rw [List.take_succ_eq_append_getElem hkn, List.map_append, List.map_singleton, setl_snoc, List.length_map, hln, List.getD_eq_getElem?_getD, List.getElem?_eq_getElem hkn]
                rfl
              have HA4 : Hid (At (wr.setCell ⟨c, d + k, none⟩ (.int .i64 (ns.getD k 0))) c (setl X d ((ns.take (k + 1)).map (Value.int .i64)))) := by
                have := HAc.out.set (d + k) hdk (.int .i64 (ns.getD k 0))
                rw [← HTk.out] at this
                exact this
              have HK4 : Hid (Keep (fun x => x = c) w3 (wr.setCell ⟨c, d + k, none⟩ (.int .i64 (ns.getD k 0)))) := HK.out.set (S := fun x => x = c) rfl (d + k) _
              clear h3 hcell hbl hbR hbc hcl hNc hln
              generalize (setl X d ((ns.take k).map (Value.int .i64)))[d + k] = old at *
              clear hdk HTk
              generalize ns.getD k 0 = zz at *
              go_wp2_with fail
              generalize wr.setCell ⟨c, d + k, none⟩ (.int .i64 zz) = w4 at *
              exact ⟨⟨k + 1, hlt, rfl, HA4.out, HK4.out⟩, by simp [intOf]; omega⟩
            · obtain rfl : k = P.length := by omega
              have zk : ¬ (P.length : Int) < (P.length : Int) := by omega
              have hR4 : At wr R [.string S] := HR3.out.block (HK.out.block R (At.lt HR3.out) (fun e => hcR e.symm))
              have c4 : wr.cell? ⟨R, 0, none⟩ = some (.string S) := hR4.cell 0 rfl
              have f4 : wr.frozen? ⟨R, 0, none⟩ = false := hR4.free 0 rfl
              have HE3 : Hid (RdPost w R s word c d P.length X (.returned (.bool true)) (wr.setCell ⟨R, 0, none⟩ (.string (bs r)))) := by
                refine .inl ⟨ns, r, ⟨?_, HNs.out, HSay.out.2⟩, rfl, hR4.set 0 (by simp) _, ?_, ?_⟩
                · rw [HL.out.2.2.2, HWw.out, lnum_bj, ← HSay.out.1]
                · have := HAc.out
                  rw [← HNs.out, List.take_length] at this
                  exact this.other (fun e => hcR e.symm) 0 _
                · exact ((Keep.below HB3.out).trans (HK.out.mono (fun k _ h => .inr h))).set (S := fun x => x = R ∨ x = c) (.inl rfl) 0 _
              clear hR4
              go_wp2_with fail
              go_ret
              exact HE3.out
        · have HE3 : Hid (RdPost w R s word c d P.length X (.returned (.bool false)) w3) := HE.out _ HB3.out (fun h => hno h.2.1)
          clear hno hb3
          go_wp2
          go_ret
          exact HE3.out
      · have hq : ((bs word0).toList == (bs word).toList) = false := by rw [ba_beq]; exact decide_eq_false (fun h => hww (by have := bs_eq h; rwa [bs_list] at this))
        have hq2 : ((bs word0).toList != (bs word).toList) = true := by rw [bne, hq]; rfl
        have HE3 : Hid (RdPost w R s word c d P.length X (.returned (.bool false)) w2) := HE.out _ HB2.out (fun h => hww h.1)
        clear hww
        generalize bs word0 = S0 at *
        generalize bs word = Sw at *
        go_wp2
        go_ret
        exact HE3.out
    · have HE3 : Hid (RdPost w R s word c d n X (.returned (.bool false)) w2) := HE.out _ HB2.out (fun h => hPn h.2.2)
      have zy : ((Y.length : Int) != (n : Int) + 1) = true := by rw [bne_iff_ne]; omega
      clear hPn hY
      go_wp2
      go_ret
      exact HE3.out
end Go.Proofs.YtanndhoimpnhpaaGreatDoor
namespace Go.Proofs.YtanndhoimpnhpaaGreatDoor
open Go.ChangeShapes Go.WideShapes Go.RowKit Go.WideMaps Go.Maps
set_option maxRecDepth 100000 in
theorem laidOutP : laidOutB Tryz.prog = true := by kernel_rfl
theorem rowSlot : (150 : TypeId) < Tryz.prog.types.size := of_decide_eq_true (by kernel_rfl)
theorem wideSlot : (match Tryz.prog.underlying 150 with | some (.array _ _) | some (.struct _) => true | _ => false) = true := by kernel_rfl
set_option maxRecDepth 100000 in
theorem lawSlot : KeyLaw Tryz.prog 150 := deep_law_laid laidOutP (m := 2) (by omega) rowSlot (by kernel_rfl) wideSlot
theorem keyedSlot : Keyed Tryz.prog 150 := Keyed.of_law lawSlot
theorem zeroInt (w : World) : (zeroValue 3).run Tryz.prog w = .ok (.int .i64 0) w := by kernel_rfl
set_option maxRecDepth 100000 in
theorem key_ok (d k : Int) (hd : (Lit.int .i64 d).wf = true) (hk : (Lit.int .i64 k).wf = true) : keyOf Tryz.prog 150 (.agg #[.int .i64 d, .int .i64 k]) = some (.string (keyBytes [.int .i64 d, .int .i64 k])) := by
  have hkt : Tryz.prog.keyType 150 = true := by kernel_rfl
  have hsz : ∃ m, Tryz.prog.types.size = m + 1 := ⟨Tryz.prog.types.size - 1, by have h0 : 0 < Tryz.prog.types.size := Nat.lt_of_le_of_lt (Nat.zero_le _) rowSlot; omega⟩
  obtain ⟨fs, hu, hfs⟩ : ∃ fs, Tryz.prog.underlying 150 = some (.struct fs) ∧ (fs.all (·.name != "_") = true ∧ fs.toList.map (fun f => (f.type, f.offset)) = [(3, 0), (3, 1)]) := ⟨_, Tryz.underlying150, by kernel_rfl, by kernel_rfl⟩
  have hc : Tryz.prog.cellsOf 150 = 2 := by kernel_rfl
  have hci : Tryz.prog.cellsOf 3 = 1 := by kernel_rfl
  have hui : Tryz.prog.underlying 3 = some (.int .i64) := by kernel_rfl
  obtain ⟨hn, hfs⟩ := hfs
  obtain ⟨m, hm⟩ := hsz
  unfold keyOf
  simp only [hu]
  rw [if_pos (by simp [hkt, Value.formed, hu, hc]), hm]
  unfold Program.keyLits
  simp only [hu, Value.cells]
  rw [if_pos ⟨by rw [hc]; rfl, hn⟩]
  obtain ⟨f1, f2, hl, e1, e2, e3, e4⟩ : ∃ f1 f2, fs.toList = [f1, f2] ∧ f1.type = 3 ∧ f1.offset = 0 ∧ f2.type = 3 ∧ f2.offset = 1 := by
    obtain ⟨l⟩ := fs
    match l, hfs with
    | [f1, f2], h1 =>
      simp only [List.map_cons, List.map_nil, List.cons.injEq, Prod.mk.injEq] at h1
      exact ⟨f1, f2, rfl, h1.1.1, h1.1.2, h1.2.1.1, h1.2.1.2⟩
  rw [hl, List.mapM_cons, List.mapM_cons, List.mapM_nil]
  simp [e1, e2, e3, e4, hci, Program.keyLits, hui, hd, hk]
theorem wf64 (n : Int) (h : -9223372036854775808 ≤ n ∧ n ≤ 9223372036854775807) : (Lit.int .i64 n).wf = true := by
  have := wrap64_wf n
  rwa [show wrap64 n = n by unfold wrap64; omega] at this
def I64 (n : Int) : Prop := -9223372036854775808 ≤ n ∧ n ≤ 9223372036854775807
theorem wp_lookup_run {Pr : Program} {o : Oper} {a : Act} {w : World} {K : Act → World → Prop} {Q : Exit → Act → World → Prop} (m x : Operand) (t : TypeId) (ho : o.op = .lookup t m x false) (mv kv : Value) (hm : a.eval m = mv) (hx : a.eval x = kv) {v : Value} {w' : World}
    (hr : (Instr.lookup t mv kv false).run Pr w = .ok v w') (h : K (a.put o.dst v) w') : o.wp Pr a w K Q := by
  unfold Oper.wp
  simp [execOp, ho, hm, hx, hr, Result.andThen]
  exact h
theorem wp_entry_run {Pr : Program} {o : Oper} {a : Act} {w : World} {K : Act → World → Prop} {Q : Exit → Act → World → Prop} (m x : Operand) (t : TypeId) (ho : o.op = .mapEntry t m x) (mv kv : Value) (hm : a.eval m = mv) (hx : a.eval x = kv) {v : Value} {w' : World}
    (hr : (Instr.mapEntry t mv kv).run Pr w = .ok v w') (h : K (a.put o.dst v) w') : o.wp Pr a w K Q := by
  unfold Oper.wp
  simp [execOp, ho, hm, hx, hr, Result.andThen]
  exact h
theorem wp_entryStore_run {Pr : Program} {o : Oper} {a : Act} {w : World} {K : Act → World → Prop} {Q : Exit → Act → World → Prop} (m x y : Operand) (t : TypeId) (ho : o.op = .entryStore t m x y) (mv kv yv : Value) (hm : a.eval m = mv) (hx : a.eval x = kv) (hy : a.eval y = yv) {w' : World}
    (hr : (Instr.entryStore t mv kv yv).run Pr w = .ok () w') (h : K (a.put o.dst undef) w') : o.wp Pr a w K Q := by
  unfold Oper.wp
  simp [execOp, ho, hm, hx, hy, hr, Result.andThen]
  exact h
theorem keep_setBlock {w : World} {b : Nat} {es : Array MapEntry} {clock : Nat} (hb : w.heap[b]? = some (.map es clock)) (o' : Obj) : Keep (fun x => x = b) w (ChangeMaps.setBlock w b o') :=
  ⟨rfl, rfl, rfl, by simp [ChangeMaps.setBlock], fun i _ hi => ChangeMaps.heap_setBlock_other hb _ (fun e => hi (by rw [e]))⟩
theorem keep_grown {w w' : World} {b : Nat} (h : w.grownBy w' (some b)) : Keep (fun x => x = b) w w' := ⟨h.os, h.tape, h.output, h.size, fun j hj hs => h.block j hj (fun e => hs (by cases e; rfl))⟩
def MapIs (w : World) (b n : Nat) (f : Int → Int → Int) : Prop :=
  ∃ D : DataW Unit, w.ownsMap Tryz.prog 150 (plainElem Tryz.prog 3) b n D ∧ ∀ d k l, keyOf Tryz.prog 150 (.agg #[.int .i64 d, .int .i64 k]) = some l → D.atKey l (.lit (.int .i64 0)) = .lit (.int .i64 (f d k))
theorem MapIs.lt {w : World} {b n : Nat} {f : Int → Int → Int} (h : MapIs w b n f) : b < w.heap.size := by
  obtain ⟨D, h, _⟩ := h
  exact h.lt
theorem MapIs.block {w w' : World} {b n : Nat} {f : Int → Int → Int} (h : MapIs w b n f) (hb : w'.heap[b]? = w.heap[b]?) : MapIs w' b n f := by
  obtain ⟨D, ⟨es, clock, h0, F, hs, hD⟩, h2⟩ := h
  exact ⟨D, ⟨es, clock, hb.trans h0, F, hs, hD⟩, h2⟩
theorem MapIs.made (w : World) : MapIs (w.alloc (.map #[] 0)) w.heap.size 0 (fun _ _ => 0) := ⟨.map [], World.ownsMap_made _ _ _ _, fun _ _ _ _ => rfl⟩
set_option maxRecDepth 100000 in
theorem MapIs.look {w : World} {b n : Nat} {f : Int → Int → Int} (h : MapIs w b n f) (d k : Int) (hd : I64 d) (hk : I64 k) :
    (Instr.lookup 146 (.map (some b)) (.agg #[.int .i64 d, .int .i64 k]) false).run Tryz.prog w = .ok (.int .i64 (f d k)) w := by
  obtain ⟨D, h, h2⟩ := h
  have hkey := key_ok d k (wf64 d hd) (wf64 k hk)
  obtain ⟨c, hrun, hat, _⟩ := h.lookup_int keyedSlot Tryz.underlying146 Tryz.underlying3 (zeroInt w) hkey
  have := h2 d k _ hkey
  rw [hat] at this
  injection this with e
  injection e with _ e
  rw [hrun, e]
set_option maxRecDepth 100000 in
theorem MapIs.store {w : World} {b n : Nat} {f : Int → Int → Int} (h : MapIs w b n f) (hn : n < maxLen) (d k : Int) (hd : I64 d) (hk : I64 k) :
    ∃ (v0 : Value) (st : Nat) (es1 : Array MapEntry) (clock1 : Nat), (Instr.mapEntry 146 (.map (some b)) (.agg #[.int .i64 d, .int .i64 k])).run Tryz.prog w = .ok (.tuple #[v0, goInt st]) (ChangeMaps.setBlock w b (.map es1 clock1)) ∧
      Keep (fun x => x = b) w (ChangeMaps.setBlock w b (.map es1 clock1)) ∧
      (Instr.lookup 146 (.map (some b)) (.agg #[.int .i64 d, .int .i64 k]) false).run Tryz.prog (ChangeMaps.setBlock w b (.map es1 clock1)) = .ok (.int .i64 (f d k)) (ChangeMaps.setBlock w b (.map es1 clock1)) ∧
      ∀ (a : Int), I64 a → ∃ w', (Instr.entryStore 146 (.map (some b)) (goInt st) (.int .i64 a)).run Tryz.prog (ChangeMaps.setBlock w b (.map es1 clock1)) = .ok () w' ∧
        MapIs w' b (n + 1) (fun x y => if x = d ∧ y = k then a else f x y) ∧ w.grownBy w' (some b) := by
  have hl := h.look d k hd hk
  obtain ⟨D, hown, h2⟩ := h
  have hkey := key_ok d k (wf64 d hd) (wf64 k hk)
  have hz : ∀ u : World, (zeroValue 3).run Tryz.prog u = .ok (.int .i64 0) u := zeroInt
  have hown0 := hown
  obtain ⟨es, clock, hb, F, hs, hD⟩ := hown
  obtain ⟨v0, st, es1, clock1, r1, r2, r3⟩ := Go.WideElems.entry_then_store lawSlot Tryz.underlying146 hz hb F hkey
  generalize hkv : Value.agg #[.int .i64 d, .int .i64 k] = key at *
  refine ⟨v0, st, es1, clock1, r1, keep_setBlock hb _, ?_, ?_⟩
  · rcases lawSlot.find w hkey es.toList F.keys with ⟨q1, q2⟩ | ⟨j, e0, q1, q2, q3⟩
    · have hf : f d k = 0 := by
        rcases Maps.fit_look false keyedSlot Tryz.underlying146 (hz w) hb F hkey with ⟨hrun, _, _⟩ | ⟨e0, y, hm, hk0, _⟩
        · rw [hl] at hrun
          have a := (Result.ok.inj hrun).1
          exact (Value.int.inj a).2
        · exact absurd hk0 (q2 e0 hm)
      have hup : (Instr.mapUpdate 146 (.map (some b)) key (.int .i64 0)).run Tryz.prog w = .ok () (ChangeMaps.setBlock w b (.map (es.push ⟨key, .int .i64 0, clock⟩) (clock + 1))) := by
        simp [Instr.mapUpdate, run_underlying Tryz.underlying146, MapKept.run_getObj_map hb, lawSlot.check w false hkey, q1, MapKept.run_setObj_map _ hb, Result.andThen, ChangeMaps.setBlock]
      have hen : (Instr.mapEntry 146 (.map (some b)) key).run Tryz.prog w = .ok (.tuple #[.int .i64 0, goInt clock]) (ChangeMaps.setBlock w b (.map (es.push ⟨key, .int .i64 0, clock⟩) (clock + 1))) := by
        simp [Instr.mapEntry, run_underlying Tryz.underlying146, MapKept.run_getObj_map hb, lawSlot.check w false hkey, q1, hz, MapKept.run_setObj_map _ hb, Result.andThen, ChangeMaps.setBlock]
      rw [hen] at r1
      have ew := (Result.ok.inj r1).2
      rw [← ew]
      obtain ⟨w', u1, u2, _⟩ := hown0.update keyedSlot Tryz.underlying146 hn hkey (plainElem_int Tryz.underlying3 (wf64 0 (by decide)))
      rw [hup] at u1
      have ew' := (Result.ok.inj u1).2
      rw [ew']
      obtain ⟨c, hrun, hat, _⟩ := u2.lookup_int keyedSlot Tryz.underlying146 Tryz.underlying3 (zeroInt w') hkey
      rw [hrun, hf]
      have hm : IsMap D := ⟨_, hD⟩
      rw [atKey_put_same hm (keyedSlot.key hkey)] at hat
      injection hat with e
      injection e with _ e
      rw [← e]
    · have hj : es[j]? = some e0 := by simpa using q2
      have hsame : es.modify j (fun e => { e with key := key }) = es := by
        apply Array.ext'
        rw [Array.toList_modify, ChangeMaps.modify_eq_set _ _ _ _ q2]
        have : ({ e0 with key := key } : MapEntry) = e0 := by rw [← q3]
        rw [this]
        exact Go.WideElems.set_self _ _ _ q2
      have hen : (Instr.mapEntry 146 (.map (some b)) key).run Tryz.prog w = .ok (.tuple #[e0.val, goInt e0.born]) (ChangeMaps.setBlock w b (.map es clock)) := by
        simp [Instr.mapEntry, run_underlying Tryz.underlying146, MapKept.run_getObj_map hb, lawSlot.check w false hkey, q1, hj, q3, lawSlot.stays w hkey, hsame, MapKept.run_setObj_map _ hb, Result.andThen, ChangeMaps.setBlock]
      rw [hen] at r1
      have ew := (Result.ok.inj r1).2
      rw [← ew]
      have hM : MapIs (ChangeMaps.setBlock w b (.map es clock)) b n f := MapIs.block ⟨D, hown0, h2⟩ ((ChangeMaps.heap_setBlock_same hb _).trans hb.symm)
      have := hM.look d k hd hk
      rw [hkv] at this
      exact this
  · intro a ha
    obtain ⟨es', clock', e1, e2⟩ := r3 (ChangeMaps.setBlock w b (.map es1 clock1)) (.int .i64 a) (ChangeMaps.heap_setBlock_same hb _)
    refine ⟨_, e1, ?_⟩
    have hset : ChangeMaps.setBlock (ChangeMaps.setBlock w b (.map es1 clock1)) b (.map es' clock') = ChangeMaps.setBlock w b (.map es' clock') := by
      simp [ChangeMaps.setBlock]
    rw [hset]
    obtain ⟨w', u1, u2, u3⟩ := hown0.update keyedSlot Tryz.underlying146 hn hkey (plainElem_int Tryz.underlying3 (wf64 a ha))
    rw [e2] at u1
    have ew' := (Result.ok.inj u1).2
    rw [ew']
    refine ⟨⟨_, u2, fun x y l hxy => ?_⟩, u3⟩
    by_cases hx : x = d ∧ y = k
    · obtain ⟨rfl, rfl⟩ := hx
      show _ = DataW.lit (Lit.int .i64 (if x = x ∧ y = y then a else f x y))
      rw [if_pos ⟨rfl, rfl⟩]
      rw [hkv, hkey] at hxy
      cases hxy
      exact atKey_put_same ⟨_, hD⟩ (keyedSlot.key hkey) _ _
    · show _ = DataW.lit (Lit.int .i64 (if x = d ∧ y = k then a else f x y))
      rw [if_neg hx, ← h2 x y l hxy]
      refine atKey_put_other ?_ _ _
      intro e
      subst e
      have := keyedSlot.inj hxy hkey
      rw [← hkv] at this
      injection this with this
      injection this with this
      injection this with t1 t2
      injection t2 with t2
      injection t1 with _ t1
      injection t2 with _ t2
      exact hx ⟨t1, t2⟩
end Go.Proofs.YtanndhoimpnhpaaGreatDoor
