/- Joined by program: TxU, TxV, TzA, TzB, TxW. -/
import Derived.Test.YtanndhoimpnhpaaGreatDoorM5
import Derived.Test.YtanndhoimpnhpaaGreatDoorM3
import Derived.Lib.AppendIntMem
import Derived.Lib.ConvBytes
import Derived.Test.YtanndhoimpnhpaaGreatDoorM1
import Derived.Lib.CutLaws
import Derived.WalkKit
import Derived.Deep.RegionHeld3
namespace Go.Proofs.YtanndhoimpnhpaaGreatDoor
open Go.ChangeShapes Go.WideShapes Go.ChangeAt Go.RowKit Lg Cal Txt
structure Gl (w : World) : Prop where
  mx : ∃ m, w.cell? ⟨4, 0, none⟩ = some (.int .i64 m)
  tb : Lib.TabIs Tryz.prog w "internal/strconv.uint64pow10" .u64 Lib.pow10Tab
  es : ∃ tp p, w.var? Tryz.prog "strconv.ErrSyntax" = some #[.iface tp p]
  er : ∃ tp p, w.var? Tryz.prog "strconv.ErrRange" = some #[.iface tp p]
theorem var_below {w w' : World} {name : String} {x : Array Value} (h : w.var? Tryz.prog name = some x) (hb : Below w.heap.size w w') : w'.var? Tryz.prog name = some x := by
  unfold World.var? at *
  cases hg : Tryz.prog.globalNamed name with
  | none => simp [hg] at h
  | some g =>
    simp only [hg, Option.bind_some] at h ⊢
    have hlt : g < w.heap.size := by
      rcases Nat.lt_or_ge g w.heap.size with h' | h'
      · exact h'
      · rw [Array.getElem?_eq_none h'] at h; simp at h
    rw [hb.block g hlt]
    exact h
theorem Gl.below {w w' : World} (h : Gl w) (hb : Below w.heap.size w w') : Gl w' := by
  obtain ⟨m, hm⟩ := h.mx
  obtain ⟨t1, p1, h1⟩ := h.es
  obtain ⟨t2, p2, h2⟩ := h.er
  exact ⟨⟨m, (hb.cell (World.block_lt_of_cell? w _ hm)).trans hm⟩, Lib.tabBelow_of_tabIs h.tb w' hb, ⟨t1, p1, var_below h1 hb⟩, ⟨t2, p2, var_below h2 hb⟩⟩
def IsS (w : World) (v : Value) (P : List (List UInt8)) : Prop :=
  ∃ p cap, v = .slice p P.length cap ∧ P.length ≤ cap ∧ ∀ k (hk : k < P.length), ∃ b o, p = some ⟨b, o, none⟩ ∧ b < w.heap.size ∧ w.cell? ⟨b, o + k, none⟩ = some (.string (bs P[k]))
theorem atoi_any (w : World) (p : List UInt8) (hp : p.length ≤ 281474976710656) (hg : Gl w) :
    Calls Tryz.prog 129 #[.string (bs p)] w fun e w' => Below w.heap.size w w' ∧ ((∃ z, Lib.atoiAll p = .ok z ∧ e = .returned (.tuple #[.int .i64 z, .nilIface])) ∨ ((∀ n, InR n → ¬ p = Lib.itoa n) ∧ ∃ z t q, e = .returned (.tuple #[.int .i64 z, .iface t (.pointer q)]))) := by
  have hno : (∀ z, ¬ Lib.atoiAll p = .ok z) → ∀ n, InR n → ¬ p = Lib.itoa n := fun h n hn e => h n (by rw [e]; exact atoi_itoa n hn)
  cases hc : Lib.atoiAll p with
  | ok z =>
    refine (Tryz.strconv_Atoi_ok (bs p) (by rw [bs_size]; omega) z (by rw [bs_list]; exact hc) w).mono ?_
    rintro e w' ⟨rfl, hw⟩
    refine ⟨?_, .inl ⟨z, rfl, rfl⟩⟩
    rcases hw with rfl | ⟨t, rfl⟩
    · exact Below.refl _ _
    · exact ⟨rfl, rfl, rfl, by rw [Lib.bytesWorld_size]; omega, fun j hj => Lib.bytesWorld_at_old w 5 t j hj⟩
  | «syntax» =>
    obtain ⟨t1, p1, h1⟩ := hg.es
    refine (Tryz.strconv_Atoi_syntax_var (bs p) (by rw [bs_size]; omega) (by rw [bs_list]; exact hc) t1 p1 w h1).mono ?_
    rintro e w' ⟨N, rfl, _, _, hb⟩
    exact ⟨hb, .inr ⟨hno (fun z h => by rw [hc] at h; cases h), _, _, _, rfl⟩⟩
  | range =>
    obtain ⟨t1, p1, h1⟩ := hg.er
    refine (Tryz.strconv_Atoi_range_var (bs p) (by rw [bs_size]; omega) (by rw [bs_list]; exact hc) t1 p1 w h1).mono ?_
    rintro e w' ⟨N, rfl, _, _, hb⟩
    exact ⟨hb, .inr ⟨hno (fun z h => by rw [hc] at h; cases h), _, _, _, rfl⟩⟩
theorem itoa_any (w : World) (z : Int) (hz : InR z) (hg : Gl w) :
    Calls Tryz.prog 130 #[.int .i64 z] w fun e w' => e = .returned (.string (bs (Lib.itoa z))) ∧ Below w.heap.size w w' := by
  refine (Tryz.strconv_Itoa z hz.1 hz.2 w hg.tb).mono ?_
  rintro e w' ⟨rfl, k, os, rfl⟩
  exact ⟨rfl, Lib.below_grow _ w (Nat.le_refl _) k os⟩
def NumsPost (w : World) (P : List (List UInt8)) (e : Ending) (w' : World) : Prop :=
  Below w.heap.size w w' ∧ ((∃ ns N, Says P ns ∧ e = .returned (.tuple #[.slice (some ⟨N, 0, none⟩) ns.length ns.length, .bool true]) ∧ w.heap.size ≤ N ∧ At w' N (hc ns.length (fun j => ns.getD j 0))) ∨ ((¬ ∃ ns, Says P ns) ∧ ∃ v, e = .returned (.tuple #[v, .bool false])))
set_option maxRecDepth 10000 in
set_option maxHeartbeats 4000000 in
theorem rnums_any (w : World) (v : Value) (P : List (List UInt8)) (hv : IsS w v P) (hn : P.length ≤ 1000) (hp : ∀ p ∈ P, p.length ≤ 281474976710656) (hg : Gl w) :
    Calls Tryz.prog 103 #[v] w (NumsPost w P) := by
  obtain ⟨pv, cap, rfl, hcap, hcell⟩ := hv
  have HCell : Hid (∀ wx, Below w.heap.size w wx → ∀ k (hk : k < P.length), ∃ b o, pv = some ⟨b, o, none⟩ ∧ wx.cell? ⟨b, o + k, none⟩ = some (.string (bs P[k]))) := fun wx hx k hk => by
    obtain ⟨b, o, h1, h2, h3⟩ := hcell k hk
    exact ⟨b, o, h1, (World.cell?_of_block (w := w) (a := ⟨b, o + k, none⟩) (hx.block b h2)).trans h3⟩
  have HPl : Hid (∀ p ∈ P, p.length ≤ 281474976710656) := hp
  have HG : Hid (∀ wx, Below w.heap.size w wx → Gl wx) := fun wx hx => hg.below hx
  have hmk := dmake w P.length (by omega)
  have b1 : Below w.heap.size w (w.alloc (.cells (hc P.length (fun _ => 0)).toArray 3)) := (Below.refl _ _).alloc (Nat.le_refl _) _
  have a1 : At (w.alloc (.cells (hc P.length (fun _ => 0)).toArray 3)) w.heap.size (hc P.length (fun _ => 0)) := At.alloc w _ _
  have HBad : Hid (∀ k (hk : k < P.length) wx, Below w.heap.size w wx → (∀ n, InR n → ¬ P[k] = Lib.itoa n) → NumsPost w P (.returned (.tuple #[.slice none 0 0, .bool false])) wx) := fun k hk wx hx hno => by
    refine ⟨hx, .inr ⟨fun ⟨ms, hm⟩ => ?_, _, rfl⟩⟩
    have e1 : k < ms.length := by have := congrArg List.length hm.1; rw [List.length_map] at this; omega
    refine hno ms[k] (hm.2 _ (List.getElem_mem e1)) ?_
    have e2 : P[k]? = (ms.map Lib.itoa)[k]? := congrArg (fun l : List (List UInt8) => l[k]?) hm.1
    rw [List.getElem?_eq_getElem hk, List.getElem?_map, List.getElem?_eq_getElem e1] at e2
    exact Option.some.inj e2
  clear hcell hp hg
  go_enter Tryz.func103, Tryz.ntmps103
  go_wp2
  have HB1 : Hid (Below w.heap.size w (w.alloc (.cells (hc P.length (fun _ => 0)).toArray 3))) := b1
  have HA1 : Hid (At (w.alloc (.cells (hc P.length (fun _ => 0)).toArray 3)) w.heap.size (hc P.length (fun _ => 0))) := a1
  clear hmk b1 a1
  obtain ⟨N, hN⟩ : ∃ N, N = w.heap.size := ⟨_, rfl⟩
  have HN : Hid (N = w.heap.size) := hN
  rw [← hN]
  clear hN
  go_loopw [5, 6, 7, 8, 14] (fun _ _ _ _ s14 wr => ∃ (k : Nat) (ns : List Int), k ≤ P.length ∧ s14 = .int .i64 k ∧ Says (P.take k) ns ∧ ns.length = k ∧ At wr N (hc P.length (fun j => ns.getD j 0)) ∧ Below w.heap.size w wr) (fun _ _ _ _ s14 _ => P.length - (intOf s14).toNat)
  case atStart => exact ⟨0, [], Nat.zero_le _, rfl, ⟨rfl, fun n hn => absurd hn List.not_mem_nil⟩, rfl, by rw [HN.out]; exact HA1.out, HB1.out⟩
  case round =>
    clear HB1 HA1
    obtain ⟨k, ns, hk, rfl, hsay, hnl, hA, hb⟩ := hrel
    have HSay : Hid (Says (P.take k) ns) := hsay
    have HNl : Hid (ns.length = k) := hnl
    have HA : Hid (At wr N (hc P.length (fun j => ns.getD j 0))) := hA
    have HB : Hid (Below w.heap.size w wr) := hb
    clear hsay hnl hA hb
    by_cases hlt : k < P.length
    · have zk : (k : Int) < (P.length : Int) := by omega
      obtain ⟨b, o, rfl, hcl⟩ := HCell.out wr HB.out k hlt
      have hAt := atoi_any wr P[k] (HPl.out _ (List.getElem_mem hlt)) (HG.out _ HB.out)
      have HBd := HBad.out k hlt
      have HBd2 : Hid (∀ wx, Below w.heap.size w wx → (∀ n, InR n → ¬ P[k] = Lib.itoa n) → NumsPost w P (.returned (.tuple #[.slice none 0 0, .bool false])) wx) := HBd
      have HTk : Hid (P.take (k + 1) = P.take k ++ [P[k]]) := List.take_succ_eq_append_getElem hlt
      clear HBd
      generalize P[k] = pc at *
      go_wp2_with fail
      refine hAt.mono ?_
      rintro e w1 ⟨hb1, hx⟩
      clear hAt hcl
      have HB2 : Hid (Below w.heap.size w w1) := HB.out.trans (hb1.mono HB.out.size)
      have HA2 : Hid (At w1 N (hc P.length (fun j => ns.getD j 0))) := HA.out.block (hb1.block N (by
        have h1 := HA.out k (.int .i64 (ns.getD k 0)) (hc_at _ _ k hlt)
        exact World.block_lt_of_cell? _ _ h1.1))
      clear hb1
      rcases hx with ⟨z, hz, rfl⟩ | ⟨hno, z, tt, q, rfl⟩
      · have hIn : InR z := Lib.atoiAll_bounds hz
        have hIt := itoa_any w1 z hIn (HG.out _ HB2.out)
        have HZ : Hid (Lib.atoiAll pc = .ok z) := hz
        have HIn : Hid (InR z) := hIn
        clear hz hIn
        by_cases heq : Lib.itoa z = pc
        · have hq : ((bs (Lib.itoa z)).toList == (bs pc).toList) = true := by rw [ba_beq, heq]; simp
          have hq2 : ((bs (Lib.itoa z)).toList != (bs pc).toList) = false := by rw [bne, hq]; rfl
          have HEq : Hid (Lib.itoa z = pc) := heq
          clear heq
          generalize bs (Lib.itoa z) = Sz at *
          generalize bs pc = Sp at *
          go_wp2_with fail
          refine hIt.mono ?_
          rintro e w3 ⟨rfl, hb3⟩
          have hNl3 : N < w1.heap.size := by
            have h1 := HA2.out k (.int .i64 (ns.getD k 0)) (hc_at _ _ k hlt)
            exact World.block_lt_of_cell? _ _ h1.1
          have hA3 : At w3 N (hc P.length (fun j => ns.getD j 0)) := HA2.out.block (hb3.block N hNl3)
          have c3 : w3.cell? ⟨N, k, none⟩ = some (.int .i64 (ns.getD k 0)) := (hA3 k _ (hc_at _ _ k hlt)).1
          have f3 : w3.frozen? ⟨N, k, none⟩ = false := (hA3 k _ (hc_at _ _ k hlt)).2
          have HA4 : Hid (At (w3.setCell ⟨N, k, none⟩ (.int .i64 z)) N (hc P.length (fun j => (ns ++ [z]).getD j 0))) := by
            have := hA3.set k (by rw [hc_len]; exact hlt) (.int .i64 z)
            rw [hc_set P.length _ (fun j => (ns ++ [z]).getD j 0) k z (fun j hj => ?_)] at this
            · exact this
            · simp only [List.getD_eq_getElem?_getD]
              by_cases hjk : j = k
              · rw [if_pos hjk, hjk, List.getElem?_append_right (by rw [HNl.out]; exact Nat.le_refl _), HNl.out, Nat.sub_self]
                rfl
              · rw [if_neg hjk]
                rcases Nat.lt_or_ge j k with h | h
                · rw [List.getElem?_append_left (by rw [HNl.out]; exact h)]
                · rw [List.getElem?_eq_none (by rw [List.length_append, HNl.out, List.length_singleton]; omega), List.getElem?_eq_none (by rw [HNl.out]; exact h)]
          have HB4 : Hid (Below w.heap.size w (w3.setCell ⟨N, k, none⟩ (.int .i64 z))) := (HB2.out.trans (hb3.mono HB2.out.size)).setCell (p := ⟨N, k, none⟩) (by rw [← HN.out]; exact Nat.le_refl N) _
          have HSy : Hid (Says (P.take (k + 1)) (ns ++ [z])) := by
            refine ⟨?_, fun n hn => ?_⟩
            · rw [HTk.out, HSay.out.1, ← HEq.out, List.map_append]
              rfl
            · rcases List.mem_append.1 hn with h | h
              · exact HSay.out.2 n h
              · rw [List.mem_singleton] at h; subst h; exact HIn.out
          clear hIt hb3 hA3 hNl3
          go_wp2_with fail
          generalize w3.setCell ⟨N, k, none⟩ (.int .i64 z) = w4 at *
          exact ⟨⟨k + 1, ns ++ [z], hlt, rfl, HSy.out, by rw [List.length_append, HNl.out]; rfl, HA4.out, HB4.out⟩, by simp [intOf]; omega⟩
        · have hq : ((bs (Lib.itoa z)).toList == (bs pc).toList) = false := by rw [ba_beq]; exact decide_eq_false (fun h => heq (by have := bs_eq h; rwa [bs_list] at this))
          have hq2 : ((bs (Lib.itoa z)).toList != (bs pc).toList) = true := by rw [bne, hq]; rfl
          have HNo : Hid (∀ n, InR n → ¬ pc = Lib.itoa n) := fun n hn e => heq (by
            have h1 := atoi_itoa n hn
            rw [← e, HZ.out] at h1
            injection h1 with h1
            rw [h1, e])
          clear heq
          generalize bs (Lib.itoa z) = Sz at *
          generalize bs pc = Sp at *
          go_wp2_with fail
          refine hIt.mono ?_
          rintro e w3 ⟨rfl, hb3⟩
          have HE : Hid (NumsPost w P (.returned (.tuple #[.slice none 0 0, .bool false])) w3) := HBd2.out _ (HB2.out.trans (hb3.mono HB2.out.size)) HNo.out
          clear hIt hb3
          go_wp2_with fail
          go_ret2
          exact HE.out
      · have HE : Hid (NumsPost w P (.returned (.tuple #[.slice none 0 0, .bool false])) w1) := HBd2.out _ HB2.out hno
        clear hno
        go_wp2_with fail
        go_ret2
        exact HE.out
    · obtain rfl : k = P.length := by omega
      have zk : ¬ (P.length : Int) < (P.length : Int) := by omega
      have HE : Hid (NumsPost w P (.returned (.tuple #[.slice (some ⟨N, 0, none⟩) P.length P.length, .bool true])) wr) := by
        refine ⟨HB.out, .inl ⟨ns, N, ?_, by rw [HNl.out], by rw [HN.out]; exact Nat.le_refl _, by rw [HNl.out]; exact HA.out⟩⟩
        have := HSay.out
        rwa [List.take_length] at this
      go_wp2
      go_ret2
      exact HE.out
end Go.Proofs.YtanndhoimpnhpaaGreatDoor
namespace Go.Proofs.YtanndhoimpnhpaaGreatDoor
open Go.ChangeShapes Go.WideShapes Go.ChangeAt Go.RowKit Lg Cal Txt
theorem nl_cases : ∀ s : List UInt8, NoL s ∨ ∃ line r, s = line ++ 10 :: r ∧ NoL line
  | [] => .inl (fun c hc => by simp at hc)
  | c :: s => by
    by_cases hc : c = 10
    · exact .inr ⟨[], s, by rw [hc]; rfl, fun c hc => by simp at hc⟩
    · rcases nl_cases s with h | ⟨line, r, h1, h2⟩
      · refine .inl (fun x hx => ?_)
        rcases List.mem_cons.1 hx with e | e
        · rw [e]; exact hc
        · exact h x e
      · refine .inr ⟨c :: line, r, by rw [h1]; rfl, fun x hx => ?_⟩
        rcases List.mem_cons.1 hx with e | e
        · rw [e]; exact hc
        · exact h2 x e
theorem setl_snoc : ∀ (l X : List Value) (d : Nat) (v : Value), setl X d (l ++ [v]) = (setl X d l).set (d + l.length) v
  | [], X, d, v => by simp [setl]
  | u :: l, X, d, v => by
    rw [List.cons_append, setl, setl_snoc l (X.set d u) (d + 1) v, setl, List.length_cons]
    congr 1
    omega
theorem setl_len : ∀ (l X : List Value) (d : Nat), (setl X d l).length = X.length
  | [], _, _ => rfl
  | u :: l, X, d => by rw [setl, setl_len l (X.set d u) (d + 1), List.length_set]
theorem At.lower {w w' : World} {c : Nat} {X : List Value} (h : At w c X) (hb : Below w.heap.size w w') : At w' c X := fun i v hv =>
  (h.block (hb.block c (World.block_lt_of_cell? _ _ (h i v hv).1))) i v hv
theorem lnum_noL (ns : List Int) : NoL (lnum ns) := by
  induction ns with
  | nil => intro c hc; simp [lnum] at hc
  | cons n r ih =>
    intro c hc
    have hd : ∀ u : Nat, ∀ c ∈ Lib.decDigits u, ¬ c = 10 := fun u c hc e => by
      have h1 := allD_dec u
      unfold allD at h1
      rw [List.all_eq_true] at h1
      have h2 := dg_bd (h1 c hc)
      subst e
      have h3 : ((10 : UInt8).toNat : Int) = 10 := rfl
      omega
    simp only [lnum, List.mem_cons, List.mem_append] at hc
    rcases hc with h | h | h
    · rw [h]; decide
    · unfold Lib.itoa at h
      split at h
      · rcases List.mem_cons.1 h with h | h
        · rw [h]; decide
        · exact hd _ c h
      · exact hd _ c h
    · exact ih c h
def Nx (s word : List UInt8) (n : Nat) (ns : List Int) (r : List UInt8) : Prop := s = word ++ lnum ns ++ 10 :: r ∧ ns.length = n ∧ ∀ m ∈ ns, InR m
theorem nl_one : ∀ (a b r q : List UInt8), NoL a → NoL b → a ++ 10 :: r = b ++ 10 :: q → a = b ∧ r = q
  | [], [], r, q, _, _, h => by simp at h; exact ⟨rfl, h⟩
  | [], c :: b, _, _, _, hb, h => by
    simp only [List.nil_append, List.cons_append, List.cons.injEq] at h
    exact absurd h.1.symm (hb c (by simp))
  | c :: a, [], _, _, ha, _, h => by
    simp only [List.nil_append, List.cons_append, List.cons.injEq] at h
    exact absurd h.1 (ha c (by simp))
  | c :: a, d :: b, r, q, ha, hb, h => by
    simp only [List.cons_append, List.cons.injEq] at h
    obtain ⟨h1, h2⟩ := nl_one a b r q (fun x hx => ha x (by simp [hx])) (fun x hx => hb x (by simp [hx])) h.2
    exact ⟨by rw [h.1, h1], h2⟩
theorem NoL.app {a b : List UInt8} (ha : NoL a) (hb : NoL b) : NoL (a ++ b) := fun c hc => by
  rcases List.mem_append.1 hc with h | h
  · exact ha c h
  · exact hb c h
theorem nx_line {word word0 : List UInt8} {P : List (List UInt8)} {r : List UInt8} (hw : NoB word) (hwl : NoL word) (hw0 : NoB word0) (hP : ∀ p ∈ P, NoB p) (hl : NoL (word0 ++ bj P)) {n : Nat} {ns : List Int} {q : List UInt8} (h : Nx (word0 ++ bj P ++ 10 :: r) word n ns q) : word0 = word ∧ Says P ns ∧ P.length = n ∧ r = q := by
  obtain ⟨h1, h2, h3⟩ := h
  obtain ⟨e1, e2⟩ := nl_one _ _ r q hl (hwl.app (lnum_noL ns)) h1
  rw [lnum_bj] at e1
  obtain ⟨e3, e4⟩ := cut_one word0 word P _ hw0 hw hP (fun p hp => by obtain ⟨n, _, rfl⟩ := List.mem_map.1 hp; exact noB_itoa n) e1
  exact ⟨e3, ⟨e4, h3⟩, by rw [e4, List.length_map]; exact h2, e2⟩
theorem nx_none {s word : List UInt8} (h : NoL s) : ¬ ∃ n ns r, Nx s word n ns r := fun ⟨_, _, _, h1, _⟩ => h 10 (by rw [h1]; simp) rfl
def Pt (w : World) (R : Nat) (nv : Value) (c d n : Nat) : Prop :=
  ∃ p cap, nv = .slice p n cap ∧ n ≤ cap ∧ ∀ k, k < n → ∃ b o, p = some ⟨b, o, none⟩ ∧ b < w.heap.size ∧ ¬ b = R ∧ ¬ b = c ∧ w.cell? ⟨b, o + k, none⟩ = some (.pointer (some ⟨c, d + k, none⟩))
def RdPost (w : World) (R : Nat) (s word : List UInt8) (c d n : Nat) (X : List Value) (e : Ending) (w' : World) : Prop :=
  (∃ ns r, Nx s word n ns r ∧ e = .returned (.bool true) ∧ At w' R [.string (bs r)] ∧ At w' c (setl X d (ns.map (Value.int .i64))) ∧ Keep (fun x => x = R ∨ x = c) w w') ∨
  ((¬ ∃ ns r, Nx s word n ns r) ∧ e = .returned (.bool false) ∧ Below w.heap.size w w')
end Go.Proofs.YtanndhoimpnhpaaGreatDoor
namespace Go.Proofs.YtanndhoimpnhpaaGreatDoor
open Go.ChangeShapes Go.WideShapes Go.ChangeAt Go.RowKit Lg Cal
theorem idxB_index (c : UInt8) : ∀ l : List UInt8, Lib.indexByte l c = Lib.index l [c]
  | [] => by simp [Lib.indexByte, Lib.index]
  | b :: l => by
    have ih := idxB_index c l
    by_cases hb : b = c
    · simp [Lib.indexByte, Lib.index, hb]
    · have hb2 : ¬ c = b := fun e => hb e.symm
      simp [Lib.indexByte, Lib.index, hb, hb2, ih]
set_option maxHeartbeats 2000000 in
set_option maxRecDepth 100000 in
theorem lcut_any (s : ByteArray) (c : UInt8) (w : World) (hs : s.size ≤ 1000000000000000) :
    Calls Tryz.prog 127 #[.string s, .string ⟨#[c]⟩] w fun e w' => e = .returned (.tuple #[.string ⟨(Lib.cut s.data.toList [c]).1.toArray⟩, .string ⟨(Lib.cut s.data.toList [c]).2.1.toArray⟩, .bool (Lib.cut s.data.toList [c]).2.2]) ∧ ∃ n, w' = w.drewN n := by
  have hC := Tryz.stringslite_Index_one s c w
  rcases Lib.indexB_cases s ⟨#[c]⟩ with hix | ⟨i, hix, hroom⟩
  · have hB : Lib.indexByte s.data.toList c = -1 := (idxB_index c _).trans hix
    obtain ⟨e1, e2, e3⟩ := Lib.cutB_miss s ⟨#[c]⟩ hix
    rw [show ([c] : List UInt8) = (⟨#[c]⟩ : ByteArray).data.toList from rfl, e1, e2, e3]
    rw [hB] at hC
    clear hB e1 e2 e3 hix
    go_enter Tryz.func127, Tryz.ntmps127
    go_wp2_with fail
    refine hC.mono ?_
    rintro e w' ⟨rfl, hw'⟩
    obtain rfl := hw'.symm
    clear hC hw'
    go_wp2
    go_ret3
    exact ⟨rfl, 0, rfl⟩
  · have hB : Lib.indexByte s.data.toList c = i := (idxB_index c _).trans hix
    obtain ⟨e1, e2, e3⟩ := Lib.cutB_hit s ⟨#[c]⟩ i hix
    rw [show ([c] : List UInt8) = (⟨#[c]⟩ : ByteArray).data.toList from rfl, e1, e2, e3]
    rw [hB] at hC
    have hroom : i + 1 ≤ s.size := hroom
    have c1 : (0 : Int) ≤ ↑i := by omega
    have c2 : (↑i : Int) ≤ ↑s.size := by omega
    have c3 : (0 : Int) ≤ ↑i + 1 := by omega
    have c4 : (↑i + 1 : Int) ≤ ↑s.size := by omega
    have c5 : IntKind.i64.wrap ((i : Int) + 1) = (i : Int) + 1 := by rw [IntKind.wrap_i64]; omega
    clear hB e1 e2 e3 hix
    go_enter Tryz.func127, Tryz.ntmps127
    go_wp2_with fail
    refine hC.mono ?_
    rintro e w' ⟨rfl, hw'⟩
    obtain rfl := hw'.symm
    clear hC hw'
    go_wp2
    go_region
    go_wp2
    go_ret3
    exact ⟨rfl, 1, rfl⟩
set_option maxHeartbeats 1000000 in
theorem cut1_any (s : ByteArray) (c : UInt8) (w : World) (hs : s.size ≤ 1000000000000000) :
    Calls Tryz.prog 101 #[.string s, .string ⟨#[c]⟩] w fun e w' => e = .returned (.tuple #[.string ⟨(Lib.cut s.data.toList [c]).1.toArray⟩, .string ⟨(Lib.cut s.data.toList [c]).2.1.toArray⟩, .bool (Lib.cut s.data.toList [c]).2.2]) ∧ ∃ n, w' = w.drewN n := by
  have hC := lcut_any s c w hs
  generalize (Lib.cut s.data.toList [c]) = x at *
  obtain ⟨x1, x2, x3⟩ := x
  dsimp only at *
  go_enter Tryz.func101, Tryz.ntmps101
  go_wp2_with fail
  refine hC.mono ?_
  rintro e w' ⟨rfl, n, rfl⟩
  clear hC
  go_wp2
  go_ret3
  exact ⟨rfl, n, rfl⟩
end Go.Proofs.YtanndhoimpnhpaaGreatDoor
namespace Go.Proofs.YtanndhoimpnhpaaGreatDoor
def Shl (s : List UInt8) : Prop := (∀ l ∈ (cutL s).1, l.length < 4294967281) ∧ (cutL s).2.length < 4294967281
def Sh (s : List UInt8) : Prop := Shl s ∧ s.length ≤ 1000000000000
theorem cutL_len : ∀ s : List UInt8, (∀ l ∈ (cutL s).1, l.length ≤ s.length) ∧ (cutL s).2.length ≤ s.length
  | [] => ⟨fun l hl => by simp [cutL] at hl, by simp [cutL]⟩
  | c :: r => by
    have ih := cutL_len r
    rw [cutL]
    split
    · refine ⟨fun l hl => ?_, by simp; omega⟩
      rcases List.mem_cons.1 hl with rfl | hl
      · simp
      · have := ih.1 l hl; simp; omega
    · cases h : (cutL r).1 with
      | nil => exact ⟨fun l hl => by simp at hl, by simp; omega⟩
      | cons x y =>
        rw [h] at ih
        refine ⟨fun l hl => ?_, by simp; omega⟩
        rcases List.mem_cons.1 hl with rfl | hl
        · have := ih.1 x (by simp); simp; omega
        · have := ih.1 l (by simp [hl]); simp; omega
theorem Sh.short {s : List UInt8} (h : s.length < 4294967281) : Sh s :=
  ⟨⟨fun l hl => by have := (cutL_len s).1 l hl; omega, by have := (cutL_len s).2; omega⟩, by omega⟩
theorem Shl.line {line r : List UInt8} (hn : NoL line) (h : Shl (line ++ 10 :: r)) : line.length < 4294967281 ∧ Shl r := by
  unfold Shl at h
  rw [cutL_line _ _ hn] at h
  exact ⟨h.1 line (by simp), fun l hl => h.1 l (by simp [hl]), h.2⟩
theorem Sh.line {line r : List UInt8} (hn : NoL line) (h : Sh (line ++ 10 :: r)) : line.length < 4294967281 ∧ Sh r := by
  obtain ⟨h1, h2⟩ := h.1.line hn
  refine ⟨h1, h2, ?_⟩
  have := h.2
  simp at this
  omega
theorem Sh.tail {s : List UInt8} (hn : NoL s) (h : Sh s) : s.length < 4294967281 := by
  have := h.1.2
  rw [cutL_tail s hn] at this
  exact this
def Lq (s' s : List UInt8) : Prop := s'.length ≤ s.length ∧ (Sh s → Sh s')
theorem Lq.refl (s : List UInt8) : Lq s s := ⟨Nat.le_refl _, fun h => h⟩
theorem Lq.trans {a b c : List UInt8} (h : Lq a b) (h' : Lq b c) : Lq a c := ⟨Nat.le_trans h.1 h'.1, fun x => h.2 (h'.2 x)⟩
theorem Lq.nx {s word : List UInt8} {n : Nat} {ns : List Int} {r : List UInt8} (hw : NoL word) (h : Nx s word n ns r) : Lq r s := by
  obtain ⟨rfl, _, _⟩ := h
  exact ⟨by simp; omega, fun h => (h.line (hw.app (lnum_noL ns))).2⟩
end Go.Proofs.YtanndhoimpnhpaaGreatDoor
namespace Go.Proofs.YtanndhoimpnhpaaGreatDoor
open Go.ChangeShapes Go.WideShapes Go.ChangeAt Go.RowKit Lg Cal Txt
theorem bj_mem : ∀ (P : List (List UInt8)) (p : List UInt8), p ∈ P → p.length ≤ (bj P).length
  | [], _, h => absurd h List.not_mem_nil
  | q :: P, p, h => by
    rcases List.mem_cons.1 h with rfl | h
    · simp [bj]; omega
    · have := bj_mem P p h
      simp only [bj, List.length_cons, List.length_append]
      omega
set_option maxRecDepth 10000 in
set_option maxHeartbeats 4000000 in
theorem read_any (w : World) (R : Nat) (s word : List UInt8) (c d n : Nat) (X : List Value) (nv : Value) (hA : At w R [.string (bs s)]) (hs : Sh s) (hP : Pt w R nv c d n) (hX : At w c X) (hd : d + n ≤ X.length) (hcR : ¬ c = R) (hw : NoB word) (hwl : NoL word) (hw1 : 0 < word.length) (hn : n ≤ 100) (hg : Gl w) :
    Calls Tryz.prog 73 #[.pointer (some ⟨R, 0, none⟩), .string (bs word), nv] w (RdPost w R s word c d n X) := by
  obtain ⟨m, hm⟩ := hg.mx
  obtain ⟨pn, capn, rfl, hcapn, hpt⟩ := hP
  have c0 : w.cell? ⟨R, 0, none⟩ = some (.string (bs s)) := hA.cell 0 rfl
  have HM : Hid (∀ wx, Below w.heap.size w wx → wx.cell? ⟨4, 0, none⟩ = some (.int .i64 m)) := fun wx hx => (hx.cell (World.block_lt_of_cell? w _ hm)).trans hm
  have HG : Hid (Gl w) := hg
  have HA : Hid (At w R [.string (bs s)]) := hA
  have HX : Hid (At w c X) := hX
  have HPt : Hid (∀ k, k < n → ∃ b o, pn = some ⟨b, o, none⟩ ∧ b < w.heap.size ∧ ¬ b = R ∧ ¬ b = c ∧ w.cell? ⟨b, o + k, none⟩ = some (.pointer (some ⟨c, d + k, none⟩))) := hpt
  have HW : Hid (NoB word ∧ NoL word) := ⟨hw, hwl⟩
  clear hA hX hpt hw hwl hg
  rcases nl_cases s with hno | ⟨line, r, hsl, hnl⟩
  · have HE : Hid (∀ wx, Below w.heap.size w wx → RdPost w R s word c d n X (.returned (.bool false)) wx) := fun wx hx => .inr ⟨fun ⟨ns, r, h⟩ => nx_none hno ⟨n, ns, r, h⟩, rfl, hx⟩
    have hC := cut1_any (bs s) 10 w (by rw [bs_size]; have := hs.2; omega)
    rw [bs_list, cut_tail hno] at hC
    dsimp only at hC
    have HSp : Hid (∀ wx, Below w.heap.size w wx → Calls Tryz.prog 102 #[.string ⟨s.toArray⟩, .string ⟨#[32]⟩, .int .i64 ((n : Int) + 2)] wx fun e w' => ∃ p q z, e = .returned (.slice p q z) ∧ Below wx.heap.size wx w') := fun wx hx => by
      have h1 := Tryz.strings_SplitN (bs s) (bs [32]) (n + 2) m wx (by rw [bs_size]; exact hs.tail hno) (HM.out wx hx) (by decide) (by omega) (by omega)
      rw [show (((n + 2 : Nat) : Int)) = (n : Int) + 2 by omega] at h1
      refine h1.mono ?_
      rintro e w' ⟨rfl, rfl⟩
      exact ⟨_, _, _, rfl, (Below.refl _ _).alloc (Nat.le_refl _) _⟩
    generalize bs s = S at *
    go_enter Tryz.func73, Tryz.ntmps73
    go_wp2_with fail
    refine hC.mono ?_
    rintro e w1 ⟨rfl, q, rfl⟩
    have hb1 : Below w.heap.size w (w.drewN q) := ⟨rfl, rfl, rfl, Nat.le_refl _, fun _ _ => rfl⟩
    have hS := HSp.out _ hb1
    clear hC
    generalize w.drewN q = w1 at *
    go_wp2_with fail
    refine hS.mono ?_
    rintro e w2 ⟨p, q, z, rfl, hb2⟩
    have HE2 := HE.out w2 (hb1.trans (hb2.mono hb1.size))
    have HE3 : Hid (RdPost w R s word c d n X (.returned (.bool false)) w2) := HE2
    clear hS hb2 hb1 HE2
    go_wp2
    go_ret
    exact HE3.out
  · obtain ⟨word0, P, hline, hw0, hPb⟩ := cut_blanks line
    subst hline
    have HNx : Hid (∀ ns q, Nx s word n ns q → word0 = word ∧ Says P ns ∧ P.length = n ∧ r = q) := fun ns q h => by
      rw [hsl] at h
      exact nx_line HW.out.1 HW.out.2 hw0 hPb hnl h
    have HE : Hid (∀ wx, Below w.heap.size w wx → ¬ (word0 = word ∧ (∃ ns, Says P ns) ∧ P.length = n) → RdPost w R s word c d n X (.returned (.bool false)) wx) := fun wx hx hn => .inr ⟨fun ⟨ns, q, h⟩ => hn (by
      obtain ⟨h1, h2, h3, _⟩ := HNx.out ns q h
      exact ⟨h1, ⟨ns, h2⟩, h3⟩), rfl, hx⟩
    have hll : (word0 ++ bj P).length < 4294967281 := by rw [hsl] at hs; exact (hs.line hnl).1
    have hC := cut1_any (bs s) 10 w (by rw [bs_size]; have := hs.2; omega)
    rw [bs_list, hsl, cut_line hnl] at hC
    rw [← hsl] at hC
    dsimp only at hC
    have HSp : Hid (∀ wx, Below w.heap.size w wx → Calls Tryz.prog 102 #[.string ⟨(word0 ++ bj P).toArray⟩, .string ⟨#[32]⟩, .int .i64 ((n : Int) + 2)] wx fun e w' => ∃ Y z, e = .returned (.slice (some ⟨wx.heap.size, 0, none⟩) Y.length z) ∧ Y.length ≤ z ∧ (0 < word0.length → 1 < z) ∧ ((P.length = n ∧ Y = (word0 :: P).map bs) ∨ (¬ P.length = n ∧ ¬ Y.length = n + 1)) ∧ Below wx.heap.size wx w' ∧ ∀ j (hj : j < Y.length), w'.cell? ⟨wx.heap.size, j, none⟩ = some (.string Y[j])) := fun wx hx => by
      have h1 := Tryz.strings_SplitN (bs (word0 ++ bj P)) (bs [32]) (n + 2) m wx (by rw [bs_size]; exact hll) (HM.out wx hx) (by decide) (by omega) (by omega)
      rw [show (((n + 2 : Nat) : Int)) = (n : Int) + 2 by omega] at h1
      refine h1.mono ?_
      rintro e w' ⟨rfl, rfl⟩
      have hsp := split_line word0 P n hw0 hPb
      have hle : (Lib.splitB (bs [32]) 0 (min (n + 2) ((bs (word0 ++ bj P)).size + 1) - 1) (bs (word0 ++ bj P))).length ≤ min (n + 2) ((bs (word0 ++ bj P)).size + 1) := by
        have h2 : ∀ (k : Nat) (x : ByteArray), (Lib.splitB (bs [32]) 0 k x).length ≤ k + 1 := fun k => by
          induction k with
          | zero => intro x; simp [Lib.splitB]
          | succ k ih =>
            intro x
            rw [Lib.splitB]
            split
            · simp
            · rw [List.length_cons]
              have := ih (x.extract ((Lib.indexB x (bs [32])).toNat + (bs [32]).size) x.size)
              omega
        have := h2 (min (n + 2) ((bs (word0 ++ bj P)).size + 1) - 1) (bs (word0 ++ bj P))
        omega
      refine ⟨_, _, rfl, hle, fun h0 => ?_, hsp, (Below.refl _ _).alloc (Nat.le_refl _) _, fun j hj => ?_⟩
      · rw [bs_size, List.length_append]; omega
      exact (At.alloc wx _ 9 j (.string _) (by rw [List.getElem?_append_left (by rw [List.length_map]; exact hj), List.getElem?_map, List.getElem?_eq_getElem hj]; rfl)).1
    have HL : Hid (NoB word0 ∧ (∀ p ∈ P, NoB p) ∧ (word0 ++ bj P).length < 4294967281 ∧ s = word0 ++ bj P ++ 10 :: r) := ⟨hw0, hPb, hll, hsl⟩
    clear hw0 hPb hll hsl hnl
    generalize bs s = S at *
    go_enter Tryz.func73, Tryz.ntmps73
    go_wp2_with fail
    refine hC.mono ?_
    rintro e w1 ⟨rfl, q, rfl⟩
    have hb1 : Below w.heap.size w (w.drewN q) := ⟨rfl, rfl, rfl, Nat.le_refl _, fun _ _ => rfl⟩
    have hS := HSp.out _ hb1
    clear hC
    generalize w.drewN q = w1 at *
    go_wp2_with fail
    refine hS.mono ?_
    rintro e w2 ⟨Y, z, rfl, hYz, hz1, hor, hb2, hcl⟩
    have HB2 : Hid (Below w.heap.size w w2) := hb1.trans (hb2.mono hb1.size)
    have HN : Hid (w.heap.size ≤ w1.heap.size ∧ w1.heap.size ≤ w2.heap.size) := ⟨hb1.size, hb2.size⟩
    have HCl : Hid (∀ j (hj : j < Y.length), w2.cell? ⟨w1.heap.size, j, none⟩ = some (.string Y[j])) := hcl
    clear hS hb2 hb1 hcl
    generalize w1.heap.size = N at *
    rcases hor with ⟨hPn, hY⟩ | ⟨hPn, hY⟩
    · subst hPn
      subst hY
      have eY : ((word0 :: P).map bs).length = P.length + 1 := by simp
      have c20 : w2.cell? ⟨N, 0, none⟩ = some (.string (bs word0)) := HCl.out 0 (by simp)
      have HC2 : Hid (∀ j (hj : j < P.length), w2.cell? ⟨N, 1 + j, none⟩ = some (.string (bs P[j]))) := fun j hj => by
        have := HCl.out (1 + j) (by simp; omega)
        rw [this]
        simp [Nat.add_comm 1 j]
      rw [eY] at hYz ⊢
      clear eY HCl
      by_cases hww : word0 = word
      · have hq : ((bs word0).toList == (bs word).toList) = true := by rw [ba_beq, hww]; simp
        have hq2 : ((bs word0).toList != (bs word).toList) = false := by rw [bne, hq]; rfl
        have HWw : Hid (word0 = word) := hww
        have HNl : Hid (N < w2.heap.size) := World.block_lt_of_cell? _ _ c20
        have hRn := rnums_any w2 (.slice (some ⟨N, 1, none⟩) P.length (z - 1)) P ⟨_, _, rfl, by omega, fun k hk => ⟨N, 1, rfl, HNl.out, HC2.out k hk⟩⟩ (by omega) (fun p hp => by
          have h1 := HL.out.2.2.1
          have h2 := bj_mem P p hp
          rw [List.length_append] at h1
          omega) (HG.out.below HB2.out)
        have hz2 : 1 < z := hz1 (by rw [hww]; exact hw1)
        clear hww hz1
        generalize bs word0 = S0 at *
        generalize bs word = Sw at *
        go_wp2_with fail
        refine hRn.mono ?_
        rintro e w3 ⟨hb3, hx⟩
        clear hRn
        have HB3 : Hid (Below w.heap.size w w3) := HB2.out.trans (hb3.mono HB2.out.size)
        rcases hx with ⟨ns, N2, hsay, rfl, hN2, hA2⟩ | ⟨hno, v, rfl⟩
        · have enl : ns.length = P.length := by have := congrArg List.length hsay.1; rw [List.length_map] at this; omega
          rw [enl] at hA2 ⊢
          have HSay : Hid (Says P ns) := hsay
          have HNs : Hid (ns.length = P.length) := enl
          have HRn : Hid (At w3 N2 (hc P.length (fun j => ns.getD j 0))) := hA2
          have HN2 : Hid (w.heap.size ≤ N2) := Nat.le_trans (Nat.le_trans HN.out.1 HN.out.2) hN2
          have HX3 : Hid (At w3 c X) := HX.out.lower HB3.out
          have HR3 : Hid (At w3 R [.string S]) := HA.out.lower HB3.out
          clear enl hsay hA2 hN2 hb3 HN HE HNx HSp HC2 c20 hYz
          go_wp2
          go_loopw [13, 14, 56] (fun _ _ s56 wr => ∃ k : Nat, k ≤ P.length ∧ s56 = .int .i64 k ∧ At wr c (setl X d ((ns.take k).map (Value.int .i64))) ∧ Keep (fun x => x = c) w3 wr) (fun _ _ s56 _ => P.length - (intOf s56).toNat)
          case atStart => exact ⟨0, Nat.zero_le _, rfl, HX3.out, Keep.refl _ _⟩
          case round =>
            obtain ⟨k, hk, rfl, hAc, hkp⟩ := hrel
            have HAc : Hid (At wr c (setl X d ((ns.take k).map (Value.int .i64)))) := hAc
            have HK : Hid (Keep (fun x => x = c) w3 wr) := hkp
            clear hAc hkp
            by_cases hlt : k < P.length
            · have zk : (k : Int) < (P.length : Int) := by omega
              obtain ⟨b, o, rfl, hbl, hbR, hbc, hcell⟩ := HPt.out k hlt
              have hp1 : wr.cell? ⟨b, o + k, none⟩ = some (.pointer (some ⟨c, d + k, none⟩)) :=
                ((World.cell?_of_block (w := w3) (a := ⟨b, o + k, none⟩) (HK.out.block b (Nat.lt_of_lt_of_le hbl HB3.out.size) hbc)).trans (World.cell?_of_block (w := w) (a := ⟨b, o + k, none⟩) (HB3.out.block b hbl))).trans hcell
              have hln : (ns.take k).length = k := by rw [List.length_take, HNs.out]; omega
              have hcl : c < w.heap.size := by
                have h1 := HX.out d X[d] (List.getElem?_eq_getElem (by omega))
                exact World.block_lt_of_cell? _ _ h1.1
              have hNc : ¬ N2 = c := by have := HN2.out; omega
              have hr1 : wr.cell? ⟨N2, k, none⟩ = some (.int .i64 (ns.getD k 0)) := by
                have h1 := HRn.out k _ (hc_at _ _ k hlt)
                exact (World.cell?_of_block (w := w3) (a := ⟨N2, k, none⟩) (HK.out.block N2 (World.block_lt_of_cell? _ _ h1.1) hNc)).trans h1.1
              have hdk : d + k < (setl X d ((ns.take k).map (Value.int .i64))).length := by rw [setl_len]; omega
              have h3 := HAc.out (d + k) _ (List.getElem?_eq_getElem hdk)
              have c3 := h3.1
              have f3 := h3.2
              have HTk : Hid (setl X d ((ns.take (k + 1)).map (Value.int .i64)) = (setl X d ((ns.take k).map (Value.int .i64))).set (d + k) (.int .i64 (ns.getD k 0))) := by
                have hkn : k < ns.length := by rw [HNs.out]; exact hlt
                show _ = _
                rw [List.take_succ_eq_append_getElem hkn, List.map_append, List.map_singleton, setl_snoc, List.length_map, hln, List.getD_eq_getElem?_getD, List.getElem?_eq_getElem hkn]
                rfl
              have HA4 : Hid (At (wr.setCell ⟨c, d + k, none⟩ (.int .i64 (ns.getD k 0))) c (setl X d ((ns.take (k + 1)).map (Value.int .i64)))) := by
                have := HAc.out.set (d + k) hdk (.int .i64 (ns.getD k 0))
                rw [← HTk.out] at this
                exact this
              have HK4 : Hid (Keep (fun x => x = c) w3 (wr.setCell ⟨c, d + k, none⟩ (.int .i64 (ns.getD k 0)))) := HK.out.set (S := fun x => x = c) rfl (d + k) _
              clear h3 hcell hbl hbR hbc hcl hNc hln
              generalize (setl X d ((ns.take k).map (Value.int .i64)))[d + k] = old at *
              clear hdk HTk
              generalize ns.getD k 0 = zz at *
              go_wp2_with fail
              generalize wr.setCell ⟨c, d + k, none⟩ (.int .i64 zz) = w4 at *
              exact ⟨⟨k + 1, hlt, rfl, HA4.out, HK4.out⟩, by simp [intOf]; omega⟩
            · obtain rfl : k = P.length := by omega
              have zk : ¬ (P.length : Int) < (P.length : Int) := by omega
              have hR4 : At wr R [.string S] := HR3.out.block (HK.out.block R (At.lt HR3.out) (fun e => hcR e.symm))
              have c4 : wr.cell? ⟨R, 0, none⟩ = some (.string S) := hR4.cell 0 rfl
              have f4 : wr.frozen? ⟨R, 0, none⟩ = false := hR4.free 0 rfl
              have HE3 : Hid (RdPost w R s word c d P.length X (.returned (.bool true)) (wr.setCell ⟨R, 0, none⟩ (.string (bs r)))) := by
                refine .inl ⟨ns, r, ⟨?_, HNs.out, HSay.out.2⟩, rfl, hR4.set 0 (by simp) _, ?_, ?_⟩
                · rw [HL.out.2.2.2, HWw.out, lnum_bj, ← HSay.out.1]
                · have := HAc.out
                  rw [← HNs.out, List.take_length] at this
                  exact this.other (fun e => hcR e.symm) 0 _
                · exact ((Keep.below HB3.out).trans (HK.out.mono (fun k _ h => .inr h))).set (S := fun x => x = R ∨ x = c) (.inl rfl) 0 _
              clear hR4
              go_wp2_with fail
              go_ret
              exact HE3.out
        · have HE3 : Hid (RdPost w R s word c d P.length X (.returned (.bool false)) w3) := HE.out _ HB3.out (fun h => hno h.2.1)
          clear hno hb3
          go_wp2
          go_ret
          exact HE3.out
      · have hq : ((bs word0).toList == (bs word).toList) = false := by rw [ba_beq]; exact decide_eq_false (fun h => hww (by have := bs_eq h; rwa [bs_list] at this))
        have hq2 : ((bs word0).toList != (bs word).toList) = true := by rw [bne, hq]; rfl
        have HE3 : Hid (RdPost w R s word c d P.length X (.returned (.bool false)) w2) := HE.out _ HB2.out (fun h => hww h.1)
        clear hww
        generalize bs word0 = S0 at *
        generalize bs word = Sw at *
        go_wp2
        go_ret
        exact HE3.out
    · have HE3 : Hid (RdPost w R s word c d n X (.returned (.bool false)) w2) := HE.out _ HB2.out (fun h => hPn h.2.2)
      have zy : ((Y.length : Int) != (n : Int) + 1) = true := by rw [bne_iff_ne]; omega
      clear hPn hY
      go_wp2
      go_ret
      exact HE3.out
end Go.Proofs.YtanndhoimpnhpaaGreatDoor
