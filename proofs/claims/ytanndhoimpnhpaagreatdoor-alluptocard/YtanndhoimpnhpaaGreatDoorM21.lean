/- Joined by program: TzB, TyK, TzA, TxW, TxX, TxP. -/
import Derived.Test.YtanndhoimpnhpaaGreatDoorM20
import Derived.Test.YtanndhoimpnhpaaGreatDoorM15
import Derived.Test.YtanndhoimpnhpaaGreatDoorM6
import Derived.Test.YtanndhoimpnhpaaGreatDoorM14
import Derived.Lib.CutLaws
import Derived.WalkKit
import Derived.Deep.RegionHeld3
import Derived.Test.YtanndhoimpnhpaaGreatDoorM16
import Derived.Test.YtanndhoimpnhpaaGreatDoorM2
import Derived.Test.YtanndhoimpnhpaaGreatDoorM1
import Derived.Lib.OthersKept
import Derived.Lib.AppendStr
import Derived.Lib.AppendIntMem
import Derived.Laws.OwnMore
namespace Go.Proofs.YtanndhoimpnhpaaGreatDoor
def Shl (s : List UInt8) : Prop := (∀ l ∈ (cutL s).1, l.length < 4294967281) ∧ (cutL s).2.length < 4294967281
def Sh (s : List UInt8) : Prop := Shl s ∧ s.length ≤ 1000000000000
theorem cutL_len : ∀ s : List UInt8, (∀ l ∈ (cutL s).1, l.length ≤ s.length) ∧ (cutL s).2.length ≤ s.length
  | [] => ⟨fun l hl => by simp [cutL] at hl, by simp [cutL]⟩
  | c :: r => by
    have ih := cutL_len r
    rw [cutL]
    split
    · refine ⟨fun l hl => ?_, by simp; omega⟩
      rcases List.mem_cons.1 hl with rfl | hl
      · simp
      · have := ih.1 l hl; simp; omega
    · cases h : (cutL r).1 with
      | nil => exact ⟨fun l hl => by simp at hl, by simp; omega⟩
      | cons x y =>
        rw [h] at ih
        refine ⟨fun l hl => ?_, by simp; omega⟩
        rcases List.mem_cons.1 hl with rfl | hl
        · have := ih.1 x (by simp); simp; omega
        · have := ih.1 l (by simp [hl]); simp; omega
theorem Sh.short {s : List UInt8} (h : s.length < 4294967281) : Sh s :=
  ⟨⟨fun l hl => by have := (cutL_len s).1 l hl; omega, by have := (cutL_len s).2; omega⟩, by omega⟩
theorem Shl.line {line r : List UInt8} (hn : NoL line) (h : Shl (line ++ 10 :: r)) : line.length < 4294967281 ∧ Shl r := by
  unfold Shl at h
  rw [cutL_line _ _ hn] at h
  exact ⟨h.1 line (by simp), fun l hl => h.1 l (by simp [hl]), h.2⟩
theorem Shl.more {line r : List UInt8} (hn : NoL line) (h1 : line.length < 4294967281) (h : Shl r) : Shl (line ++ 10 :: r) := by
  unfold Shl
  rw [cutL_line _ _ hn]
  refine ⟨fun l hl => ?_, h.2⟩
  rcases List.mem_cons.1 hl with rfl | hl
  · exact h1
  · exact h.1 l hl
theorem Sh.line {line r : List UInt8} (hn : NoL line) (h : Sh (line ++ 10 :: r)) : line.length < 4294967281 ∧ Sh r := by
  obtain ⟨h1, h2⟩ := h.1.line hn
  refine ⟨h1, h2, ?_⟩
  have := h.2
  simp at this
  omega
theorem Sh.tail {s : List UInt8} (hn : NoL s) (h : Sh s) : s.length < 4294967281 := by
  have := h.1.2
  rw [cutL_tail s hn] at this
  exact this
def Lq (s' s : List UInt8) : Prop := s'.length ≤ s.length ∧ (Sh s → Sh s')
theorem Lq.refl (s : List UInt8) : Lq s s := ⟨Nat.le_refl _, fun h => h⟩
theorem Lq.trans {a b c : List UInt8} (h : Lq a b) (h' : Lq b c) : Lq a c := ⟨Nat.le_trans h.1 h'.1, fun x => h.2 (h'.2 x)⟩
theorem Lq.nx {s word : List UInt8} {n : Nat} {ns : List Int} {r : List UInt8} (hw : NoL word) (h : Nx s word n ns r) : Lq r s := by
  obtain ⟨rfl, _, _⟩ := h
  exact ⟨by simp; omega, fun h => (h.line (hw.app (lnum_noL ns))).2⟩
end Go.Proofs.YtanndhoimpnhpaaGreatDoor
namespace Go.Proofs.YtanndhoimpnhpaaGreatDoor
open Go.RowKit Cal
theorem Sav.tel {t : Ln.Terms} {E : List Ln.Ev} {g : Ln.St} {day : Int} {L : List En} (h : Sav t E g day L) : Tel t E day L := by
  refine ⟨h.rt, fun i hi => ⟨fun x hx => ?_, ?_⟩, h.d0, h.d1, fun e he => ?_⟩
  · have hm : x ∈ E.take i := List.mem_of_getLast? hx
    have hp := h.so
    rw [← List.take_append_drop i E, List.drop_eq_getElem_cons hi] at hp
    exact (List.pairwise_append.1 hp).2.2 x hm E[i] List.mem_cons_self
  · have h1 := h.le
    rw [addC_eq, if_neg (by rw [(h.f0 E[i] (List.getElem_mem hi)).1]; simp), if_neg (by rw [List.length_take]; omega), if_neg]
    intro hx
    unfold hasS at hx
    rw [List.any_eq_true] at hx
    obtain ⟨x, hm, hq⟩ := hx
    have hp := h.ds
    rw [← List.take_append_drop i E, List.drop_eq_getElem_cons hi] at hp
    exact (List.pairwise_append.1 hp).2.2 x hm E[i] List.mem_cons_self (by simpa using hq)
  · obtain ⟨h1, h2, h3, h4, h5, _⟩ := h.en e he
    exact ⟨h1, h2, h3, h4, h5⟩
theorem Sav.len {t : Ln.Terms} {E : List Ln.Ev} {g : Ln.St} {day : Int} {L : List En} (h : Sav t E g day L) : (txtB t E g day L).length ≤ 5000 + 100 * L.length := by
  have hr := h.rg
  have h1 := lineB_len wLoan (tmN t) hr.tm
  have h2 := evT_len E hr.ev
  have h3 := lineB_len wAt [day] (fun n hn => by rw [List.mem_singleton.1 hn]; exact hr.dy)
  have h4 := lineB_len wNow (nwN g) hr.nw
  have h5 := enT_len L hr.en
  have h6 := lineB_len wEnd [] (fun n hn => by simp at hn)
  have h7 := h.le
  have e1 : wLoan.length = 4 := rfl
  have e2 : wAt.length = 2 := rfl
  have e3 : wNow.length = 3 := rfl
  have e4 : wEnd.length = 3 := rfl
  have e5 : (tmN t).length = 6 := rfl
  have e6 : (nwN g).length = 7 := rfl
  unfold txtB
  simp only [List.length_append, List.length_cons, List.length_nil] at *
  omega
theorem shl_line {word : List UInt8} {ns : List Int} {r : List UInt8} (hw : NoL word) (hl : word.length ≤ 10) (hn : ∀ n ∈ ns, InR n) (hc : ns.length ≤ 10) (h : Shl r) : Shl (lineB word ns ++ r) := by
  have h1 := lnum_len ns hn
  rw [show lineB word ns ++ r = (word ++ lnum ns) ++ 10 :: r by simp [lineB]]
  exact Shl.more (hw.app (lnum_noL ns)) (by rw [List.length_append]; omega) h
theorem shl_ev : ∀ (E : List Ln.Ev) {r : List UInt8}, (∀ e ∈ E, ∀ n ∈ evN e, InR n) → Shl r → Shl (evT E ++ r)
  | [], r, _, h => h
  | e :: E, r, hr, h => by
    rw [evT, List.append_assoc]
    exact shl_line (noL_wdk 1 (by omega)) (by decide) (hr e (by simp)) (by simp [evN]) (shl_ev E (fun x hx => hr x (by simp [hx])) h)
theorem shl_en : ∀ (L : List En) {r : List UInt8}, (∀ e ∈ L, ∀ n ∈ enN e, InR n) → Shl r → Shl (enT L ++ r)
  | [], r, _, h => h
  | e :: L, r, hr, h => by
    rw [enT, List.append_assoc]
    exact shl_line (noL_wdk 4 (by omega)) (by decide) (hr e (by simp)) (by simp [enN]) (shl_en L (fun x hx => hr x (by simp [hx])) h)
theorem Sav.sh {t : Ln.Terms} {E : List Ln.Ev} {g : Ln.St} {day : Int} {L : List En} (h : Sav t E g day L) (hL : L.length ≤ 9900000000) : Sh (txtB t E g day L) := by
  have hr := h.rg
  refine ⟨?_, by have := h.len; omega⟩
  have e1 : txtB t E g day L = lineB wLoan (tmN t) ++ (evT E ++ (lineB wAt [day] ++ (lineB wNow (nwN g) ++ (enT L ++ (lineB wEnd [] ++ []))))) := by
    unfold txtB
    simp only [List.append_assoc, List.append_nil]
  rw [e1]
  refine shl_line (noL_wdk 0 (by omega)) (by decide) hr.tm (by simp [tmN]) (shl_ev E hr.ev (shl_line (noL_wdk 2 (by omega)) (by decide) (fun n hn => by rw [List.mem_singleton.1 hn]; exact hr.dy) (by simp) (shl_line (noL_wdk 3 (by omega)) (by decide) hr.nw (by simp [nwN]) (shl_en L hr.en (shl_line (noL_wdk 5 (by omega)) (by decide) (fun n hn => by simp at hn) (by simp) ?_)))))
  exact (Sh.short (s := []) (by decide)).1
theorem Sav.told {t : Ln.Terms} {E : List Ln.Ev} {g : Ln.St} {day : Int} {L : List En} (h : Sav t E g day L) : told (txtB t E g day L) = some ⟨t, E, cents g, day, L⟩ := txt_told h.tel h.rg
end Go.Proofs.YtanndhoimpnhpaaGreatDoor
namespace Go.Proofs.YtanndhoimpnhpaaGreatDoor
open Go.ChangeShapes Go.WideShapes Go.ChangeAt Go.RowKit Lg Cal
theorem idxB_index (c : UInt8) : ∀ l : List UInt8, Lib.indexByte l c = Lib.index l [c]
  | [] => by simp [Lib.indexByte, Lib.index]
  | b :: l => by
    have ih := idxB_index c l
    by_cases hb : b = c
    · simp [Lib.indexByte, Lib.index, hb]
    · have hb2 : ¬ c = b := fun e => hb e.symm
      simp [Lib.indexByte, Lib.index, hb, hb2, ih]
set_option maxHeartbeats 2000000 in
set_option maxRecDepth 100000 in
theorem lcut_any (s : ByteArray) (c : UInt8) (w : World) (hs : s.size ≤ 1000000000000000) :
    Calls Tryz.prog 127 #[.string s, .string ⟨#[c]⟩] w fun e w' => e = .returned (.tuple #[.string ⟨(Lib.cut s.data.toList [c]).1.toArray⟩, .string ⟨(Lib.cut s.data.toList [c]).2.1.toArray⟩, .bool (Lib.cut s.data.toList [c]).2.2]) ∧ ∃ n, w' = w.drewN n := by
  have hC := Tryz.stringslite_Index_one s c w
  rcases Lib.indexB_cases s ⟨#[c]⟩ with hix | ⟨i, hix, hroom⟩
  · have hB : Lib.indexByte s.data.toList c = -1 := (idxB_index c _).trans hix
    obtain ⟨e1, e2, e3⟩ := Lib.cutB_miss s ⟨#[c]⟩ hix
    rw [show ([c] : List UInt8) = (⟨#[c]⟩ : ByteArray).data.toList from rfl, e1, e2, e3]
    rw [hB] at hC
    clear hB e1 e2 e3 hix
    go_enter Tryz.func127, Tryz.ntmps127
    go_wp2_with fail
    refine hC.mono ?_
    rintro e w' ⟨rfl, hw'⟩
    obtain rfl := hw'.symm
    clear hC hw'
    go_wp2
    go_ret3
    exact ⟨rfl, 0, rfl⟩
  · have hB : Lib.indexByte s.data.toList c = i := (idxB_index c _).trans hix
    obtain ⟨e1, e2, e3⟩ := Lib.cutB_hit s ⟨#[c]⟩ i hix
    rw [show ([c] : List UInt8) = (⟨#[c]⟩ : ByteArray).data.toList from rfl, e1, e2, e3]
    rw [hB] at hC
    have hroom : i + 1 ≤ s.size := hroom
    have c1 : (0 : Int) ≤ ↑i := by omega
    have c2 : (↑i : Int) ≤ ↑s.size := by omega
    have c3 : (0 : Int) ≤ ↑i + 1 := by omega
    have c4 : (↑i + 1 : Int) ≤ ↑s.size := by omega
    have c5 : IntKind.i64.wrap ((i : Int) + 1) = (i : Int) + 1 := by rw [IntKind.wrap_i64]; omega
    clear hB e1 e2 e3 hix
    go_enter Tryz.func127, Tryz.ntmps127
    go_wp2_with fail
    refine hC.mono ?_
    rintro e w' ⟨rfl, hw'⟩
    obtain rfl := hw'.symm
    clear hC hw'
    go_wp2
    go_region
    go_wp2
    go_ret3
    exact ⟨rfl, 1, rfl⟩
set_option maxHeartbeats 1000000 in
theorem cut1_any (s : ByteArray) (c : UInt8) (w : World) (hs : s.size ≤ 1000000000000000) :
    Calls Tryz.prog 101 #[.string s, .string ⟨#[c]⟩] w fun e w' => e = .returned (.tuple #[.string ⟨(Lib.cut s.data.toList [c]).1.toArray⟩, .string ⟨(Lib.cut s.data.toList [c]).2.1.toArray⟩, .bool (Lib.cut s.data.toList [c]).2.2]) ∧ ∃ n, w' = w.drewN n := by
  have hC := lcut_any s c w hs
  generalize (Lib.cut s.data.toList [c]) = x at *
  obtain ⟨x1, x2, x3⟩ := x
  dsimp only at *
  go_enter Tryz.func101, Tryz.ntmps101
  go_wp2_with fail
  refine hC.mono ?_
  rintro e w' ⟨rfl, n, rfl⟩
  clear hC
  go_wp2
  go_ret3
  exact ⟨rfl, n, rfl⟩
end Go.Proofs.YtanndhoimpnhpaaGreatDoor
namespace Go.Proofs.YtanndhoimpnhpaaGreatDoor
open Go.ChangeShapes Go.WideShapes Go.ChangeAt Go.RowKit Lg Cal Txt
theorem bj_mem : ∀ (P : List (List UInt8)) (p : List UInt8), p ∈ P → p.length ≤ (bj P).length
  | [], _, h => absurd h List.not_mem_nil
  | q :: P, p, h => by
    rcases List.mem_cons.1 h with rfl | h
    · simp [bj]; omega
    · have := bj_mem P p h
      simp only [bj, List.length_cons, List.length_append]
      omega
set_option maxRecDepth 10000 in
set_option maxHeartbeats 4000000 in
theorem read_any (w : World) (R : Nat) (s word : List UInt8) (c d n : Nat) (X : List Value) (nv : Value) (hA : At w R [.string (bs s)]) (hs : Sh s) (hP : Pt w R nv c d n) (hX : At w c X) (hd : d + n ≤ X.length) (hcR : ¬ c = R) (hw : NoB word) (hwl : NoL word) (hw1 : 0 < word.length) (hn : n ≤ 100) (hg : Gl w) :
    Calls Tryz.prog 73 #[.pointer (some ⟨R, 0, none⟩), .string (bs word), nv] w (RdPost w R s word c d n X) := by
  obtain ⟨m, hm⟩ := hg.mx
  obtain ⟨pn, capn, rfl, hcapn, hpt⟩ := hP
  have c0 : w.cell? ⟨R, 0, none⟩ = some (.string (bs s)) := hA.cell 0 rfl
  have HM : Hid (∀ wx, Below w.heap.size w wx → wx.cell? ⟨4, 0, none⟩ = some (.int .i64 m)) := fun wx hx => (hx.cell (World.block_lt_of_cell? w _ hm)).trans hm
  have HG : Hid (Gl w) := hg
  have HA : Hid (At w R [.string (bs s)]) := hA
  have HX : Hid (At w c X) := hX
  have HPt : Hid (∀ k, k < n → ∃ b o, pn = some ⟨b, o, none⟩ ∧ b < w.heap.size ∧ ¬ b = R ∧ ¬ b = c ∧ w.cell? ⟨b, o + k, none⟩ = some (.pointer (some ⟨c, d + k, none⟩))) := hpt
  have HW : Hid (NoB word ∧ NoL word) := ⟨hw, hwl⟩
  clear hA hX hpt hw hwl hg
  rcases nl_cases s with hno | ⟨line, r, hsl, hnl⟩
  · have HE : Hid (∀ wx, Below w.heap.size w wx → RdPost w R s word c d n X (.returned (.bool false)) wx) := fun wx hx => .inr ⟨fun ⟨ns, r, h⟩ => nx_none hno ⟨n, ns, r, h⟩, rfl, hx⟩
    have hC := cut1_any (bs s) 10 w (by rw [bs_size]; have := hs.2; omega)
    rw [bs_list, cut_tail hno] at hC
    dsimp only at hC
    have HSp : Hid (∀ wx, Below w.heap.size w wx → Calls Tryz.prog 102 #[.string ⟨s.toArray⟩, .string ⟨#[32]⟩, .int .i64 ((n : Int) + 2)] wx fun e w' => ∃ p q z, e = .returned (.slice p q z) ∧ Below wx.heap.size wx w') := fun wx hx => by
      have h1 := Tryz.strings_SplitN (bs s) (bs [32]) (n + 2) m wx (by rw [bs_size]; exact hs.tail hno) (HM.out wx hx) (by decide) (by omega) (by omega)
      rw [show (((n + 2 : Nat) : Int)) = (n : Int) + 2 by omega] at h1
      refine h1.mono ?_
      rintro e w' ⟨rfl, rfl⟩
      exact ⟨_, _, _, rfl, (Below.refl _ _).alloc (Nat.le_refl _) _⟩
    generalize bs s = S at *
    go_enter Tryz.func73, Tryz.ntmps73
    go_wp2_with fail
    refine hC.mono ?_
    rintro e w1 ⟨rfl, q, rfl⟩
    have hb1 : Below w.heap.size w (w.drewN q) := ⟨rfl, rfl, rfl, Nat.le_refl _, fun _ _ => rfl⟩
    have hS := HSp.out _ hb1
    clear hC
    generalize w.drewN q = w1 at *
    go_wp2_with fail
    refine hS.mono ?_
    rintro e w2 ⟨p, q, z, rfl, hb2⟩
    have HE2 := HE.out w2 (hb1.trans (hb2.mono hb1.size))
    have HE3 : Hid (RdPost w R s word c d n X (.returned (.bool false)) w2) := HE2
    clear hS hb2 hb1 HE2
    go_wp2
    go_ret
    exact HE3.out
  · obtain ⟨word0, P, hline, hw0, hPb⟩ := cut_blanks line
    subst hline
    have HNx : Hid (∀ ns q, Nx s word n ns q → word0 = word ∧ Says P ns ∧ P.length = n ∧ r = q) := fun ns q h => by
      rw [hsl] at h
      exact nx_line HW.out.1 HW.out.2 hw0 hPb hnl h
    have HE : Hid (∀ wx, Below w.heap.size w wx → ¬ (word0 = word ∧ (∃ ns, Says P ns) ∧ P.length = n) → RdPost w R s word c d n X (.returned (.bool false)) wx) := fun wx hx hn => .inr ⟨fun ⟨ns, q, h⟩ => hn (by
      obtain ⟨h1, h2, h3, _⟩ := HNx.out ns q h
      exact ⟨h1, ⟨ns, h2⟩, h3⟩), rfl, hx⟩
    have hll : (word0 ++ bj P).length < 4294967281 := by rw [hsl] at hs; exact (hs.line hnl).1
    have hC := cut1_any (bs s) 10 w (by rw [bs_size]; have := hs.2; omega)
    rw [bs_list, hsl, cut_line hnl] at hC
    rw [← hsl] at hC
    dsimp only at hC
    have HSp : Hid (∀ wx, Below w.heap.size w wx → Calls Tryz.prog 102 #[.string ⟨(word0 ++ bj P).toArray⟩, .string ⟨#[32]⟩, .int .i64 ((n : Int) + 2)] wx fun e w' => ∃ Y z, e = .returned (.slice (some ⟨wx.heap.size, 0, none⟩) Y.length z) ∧ Y.length ≤ z ∧ (0 < word0.length → 1 < z) ∧ ((P.length = n ∧ Y = (word0 :: P).map bs) ∨ (¬ P.length = n ∧ ¬ Y.length = n + 1)) ∧ Below wx.heap.size wx w' ∧ ∀ j (hj : j < Y.length), w'.cell? ⟨wx.heap.size, j, none⟩ = some (.string Y[j])) := fun wx hx => by
      have h1 := Tryz.strings_SplitN (bs (word0 ++ bj P)) (bs [32]) (n + 2) m wx (by rw [bs_size]; exact hll) (HM.out wx hx) (by decide) (by omega) (by omega)
      rw [show (((n + 2 : Nat) : Int)) = (n : Int) + 2 by omega] at h1
      refine h1.mono ?_
      rintro e w' ⟨rfl, rfl⟩
      have hsp := split_line word0 P n hw0 hPb
      have hle : (Lib.splitB (bs [32]) 0 (min (n + 2) ((bs (word0 ++ bj P)).size + 1) - 1) (bs (word0 ++ bj P))).length ≤ min (n + 2) ((bs (word0 ++ bj P)).size + 1) := by
        have h2 : ∀ (k : Nat) (x : ByteArray), (Lib.splitB (bs [32]) 0 k x).length ≤ k + 1 := fun k => by
          induction k with
          | zero => intro x; simp [Lib.splitB]
          | succ k ih =>
            intro x
            rw [Lib.splitB]
            split
            · simp
            · rw [List.length_cons]
              have := ih (x.extract ((Lib.indexB x (bs [32])).toNat + (bs [32]).size) x.size)
              omega
        have := h2 (min (n + 2) ((bs (word0 ++ bj P)).size + 1) - 1) (bs (word0 ++ bj P))
        omega
      refine ⟨_, _, rfl, hle, fun h0 => ?_, hsp, (Below.refl _ _).alloc (Nat.le_refl _) _, fun j hj => ?_⟩
      · rw [bs_size, List.length_append]; omega
      exact (At.alloc wx _ 9 j (.string _) (by rw [List.getElem?_append_left (by rw [List.length_map]; exact hj), List.getElem?_map, List.getElem?_eq_getElem hj]; rfl)).1
    have HL : Hid (NoB word0 ∧ (∀ p ∈ P, NoB p) ∧ (word0 ++ bj P).length < 4294967281 ∧ s = word0 ++ bj P ++ 10 :: r) := ⟨hw0, hPb, hll, hsl⟩
    clear hw0 hPb hll hsl hnl
    generalize bs s = S at *
    go_enter Tryz.func73, Tryz.ntmps73
    go_wp2_with fail
    refine hC.mono ?_
    rintro e w1 ⟨rfl, q, rfl⟩
    have hb1 : Below w.heap.size w (w.drewN q) := ⟨rfl, rfl, rfl, Nat.le_refl _, fun _ _ => rfl⟩
    have hS := HSp.out _ hb1
    clear hC
    generalize w.drewN q = w1 at *
    go_wp2_with fail
    refine hS.mono ?_
    rintro e w2 ⟨Y, z, rfl, hYz, hz1, hor, hb2, hcl⟩
    have HB2 : Hid (Below w.heap.size w w2) := hb1.trans (hb2.mono hb1.size)
    have HN : Hid (w.heap.size ≤ w1.heap.size ∧ w1.heap.size ≤ w2.heap.size) := ⟨hb1.size, hb2.size⟩
    have HCl : Hid (∀ j (hj : j < Y.length), w2.cell? ⟨w1.heap.size, j, none⟩ = some (.string Y[j])) := hcl
    clear hS hb2 hb1 hcl
    generalize w1.heap.size = N at *
    rcases hor with ⟨hPn, hY⟩ | ⟨hPn, hY⟩
    · subst hPn
      subst hY
      have eY : ((word0 :: P).map bs).length = P.length + 1 := by simp
      have c20 : w2.cell? ⟨N, 0, none⟩ = some (.string (bs word0)) := HCl.out 0 (by simp)
      have HC2 : Hid (∀ j (hj : j < P.length), w2.cell? ⟨N, 1 + j, none⟩ = some (.string (bs P[j]))) := fun j hj => by
        have := HCl.out (1 + j) (by simp; omega)
        rw [this]
        simp [Nat.add_comm 1 j]
      rw [eY] at hYz ⊢
      clear eY HCl
      by_cases hww : word0 = word
      · have hq : ((bs word0).toList == (bs word).toList) = true := by rw [ba_beq, hww]; simp
        have hq2 : ((bs word0).toList != (bs word).toList) = false := by rw [bne, hq]; rfl
        have HWw : Hid (word0 = word) := hww
        have HNl : Hid (N < w2.heap.size) := World.block_lt_of_cell? _ _ c20
        have hRn := rnums_any w2 (.slice (some ⟨N, 1, none⟩) P.length (z - 1)) P ⟨_, _, rfl, by omega, fun k hk => ⟨N, 1, rfl, HNl.out, HC2.out k hk⟩⟩ (by omega) (fun p hp => by
          have h1 := HL.out.2.2.1
          have h2 := bj_mem P p hp
          rw [List.length_append] at h1
          omega) (HG.out.below HB2.out)
        have hz2 : 1 < z := hz1 (by rw [hww]; exact hw1)
        clear hww hz1
        generalize bs word0 = S0 at *
        generalize bs word = Sw at *
        go_wp2_with fail
        refine hRn.mono ?_
        rintro e w3 ⟨hb3, hx⟩
        clear hRn
        have HB3 : Hid (Below w.heap.size w w3) := HB2.out.trans (hb3.mono HB2.out.size)
        rcases hx with ⟨ns, N2, hsay, rfl, hN2, hA2⟩ | ⟨hno, v, rfl⟩
        · have enl : ns.length = P.length := by have := congrArg List.length hsay.1; rw [List.length_map] at this; omega
          rw [enl] at hA2 ⊢
          have HSay : Hid (Says P ns) := hsay
          have HNs : Hid (ns.length = P.length) := enl
          have HRn : Hid (At w3 N2 (hc P.length (fun j => ns.getD j 0))) := hA2
          have HN2 : Hid (w.heap.size ≤ N2) := Nat.le_trans (Nat.le_trans HN.out.1 HN.out.2) hN2
          have HX3 : Hid (At w3 c X) := HX.out.lower HB3.out
          have HR3 : Hid (At w3 R [.string S]) := HA.out.lower HB3.out
          clear enl hsay hA2 hN2 hb3 HN HE HNx HSp HC2 c20 hYz
          go_wp2
          go_loopw [13, 14, 56] (fun _ _ s56 wr => ∃ k : Nat, k ≤ P.length ∧ s56 = .int .i64 k ∧ At wr c (setl X d ((ns.take k).map (Value.int .i64))) ∧ Keep (fun x => x = c) w3 wr) (fun _ _ s56 _ => P.length - (intOf s56).toNat)
          case atStart => exact ⟨0, Nat.zero_le _, rfl, HX3.out, Keep.refl _ _⟩
          case round =>
            obtain ⟨k, hk, rfl, hAc, hkp⟩ := hrel
            have HAc : Hid (At wr c (setl X d ((ns.take k).map (Value.int .i64)))) := hAc
            have HK : Hid (Keep (fun x => x = c) w3 wr) := hkp
            clear hAc hkp
            by_cases hlt : k < P.length
            · have zk : (k : Int) < (P.length : Int) := by omega
              obtain ⟨b, o, rfl, hbl, hbR, hbc, hcell⟩ := HPt.out k hlt
              have hp1 : wr.cell? ⟨b, o + k, none⟩ = some (.pointer (some ⟨c, d + k, none⟩)) :=
                ((World.cell?_of_block (w := w3) (a := ⟨b, o + k, none⟩) (HK.out.block b (Nat.lt_of_lt_of_le hbl HB3.out.size) hbc)).trans (World.cell?_of_block (w := w) (a := ⟨b, o + k, none⟩) (HB3.out.block b hbl))).trans hcell
              have hln : (ns.take k).length = k := by rw [List.length_take, HNs.out]; omega
              have hcl : c < w.heap.size := by
                have h1 := HX.out d X[d] (List.getElem?_eq_getElem (by omega))
                exact World.block_lt_of_cell? _ _ h1.1
              have hNc : ¬ N2 = c := by have := HN2.out; omega
              have hr1 : wr.cell? ⟨N2, k, none⟩ = some (.int .i64 (ns.getD k 0)) := by
                have h1 := HRn.out k _ (hc_at _ _ k hlt)
                exact (World.cell?_of_block (w := w3) (a := ⟨N2, k, none⟩) (HK.out.block N2 (World.block_lt_of_cell? _ _ h1.1) hNc)).trans h1.1
              have hdk : d + k < (setl X d ((ns.take k).map (Value.int .i64))).length := by rw [setl_len]; omega
              have h3 := HAc.out (d + k) _ (List.getElem?_eq_getElem hdk)
              have c3 := h3.1
              have f3 := h3.2
              have HTk : Hid (setl X d ((ns.take (k + 1)).map (Value.int .i64)) = (setl X d ((ns.take k).map (Value.int .i64))).set (d + k) (.int .i64 (ns.getD k 0))) := by
                have hkn : k < ns.length := by rw [HNs.out]; exact hlt
                show _ = _
                rw [List.take_succ_eq_append_getElem hkn, List.map_append, List.map_singleton, setl_snoc, List.length_map, hln, List.getD_eq_getElem?_getD, List.getElem?_eq_getElem hkn]
                rfl
              have HA4 : Hid (At (wr.setCell ⟨c, d + k, none⟩ (.int .i64 (ns.getD k 0))) c (setl X d ((ns.take (k + 1)).map (Value.int .i64)))) := by
                have := HAc.out.set (d + k) hdk (.int .i64 (ns.getD k 0))
                rw [← HTk.out] at this
                exact this
              have HK4 : Hid (Keep (fun x => x = c) w3 (wr.setCell ⟨c, d + k, none⟩ (.int .i64 (ns.getD k 0)))) := HK.out.set (S := fun x => x = c) rfl (d + k) _
              clear h3 hcell hbl hbR hbc hcl hNc hln
              generalize (setl X d ((ns.take k).map (Value.int .i64)))[d + k] = old at *
              clear hdk HTk
              generalize ns.getD k 0 = zz at *
              go_wp2_with fail
              generalize wr.setCell ⟨c, d + k, none⟩ (.int .i64 zz) = w4 at *
              exact ⟨⟨k + 1, hlt, rfl, HA4.out, HK4.out⟩, by simp [intOf]; omega⟩
            · obtain rfl : k = P.length := by omega
              have zk : ¬ (P.length : Int) < (P.length : Int) := by omega
              have hR4 : At wr R [.string S] := HR3.out.block (HK.out.block R (At.lt HR3.out) (fun e => hcR e.symm))
              have c4 : wr.cell? ⟨R, 0, none⟩ = some (.string S) := hR4.cell 0 rfl
              have f4 : wr.frozen? ⟨R, 0, none⟩ = false := hR4.free 0 rfl
              have HE3 : Hid (RdPost w R s word c d P.length X (.returned (.bool true)) (wr.setCell ⟨R, 0, none⟩ (.string (bs r)))) := by
                refine .inl ⟨ns, r, ⟨?_, HNs.out, HSay.out.2⟩, rfl, hR4.set 0 (by simp) _, ?_, ?_⟩
                · rw [HL.out.2.2.2, HWw.out, lnum_bj, ← HSay.out.1]
                · have := HAc.out
                  rw [← HNs.out, List.take_length] at this
                  exact this.other (fun e => hcR e.symm) 0 _
                · exact ((Keep.below HB3.out).trans (HK.out.mono (fun k _ h => .inr h))).set (S := fun x => x = R ∨ x = c) (.inl rfl) 0 _
              clear hR4
              go_wp2_with fail
              go_ret
              exact HE3.out
        · have HE3 : Hid (RdPost w R s word c d P.length X (.returned (.bool false)) w3) := HE.out _ HB3.out (fun h => hno h.2.1)
          clear hno hb3
          go_wp2
          go_ret
          exact HE3.out
      · have hq : ((bs word0).toList == (bs word).toList) = false := by rw [ba_beq]; exact decide_eq_false (fun h => hww (by have := bs_eq h; rwa [bs_list] at this))
        have hq2 : ((bs word0).toList != (bs word).toList) = true := by rw [bne, hq]; rfl
        have HE3 : Hid (RdPost w R s word c d P.length X (.returned (.bool false)) w2) := HE.out _ HB2.out (fun h => hww h.1)
        clear hww
        generalize bs word0 = S0 at *
        generalize bs word = Sw at *
        go_wp2
        go_ret
        exact HE3.out
    · have HE3 : Hid (RdPost w R s word c d n X (.returned (.bool false)) w2) := HE.out _ HB2.out (fun h => hPn h.2.2)
      have zy : ((Y.length : Int) != (n : Int) + 1) = true := by rw [bne_iff_ne]; omega
      clear hPn hY
      go_wp2
      go_ret
      exact HE3.out
end Go.Proofs.YtanndhoimpnhpaaGreatDoor
namespace Go.Proofs.YtanndhoimpnhpaaGreatDoor
open Go.ChangeShapes Go.WideShapes Go.ChangeAt Go.RowKit Lg Cal
theorem newreader_any (w : World) (s : List UInt8) : Calls Tryz.prog 34 #[.string (bs s)] w fun e w' => e = .returned (.pointer (some ⟨w.heap.size, 0, none⟩)) ∧ At w' w.heap.size [.string (bs s)] ∧ Below w.heap.size w w' := by
  have HA : Hid (At (w.alloc (.cells #[.string (bs s)] 142)) w.heap.size [.string (bs s)]) := At.alloc w [.string (bs s)] _
  have HB : Hid (Below w.heap.size w (w.alloc (.cells #[.string (bs s)] 142))) := (Below.refl _ _).alloc (Nat.le_refl _) _
  generalize bs s = S at *
  go_enter Tryz.func34, Tryz.ntmps34
  go_wp2
  go_ret
  exact ⟨rfl, HA.out, HB.out⟩
theorem atend_any (w : World) (R : Nat) (s : List UInt8) (hA : At w R [.string (bs s)]) : Calls Tryz.prog 77 #[.pointer (some ⟨R, 0, none⟩)] w fun e w' => e = .returned (.bool (decide (s = []))) ∧ w' = w := by
  have c0 : w.cell? ⟨R, 0, none⟩ = some (.string (bs s)) := hA.cell 0 rfl
  have HX2 : Hid ((bs s).toList.isEmpty = decide (s = [])) := by
    show _ = _
    rw [ByteArray.toList_eq, bs_list]
    cases s <;> rfl
  obtain ⟨x, hx⟩ : ∃ b, (bs s).toList.isEmpty = b := ⟨_, rfl⟩
  rw [hx] at HX2
  clear hA
  generalize bs s = S at *
  go_enter Tryz.func77, Tryz.ntmps77
  go_wp2
  go_ret
  exact ⟨by rw [← HX2.out]; rfl, rfl⟩
def reB (t : Ln.Terms) (day d k a : Int) : Bool := decide (t.st ≤ d ∧ d ≤ day - 1) && (decide (1 ≤ k ∧ k ≤ 12) && decide (¬ a = 0))
set_option maxRecDepth 10000 in
set_option maxHeartbeats 2000000 in
theorem rightentry_any (w : World) (B : Nat) (t : Ln.Terms) (evv : Value) (g : Ln.St) (day : Int) (bk : Value) (hA : At w B (ll t evv g day bk)) (h0 : -1000000 ≤ day) (h1 : day ≤ 1000000) (d k a : Int) :
    Calls Tryz.prog 104 #[.pointer (some ⟨B, 0, none⟩), .agg #[.int .i64 d, .int .i64 k, .int .i64 a]] w fun e w' => e = .returned (.bool (reB t day d k a)) ∧ Below w.heap.size w w' := by
  have hB1 : Below w.heap.size w (w.alloc (.cells #[.int .i64 d, .int .i64 k, .int .i64 a] 114)) := (Below.refl _ _).alloc (Nat.le_refl _) _
  have hA1 : At (w.alloc (.cells #[.int .i64 d, .int .i64 k, .int .i64 a] 114)) w.heap.size [.int .i64 d, .int .i64 k, .int .i64 a] := At.alloc w [.int .i64 d, .int .i64 k, .int .i64 a] _
  have hA2 : At (w.alloc (.cells #[.int .i64 d, .int .i64 k, .int .i64 a] 114)) B (ll t evv g day bk) := At.keep (S := fun _ => False) (v := .int .i64 t.st) hA (Keep.below hB1) (fun x => x)
  have HB1 : Hid (Below w.heap.size w (w.alloc (.cells #[.int .i64 d, .int .i64 k, .int .i64 a] 114))) := hB1
  have HN : Hid (∀ wx, Below (w.alloc (.cells #[.int .i64 d, .int .i64 k, .int .i64 a] 114)).heap.size (w.alloc (.cells #[.int .i64 d, .int .i64 k, .int .i64 a] 114)) wx → At wx w.heap.size [.int .i64 d, .int .i64 k, .int .i64 a] ∧ At wx B (ll t evv g day bk)) := fun wx hx => ⟨hA1.lower hx, hA2.lower hx⟩
  have z1 : IntKind.i64.wrap (day - 1) = day - 1 := by rw [IntKind.wrap_i64]; omega
  have HL1 : Hid (∀ W, Calls Tryz.prog 36 #[.agg #[.int .i64 t.st, .int .i64 (day - 1)], .int .i64 d] W fun e w' => e = .returned (.bool (decide (t.st ≤ d ∧ d ≤ day - 1))) ∧ Below W.heap.size W w') := fun W => by
    by_cases h : t.st ≤ d ∧ d ≤ day - 1
    · rw [decide_eq_true h]; exact allow_yes _ _ _ W h.1 h.2
    · rw [decide_eq_false h]; exact allow_no _ _ _ W (by omega)
  have HL2 : Hid (∀ W, Calls Tryz.prog 36 #[.agg #[.int .i64 1, .int .i64 12], .int .i64 k] W fun e w' => e = .returned (.bool (decide (1 ≤ k ∧ k ≤ 12))) ∧ Below W.heap.size W w') := fun W => by
    by_cases h : 1 ≤ k ∧ k ≤ 12
    · rw [decide_eq_true h]; exact allow_yes _ _ _ W h.1 h.2
    · rw [decide_eq_false h]; exact allow_no _ _ _ W (by omega)
  obtain ⟨x1, e1⟩ : ∃ b, decide (t.st ≤ d ∧ d ≤ day - 1) = b := ⟨_, rfl⟩
  obtain ⟨x2, e2⟩ : ∃ b, decide (1 ≤ k ∧ k ≤ 12) = b := ⟨_, rfl⟩
  obtain ⟨x3, e3⟩ : ∃ b, (a != (0 : Int)) = b := ⟨_, rfl⟩
  have HV : Hid (reB t day d k a = (x1 && (x2 && x3))) := by
    show _ = _
    unfold reB
    rw [e1, e2, ← e3]
    congr 2
    by_cases ha : a = 0 <;> simp [ha]
  rw [e1] at HL1
  rw [e2] at HL2
  clear e1 e2 hA hA1 hA2 hB1
  go_enter Tryz.func104, Tryz.ntmps104
  go_upto_region 1 with fail
  generalize w.alloc (.cells #[.int .i64 d, .int .i64 k, .int .i64 a] 114) = W1 at *
  have HN9 : Hid (∀ wx, Below W1.heap.size W1 wx → At wx w.heap.size [.int .i64 d, .int .i64 k, .int .i64 a] ∧ At wx B (ll t evv g day bk)) := HN.out
  clear HN
  have HB2 : Hid (Below w.heap.size w W1) := HB1.out
  clear HB1
  have HB1 : Hid (∀ x, Below W1.heap.size W1 x → Below w.heap.size w x) := fun x hx => HB2.out.trans (hx.mono HB2.out.size)
  clear HB2
  generalize hNe : w.heap.size = N at *
  have HNe : Hid (w.heap.size = N) := hNe
  clear hNe
  have HN0 : Hid (∀ wx, Below W1.heap.size W1 wx → wx.cell? ⟨N, 0, none⟩ = some (.int .i64 d)) := fun wx hx => (HN9.out wx hx).1.cell 0 rfl
  have HN1 : Hid (∀ wx, Below W1.heap.size W1 wx → wx.cell? ⟨N, 1, none⟩ = some (.int .i64 k)) := fun wx hx => (HN9.out wx hx).1.cell 1 rfl
  have HN2 : Hid (∀ wx, Below W1.heap.size W1 wx → wx.cell? ⟨N, 2, none⟩ = some (.int .i64 a)) := fun wx hx => (HN9.out wx hx).1.cell 2 rfl
  have HS0 : Hid (∀ wx, Below W1.heap.size W1 wx → wx.cell? ⟨B, 0, none⟩ = some (.int .i64 t.st)) := fun wx hx => (HN9.out wx hx).2.cell 0 rfl
  have HDy : Hid (∀ wx, Below W1.heap.size W1 wx → wx.cell? ⟨B, 14, none⟩ = some (.int .i64 day)) := fun wx hx => (HN9.out wx hx).2.cell 14 rfl
  clear HN9
  refine wp_region_held_drew (S := fun wx => Below W1.heap.size W1 wx) (by kernel_rfl) (Below.refl _ _).drew (fun hHeld => ?_)
  generalize W1.drew = U0 at *
  refine wpAnyH_take (i := 0) (v := (.pointer (some ⟨B, 0, none⟩))) rfl (by kernel_rfl) (by kernel_rfl) (by kernel_rfl) (fun _ _ _ h => h) (Or.inl ⟨by rfl, fun wx hSw => by kernel_rfl⟩) (by assumption) ?_
  simp only [Act.put, List.getElem_toArray, List.getElem_cons_zero, List.setIfInBounds_toArray, List.set_cons_zero, List.set_cons_succ]
  refine wpAnyH_take (i := 1) (v := (.pointer (some ⟨B, 0, none⟩))) rfl (by kernel_rfl) (by kernel_rfl) (by kernel_rfl) (fun _ _ _ h => h) (Or.inl ⟨by rfl, fun wx hSw => by ((try dsimp only at hSw); go_simp)⟩) (by assumption) ?_
  simp only [Act.put, List.getElem_toArray, List.getElem_cons_succ, List.getElem_cons_zero, List.setIfInBounds_toArray, List.set_cons_zero, List.set_cons_succ]
  refine wpAnyH_take (i := 2) (v := (.pointer (some ⟨B, 0, none⟩))) rfl (by kernel_rfl) (by kernel_rfl) (by kernel_rfl) (fun _ _ _ h => h) (Or.inl ⟨by rfl, fun wx hSw => by ((try dsimp only at hSw); go_simp)⟩) (by assumption) ?_
  simp only [Act.put, List.getElem_toArray, List.getElem_cons_succ, List.getElem_cons_zero, List.setIfInBounds_toArray, List.set_cons_zero, List.set_cons_succ]
  refine wpAnyH_take (i := 3) (v := (.pointer (some ⟨B, 0, none⟩))) rfl (by kernel_rfl) (by kernel_rfl) (by kernel_rfl) (fun _ _ _ h => h) (Or.inl ⟨by rfl, fun wx hSw => by ((try dsimp only at hSw); go_simp)⟩) (by assumption) ?_
  simp only [Act.put, List.getElem_toArray, List.getElem_cons_succ, List.getElem_cons_zero, List.setIfInBounds_toArray, List.set_cons_zero, List.set_cons_succ]
  refine wpAnyH_take (i := 4) (v := (.int .i64 t.st)) rfl (by kernel_rfl) (by kernel_rfl) (by kernel_rfl) (fun _ _ _ h => h) (Or.inl ⟨by rfl, fun wx hSw => by (have hc := (HS0.out wx hSw); go_simp)⟩) (by assumption) ?_
  simp only [Act.put, List.getElem_toArray, List.getElem_cons_succ, List.getElem_cons_zero, List.setIfInBounds_toArray, List.set_cons_zero, List.set_cons_succ]
  refine wpAnyH_take (i := 5) (v := (.pointer (some ⟨B, 0, none⟩))) rfl (by kernel_rfl) (by kernel_rfl) (by kernel_rfl) (fun _ _ _ h => h) (Or.inl ⟨by rfl, fun wx hSw => by kernel_rfl⟩) (by assumption) ?_
  simp only [Act.put, List.getElem_toArray, List.getElem_cons_succ, List.getElem_cons_zero, List.setIfInBounds_toArray, List.set_cons_zero, List.set_cons_succ]
  refine wpAnyH_take (i := 6) (v := (.pointer (some ⟨B, 0, none⟩))) rfl (by kernel_rfl) (by kernel_rfl) (by kernel_rfl) (fun _ _ _ h => h) (Or.inl ⟨by rfl, fun wx hSw => by ((try dsimp only at hSw); go_simp)⟩) (by assumption) ?_
  simp only [Act.put, List.getElem_toArray, List.getElem_cons_succ, List.getElem_cons_zero, List.setIfInBounds_toArray, List.set_cons_zero, List.set_cons_succ]
  refine wpAnyH_take (i := 7) (v := (.pointer (some ⟨B, 7, none⟩))) rfl (by kernel_rfl) (by kernel_rfl) (by kernel_rfl) (fun _ _ _ h => h) (Or.inl ⟨by rfl, fun wx hSw => by ((try dsimp only at hSw); go_simp)⟩) (by assumption) ?_
  simp only [Act.put, List.getElem_toArray, List.getElem_cons_succ, List.getElem_cons_zero, List.setIfInBounds_toArray, List.set_cons_zero, List.set_cons_succ]
  refine wpAnyH_take (i := 8) (v := (.pointer (some ⟨B, 14, none⟩))) rfl (by kernel_rfl) (by kernel_rfl) (by kernel_rfl) (fun _ _ _ h => h) (Or.inl ⟨by rfl, fun wx hSw => by ((try dsimp only at hSw); go_simp)⟩) (by assumption) ?_
  simp only [Act.put, List.getElem_toArray, List.getElem_cons_succ, List.getElem_cons_zero, List.setIfInBounds_toArray, List.set_cons_zero, List.set_cons_succ]
  refine wpAnyH_take (i := 9) (v := (.int .i64 day)) rfl (by kernel_rfl) (by kernel_rfl) (by kernel_rfl) (fun _ _ _ h => h) (Or.inl ⟨by rfl, fun wx hSw => by (have hc := (HDy.out wx hSw); go_simp)⟩) (by assumption) ?_
  simp only [Act.put, List.getElem_toArray, List.getElem_cons_succ, List.getElem_cons_zero, List.setIfInBounds_toArray, List.set_cons_zero, List.set_cons_succ]
  refine wpAnyH_take (i := 10) (v := (.int .i64 (day - 1))) rfl (by kernel_rfl) (by kernel_rfl) (by kernel_rfl) (fun _ _ _ h => h) (Or.inl ⟨by rfl, fun wx hSw => by go_simp⟩) (by assumption) ?_
  simp only [Act.put, List.getElem_toArray, List.getElem_cons_succ, List.getElem_cons_zero, List.setIfInBounds_toArray, List.set_cons_zero, List.set_cons_succ]
  refine wpAnyH_take (i := 11) (v := (.agg #[.int .i64 t.st, .int .i64 (day - 1)])) rfl (by kernel_rfl) (by kernel_rfl) (by kernel_rfl) (fun _ _ _ h => h) (Or.inl ⟨by rfl, fun wx hSw => by go_simp⟩) (by assumption) ?_
  simp only [Act.put, List.getElem_toArray, List.getElem_cons_succ, List.getElem_cons_zero, List.setIfInBounds_toArray, List.set_cons_zero, List.set_cons_succ]
  refine wpAnyH_take (i := 12) (v := (.pointer (some ⟨N, 0, none⟩))) rfl (by kernel_rfl) (by kernel_rfl) (by kernel_rfl) (fun _ _ _ h => h) (Or.inl ⟨by rfl, fun wx hSw => by ((try dsimp only at hSw); go_simp)⟩) (by assumption) ?_
  simp only [Act.put, List.getElem_toArray, List.getElem_cons_succ, List.getElem_cons_zero, List.setIfInBounds_toArray, List.set_cons_zero, List.set_cons_succ]
  refine wpAnyH_take (i := 13) (v := (.int .i64 d)) rfl (by kernel_rfl) (by kernel_rfl) (by kernel_rfl) (fun _ _ _ h => h) (Or.inl ⟨by rfl, fun wx hSw => by (have hc := (HN0.out wx hSw); go_simp)⟩) (by assumption) ?_
  simp only [Act.put, List.getElem_toArray, List.getElem_cons_succ, List.getElem_cons_zero, List.setIfInBounds_toArray, List.set_cons_zero, List.set_cons_succ]
  refine wpAnyH_ready (rs := [14]) (by kernel_rfl) (by simp) ?_
  refine AllReadyH.cons rfl (fun K hK => ?_) AllReadyH.nil
  have hC := HL1.out U0
  go_simp
  refine hC.mono ?_
  rintro e U14 ⟨rfl, hb3⟩
  go_wp2_with fail
  have hb14 := hHeld.trans (hb3.mono hHeld.size)
  refine hK.out _ _ hb14 (fun hHeld => ?_)
  clear hK K hC hb3
  try simp only [Act.put, List.getElem_toArray, List.getElem_cons_succ, List.getElem_cons_zero, List.setIfInBounds_toArray, List.set_cons_zero, List.set_cons_succ]
  refine wpAnyH_take (i := 15) (v := (.bool x1)) rfl (by kernel_rfl) (by kernel_rfl) (by kernel_rfl) (fun _ _ _ h => h) (Or.inl ⟨by rfl, fun wx hSw => by kernel_rfl⟩) (by assumption) ?_
  simp only [Act.put, List.getElem_toArray, List.getElem_cons_succ, List.getElem_cons_zero, List.setIfInBounds_toArray, List.set_cons_zero, List.set_cons_succ]
  cases x1
  · skip
    refine wpAnyH_take (i := 16) (v := undef) rfl (by kernel_rfl) (by kernel_rfl) (by kernel_rfl) (fun _ _ _ h => h) (Or.inr ⟨by rfl, rfl⟩) (by assumption) ?_
    simp only [Act.put, List.getElem_toArray, List.getElem_cons_succ, List.getElem_cons_zero, List.setIfInBounds_toArray, List.set_cons_zero, List.set_cons_succ]
    refine wpAnyH_take (i := 17) (v := undef) rfl (by kernel_rfl) (by kernel_rfl) (by kernel_rfl) (fun _ _ _ h => h) (Or.inr ⟨by rfl, rfl⟩) (by assumption) ?_
    simp only [Act.put, List.getElem_toArray, List.getElem_cons_succ, List.getElem_cons_zero, List.setIfInBounds_toArray, List.set_cons_zero, List.set_cons_succ]
    refine wpAnyH_take (i := 18) (v := undef) rfl (by kernel_rfl) (by kernel_rfl) (by kernel_rfl) (fun _ _ _ h => h) (Or.inr ⟨by rfl, rfl⟩) (by assumption) ?_
    simp only [Act.put, List.getElem_toArray, List.getElem_cons_succ, List.getElem_cons_zero, List.setIfInBounds_toArray, List.set_cons_zero, List.set_cons_succ]
    refine wpAnyH_take (i := 19) (v := undef) rfl (by kernel_rfl) (by kernel_rfl) (by kernel_rfl) (fun _ _ _ h => h) (Or.inr ⟨by rfl, rfl⟩) (by assumption) ?_
    simp only [Act.put, List.getElem_toArray, List.getElem_cons_succ, List.getElem_cons_zero, List.setIfInBounds_toArray, List.set_cons_zero, List.set_cons_succ]
    refine wpAnyH_take (i := 20) (v := (.bool false)) rfl (by kernel_rfl) (by kernel_rfl) (by kernel_rfl) (fun _ _ _ h => h) (Or.inl ⟨by rfl, fun wx hSw => by ((try dsimp only at hSw); go_simp)⟩) (by assumption) ?_
    simp only [Act.put, List.getElem_toArray, List.getElem_cons_succ, List.getElem_cons_zero, List.setIfInBounds_toArray, List.set_cons_zero, List.set_cons_succ]
    refine wpAnyH_take (i := 21) (v := (.bool false)) rfl (by kernel_rfl) (by kernel_rfl) (by kernel_rfl) (fun _ _ _ h => h) (Or.inl ⟨by rfl, fun wx hSw => by kernel_rfl⟩) (by assumption) ?_
    simp only [Act.put, List.getElem_toArray, List.getElem_cons_succ, List.getElem_cons_zero, List.setIfInBounds_toArray, List.set_cons_zero, List.set_cons_succ]
    refine wpAnyH_take (i := 22) (v := undef) rfl (by kernel_rfl) (by kernel_rfl) (by kernel_rfl) (fun _ _ _ h => h) (Or.inr ⟨by rfl, rfl⟩) (by assumption) ?_
    simp only [Act.put, List.getElem_toArray, List.getElem_cons_succ, List.getElem_cons_zero, List.setIfInBounds_toArray, List.set_cons_zero, List.set_cons_succ]
    refine wpAnyH_take (i := 23) (v := undef) rfl (by kernel_rfl) (by kernel_rfl) (by kernel_rfl) (fun _ _ _ h => h) (Or.inr ⟨by rfl, rfl⟩) (by assumption) ?_
    simp only [Act.put, List.getElem_toArray, List.getElem_cons_succ, List.getElem_cons_zero, List.setIfInBounds_toArray, List.set_cons_zero, List.set_cons_succ]
    refine wpAnyH_take (i := 24) (v := undef) rfl (by kernel_rfl) (by kernel_rfl) (by kernel_rfl) (fun _ _ _ h => h) (Or.inr ⟨by rfl, rfl⟩) (by assumption) ?_
    simp only [Act.put, List.getElem_toArray, List.getElem_cons_succ, List.getElem_cons_zero, List.setIfInBounds_toArray, List.set_cons_zero, List.set_cons_succ]
    refine wpAnyH_take (i := 25) (v := (.bool false)) rfl (by kernel_rfl) (by kernel_rfl) (by kernel_rfl) (fun _ _ _ h => h) (Or.inl ⟨by rfl, fun wx hSw => by ((try dsimp only at hSw); go_simp)⟩) (by assumption) ?_
    simp only [Act.put, List.getElem_toArray, List.getElem_cons_succ, List.getElem_cons_zero, List.setIfInBounds_toArray, List.set_cons_zero, List.set_cons_succ]
    refine wpAnyH_take (i := 26) (v := (.bool false)) rfl (by kernel_rfl) (by kernel_rfl) (by kernel_rfl) (fun _ _ _ h => h) (Or.inl ⟨by rfl, fun wx hSw => by kernel_rfl⟩) (by assumption) ?_
    simp only [Act.put, List.getElem_toArray, List.getElem_cons_succ, List.getElem_cons_zero, List.setIfInBounds_toArray, List.set_cons_zero, List.set_cons_succ]
    refine wpAnyH_done (by kernel_rfl) ?_ _
    have HE : Hid (Below W1.heap.size W1 _) := hHeld
    go_wp2
    go_ret
    exact ⟨by rw [HV.out]; rfl, by rw [HNe.out]; exact HB1.out _ HE.out⟩
  · skip
    refine wpAnyH_take (i := 16) (v := (.agg #[.int .i64 1, .int .i64 12])) rfl (by kernel_rfl) (by kernel_rfl) (by kernel_rfl) (fun _ _ _ h => h) (Or.inl ⟨by rfl, fun wx hSw => by go_simp⟩) (by assumption) ?_
    simp only [Act.put, List.getElem_toArray, List.getElem_cons_succ, List.getElem_cons_zero, List.setIfInBounds_toArray, List.set_cons_zero, List.set_cons_succ]
    refine wpAnyH_take (i := 17) (v := (.pointer (some ⟨N, 1, none⟩))) rfl (by kernel_rfl) (by kernel_rfl) (by kernel_rfl) (fun _ _ _ h => h) (Or.inl ⟨by rfl, fun wx hSw => by ((try dsimp only at hSw); go_simp)⟩) (by assumption) ?_
    simp only [Act.put, List.getElem_toArray, List.getElem_cons_succ, List.getElem_cons_zero, List.setIfInBounds_toArray, List.set_cons_zero, List.set_cons_succ]
    refine wpAnyH_take (i := 18) (v := (.int .i64 k)) rfl (by kernel_rfl) (by kernel_rfl) (by kernel_rfl) (fun _ _ _ h => h) (Or.inl ⟨by rfl, fun wx hSw => by (have hc := (HN1.out wx hSw); go_simp)⟩) (by assumption) ?_
    simp only [Act.put, List.getElem_toArray, List.getElem_cons_succ, List.getElem_cons_zero, List.setIfInBounds_toArray, List.set_cons_zero, List.set_cons_succ]
    refine wpAnyH_ready (rs := [19]) (by kernel_rfl) (by simp) ?_
    refine AllReadyH.cons rfl (fun K hK => ?_) AllReadyH.nil
    have hC := HL2.out U14
    go_simp
    refine hC.mono ?_
    rintro e U19 ⟨rfl, hb3⟩
    go_wp2_with fail
    have hb19 := hHeld.trans (hb3.mono hHeld.size)
    refine hK.out _ _ hb19 (fun hHeld => ?_)
    clear hK K hC hb3
    try simp only [Act.put, List.getElem_toArray, List.getElem_cons_succ, List.getElem_cons_zero, List.setIfInBounds_toArray, List.set_cons_zero, List.set_cons_succ]
    refine wpAnyH_take (i := 20) (v := (.bool x2)) rfl (by kernel_rfl) (by kernel_rfl) (by kernel_rfl) (fun _ _ _ h => h) (Or.inl ⟨by rfl, fun wx hSw => by go_simp⟩) (by assumption) ?_
    simp only [Act.put, List.getElem_toArray, List.getElem_cons_succ, List.getElem_cons_zero, List.setIfInBounds_toArray, List.set_cons_zero, List.set_cons_succ]
    refine wpAnyH_take (i := 21) (v := (.bool x2)) rfl (by kernel_rfl) (by kernel_rfl) (by kernel_rfl) (fun _ _ _ h => h) (Or.inl ⟨by rfl, fun wx hSw => by kernel_rfl⟩) (by assumption) ?_
    simp only [Act.put, List.getElem_toArray, List.getElem_cons_succ, List.getElem_cons_zero, List.setIfInBounds_toArray, List.set_cons_zero, List.set_cons_succ]
    cases x2
    · skip
      refine wpAnyH_take (i := 22) (v := undef) rfl (by kernel_rfl) (by kernel_rfl) (by kernel_rfl) (fun _ _ _ h => h) (Or.inr ⟨by rfl, rfl⟩) (by assumption) ?_
      simp only [Act.put, List.getElem_toArray, List.getElem_cons_succ, List.getElem_cons_zero, List.setIfInBounds_toArray, List.set_cons_zero, List.set_cons_succ]
      refine wpAnyH_take (i := 23) (v := undef) rfl (by kernel_rfl) (by kernel_rfl) (by kernel_rfl) (fun _ _ _ h => h) (Or.inr ⟨by rfl, rfl⟩) (by assumption) ?_
      simp only [Act.put, List.getElem_toArray, List.getElem_cons_succ, List.getElem_cons_zero, List.setIfInBounds_toArray, List.set_cons_zero, List.set_cons_succ]
      refine wpAnyH_take (i := 24) (v := undef) rfl (by kernel_rfl) (by kernel_rfl) (by kernel_rfl) (fun _ _ _ h => h) (Or.inr ⟨by rfl, rfl⟩) (by assumption) ?_
      simp only [Act.put, List.getElem_toArray, List.getElem_cons_succ, List.getElem_cons_zero, List.setIfInBounds_toArray, List.set_cons_zero, List.set_cons_succ]
      refine wpAnyH_take (i := 25) (v := (.bool false)) rfl (by kernel_rfl) (by kernel_rfl) (by kernel_rfl) (fun _ _ _ h => h) (Or.inl ⟨by rfl, fun wx hSw => by ((try dsimp only at hSw); go_simp)⟩) (by assumption) ?_
      simp only [Act.put, List.getElem_toArray, List.getElem_cons_succ, List.getElem_cons_zero, List.setIfInBounds_toArray, List.set_cons_zero, List.set_cons_succ]
      refine wpAnyH_take (i := 26) (v := (.bool false)) rfl (by kernel_rfl) (by kernel_rfl) (by kernel_rfl) (fun _ _ _ h => h) (Or.inl ⟨by rfl, fun wx hSw => by kernel_rfl⟩) (by assumption) ?_
      simp only [Act.put, List.getElem_toArray, List.getElem_cons_succ, List.getElem_cons_zero, List.setIfInBounds_toArray, List.set_cons_zero, List.set_cons_succ]
      refine wpAnyH_done (by kernel_rfl) ?_ _
      have HE : Hid (Below W1.heap.size W1 _) := hHeld
      go_wp2
      go_ret
      exact ⟨by rw [HV.out]; rfl, by rw [HNe.out]; exact HB1.out _ HE.out⟩
    · skip
      refine wpAnyH_take (i := 22) (v := (.pointer (some ⟨N, 2, none⟩))) rfl (by kernel_rfl) (by kernel_rfl) (by kernel_rfl) (fun _ _ _ h => h) (Or.inl ⟨by rfl, fun wx hSw => by ((try dsimp only at hSw); go_simp)⟩) (by assumption) ?_
      simp only [Act.put, List.getElem_toArray, List.getElem_cons_succ, List.getElem_cons_zero, List.setIfInBounds_toArray, List.set_cons_zero, List.set_cons_succ]
      refine wpAnyH_take (i := 23) (v := (.int .i64 a)) rfl (by kernel_rfl) (by kernel_rfl) (by kernel_rfl) (fun _ _ _ h => h) (Or.inl ⟨by rfl, fun wx hSw => by (have hc := (HN2.out wx hSw); go_simp)⟩) (by assumption) ?_
      simp only [Act.put, List.getElem_toArray, List.getElem_cons_succ, List.getElem_cons_zero, List.setIfInBounds_toArray, List.set_cons_zero, List.set_cons_succ]
      refine wpAnyH_take (i := 24) (v := (.bool x3)) rfl (by kernel_rfl) (by kernel_rfl) (by kernel_rfl) (fun _ _ _ h => h) (Or.inl ⟨by rfl, fun wx hSw => by go_simp⟩) (by assumption) ?_
      simp only [Act.put, List.getElem_toArray, List.getElem_cons_succ, List.getElem_cons_zero, List.setIfInBounds_toArray, List.set_cons_zero, List.set_cons_succ]
      refine wpAnyH_take (i := 25) (v := (.bool x3)) rfl (by kernel_rfl) (by kernel_rfl) (by kernel_rfl) (fun _ _ _ h => h) (Or.inl ⟨by rfl, fun wx hSw => by ((try dsimp only at hSw); go_simp)⟩) (by assumption) ?_
      simp only [Act.put, List.getElem_toArray, List.getElem_cons_succ, List.getElem_cons_zero, List.setIfInBounds_toArray, List.set_cons_zero, List.set_cons_succ]
      refine wpAnyH_take (i := 26) (v := (.bool x3)) rfl (by kernel_rfl) (by kernel_rfl) (by kernel_rfl) (fun _ _ _ h => h) (Or.inl ⟨by rfl, fun wx hSw => by kernel_rfl⟩) (by assumption) ?_
      simp only [Act.put, List.getElem_toArray, List.getElem_cons_succ, List.getElem_cons_zero, List.setIfInBounds_toArray, List.set_cons_zero, List.set_cons_succ]
      refine wpAnyH_done (by kernel_rfl) ?_ _
      have HE : Hid (Below W1.heap.size W1 _) := hHeld
      go_wp2
      go_ret
      exact ⟨by rw [HV.out]; rfl, by rw [HNe.out]; exact HB1.out _ HE.out⟩
end Go.Proofs.YtanndhoimpnhpaaGreatDoor
namespace Go.Proofs.YtanndhoimpnhpaaGreatDoor
open Go.RowKit
def Wf (W : Nat) (w w' : World) : Prop := Below W w w' ∧ Lib.OthersKept 5 (some W) w w'
theorem Wf.refl (W : Nat) (w : World) : Wf W w w := ⟨Below.refl _ _, Lib.OthersKept.refl _ _ _⟩
theorem Wf.trans {W : Nat} {a b c : World} (h : Wf W a b) (k : Wf W b c) : Wf W a c := ⟨h.1.trans k.1, h.2.trans k.2⟩
theorem Wf.drew {W : Nat} {a w : World} (h : Wf W a w) : Wf W a w.drew := ⟨h.1.drew, h.2.drew⟩
theorem Wf.below {W : Nat} {w w' : World} (h : Below w.heap.size w w') (hW : W ≤ w.heap.size) : Wf W w w' :=
  ⟨h.mono hW, fun k o hk _ _ => by
    have hl : k < w.heap.size := by
      rcases Nat.lt_or_ge k w.heap.size with h | h
      · exact h
      · rw [Array.getElem?_eq_none h] at hk; cases hk
    rw [h.block k hl]; exact hk⟩
def Sf (w : World) (W b : Nat) : Prop := b < W ∨ (¬ b = W ∧ ∃ o, w.heap[b]? = some o ∧ ∀ c fz, ¬ o = .cells c 5 fz)
theorem Sf.same {w w' : World} {W b : Nat} (h : Sf w W b) (hf : Wf W w w') : w'.heap[b]? = w.heap[b]? := by
  rcases h with h | ⟨h1, o, h2, h3⟩
  · exact hf.1.block b h
  · rw [h2, hf.2 b o h2 (fun e => h1 (Option.some.inj e)) h3]
theorem Sf.keep {w w' : World} {W b : Nat} (h : Sf w W b) (hf : Wf W w w') : Sf w' W b := by
  have := h.same hf
  rcases h with h | ⟨h1, o, h2, h3⟩
  · exact .inl h
  · exact .inr ⟨h1, o, this.trans h2, h3⟩
def Wr (w : World) (W : Nat) (txt : List UInt8) : Prop := ∃ v, At w W [v] ∧ w.ownsRow (W + 1) 5 1 v txt.length (Lib.byteCells txt)
theorem own_row {w : World} {base : Nat} {e : TypeId} {size : Nat} {v : Value} {n : Nat} {xs : List Value} (h : w.ownsRow base e size v n xs) {k : Nat} (hk : v.ownBlock = some k) : ∃ cur, w.heap[k]? = some (.cells cur e (0, 0)) := by
  obtain ⟨_, ⟨rfl, _⟩ | ⟨g, cap, cur, rfl, _, h5, _⟩⟩ := h
  · cases hk
  · injection hk with hk
    subst hk
    exact ⟨cur, h5⟩
theorem Wr.set {w w1 : World} {W : Nat} {v v1 : Value} {n1 : Nat} {xs1 : List Value} (hA : At w W [v]) (hb : w1.heap[W]? = w.heap[W]?) (hf : Wf W w w1) (ho1 : w1.ownsRow (W + 1) 5 1 v1 n1 xs1) :
    At w1 W [v] ∧ Wf W w (w1.setCell ⟨W, 0, none⟩ v1) ∧ At (w1.setCell ⟨W, 0, none⟩ v1) W [v1] ∧ (w1.setCell ⟨W, 0, none⟩ v1).ownsRow (W + 1) 5 1 v1 n1 xs1 := by
  have a1 : At w1 W [v] := hA.block hb
  refine ⟨a1, hf.trans ⟨(Below.refl W w1).setCell (p := ⟨W, 0, none⟩) (Nat.le_refl _) v1, fun k o hk hne _ => ?_⟩, a1.set 0 (by simp) v1, ownsRow_setCell_below ho1 (Nat.lt_succ_self W) _⟩
  rw [Below.heap_setCell w1 ⟨W, 0, none⟩ v1 k (fun e => hne (by rw [e]))]
  exact hk
theorem Wr.put {w w1 : World} {W : Nat} {v v1 : Value} {n n1 : Nat} {xs xs1 : List Value} (hA : At w W [v]) (ho : w.ownsRow (W + 1) 5 1 v n xs) (hg : w.grownBy w1 v.ownBlock) (ho1 : w1.ownsRow (W + 1) 5 1 v1 n1 xs1) :
    At w1 W [v] ∧ Wf W w (w1.setCell ⟨W, 0, none⟩ v1) ∧ At (w1.setCell ⟨W, 0, none⟩ v1) W [v1] ∧ (w1.setCell ⟨W, 0, none⟩ v1).ownsRow (W + 1) 5 1 v1 n1 xs1 := by
  have hl : W < w.heap.size := At.lt hA
  have hn : ∀ k, k ≤ W → some k ≠ v.ownBlock := fun k hk e => by
    have := (own_base ho e.symm).1
    omega
  refine Wr.set hA (hg.block W hl (hn W (Nat.le_refl _))) ⟨⟨hg.os, hg.tape, hg.output, hg.size, fun k hk => hg.block k (by omega) (hn k (by omega))⟩, fun k o hk _ hno => ?_⟩ ho1
  have hkl : k < w.heap.size := by
    rcases Nat.lt_or_ge k w.heap.size with h | h
    · exact h
    · rw [Array.getElem?_eq_none h] at hk; cases hk
  rw [hg.block k hkl (fun e => by
    obtain ⟨cur, hc⟩ := own_row ho e.symm
    rw [hc] at hk
    injection hk with hk
    exact hno _ _ hk.symm)]
  exact hk
theorem Wr.put2 {w w1 : World} {W : Nat} {v v1 : Value} {n1 : Nat} {xs1 : List Value} (hA : At w W [v]) (hb : Below (W + 1) w w1) (hk : Lib.OthersKept 5 none w w1) (ho1 : w1.ownsRow (W + 1) 5 1 v1 n1 xs1) :
    At w1 W [v] ∧ Wf W w (w1.setCell ⟨W, 0, none⟩ v1) ∧ At (w1.setCell ⟨W, 0, none⟩ v1) W [v1] ∧ (w1.setCell ⟨W, 0, none⟩ v1).ownsRow (W + 1) 5 1 v1 n1 xs1 :=
  Wr.set hA (hb.block W (Nat.lt_succ_self W)) ⟨hb.mono (Nat.le_succ W), fun k o h1 _ h3 => hk k o h1 (fun e => by cases e) h3⟩ ho1
def Nm (w : World) (W : Nat) (nv : Value) (ns : List Int) : Prop :=
  ∃ p cap, nv = .slice p ns.length cap ∧ ns.length ≤ cap ∧ ∀ k (hk : k < ns.length), ∃ b o c d, p = some ⟨b, o, none⟩ ∧ w.cell? ⟨b, o + k, none⟩ = some (.pointer (some ⟨c, d, none⟩)) ∧ w.cell? ⟨c, d, none⟩ = some (.int .i64 ns[k]) ∧ Sf w W b ∧ Sf w W c
theorem Nm.keep {w w' : World} {W : Nat} {nv : Value} {ns : List Int} (h : Nm w W nv ns) (hf : Wf W w w') : Nm w' W nv ns := by
  obtain ⟨p, cap, h1, h2, h3⟩ := h
  refine ⟨p, cap, h1, h2, fun k hk => ?_⟩
  obtain ⟨b, o, c, d, e1, e2, e3, e4, e5⟩ := h3 k hk
  exact ⟨b, o, c, d, e1, (World.cell?_of_block (w := w) (a := ⟨b, o + k, none⟩) (e4.same hf)).trans e2, (World.cell?_of_block (w := w) (a := ⟨c, d, none⟩) (e5.same hf)).trans e3, e4.keep hf, e5.keep hf⟩
theorem tab_on {W : Nat} {w w1 : World} (h : Lib.TabBelow Tryz.prog W w "internal/strconv.uint64pow10" .u64 Lib.pow10Tab) (hf : Wf W w w1) : Lib.TabBelow Tryz.prog (W + 1) w1 "internal/strconv.uint64pow10" .u64 Lib.pow10Tab := fun w' hb => h w' (hf.1.trans (hb.mono (Nat.le_succ W)))
end Go.Proofs.YtanndhoimpnhpaaGreatDoor
