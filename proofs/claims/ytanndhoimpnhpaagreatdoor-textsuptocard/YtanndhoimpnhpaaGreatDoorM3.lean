/- Joined by program: TxT, Ow, Isv, TxC, TxE, LnB, LnC, LnD, LnF, CalD, CalR, CalE, LnH, So, LnS, LnT. -/
import Derived.Test.YtanndhoimpnhpaaGreatDoorM2
import Derived.Lib.Split
import Derived.Lib.AtoiAllCases
import Derived.Lib.ItoaMem
import Derived.WalkKit
import Derived.Below
import Derived.Maps.AppendAt
import Derived.Deep.AppendLies
import Derived.Test.YtanndhoimpnhpaaGreatDoorM1
import Derived.Deep.CutRange
import Derived.Laws.AppendOwn
import Derived.Deep.QuietTactic
import Derived.BigQuiet
import Derived.WalkSmall
import Derived.Deep.RegionHeld3
import Derived.Laws.OwnMore
import Derived.OwnWalk
namespace Go.Proofs.YtanndhoimpnhpaaGreatDoor
open Txt
theorem idx_hit (c : UInt8) : ∀ (a r : List UInt8), (∀ x ∈ a, ¬ x = c) → Lib.index (a ++ c :: r) [c] = a.length
  | [], r, _ => by simp [Lib.index]
  | b :: a, r, h => by
    have ih := idx_hit c a r (fun x hx => h x (by simp [hx]))
    have hb : ¬ c = b := fun e => h b (by simp) e.symm
    have hm : ¬ ((a.length : Int) = -1) := by omega
    simp [Lib.index, ih, hb, hm]
theorem idx_none (c : UInt8) : ∀ (a : List UInt8), (∀ x ∈ a, ¬ x = c) → Lib.index a [c] = -1
  | [], _ => by simp [Lib.index]
  | b :: a, h => by
    have ih := idx_none c a (fun x hx => h x (by simp [hx]))
    have hb : ¬ c = b := fun e => h b (by simp) e.symm
    simp [Lib.index, ih, hb]
theorem cut_line {line r : List UInt8} (h : NoL line) : Lib.cut (line ++ 10 :: r) [10] = (line, r, true) := by
  have e := idx_hit 10 line r h
  unfold Lib.cut
  rw [e, if_pos (by omega)]
  simp
theorem cut_tail {s : List UInt8} (h : NoL s) : Lib.cut s [10] = (s, [], false) := by
  unfold Lib.cut
  rw [idx_none 10 s h, if_neg (by omega)]
theorem split_few : ∀ (P : List (List UInt8)) (word : List UInt8) (m : Nat), NoB word → (∀ p ∈ P, NoB p) → P.length ≤ m → Lib.splitK [32] 0 m (word ++ bj P) = word :: P
  | [], word, 0, _, _, _ => by simp [Lib.splitK, bj]
  | [], word, m + 1, hw, _, _ => by
    have e : Lib.index (word ++ bj []) [32] = -1 := by simpa [bj] using idx_none 32 word hw
    rw [Lib.splitK, e, if_pos (by rfl)]
    simp [bj]
  | p :: P, word, 0, _, _, h => by simp at h
  | p :: P, word, m + 1, hw, hP, h => by
    have e : Lib.index (word ++ bj (p :: P)) [32] = word.length := idx_hit 32 word (p ++ bj P) hw
    have ih := split_few P p m (hP p (by simp)) (fun x hx => hP x (by simp [hx])) (by simp at h; omega)
    rw [Lib.splitK, e, if_neg (by simp)]
    have e2 : (word ++ bj (p :: P)).drop ((word.length : Int).toNat + [(32 : UInt8)].length) = p ++ bj P := by
      rw [Int.toNat_natCast]
      show (word ++ 32 :: (p ++ bj P)).drop (word.length + 1) = _
      rw [← List.drop_drop, List.drop_left]
      rfl
    rw [e2, ih]
    simp [bj]
theorem split_many : ∀ (P : List (List UInt8)) (word : List UInt8) (m : Nat), NoB word → (∀ p ∈ P, NoB p) → m < P.length → (Lib.splitK [32] 0 m (word ++ bj P)).length = m + 1
  | _, _, 0, _, _, _ => by simp [Lib.splitK]
  | [], _, _ + 1, _, _, h => by simp at h
  | p :: P, word, m + 1, hw, hP, h => by
    have e : Lib.index (word ++ bj (p :: P)) [32] = word.length := idx_hit 32 word (p ++ bj P) hw
    have ih := split_many P p m (hP p (by simp)) (fun x hx => hP x (by simp [hx])) (by simp at h; omega)
    rw [Lib.splitK, e, if_neg (by simp)]
    have e2 : (word ++ bj (p :: P)).drop ((word.length : Int).toNat + [(32 : UInt8)].length) = p ++ bj P := by
      rw [Int.toNat_natCast]
      show (word ++ 32 :: (p ++ bj P)).drop (word.length + 1) = _
      rw [← List.drop_drop, List.drop_left]
      rfl
    rw [e2, List.length_cons, ih]
theorem split_line (word : List UInt8) (P : List (List UInt8)) (n : Nat) (hw : NoB word) (hP : ∀ p ∈ P, NoB p) :
    (P.length = n ∧ Lib.splitB (bs [32]) 0 (min (n + 2) ((bs (word ++ bj P)).size + 1) - 1) (bs (word ++ bj P)) = (word :: P).map bs) ∨
    (¬ P.length = n ∧ ¬ (Lib.splitB (bs [32]) 0 (min (n + 2) ((bs (word ++ bj P)).size + 1) - 1) (bs (word ++ bj P))).length = n + 1) := by
  have hd := Lib.splitB_data (bs [32]) 0 (min (n + 2) ((bs (word ++ bj P)).size + 1) - 1) (bs (word ++ bj P))
  rw [bs_list, bs_list] at hd
  have hl := congrArg List.length hd
  rw [List.length_map] at hl
  have hPl : P.length ≤ (bs (word ++ bj P)).size := by
    rw [bs_size, List.length_append]
    have : P.length ≤ (bj P).length := by
      clear hd hl hP
      induction P with
      | nil => simp
      | cons p r ih => simp only [bj, List.length_cons, List.length_append]; omega
    omega
  by_cases hc : P.length ≤ min (n + 2) ((bs (word ++ bj P)).size + 1) - 1
  · have e := split_few P word _ hw hP hc
    rw [e] at hd hl
    by_cases hn : P.length = n
    · refine .inl ⟨hn, ?_⟩
      generalize Lib.splitB (bs [32]) 0 (min (n + 2) ((bs (word ++ bj P)).size + 1) - 1) (bs (word ++ bj P)) = X at *
      have : (X.map (·.data.toList)).map bs = (word :: P).map bs := by rw [hd]
      rw [List.map_map] at this
      rw [← this]
      conv => lhs; rw [← List.map_id X]
      apply List.map_congr_left
      intro x _
      exact (bs_of x).symm
    · exact .inr ⟨hn, by rw [hl, List.length_cons]; omega⟩
  · have e := split_many P word _ hw hP (Nat.lt_of_not_le hc)
    rw [e] at hl
    exact .inr ⟨by omega, by rw [hl]; omega⟩
theorem parse_snoc : ∀ (l : List UInt8) (a u : Nat) (c : UInt8), Lib.parseUint10 a l = .ok u → 48 ≤ c.toNat → c.toNat ≤ 57 → u * 10 + (c.toNat - 48) < 18446744073709551616 → Lib.parseUint10 a (l ++ [c]) = .ok (u * 10 + (c.toNat - 48))
  | [], a, u, c, h, h1, h2, h3 => by
    simp only [Lib.parseUint10] at h
    injection h with h
    subst h
    simp only [List.nil_append, Lib.parseUint10]
    rw [if_pos ⟨h1, h2⟩, if_neg (by omega), if_neg (by omega)]
  | b :: l, a, u, c, h, h1, h2, h3 => by
    simp only [List.cons_append, Lib.parseUint10] at h ⊢
    split at h
    · rename_i hb
      rw [if_pos hb]
      split at h
      · cases h
      · rename_i hq
        rw [if_neg hq]
        split at h
        · cases h
        · rename_i hq2
          rw [if_neg hq2]
          exact parse_snoc l _ u c h h1 h2 h3
    · cases h
theorem parse_dec : ∀ (k u : Nat), u < k → u < 18446744073709551616 → Lib.parseUint10 0 (Lib.decDigits u) = .ok u
  | 0, u, h, _ => absurd h (Nat.not_lt_zero u)
  | k + 1, u, h, hu => by
    by_cases h1 : u < 10
    · have e : (UInt8.ofNat (48 + u)).toNat = 48 + u := UInt8.toNat_ofNat_of_lt' (show 48 + u < 256 by omega)
      have := parse_snoc [] 0 0 (UInt8.ofNat (48 + u)) rfl (by omega) (by omega) (by omega)
      rw [Lib.decDigits_one h1]
      rw [e] at this
      simpa using this
    · have e : (UInt8.ofNat (48 + u % 10)).toNat = 48 + u % 10 := UInt8.toNat_ofNat_of_lt' (show 48 + u % 10 < 256 by omega)
      have := parse_snoc (Lib.decDigits (u / 10)) 0 (u / 10) (UInt8.ofNat (48 + u % 10)) (parse_dec k (u / 10) (by omega) (by omega)) (by omega) (by omega) (by omega)
      rw [dec_more u (by omega), this, e]
      congr 1
      omega
theorem dec_nn (u : Nat) : ¬ Lib.decDigits u = [] := fun e => by
  have := dec_ne u
  rw [e] at this
  simp at this
theorem atoi_itoa (n : Int) (h : InR n) : Lib.atoiAll (Lib.itoa n) = .ok n := by
  obtain ⟨h1, h2⟩ := h
  by_cases h0 : n < 0
  · obtain ⟨u, hu⟩ : ∃ u : Nat, n = -(u : Int) := ⟨n.natAbs, by omega⟩
    subst hu
    rw [Lib.itoa_neg u (by omega), Lib.atoiAll_minus]
    unfold Lib.parseMag
    rw [if_neg (dec_nn u), parse_dec (u + 1) u (by omega) (by omega)]
    simp only [Lib.signed]
    rw [if_neg (by omega)]
  · obtain ⟨u, rfl⟩ := Int.eq_ofNat_of_zero_le (show 0 ≤ n by omega)
    rw [Lib.itoa_nonneg]
    have hd := allD_dec u
    have hne := dec_nn u
    have hp : Lib.signless (Lib.parseMag (Lib.decDigits u)) = .ok (u : Int) := by
      unfold Lib.parseMag
      rw [if_neg hne, parse_dec (u + 1) u (by omega) (by omega)]
      simp only [Lib.signless]
      rw [if_neg (by omega)]
    cases hc : Lib.decDigits u with
    | nil => exact absurd hc hne
    | cons c r =>
      rw [hc] at hp hd
      unfold allD at hd
      rw [List.all_cons, Bool.and_eq_true] at hd
      have hb := dg_bd hd.1
      rw [Lib.atoiAll_plain c r (by omega) (by omega), hp]
end Go.Proofs.YtanndhoimpnhpaaGreatDoor
namespace Go.Proofs.YtanndhoimpnhpaaGreatDoor
open Go.RowKit
theorem wp_valD {Pr : Program} {o : Oper} {a : Act} {w : World} {K : Act → World → Prop} {Q : Exit → Act → World → Prop} (v : Value) (w' : World) (hrun : (execOp a.eval o).run Pr w = .ok (.value v) w') (h : K (a.put o.dst v) w') : Oper.wp Pr o a w K Q := by
  unfold Oper.wp
  rw [hrun]
  exact h
theorem wp_append_at {Pr : Program} {o : Oper} {a : Act} (w : World) {K : Act → World → Prop} {Q : Exit → Act → World → Prop} (s x : Operand) (t : TypeId)
    (ho : o.op = .call { callee := .builtin .append, args := #[s, x], argTypes := #[t, t] })
    (base : Nat) (e : TypeId) (i : TypeInfo) (z : Value) (size bytes : Nat) (ht : Pr.underlying t = some (.slice e)) (hi : Pr.info? e = some i) (hz : i.zero = some z)
    (hsize : i.size = size) (hby : i.bytes = bytes) (hzs : z.cells.size = size) (hsz : 0 < size)
    (v : Value) (n : Nat) (xs : List Value) (hs : a.eval s = v) (hown : w.ownsRow base e size v n xs)
    (ad : Addr) (m c : Nat) (news : List Value) (hx : a.eval x = .slice (some ad) m c) (hl : news.length = m * size) (hnews : ∀ j u, news[j]? = some u → w.cell? (ad.add j) = some u) (h1 : ∀ u ∈ news, u.oneCell' = true)
    (h63 : n + m ≤ maxLen) (hbytes : (n + m) * bytes ≤ 140737488355328) (hbase : base ≤ w.heap.size)
    (h : ∀ v' w', w'.ownsRow base e size v' (n + m) (xs ++ news) → w.grownBy w' v.ownBlock → (v'.ownBlock = v.ownBlock ∨ v'.ownBlock = some w.heap.size) → K (a.put o.dst v') w') : o.wp Pr a w K Q := by
  obtain ⟨v', w', hr, h2, h3, _, h5⟩ := run_append_own_at (P := Pr) w base t o.type e i z size bytes ht hi hz hsize hby hzs hsz v n xs hown ad m c news hl hnews h1 h63 hbytes hbase
  unfold Oper.wp execOp
  simp only [ho, resolve, invoke, builtin, Sem.run_bind, Sem.run_pure, Result.andThen_ok, List.map_toArray, List.map_cons, List.map_nil, hs, hx, hr]
  exact h v' w' h2 h3 h5
def OwnNew (w : World) (v0 v : Value) : Prop := v.ownBlock = v0.ownBlock ∨ ∃ b, v.ownBlock = some b ∧ w.heap.size ≤ b
theorem own_slice {w : World} {base : Nat} {e : TypeId} {size : Nat} {v : Value} {n : Nat} {xs : List Value} (h : w.ownsRow base e size v n xs) : ∃ p cap, v = .slice p n cap := by
  obtain ⟨_, ⟨rfl, rfl⟩ | ⟨g, cap, cur, rfl, _⟩⟩ := h
  · exact ⟨_, _, rfl⟩
  · exact ⟨_, _, rfl⟩
theorem own_base {w : World} {base : Nat} {T : TypeId} {size : Nat} {v : Value} {n : Nat} {xs : List Value} (h : w.ownsRow base T size v n xs) {b : Nat} (hb : v.ownBlock = some b) : base ≤ b ∧ b < w.heap.size := by
  obtain ⟨_, ⟨rfl, rfl⟩ | ⟨g, cap, cur, rfl, h4, h5, _⟩⟩ := h
  · cases hb
  · simp only [Value.ownBlock, Option.some.injEq] at hb
    subst hb
    refine ⟨h4, ?_⟩
    rcases Nat.lt_or_ge g w.heap.size with h | h
    · exact h
    · rw [Array.getElem?_eq_none h] at h5
      cases h5
theorem own_keep {S : Nat → Prop} {w w' : World} {base : Nat} {T : TypeId} {size : Nat} {v : Value} {n : Nat} {xs : List Value} (h : w.ownsRow base T size v n xs) (hk : Keep S w w') (hs : ∀ b, v.ownBlock = some b → ¬ S b) : w'.ownsRow base T size v n xs := by
  have hl := fun b hb => (own_base h (b := b) hb).2
  obtain ⟨h1, ⟨h2, h3⟩ | ⟨g, cap, cur, rfl, h4, h5, h6⟩⟩ := h
  · exact ⟨h1, .inl ⟨h2, h3⟩⟩
  · exact ⟨h1, .inr ⟨g, cap, cur, rfl, h4, (hk.block g (hl g rfl) (hs g rfl)).trans h5, h6⟩⟩
end Go.Proofs.YtanndhoimpnhpaaGreatDoor
namespace Go.Proofs.YtanndhoimpnhpaaGreatDoor
open Go.RowKit
def IsV (w : World) (v : Value) (zs : List Int) : Prop :=
  ∃ p cap, v = .slice p zs.length cap ∧ zs.length ≤ cap ∧ ∀ k (hk : k < zs.length), ∃ b o, p = some ⟨b, o, none⟩ ∧ b < w.heap.size ∧ w.cell? ⟨b, o + k, none⟩ = some (.int .i64 zs[k])
end Go.Proofs.YtanndhoimpnhpaaGreatDoor
namespace Go.Proofs.YtanndhoimpnhpaaGreatDoor
open Go.ChangeShapes Go.WideShapes Go.ChangeAt Go.RowKit Lg Cal
end Go.Proofs.YtanndhoimpnhpaaGreatDoor
namespace Go.Proofs.YtanndhoimpnhpaaGreatDoor
open Go.ChangeShapes Go.WideShapes Go.ChangeAt Go.RowKit Lg Cal Txt
def NumPost (s : ByteArray) (w : World) (e : Ending) (w' : World) : Prop :=
  ∃ (z : Int) (b : Bool), e = .returned (.tuple #[.int .i64 z, .bool b]) ∧ Below w.heap.size w w' ∧ ((b = true ∧ InR z ∧ s = bs (Lib.itoa z)) ∨ (b = false ∧ ∀ n, InR n → ¬ s = bs (Lib.itoa n)))
theorem ba_beq (a b : ByteArray) : (a.toList == b.toList) = decide (a = b) := by
  rw [ByteArray.toList_eq, ByteArray.toList_eq]
  by_cases h : a = b
  · subst h
    simp
  · rw [decide_eq_false h, beq_eq_false_iff_ne]
    intro e
    apply h
    apply ByteArray.ext
    exact Array.toList_inj.1 e
theorem bs_eq {s : ByteArray} {l : List UInt8} (h : s = bs l) : s.data.toList = l := by rw [h, bs_list]
set_option maxRecDepth 10000 in
set_option maxHeartbeats 1000000 in
theorem number_empty (s : ByteArray) (w : World) (h0 : s.size = 0) : Calls Tryz.prog 99 #[.string s] w (NumPost s w) := by
  have HE : Hid (∀ n, InR n → ¬ s = bs (Lib.itoa n)) := fun n hn e => by
    have h1 : (Lib.itoa n).length = 0 := by rw [← bs_size, ← e]; exact h0
    rcases itoa_cases n hn _ rfl with ⟨_, _, hc⟩ | ⟨d, hd, _⟩
    · have := (hc.len (by omega)).1; omega
    · rw [hd] at h1; simp at h1
  have z0 : ¬ (0 : Int) < (s.size : Int) := by omega
  have zl : ((s.size : Int) == 0) = true := by simp [h0]
  go_enter Tryz.func99, Tryz.ntmps99
  go_wp2
  go_ret2
  exact ⟨0, false, rfl, Below.refl _ _, .inr ⟨rfl, HE.out⟩⟩
set_option maxRecDepth 10000 in
set_option maxHeartbeats 1000000 in
theorem number_plain (s : ByteArray) (w : World) (h0 : 0 < s.size) (hm : ¬ (s[0].toNat : Int) = 45) : Calls Tryz.prog 99 #[.string s] w (NumPost s w) := by
  have hDs : s.data.toList.length = s.size := by rw [Array.length_toList]; rfl
  have HC : Hid (¬ Can s.data.toList 9223372036854775807 → ∀ n, InR n → ¬ s = bs (Lib.itoa n)) := fun h n hn e => by
    rcases itoa_cases n hn _ (bs_eq e) with ⟨_, _, hc⟩ | ⟨d, hd, _⟩
    · exact h hc
    · have h5 : s.data.toList[0]? = some 45 := by rw [hd]; rfl
      rw [List.getElem?_eq_getElem (by omega)] at h5
      have h6 : s[0] = 45 := Option.some.inj h5
      rw [h6] at hm
      exact hm rfl
  have HV : Hid (∀ T, bs (Lib.itoa (dval s.data.toList)) = T → ¬ T = s → ∀ n, InR n → ¬ s = bs (Lib.itoa n)) := fun T hT hne n hn e => by
    rcases itoa_cases n hn _ (bs_eq e) with ⟨_, h2, _⟩ | ⟨d, hd, _⟩
    · obtain ⟨u, rfl⟩ := Int.eq_ofNat_of_zero_le h2
      apply hne
      rw [← hT, bs_eq e, Lib.itoa_nonneg, dval_dec]
      exact e.symm
    · have h5 : s.data.toList[0]? = some 45 := by rw [hd]; rfl
      rw [List.getElem?_eq_getElem (by omega)] at h5
      have h6 : s[0] = 45 := Option.some.inj h5
      rw [h6] at hm
      exact hm rfl
  have z0 : (0 : Int) < (s.size : Int) := by omega
  have zl : ((s.size : Int) == 0) = false := by rw [beq_eq_false_iff_ne]; omega
  have zm : ((s[0].toNat : Int) == 45) = false := by simp [hm]
  go_enter Tryz.func99, Tryz.ntmps99
  by_cases hl1 : 19 < s.size
  · have zg : (19 : Int) < (s.size : Int) := by omega
    have HE : Hid (∀ n, InR n → ¬ s = bs (Lib.itoa n)) := HC.out (fun hc => by have := (hc.len (by omega)).2; rw [hDs] at this; omega)
    go_wp2
    go_ret2
    exact ⟨0, false, rfl, Below.refl _ _, .inr ⟨rfl, HE.out⟩⟩
  · have zg : ¬ (19 : Int) < (s.size : Int) := by omega
    go_wp2
    go_loop [6, 7, 8] (fun s6 s7 _ => ∃ k : Nat, k ≤ s.size ∧ s7 = .int .i64 k ∧ s6 = .int .i64 (-(dval (s.data.toList.take k))) ∧ allD (s.data.toList.take k) = true ∧ dval (s.data.toList.take k) ≤ 9223372036854775808) (fun _ s7 _ => s.size - (intOf s7).toNat)
    case atStart => exact ⟨0, Nat.zero_le _, rfl, rfl, rfl, by simp [dval]⟩
    case round =>
      obtain ⟨k, hk, rfl, rfl, hall, hle⟩ := hrel
      have HAll : Hid (allD (s.data.toList.take k) = true) := hall
      have hge : 0 ≤ dval (s.data.toList.take k) := (dval_app _ [] hall rfl).2
      have HLt : Hid (dval (s.data.toList.take k) < 10 ^ k) := (dval_lt _ hall k (by rw [List.length_take, hDs]; omega)).2
      clear hall
      by_cases hlt : k < s.size
      · have zk : (k : Int) < (s.size : Int) := by omega
        have HSn : Hid (s.data.toList.take (k + 1) = s.data.toList.take k ++ [s[k]]) := take_snoc s k hlt
        have HDg : Hid (∀ m, Can s.data.toList m → dg s[k] = true) := fun m hc => by
          have h1 := (allD_take hc.dig (k + 1)).1
          rw [HSn.out, allD_snoc, Bool.and_eq_true] at h1
          exact h1.2
        have HPr : Hid (∀ m, Can s.data.toList m → 10 * dval (s.data.toList.take k) + (s[k].toNat : Int) - 48 ≤ m) := fun m hc => by
          have h1 := hc.pre (k + 1)
          rw [HSn.out, dval_snoc] at h1
          exact h1
        by_cases h1 : (s[k].toNat : Int) < 48
        · have HE : Hid (∀ n, InR n → ¬ s = bs (Lib.itoa n)) := HC.out (fun hc => by have := dg_bd (HDg.out _ hc); omega)
          go_wp2
          go_ret2
          exact ⟨0, false, rfl, Below.refl _ _, .inr ⟨rfl, HE.out⟩⟩
        · by_cases h2 : 57 < (s[k].toNat : Int)
          · have HE : Hid (∀ n, InR n → ¬ s = bs (Lib.itoa n)) := HC.out (fun hc => by have := dg_bd (HDg.out _ hc); omega)
            go_wp2
            go_ret2
            exact ⟨0, false, rfl, Below.refl _ _, .inr ⟨rfl, HE.out⟩⟩
          · have HG : Hid (dg s[k] = true) := dg_yes (by omega) (by omega)
            have HVs : Hid (dval (s.data.toList.take (k + 1)) = 10 * dval (s.data.toList.take k) + (s[k].toNat : Int) - 48) := by show _ = _; rw [HSn.out, dval_snoc]
            have HAs : Hid (allD (s.data.toList.take (k + 1)) = true) := by show _ = _; rw [HSn.out, allD_snoc, HAll.out, HG.out]; rfl
            clear HDg HSn HAll HG
            generalize hdv : dval (s.data.toList.take k) = a at *
            clear hdv
            by_cases hbig : 9223372036854775808 < 10 * a + (s[k].toNat : Int) - 48
            · have hk18 : k = 18 := by
                rcases Nat.lt_or_ge k 18 with h | h
                · have h3 : (10 : Int) ^ k ≤ 10 ^ 17 := by exact_mod_cast Nat.pow_le_pow_right (n := 10) (by decide) (show k ≤ 17 by omega)
                  have h4 := HLt.out
                  have e : (10 : Int) ^ 17 = 100000000000000000 := by decide
                  omega
                · omega
              have ha18 : a < 1000000000000000000 := by
                have h4 := HLt.out
                rw [hk18] at h4
                have e : (10 : Int) ^ 18 = 1000000000000000000 := by decide
                omega
              have HE : Hid (∀ n, InR n → ¬ s = bs (Lib.itoa n)) := HC.out (fun hc => by have := HPr.out _ hc; omega)
              obtain ⟨bb, e4⟩ : ∃ bb, ((k : Int) == 18) = bb := ⟨_, rfl⟩
              have hbt : bb = true := by rw [← e4, hk18]; rfl
              clear hk18
              have e2 : wrap64 (wrap64 (10 * -a) - ((s[k].toNat : Int) - 48)) = 10 * -a - ((s[k].toNat : Int) - 48) + 18446744073709551616 := by unfold wrap64; omega
              have e3 : -a < 10 * -a - ((s[k].toNat : Int) - 48) + 18446744073709551616 := by omega
              clear HVs HAs HPr HLt
              go_wp2
              go_ret2
              exact ⟨0, false, rfl, Below.refl _ _, .inr ⟨rfl, HE.out⟩⟩
            · have e1 : wrap64 (10 * -a) = 10 * -a := by unfold wrap64; omega
              have e2 : wrap64 (10 * -a - ((s[k].toNat : Int) - 48)) = 10 * -a - ((s[k].toNat : Int) - 48) := by unfold wrap64; omega
              have e3 : ¬ -a < 10 * -a - ((s[k].toNat : Int) - 48) := by omega
              by_cases h18 : k = 18
              · obtain ⟨bb, e4⟩ : ∃ bb, ((k : Int) == 18) = bb := ⟨_, rfl⟩
                have hbt : bb = true := by rw [← e4, h18]; rfl
                clear h18
                clear HPr HLt
                go_wp2
                go_round
                case rel => exact ⟨k + 1, by omega, by go_num, by rw [HVs.out]; congr 2; omega, HAs.out, by rw [HVs.out]; omega⟩
                case measure => simp [intOf]; omega
              · have e4 : ((k : Int) == 18) = false := by rw [beq_eq_false_iff_ne]; omega
                clear HPr HLt
                go_wp2
                go_round
                case rel => exact ⟨k + 1, by omega, by go_num, by rw [HVs.out]; congr 2; omega, HAs.out, by rw [HVs.out]; omega⟩
                case measure => simp [intOf]; omega
      · have ek : s.data.toList.take k = s.data.toList := take_all s k hlt
        have zk : ¬ (k : Int) < (s.size : Int) := by omega
        rw [ek] at hle hge
        have HAd : Hid (allD s.data.toList = true) := by have := HAll.out; rwa [ek] at this
        rw [ek]
        clear HAll HLt ek
        obtain ⟨a, hdv⟩ : ∃ a, dval s.data.toList = a := ⟨_, rfl⟩
        rw [hdv] at hle hge
        rw [hdv]
        by_cases hbig : a = 9223372036854775808
        · have HE : Hid (∀ n, InR n → ¬ s = bs (Lib.itoa n)) := HC.out (fun hc => by have := hc.val; rw [hdv] at this; omega)
          have e1 : wrap64 a = -9223372036854775808 := by unfold wrap64; omega
          have e0 : IntKind.i64.wrap a = -9223372036854775808 := by rw [IntKind.wrap_i64]; omega
          clear hbig hle hge HC HV HAd hdv
          go_wp2
          go_ret2
          exact ⟨0, false, rfl, Below.refl _ _, .inr ⟨rfl, HE.out⟩⟩
        · have e1 : wrap64 a = a := by unfold wrap64; omega
          have e0 : IntKind.i64.wrap a = a := by rw [IntKind.wrap_i64]; omega
          have e2 : ¬ a < 0 := by omega
          have hD := dec_any a (by omega) (by omega) w
          have HR : Hid (InR a) := ⟨by omega, by omega⟩
          clear hbig HC
          go_wp2_with fail
          refine hD.mono ?_
          rintro e w1 ⟨rfl, hb1⟩
          clear hD
          obtain ⟨T, hT⟩ : ∃ T, T = bs (Lib.itoa a) := ⟨_, rfl⟩
          rw [← hT]
          have HT : Hid (T = bs (Lib.itoa a)) := hT
          clear hT
          by_cases hTs : T = s
          · have e5 : (T.toList == s.toList) = true := by rw [ba_beq, decide_eq_true hTs]
            go_wp2
            go_ret2
            exact ⟨a, true, rfl, hb1, .inl ⟨rfl, HR.out, by rw [← HT.out, hTs]⟩⟩
          · have e5 : (T.toList == s.toList) = false := by rw [ba_beq, decide_eq_false hTs]
            have HE : Hid (∀ n, InR n → ¬ s = bs (Lib.itoa n)) := HV.out T (by rw [hdv]; exact HT.out.symm) hTs
            go_wp2
            go_ret2
            exact ⟨_, false, rfl, hb1, .inr ⟨rfl, HE.out⟩⟩
set_option maxRecDepth 10000 in
set_option maxHeartbeats 1000000 in
theorem number_minus (s : ByteArray) (w : World) (h0 : 0 < s.size) (hm : (s[0].toNat : Int) = 45) : Calls Tryz.prog 99 #[.string s] w (NumPost s w) := by
  have h45 : s[0] = 45 := UInt8.toNat_inj.1 (by show s[0].toNat = 45; omega)
  have hsl : s.data.toList.length = s.size := by rw [Array.length_toList]; rfl
  obtain ⟨d, hd⟩ : ∃ d, d = s.extract 1 s.size := ⟨_, rfl⟩
  have hdl : d.data.toList = s.data.toList.drop 1 := by
    rw [hd, ByteArray.data_extract, Array.toList_extract]
    unfold List.extract
    rw [List.take_of_length_le (by rw [List.length_drop, hsl]; omega)]
  have hDs : d.data.toList.length = d.size := by rw [Array.length_toList]; rfl
  have hsd : s.data.toList = 45 :: d.data.toList := by
    rw [hdl]
    match hl : s.data.toList, hsl with
    | [], hsl => simp at hsl; omega
    | c :: r, _ =>
      have h5 : s.data.toList[0]? = some c := by rw [hl]; rfl
      rw [List.getElem?_eq_getElem (by omega)] at h5
      have h6 : s[0] = c := Option.some.inj h5
      rw [h45] at h6
      rw [← h6]
      rfl
  have HC : Hid (¬ Can d.data.toList 9223372036854775808 → ∀ n, InR n → ¬ s = bs (Lib.itoa n)) := fun h n hn e => by
    rcases itoa_cases n hn _ (bs_eq e) with ⟨h1, _⟩ | ⟨d', hd', _, hc⟩
    · rw [hsd] at h1; simp at h1
    · rw [hsd] at hd'
      simp only [List.cons.injEq, true_and] at hd'
      rw [hd'] at h
      exact h hc
  have HV : Hid (∀ T, bs (Lib.itoa (-(dval d.data.toList))) = T → ¬ T = s → ∀ n, InR n → ¬ s = bs (Lib.itoa n)) := fun T hT hne n hn e => by
    rcases itoa_cases n hn _ (bs_eq e) with ⟨h1, _⟩ | ⟨d', hd', hneg, u, hu, hdu⟩
    · rw [hsd] at h1; simp at h1
    · rw [hsd] at hd'
      simp only [List.cons.injEq, true_and] at hd'
      have hi := bs_eq e
      rw [hsd, hd', hdu] at hi
      have hn2 : n = -(u : Int) := by
        unfold Lib.itoa at hi
        rw [if_pos hneg] at hi
        simp only [List.cons.injEq, true_and] at hi
        have e1 := dval_dec u
        rw [hi, dval_dec] at e1
        omega
      apply hne
      rw [← hT, hd', hdu, dval_dec, ← hn2]
      exact e.symm
  have z0 : (0 : Int) < (s.size : Int) := by omega
  have zm : ((s[0].toNat : Int) == 45) = true := by simp [hm]
  have HDe : Hid (s.extract 1 s.size = d) := hd.symm
  have hz1 : 1 ≤ s.size := h0
  clear hd hdl hsd h45 hm hsl
  go_enter Tryz.func99, Tryz.ntmps99
  go_upto_region 5 with fail
  rw [HDe.out]
  clear HDe
  by_cases hl0 : d.size = 0
  · have zl : ((d.size : Int) == 0) = true := by simp [hl0]
    have HE : Hid (∀ n, InR n → ¬ s = bs (Lib.itoa n)) := HC.out (fun hc => by have := (hc.len (by omega)).1; rw [hDs] at this; omega)
    go_wp2
    go_ret2
    exact ⟨0, false, rfl, Below.refl _ _, .inr ⟨rfl, HE.out⟩⟩
  · have zl : ((d.size : Int) == 0) = false := by simp [hl0]
    by_cases hl1 : 19 < d.size
    · have zg : (19 : Int) < (d.size : Int) := by omega
      have HE : Hid (∀ n, InR n → ¬ s = bs (Lib.itoa n)) := HC.out (fun hc => by have := (hc.len (by omega)).2; rw [hDs] at this; omega)
      go_wp2
      go_ret2
      exact ⟨0, false, rfl, Below.refl _ _, .inr ⟨rfl, HE.out⟩⟩
    · have zg : ¬ (19 : Int) < (d.size : Int) := by omega
      go_wp2
      go_loop [6, 7, 8] (fun s6 s7 _ => ∃ k : Nat, k ≤ d.size ∧ s7 = .int .i64 k ∧ s6 = .int .i64 (-(dval (d.data.toList.take k))) ∧ allD (d.data.toList.take k) = true ∧ dval (d.data.toList.take k) ≤ 9223372036854775808) (fun _ s7 _ => d.size - (intOf s7).toNat)
      case atStart => exact ⟨0, Nat.zero_le _, rfl, rfl, rfl, by simp [dval]⟩
      case round =>
        obtain ⟨k, hk, rfl, rfl, hall, hle⟩ := hrel
        have HAll : Hid (allD (d.data.toList.take k) = true) := hall
        have hge : 0 ≤ dval (d.data.toList.take k) := (dval_app _ [] hall rfl).2
        have HLt : Hid (dval (d.data.toList.take k) < 10 ^ k) := (dval_lt _ hall k (by rw [List.length_take, hDs]; omega)).2
        clear hall
        by_cases hlt : k < d.size
        · have zk : (k : Int) < (d.size : Int) := by omega
          have HSn : Hid (d.data.toList.take (k + 1) = d.data.toList.take k ++ [d[k]]) := take_snoc d k hlt
          have HDg : Hid (∀ m, Can d.data.toList m → dg d[k] = true) := fun m hc => by
            have h1 := (allD_take hc.dig (k + 1)).1
            rw [HSn.out, allD_snoc, Bool.and_eq_true] at h1
            exact h1.2
          have HPr : Hid (∀ m, Can d.data.toList m → 10 * dval (d.data.toList.take k) + (d[k].toNat : Int) - 48 ≤ m) := fun m hc => by
            have h1 := hc.pre (k + 1)
            rw [HSn.out, dval_snoc] at h1
            exact h1
          by_cases h1 : (d[k].toNat : Int) < 48
          · have HE : Hid (∀ n, InR n → ¬ s = bs (Lib.itoa n)) := HC.out (fun hc => by have := dg_bd (HDg.out _ hc); omega)
            go_wp2
            go_ret2
            exact ⟨0, false, rfl, Below.refl _ _, .inr ⟨rfl, HE.out⟩⟩
          · by_cases h2 : 57 < (d[k].toNat : Int)
            · have HE : Hid (∀ n, InR n → ¬ s = bs (Lib.itoa n)) := HC.out (fun hc => by have := dg_bd (HDg.out _ hc); omega)
              go_wp2
              go_ret2
              exact ⟨0, false, rfl, Below.refl _ _, .inr ⟨rfl, HE.out⟩⟩
            · have HG : Hid (dg d[k] = true) := dg_yes (by omega) (by omega)
              have HVs : Hid (dval (d.data.toList.take (k + 1)) = 10 * dval (d.data.toList.take k) + (d[k].toNat : Int) - 48) := by show _ = _; rw [HSn.out, dval_snoc]
              have HAs : Hid (allD (d.data.toList.take (k + 1)) = true) := by show _ = _; rw [HSn.out, allD_snoc, HAll.out, HG.out]; rfl
              clear HDg HSn HAll HG
              generalize hdv : dval (d.data.toList.take k) = a at *
              clear hdv
              by_cases hbig : 9223372036854775808 < 10 * a + (d[k].toNat : Int) - 48
              · have hk18 : k = 18 := by
                  rcases Nat.lt_or_ge k 18 with h | h
                  · have h3 : (10 : Int) ^ k ≤ 10 ^ 17 := by exact_mod_cast Nat.pow_le_pow_right (n := 10) (by decide) (show k ≤ 17 by omega)
                    have h4 := HLt.out
                    have e : (10 : Int) ^ 17 = 100000000000000000 := by decide
                    omega
                  · omega
                have ha18 : a < 1000000000000000000 := by
                  have h4 := HLt.out
                  rw [hk18] at h4
                  have e : (10 : Int) ^ 18 = 1000000000000000000 := by decide
                  omega
                have HE : Hid (∀ n, InR n → ¬ s = bs (Lib.itoa n)) := HC.out (fun hc => by have := HPr.out _ hc; omega)
                obtain ⟨bb, e4⟩ : ∃ bb, ((k : Int) == 18) = bb := ⟨_, rfl⟩
                have hbt : bb = true := by rw [← e4, hk18]; rfl
                clear hk18
                have e2 : wrap64 (wrap64 (10 * -a) - ((d[k].toNat : Int) - 48)) = 10 * -a - ((d[k].toNat : Int) - 48) + 18446744073709551616 := by unfold wrap64; omega
                have e3 : -a < 10 * -a - ((d[k].toNat : Int) - 48) + 18446744073709551616 := by omega
                clear HVs HAs HPr HLt
                go_wp2
                go_ret2
                exact ⟨0, false, rfl, Below.refl _ _, .inr ⟨rfl, HE.out⟩⟩
              · have e1 : wrap64 (10 * -a) = 10 * -a := by unfold wrap64; omega
                have e2 : wrap64 (10 * -a - ((d[k].toNat : Int) - 48)) = 10 * -a - ((d[k].toNat : Int) - 48) := by unfold wrap64; omega
                have e3 : ¬ -a < 10 * -a - ((d[k].toNat : Int) - 48) := by omega
                by_cases h18 : k = 18
                · obtain ⟨bb, e4⟩ : ∃ bb, ((k : Int) == 18) = bb := ⟨_, rfl⟩
                  have hbt : bb = true := by rw [← e4, h18]; rfl
                  clear h18
                  clear HPr HLt
                  go_wp2
                  go_round
                  case rel => exact ⟨k + 1, by omega, by go_num, by rw [HVs.out]; congr 2; omega, HAs.out, by rw [HVs.out]; omega⟩
                  case measure => simp [intOf]; omega
                · have e4 : ((k : Int) == 18) = false := by rw [beq_eq_false_iff_ne]; omega
                  clear HPr HLt
                  go_wp2
                  go_round
                  case rel => exact ⟨k + 1, by omega, by go_num, by rw [HVs.out]; congr 2; omega, HAs.out, by rw [HVs.out]; omega⟩
                  case measure => simp [intOf]; omega
        · have ek : d.data.toList.take k = d.data.toList := take_all d k hlt
          have zk : ¬ (k : Int) < (d.size : Int) := by omega
          rw [ek] at hle hge
          have HAd : Hid (allD d.data.toList = true) := by have := HAll.out; rwa [ek] at this
          rw [ek]
          clear HAll HLt ek
          obtain ⟨a, hdv⟩ : ∃ a, dval d.data.toList = a := ⟨_, rfl⟩
          rw [hdv] at hle hge
          rw [hdv]
          have hD := dec_any (-a) (by omega) (by omega) w
          have HR : Hid (InR (-a)) := ⟨by omega, by omega⟩
          clear HC
          go_wp2_with fail
          refine hD.mono ?_
          rintro e w1 ⟨rfl, hb1⟩
          clear hD
          obtain ⟨T, hT⟩ : ∃ T, T = bs (Lib.itoa (-a)) := ⟨_, rfl⟩
          rw [← hT]
          have HT : Hid (T = bs (Lib.itoa (-a))) := hT
          clear hT
          by_cases hTs : T = s
          · have e5 : (T.toList == s.toList) = true := by rw [ba_beq, decide_eq_true hTs]
            go_wp2
            go_ret2
            exact ⟨-a, true, rfl, hb1, .inl ⟨rfl, HR.out, by rw [← HT.out, hTs]⟩⟩
          · have e5 : (T.toList == s.toList) = false := by rw [ba_beq, decide_eq_false hTs]
            have HE : Hid (∀ n, InR n → ¬ s = bs (Lib.itoa n)) := HV.out T (by rw [hdv]; exact HT.out.symm) hTs
            go_wp2
            go_ret2
            exact ⟨_, false, rfl, hb1, .inr ⟨rfl, HE.out⟩⟩
theorem refnumber_any (s : ByteArray) (w : World) : Calls Tryz.prog 99 #[.string s] w (NumPost s w) := by
  by_cases h0 : 0 < s.size
  · by_cases hm : (s[0].toNat : Int) = 45
    · exact number_minus s w h0 hm
    · exact number_plain s w h0 hm
  · exact number_empty s w (by omega)
end Go.Proofs.YtanndhoimpnhpaaGreatDoor
namespace Go.Proofs.YtanndhoimpnhpaaGreatDoor
open Go.ChangeShapes Go.WideShapes Go.ChangeAt Go.RowKit Lg
theorem infoInt : (Tryz.prog.info? 3).map (fun i => (i.zero, i.size, i.bytes)) = some (some (.int .i64 0), 1, 8) := by kernel_rfl
end Go.Proofs.YtanndhoimpnhpaaGreatDoor
namespace Go.Proofs.YtanndhoimpnhpaaGreatDoor
open Go.ChangeShapes Go.WideShapes Go.ChangeAt Go.RowKit Lg
end Go.Proofs.YtanndhoimpnhpaaGreatDoor
namespace Go.Proofs.YtanndhoimpnhpaaGreatDoor
open Go.ChangeShapes Go.WideShapes Go.ChangeAt Go.RowKit Lg
end Go.Proofs.YtanndhoimpnhpaaGreatDoor
namespace Go.Proofs.YtanndhoimpnhpaaGreatDoor
open Go.ChangeShapes Go.WideShapes Go.ChangeAt Go.RowKit Lg
end Go.Proofs.YtanndhoimpnhpaaGreatDoor
namespace Go.Proofs.YtanndhoimpnhpaaGreatDoor
open Go.ChangeShapes Go.WideShapes Go.ChangeAt Go.RowKit Cal
end Go.Proofs.YtanndhoimpnhpaaGreatDoor
namespace Go.Proofs.YtanndhoimpnhpaaGreatDoor
open Go.ChangeShapes Go.WideShapes Go.ChangeAt Go.RowKit Cal
end Go.Proofs.YtanndhoimpnhpaaGreatDoor
namespace Go.Proofs.YtanndhoimpnhpaaGreatDoor
open Go.ChangeShapes Go.WideShapes Go.ChangeAt Go.RowKit Cal
end Go.Proofs.YtanndhoimpnhpaaGreatDoor
namespace Go.Proofs.YtanndhoimpnhpaaGreatDoor
open Go.ChangeShapes Go.WideShapes Go.ChangeAt Go.RowKit Lg
def first (t : Ln.Terms) (n : Int) (g : Ln.St) : Ln.Dy := if n = t.st then Ln.enter ⟨g, fun _ => 0⟩ 1 t.pr else ⟨g, fun _ => 0⟩
def due (t : Ln.Terms) (n cd : Int) (g : Ln.St) : Bool := !(n == t.st) && (cd == t.du) && decide (g.fr ≤ n)
end Go.Proofs.YtanndhoimpnhpaaGreatDoor
namespace Go.Proofs.YtanndhoimpnhpaaGreatDoor
open Go.ChangeShapes Go.WideShapes Go.ChangeAt Go.RowKit Lg
theorem infoEv : (Tryz.prog.info? 50).map (fun i => (i.zero, i.size, i.bytes)) = some (some (.agg #[.int .i64 0, .int .i64 0, .int .i64 0, .int .i64 0]), 4, 32) := by kernel_rfl
theorem own_range {w : World} {base : Nat} {T : TypeId} {n cap g : Nat} {L : List Ln.Ev} (h : w.ownsRow base T 4 (.slice (some ⟨g, 0, none⟩) n cap) n (evs L)) (hn : n = L.length) (k : Nat) (e : Ln.Ev) (he : L[k]? = some e) :
    w.rangeAt g (k * 4) [.int .i64 e.d, .int .i64 e.k, .int .i64 e.s, .int .i64 e.a] ∧ ∀ o, w.frozen? ⟨g, o, none⟩ = false := by
  have hk : k < L.length := (List.getElem?_eq_some_iff.1 he).1
  have hx : L[k] = e := (List.getElem?_eq_some_iff.1 he).2
  obtain ⟨q0, q1, q2, q3⟩ := evs_at L k hk
  rw [hx] at q0 q1 q2 q3
  refine ⟨?_, fun o => h.frozenAt o⟩
  intro j v hj
  match j, hj with
  | 0, hj => obtain rfl := Option.some.inj hj; exact (h.cellAt _ (by omega)).trans q0
  | 1, hj => obtain rfl := Option.some.inj hj; exact (h.cellAt _ (by omega)).trans q1
  | 2, hj => obtain rfl := Option.some.inj hj; exact (h.cellAt _ (by omega)).trans q2
  | 3, hj => obtain rfl := Option.some.inj hj; exact (h.cellAt _ (by omega)).trans q3
  | j + 4, hj => exact absurd hj (by simp)
end Go.Proofs.YtanndhoimpnhpaaGreatDoor
namespace Go.Proofs.YtanndhoimpnhpaaGreatDoor
open Go.ChangeShapes Go.WideShapes Go.ChangeAt Go.RowKit Lg
end Go.Proofs.YtanndhoimpnhpaaGreatDoor
