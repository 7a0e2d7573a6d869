/- Joined by program: TxG, Bq, Bc, RnF, AdJ, AdK, RnG. -/
import Derived.Test.YtanndhoimpnhpaaGreatDoorM16
import Derived.Test.YtanndhoimpnhpaaGreatDoorM3
import Derived.Test.YtanndhoimpnhpaaGreatDoorM1
import Derived.Laws.OwnMore
import Derived.OwnWalk
import Derived.Test.YtanndhoimpnhpaaGreatDoorM7
import Derived.Test.YtanndhoimpnhpaaGreatDoorM10
import Derived.Test.YtanndhoimpnhpaaGreatDoorM5
import Derived.Test.YtanndhoimpnhpaaGreatDoorM13
import Derived.Test.YtanndhoimpnhpaaGreatDoorM4
namespace Go.Proofs.YtanndhoimpnhpaaGreatDoor
open Go.ChangeShapes Go.WideShapes Go.ChangeAt Go.RowKit Lg Cal Txt
def PartsPost (w : World) (word : List UInt8) (P : List (List UInt8)) (e : Ending) (w' : World) : Prop :=
  Below w.heap.size w w' ∧ ((∃ ns v, Says P ns ∧ e = .returned (.tuple #[.string (bs word), v, .bool true]) ∧ IsV w' v ns ∧ ∀ b, v.ownBlock = some b → w.heap.size ≤ b) ∨ ((¬ ∃ ns, Says P ns) ∧ ∃ v, e = .returned (.tuple #[.string (bs word), v, .bool false])))
theorem own_isv {w : World} {base : Nat} {T : TypeId} {v : Value} {zs : List Int} (h : w.ownsRow base T 1 v zs.length (zs.map (Value.int .i64))) : IsV w v zs := by
  obtain ⟨hl, hn | ⟨g, cap, cur, rfl, hg⟩⟩ := id h
  · obtain ⟨rfl, hz⟩ := hn
    obtain rfl : zs = [] := List.length_eq_zero_iff.1 hz
    exact ⟨none, 0, rfl, Nat.le_refl _, fun k hk => absurd hk (Nat.not_lt_zero k)⟩
  · refine ⟨_, cap, rfl, hg.2.2.1, fun k hk => ⟨g, 0, rfl, (own_base h (b := g) rfl).2, ?_⟩⟩
    rw [Nat.zero_add, h.cellAt k (by omega), List.getElem?_map, List.getElem?_eq_getElem hk]
    rfl
theorem byte_ne {c : UInt8} (h : ¬ c = 32) : ((c.toNat : Int) != 32) = true := by
  rw [bne_iff_ne]
  intro e
  exact h (UInt8.toNat_inj.1 (by show c.toNat = 32; omega))
def PtL (w : World) (word : List UInt8) (P : List (List UInt8)) (s5 s7 : Value) (wr : World) : Prop := ∃ (j : Nat) (ns : List Int), j ≤ P.length ∧ s5 = .int .i64 (bpos word P j) ∧ Says (P.take j) ns ∧ ns.length = j ∧ wr.ownsRow w.heap.size 3 1 s7 ns.length (ns.map (Value.int .i64)) ∧ Below w.heap.size w wr
set_option maxRecDepth 10000 in
set_option maxHeartbeats 2000000 in
theorem parts_any (w : World) (word : List UInt8) (P : List (List UInt8)) (hw : NoB word) (hP : ∀ p ∈ P, NoB p) (hs : (word ++ bj P).length ≤ 1000000000000) :
    Calls Tryz.prog 71 #[.string (bs (word ++ bj P))] w (PartsPost w word P) := by
  obtain ⟨i0, hi, hz0, hz1, hz2⟩ := info_parts infoInt
  obtain ⟨S, hS⟩ : ∃ S, S = bs (word ++ bj P) := ⟨_, rfl⟩
  have hSz : S.size = (word ++ bj P).length := by rw [hS, bs_size]
  have HAt : Hid (∀ i c, (word ++ bj P)[i]? = some c → ∃ h : i < S.size, S[i] = c) := fun i c h => by
    obtain ⟨h1, h2⟩ := List.getElem?_eq_some_iff.1 h
    refine ⟨by omega, ?_⟩
    subst hS
    rw [← h2]
    exact bs_get _ i h1 _
  have HEx : Hid (∀ a b, S.extract a b = bs (((word ++ bj P).drop a).take (b - a))) := fun a b => by rw [hS, bs_extract]
  have HW : Hid (NoB word) := hw
  have HP : Hid (∀ p ∈ P, NoB p) := hP
  have hPl : P.length ≤ (bj P).length := by
    clear HAt HEx HW HP hP hs hSz hS
    induction P with
    | nil => simp
    | cons p r ih => simp only [bj, List.length_cons, List.length_append]; omega
  have hll : (word ++ bj P).length = word.length + (bj P).length := List.length_append
  have HSl : Hid (S.size = (word ++ bj P).length) := hSz
  rw [← hS]
  clear hS hw hP
  have zS : S.size ≤ 1000000000000 := by omega
  clear hSz
  go_enter Tryz.func71, Tryz.ntmps71
  go_wp2
  go_loop [5] (fun s5 => ∃ k : Nat, k ≤ word.length ∧ s5 = .int .i64 k) (fun s5 => S.size - (intOf s5).toNat)
  case atStart => exact ⟨0, Nat.zero_le _, rfl⟩
  case round =>
    obtain ⟨k, hk, rfl⟩ := hrel
    by_cases hlt : k < word.length
    · obtain ⟨h1, h2⟩ := HAt.out k word[k] (by rw [List.getElem?_append_left hlt, List.getElem?_eq_getElem hlt])
      have zk : (k : Int) < (S.size : Int) := by omega
      have hb : ((S[k].toNat : Int) != 32) = true := by rw [h2]; exact byte_ne (HW.out _ (List.getElem_mem hlt))
      clear h2
      go_wp2
      exact ⟨⟨k + 1, hlt, rfl⟩, by simp [intOf]; omega⟩
    · obtain rfl : k = word.length := by omega
      have HX : Hid (S.extract 0 word.length = bs word) := by
        show _ = _
        rw [HEx.out]
        congr 1
        simp
      have zw : word.length ≤ S.size := by rw [HSl.out]; omega
      have HL0 : Hid (PtL w word P (.int .i64 (word.length : Int)) (.slice none 0 0) w) := ⟨0, [], Nat.zero_le _, by unfold bpos; simp [bj], ⟨rfl, fun n hn => by simp at hn⟩, rfl, World.ownsRow_nil _ _ _ _, Below.refl _ _⟩
      by_cases h0 : word.length < S.size
      · have h32 : ((S[word.length].toNat : Int) != 32) = false := by
          have hPn : 0 < P.length := by
            rcases Nat.eq_zero_or_pos P.length with e | e
            · have e2 : P = [] := List.length_eq_zero_iff.1 e
              have := HSl.out
              rw [e2] at this
              simp [bj] at this
              omega
            · exact e
          obtain ⟨h1, h2⟩ := HAt.out word.length 32 (by have := bpos_blank word P 0 hPn; unfold bpos at this; simpa [bj] using this)
          rw [h2]
          rfl
        have zk : (word.length : Int) < (S.size : Int) := by omega
        go_upto_region 5 with fail
        rw [HX.out]
        clear HX
        go_wp2
        go_loopw [5, 7, 8, 9, 10] (fun s5 s7 _ _ _ wr => PtL w word P s5 s7 wr) (fun s5 _ _ _ _ _ => S.size - (intOf s5).toNat)
        case atStart => exact HL0.out
        case round =>
          obtain ⟨j, ns, hj, rfl, hsay, hnl, hown, hbel⟩ := hrel
          have HSay : Hid (Says (P.take j) ns) := hsay
          obtain ⟨p7, c7, h7⟩ := own_slice hown
          subst h7
          have HOw : Hid (wr.ownsRow w.heap.size 3 1 (.slice p7 ns.length c7) ns.length (ns.map (Value.int .i64))) := hown
          have HBl : Hid (Below w.heap.size w wr) := hbel
          have HNl : Hid (ns.length = j) := hnl
          have hn4 : ns.length ≤ 1000000000000 := by omega
          clear hsay hown hbel HL0 hnl
          by_cases hlt : j < P.length
          · have hle := bpos_lt word P j
            have hsu := bpos_succ word P j hlt
            have z1 : (bpos word P j : Int) < (S.size : Int) := by rw [HSl.out]; omega
            have HNo : Hid (NoB P[j]) := HP.out _ (List.getElem_mem hlt)
            obtain ⟨f, hf⟩ : ∃ f : Nat, f = bpos word P j + 1 := ⟨_, rfl⟩
            have HBy : Hid (∀ x, f ≤ x → x < bpos word P (j + 1) → ∃ h : x < S.size, ((S[x].toNat : Int) != 32) = true) := fun x h1 h2 => by
              obtain ⟨h1, h2⟩ := HAt.out _ _ (bpos_at word P j hlt (x - f) (by omega))
              rw [← hf, show f + (x - f) = x by omega] at h1
              refine ⟨h1, ?_⟩
              have h3 : S[x] = P[j][x - f]'(by omega) := by
                have := h2
                simp only [← hf, show f + (x - f) = x by omega] at this
                exact this
              rw [h3]
              exact byte_ne (HNo.out _ (List.getElem_mem _))
            have HPc : Hid (S.extract f (bpos word P (j + 1)) = bs P[j]) := by
              show _ = _
              rw [HEx.out, hf, hsu, show bpos word P j + 1 + P[j].length - (bpos word P j + 1) = P[j].length by omega, bpos_piece word P j hlt]
            have HEnd : Hid (¬ bpos word P (j + 1) < S.size ∨ ∃ h : bpos word P (j + 1) < S.size, ((S[bpos word P (j + 1)].toNat : Int) != 32) = false) := by
              by_cases hlast : j + 1 < P.length
              · obtain ⟨h1, h2⟩ := HAt.out _ _ (bpos_blank word P (j + 1) hlast)
                exact .inr ⟨h1, by rw [h2]; rfl⟩
              · refine .inl ?_
                rw [show j + 1 = P.length by omega, bpos_all, ← HSl.out]
                omega
            have HTk : Hid (P.take (j + 1) = P.take j ++ [P[j]]) := List.take_succ_eq_append_getElem hlt
            have hfq : f ≤ bpos word P (j + 1) := by omega
            have hqS : bpos word P (j + 1) ≤ S.size := by rw [HSl.out]; exact hle
            have hf1 : (bpos word P j : Int) + 1 = (f : Int) := by omega
            have HPost : Hid (∀ z, InR z → P[j] = Lib.itoa z → Says (P.take (j + 1)) (ns ++ [z])) := fun z hz e => by
              refine ⟨?_, fun n hn => ?_⟩
              · rw [HTk.out, HSay.out.1, e, List.map_append]
                rfl
              · rcases List.mem_append.1 hn with h | h
                · exact HSay.out.2 n h
                · rw [List.mem_singleton] at h; subst h; exact hz
            have HBad : Hid ((∀ n, InR n → ¬ P[j] = Lib.itoa n) → ¬ ∃ ms, Says P ms) := fun h ⟨ms, hm⟩ => by
              have e1 : j < ms.length := by have := congrArg List.length hm.1; rw [List.length_map] at this; omega
              refine h ms[j] (hm.2 _ (List.getElem_mem e1)) ?_
              have e2 : P[j]? = (ms.map Lib.itoa)[j]? := congrArg (fun l : List (List UInt8) => l[j]?) hm.1
              rw [List.getElem?_eq_getElem hlt, List.getElem?_map, List.getElem?_eq_getElem e1] at e2
              exact Option.some.inj e2
            clear hsu hf hle
            generalize P[j] = pc at *
            generalize hb1 : bpos word P (j + 1) = q1 at *
            have HB1 : Hid (bpos word P (j + 1) = q1) := hb1
            generalize bpos word P j = q0 at *
            clear HNo hb1
            go_wp2
            go_loop [5] (fun s5 => ∃ x : Nat, f ≤ x ∧ x ≤ q1 ∧ s5 = .int .i64 x) (fun s5 => S.size - (intOf s5).toNat)
            case atStart => exact ⟨f, Nat.le_refl _, hfq, rfl⟩
            case round =>
              obtain ⟨x, hfx, hxq, rfl⟩ := hrel
              by_cases hil : x < q1
              · obtain ⟨h1, h2⟩ := HBy.out x hfx hil
                have zi : (x : Int) < (S.size : Int) := by omega
                go_wp2
                exact ⟨⟨x + 1, by omega, hil, rfl⟩, by simp [intOf]; omega⟩
              · obtain rfl : q1 = x := by omega
                have hN := refnumber_any (bs pc) wr
                rw [← HPc.out] at hN
                rcases HEnd.out with hno | ⟨h1, h2⟩
                · have zi : ¬ (q1 : Int) < (S.size : Int) := by omega
                  go_wp2_with fail
                  refine hN.mono ?_
                  rintro e w1 ⟨z, b, rfl, hb1, hor⟩
                  clear hN
                  rcases hor with ⟨rfl, hz, he⟩ | ⟨rfl, he⟩
                  · have hpz : pc = Lib.itoa z := by rw [HPc.out] at he; have := bs_eq he; rwa [bs_list] at this
                    have HSy : Hid (Says (P.take (j + 1)) (ns ++ [z])) := HPost.out z hz hpz
                    have hbw : Below w.heap.size w w1 := HBl.out.trans (hb1.mono HBl.out.size)
                    have hO1 : w1.ownsRow w.heap.size 3 1 (.slice p7 ns.length c7) ns.length (ns.map (Value.int .i64)) := own_keep (S := fun _ => False) HOw.out (Keep.below hb1) (fun _ _ x => x)
                    have hBa : Below w1.heap.size w1 (w1.alloc (.cells #[.int .i64 z] 3)) := (Below.refl _ _).alloc (Nat.le_refl _) _
                    have hO2 : (w1.alloc (.cells #[.int .i64 z] 3)).ownsRow w.heap.size 3 1 (.slice p7 ns.length c7) ns.length (ns.map (Value.int .i64)) := own_keep (S := fun _ => False) hO1 (Keep.below hBa) (fun _ _ x => x)
                    have hne : ∀ i u, [Value.int .i64 z][i]? = some u → (w1.alloc (.cells #[.int .i64 z] 3)).cell? ((⟨w1.heap.size, 0, none⟩ : Addr).add i) = some u := fun i u hu => by
                      have := (At.alloc w1 [Value.int .i64 z] 3 i u hu).1
                      rw [Addr.add_lit, Nat.zero_add]
                      exact this
                    clear he hpz hb1 hO1 HPost HBad HPc HEnd HBy HTk
                    go_upto_region 14 with fail
                    refine wp_region_lit ?_
                    refine wpList_val (.slice p7 ns.length c7) w1 rfl rfl ?_
                    simp only [Act.put, List.setIfInBounds_toArray, List.set_cons_zero, List.set_cons_succ]
                    refine wpList_val (.int .i64 z) w1 rfl rfl ?_
                    simp only [Act.put, List.setIfInBounds_toArray, List.set_cons_zero, List.set_cons_succ]
                    refine wpList_val (.slice (some ⟨w1.heap.size, 0, none⟩) 1 1) (w1.alloc (.cells #[.int .i64 z] 3)) rfl (by kernel_rfl) ?_
                    simp only [Act.put, List.setIfInBounds_toArray, List.set_cons_zero, List.set_cons_succ]
                    refine wpList_append_own _ rfl (.tmp 56) (.tmp 58) 38 rfl w.heap.size 3 i0 (.int .i64 0) 1 8 Tryz.underlying38 hi hz0 hz1 hz2 rfl (by omega) _ ns.length _ rfl hO2 ⟨w1.heap.size, 0, none⟩ 1 1 _ rfl rfl hne (fun u hu => ?_) (by unfold maxLen; omega) (by omega) (Nat.le_trans hbw.size hBa.size) ?_
                    · rw [List.mem_singleton] at hu
                      subst hu
                      rfl
                    intro v' w2 ho2 hg2 _
                    have HN : Hid (PtL w word P (.int .i64 (q1 : Int)) v' w2) := by
                      refine ⟨j + 1, ns ++ [z], hlt, by rw [HB1.out], HSy.out, by rw [List.length_append, HNl.out]; rfl, ?_, ?_⟩
                      · rw [List.length_append, List.map_append]; exact ho2
                      · have hw2 := hbw.trans (hBa.mono hbw.size)
                        refine ⟨hg2.os.trans hw2.os, hg2.tape.trans hw2.tape, hg2.output.trans hw2.output, Nat.le_trans hw2.size hg2.size, fun b hb => (hg2.block b (Nat.lt_of_lt_of_le hb hw2.size) (fun e => ?_)).trans (hw2.block b hb)⟩
                        have := (own_base hO2 (b := b) e.symm).1
                        omega
                    clear hO2 hne ho2 hg2 hBa hbw HSy
                    simp only [Act.put, List.setIfInBounds_toArray, List.set_cons_zero, List.set_cons_succ]
                    go_wp2
                    exact ⟨HN.out, by simp [intOf]; omega⟩
                  · have HE : Hid (PartsPost w word P (.returned (.tuple #[.string (bs word), .slice none 0 0, .bool false])) w1) := by
                      refine ⟨HBl.out.trans (hb1.mono HBl.out.size), .inr ⟨HBad.out (fun n hn e => he n hn ?_), _, rfl⟩⟩
                      rw [HPc.out, e]
                    clear he hb1 HPost HBad HPc HEnd HBy HTk
                    go_wp2
                    go_ret3
                    exact HE.out
                · have zi : (q1 : Int) < (S.size : Int) := by omega
                  go_wp2_with fail
                  refine hN.mono ?_
                  rintro e w1 ⟨z, b, rfl, hb1, hor⟩
                  clear hN
                  rcases hor with ⟨rfl, hz, he⟩ | ⟨rfl, he⟩
                  · have hpz : pc = Lib.itoa z := by rw [HPc.out] at he; have := bs_eq he; rwa [bs_list] at this
                    have HSy : Hid (Says (P.take (j + 1)) (ns ++ [z])) := HPost.out z hz hpz
                    have hbw : Below w.heap.size w w1 := HBl.out.trans (hb1.mono HBl.out.size)
                    have hO1 : w1.ownsRow w.heap.size 3 1 (.slice p7 ns.length c7) ns.length (ns.map (Value.int .i64)) := own_keep (S := fun _ => False) HOw.out (Keep.below hb1) (fun _ _ x => x)
                    have hBa : Below w1.heap.size w1 (w1.alloc (.cells #[.int .i64 z] 3)) := (Below.refl _ _).alloc (Nat.le_refl _) _
                    have hO2 : (w1.alloc (.cells #[.int .i64 z] 3)).ownsRow w.heap.size 3 1 (.slice p7 ns.length c7) ns.length (ns.map (Value.int .i64)) := own_keep (S := fun _ => False) hO1 (Keep.below hBa) (fun _ _ x => x)
                    have hne : ∀ i u, [Value.int .i64 z][i]? = some u → (w1.alloc (.cells #[.int .i64 z] 3)).cell? ((⟨w1.heap.size, 0, none⟩ : Addr).add i) = some u := fun i u hu => by
                      have := (At.alloc w1 [Value.int .i64 z] 3 i u hu).1
                      rw [Addr.add_lit, Nat.zero_add]
                      exact this
                    clear he hpz hb1 hO1 HPost HBad HPc HEnd HBy HTk
                    go_upto_region 14 with fail
                    refine wp_region_lit ?_
                    refine wpList_val (.slice p7 ns.length c7) w1 rfl rfl ?_
                    simp only [Act.put, List.setIfInBounds_toArray, List.set_cons_zero, List.set_cons_succ]
                    refine wpList_val (.int .i64 z) w1 rfl rfl ?_
                    simp only [Act.put, List.setIfInBounds_toArray, List.set_cons_zero, List.set_cons_succ]
                    refine wpList_val (.slice (some ⟨w1.heap.size, 0, none⟩) 1 1) (w1.alloc (.cells #[.int .i64 z] 3)) rfl (by kernel_rfl) ?_
                    simp only [Act.put, List.setIfInBounds_toArray, List.set_cons_zero, List.set_cons_succ]
                    refine wpList_append_own _ rfl (.tmp 56) (.tmp 58) 38 rfl w.heap.size 3 i0 (.int .i64 0) 1 8 Tryz.underlying38 hi hz0 hz1 hz2 rfl (by omega) _ ns.length _ rfl hO2 ⟨w1.heap.size, 0, none⟩ 1 1 _ rfl rfl hne (fun u hu => ?_) (by unfold maxLen; omega) (by omega) (Nat.le_trans hbw.size hBa.size) ?_
                    · rw [List.mem_singleton] at hu
                      subst hu
                      rfl
                    intro v' w2 ho2 hg2 _
                    have HN : Hid (PtL w word P (.int .i64 (q1 : Int)) v' w2) := by
                      refine ⟨j + 1, ns ++ [z], hlt, by rw [HB1.out], HSy.out, by rw [List.length_append, HNl.out]; rfl, ?_, ?_⟩
                      · rw [List.length_append, List.map_append]; exact ho2
                      · have hw2 := hbw.trans (hBa.mono hbw.size)
                        refine ⟨hg2.os.trans hw2.os, hg2.tape.trans hw2.tape, hg2.output.trans hw2.output, Nat.le_trans hw2.size hg2.size, fun b hb => (hg2.block b (Nat.lt_of_lt_of_le hb hw2.size) (fun e => ?_)).trans (hw2.block b hb)⟩
                        have := (own_base hO2 (b := b) e.symm).1
                        omega
                    clear hO2 hne ho2 hg2 hBa hbw HSy
                    simp only [Act.put, List.setIfInBounds_toArray, List.set_cons_zero, List.set_cons_succ]
                    go_wp2
                    exact ⟨HN.out, by simp [intOf]; omega⟩
                  · have HE : Hid (PartsPost w word P (.returned (.tuple #[.string (bs word), .slice none 0 0, .bool false])) w1) := by
                      refine ⟨HBl.out.trans (hb1.mono HBl.out.size), .inr ⟨HBad.out (fun n hn e => he n hn ?_), _, rfl⟩⟩
                      rw [HPc.out, e]
                    clear he hb1 HPost HBad HPc HEnd HBy HTk
                    go_wp2
                    go_ret3
                    exact HE.out
          · obtain rfl : j = P.length := by omega
            have z1 : ¬ (bpos word P P.length : Int) < (S.size : Int) := by rw [bpos_all, HSl.out]; omega
            have HE : Hid (PartsPost w word P (.returned (.tuple #[.string (bs word), .slice p7 ns.length c7, .bool true])) wr) := by
              refine ⟨HBl.out, .inl ⟨ns, _, ?_, rfl, own_isv HOw.out, fun b hb => (own_base HOw.out hb).1⟩⟩
              have := HSay.out
              rwa [List.take_length] at this
            go_wp2
            go_ret3
            exact HE.out
      · have zk : ¬ (word.length : Int) < (S.size : Int) := by omega
        go_upto_region 5 with fail
        rw [HX.out]
        clear HX
        go_wp2
        go_loopw [5, 7, 8, 9, 10] (fun s5 s7 _ _ _ wr => PtL w word P s5 s7 wr) (fun s5 _ _ _ _ _ => S.size - (intOf s5).toNat)
        case atStart => exact HL0.out
        case round =>
          obtain ⟨j, ns, hj, rfl, hsay, hnl, hown, hbel⟩ := hrel
          have HSay : Hid (Says (P.take j) ns) := hsay
          obtain ⟨p7, c7, h7⟩ := own_slice hown
          subst h7
          have HOw : Hid (wr.ownsRow w.heap.size 3 1 (.slice p7 ns.length c7) ns.length (ns.map (Value.int .i64))) := hown
          have HBl : Hid (Below w.heap.size w wr) := hbel
          have HNl : Hid (ns.length = j) := hnl
          have hn4 : ns.length ≤ 1000000000000 := by omega
          clear hsay hown hbel HL0 hnl
          by_cases hlt : j < P.length
          · have hle := bpos_lt word P j
            have hsu := bpos_succ word P j hlt
            have z1 : (bpos word P j : Int) < (S.size : Int) := by rw [HSl.out]; omega
            have HNo : Hid (NoB P[j]) := HP.out _ (List.getElem_mem hlt)
            obtain ⟨f, hf⟩ : ∃ f : Nat, f = bpos word P j + 1 := ⟨_, rfl⟩
            have HBy : Hid (∀ x, f ≤ x → x < bpos word P (j + 1) → ∃ h : x < S.size, ((S[x].toNat : Int) != 32) = true) := fun x h1 h2 => by
              obtain ⟨h1, h2⟩ := HAt.out _ _ (bpos_at word P j hlt (x - f) (by omega))
              rw [← hf, show f + (x - f) = x by omega] at h1
              refine ⟨h1, ?_⟩
              have h3 : S[x] = P[j][x - f]'(by omega) := by
                have := h2
                simp only [← hf, show f + (x - f) = x by omega] at this
                exact this
              rw [h3]
              exact byte_ne (HNo.out _ (List.getElem_mem _))
            have HPc : Hid (S.extract f (bpos word P (j + 1)) = bs P[j]) := by
              show _ = _
              rw [HEx.out, hf, hsu, show bpos word P j + 1 + P[j].length - (bpos word P j + 1) = P[j].length by omega, bpos_piece word P j hlt]
            have HEnd : Hid (¬ bpos word P (j + 1) < S.size ∨ ∃ h : bpos word P (j + 1) < S.size, ((S[bpos word P (j + 1)].toNat : Int) != 32) = false) := by
              by_cases hlast : j + 1 < P.length
              · obtain ⟨h1, h2⟩ := HAt.out _ _ (bpos_blank word P (j + 1) hlast)
                exact .inr ⟨h1, by rw [h2]; rfl⟩
              · refine .inl ?_
                rw [show j + 1 = P.length by omega, bpos_all, ← HSl.out]
                omega
            have HTk : Hid (P.take (j + 1) = P.take j ++ [P[j]]) := List.take_succ_eq_append_getElem hlt
            have hfq : f ≤ bpos word P (j + 1) := by omega
            have hqS : bpos word P (j + 1) ≤ S.size := by rw [HSl.out]; exact hle
            have hf1 : (bpos word P j : Int) + 1 = (f : Int) := by omega
            have HPost : Hid (∀ z, InR z → P[j] = Lib.itoa z → Says (P.take (j + 1)) (ns ++ [z])) := fun z hz e => by
              refine ⟨?_, fun n hn => ?_⟩
              · rw [HTk.out, HSay.out.1, e, List.map_append]
                rfl
              · rcases List.mem_append.1 hn with h | h
                · exact HSay.out.2 n h
                · rw [List.mem_singleton] at h; subst h; exact hz
            have HBad : Hid ((∀ n, InR n → ¬ P[j] = Lib.itoa n) → ¬ ∃ ms, Says P ms) := fun h ⟨ms, hm⟩ => by
              have e1 : j < ms.length := by have := congrArg List.length hm.1; rw [List.length_map] at this; omega
              refine h ms[j] (hm.2 _ (List.getElem_mem e1)) ?_
              have e2 : P[j]? = (ms.map Lib.itoa)[j]? := congrArg (fun l : List (List UInt8) => l[j]?) hm.1
              rw [List.getElem?_eq_getElem hlt, List.getElem?_map, List.getElem?_eq_getElem e1] at e2
              exact Option.some.inj e2
            clear hsu hf hle
            generalize P[j] = pc at *
            generalize hb1 : bpos word P (j + 1) = q1 at *
            have HB1 : Hid (bpos word P (j + 1) = q1) := hb1
            generalize bpos word P j = q0 at *
            clear HNo hb1
            go_wp2
            go_loop [5] (fun s5 => ∃ x : Nat, f ≤ x ∧ x ≤ q1 ∧ s5 = .int .i64 x) (fun s5 => S.size - (intOf s5).toNat)
            case atStart => exact ⟨f, Nat.le_refl _, hfq, rfl⟩
            case round =>
              obtain ⟨x, hfx, hxq, rfl⟩ := hrel
              by_cases hil : x < q1
              · obtain ⟨h1, h2⟩ := HBy.out x hfx hil
                have zi : (x : Int) < (S.size : Int) := by omega
                go_wp2
                exact ⟨⟨x + 1, by omega, hil, rfl⟩, by simp [intOf]; omega⟩
              · obtain rfl : q1 = x := by omega
                have hN := refnumber_any (bs pc) wr
                rw [← HPc.out] at hN
                rcases HEnd.out with hno | ⟨h1, h2⟩
                · have zi : ¬ (q1 : Int) < (S.size : Int) := by omega
                  go_wp2_with fail
                  refine hN.mono ?_
                  rintro e w1 ⟨z, b, rfl, hb1, hor⟩
                  clear hN
                  rcases hor with ⟨rfl, hz, he⟩ | ⟨rfl, he⟩
                  · have hpz : pc = Lib.itoa z := by rw [HPc.out] at he; have := bs_eq he; rwa [bs_list] at this
                    have HSy : Hid (Says (P.take (j + 1)) (ns ++ [z])) := HPost.out z hz hpz
                    have hbw : Below w.heap.size w w1 := HBl.out.trans (hb1.mono HBl.out.size)
                    have hO1 : w1.ownsRow w.heap.size 3 1 (.slice p7 ns.length c7) ns.length (ns.map (Value.int .i64)) := own_keep (S := fun _ => False) HOw.out (Keep.below hb1) (fun _ _ x => x)
                    have hBa : Below w1.heap.size w1 (w1.alloc (.cells #[.int .i64 z] 3)) := (Below.refl _ _).alloc (Nat.le_refl _) _
                    have hO2 : (w1.alloc (.cells #[.int .i64 z] 3)).ownsRow w.heap.size 3 1 (.slice p7 ns.length c7) ns.length (ns.map (Value.int .i64)) := own_keep (S := fun _ => False) hO1 (Keep.below hBa) (fun _ _ x => x)
                    have hne : ∀ i u, [Value.int .i64 z][i]? = some u → (w1.alloc (.cells #[.int .i64 z] 3)).cell? ((⟨w1.heap.size, 0, none⟩ : Addr).add i) = some u := fun i u hu => by
                      have := (At.alloc w1 [Value.int .i64 z] 3 i u hu).1
                      rw [Addr.add_lit, Nat.zero_add]
                      exact this
                    clear he hpz hb1 hO1 HPost HBad HPc HEnd HBy HTk
                    go_upto_region 14 with fail
                    refine wp_region_lit ?_
                    refine wpList_val (.slice p7 ns.length c7) w1 rfl rfl ?_
                    simp only [Act.put, List.setIfInBounds_toArray, List.set_cons_zero, List.set_cons_succ]
                    refine wpList_val (.int .i64 z) w1 rfl rfl ?_
                    simp only [Act.put, List.setIfInBounds_toArray, List.set_cons_zero, List.set_cons_succ]
                    refine wpList_val (.slice (some ⟨w1.heap.size, 0, none⟩) 1 1) (w1.alloc (.cells #[.int .i64 z] 3)) rfl (by kernel_rfl) ?_
                    simp only [Act.put, List.setIfInBounds_toArray, List.set_cons_zero, List.set_cons_succ]
                    refine wpList_append_own _ rfl (.tmp 56) (.tmp 58) 38 rfl w.heap.size 3 i0 (.int .i64 0) 1 8 Tryz.underlying38 hi hz0 hz1 hz2 rfl (by omega) _ ns.length _ rfl hO2 ⟨w1.heap.size, 0, none⟩ 1 1 _ rfl rfl hne (fun u hu => ?_) (by unfold maxLen; omega) (by omega) (Nat.le_trans hbw.size hBa.size) ?_
                    · rw [List.mem_singleton] at hu
                      subst hu
                      rfl
                    intro v' w2 ho2 hg2 _
                    have HN : Hid (PtL w word P (.int .i64 (q1 : Int)) v' w2) := by
                      refine ⟨j + 1, ns ++ [z], hlt, by rw [HB1.out], HSy.out, by rw [List.length_append, HNl.out]; rfl, ?_, ?_⟩
                      · rw [List.length_append, List.map_append]; exact ho2
                      · have hw2 := hbw.trans (hBa.mono hbw.size)
                        refine ⟨hg2.os.trans hw2.os, hg2.tape.trans hw2.tape, hg2.output.trans hw2.output, Nat.le_trans hw2.size hg2.size, fun b hb => (hg2.block b (Nat.lt_of_lt_of_le hb hw2.size) (fun e => ?_)).trans (hw2.block b hb)⟩
                        have := (own_base hO2 (b := b) e.symm).1
                        omega
                    clear hO2 hne ho2 hg2 hBa hbw HSy
                    simp only [Act.put, List.setIfInBounds_toArray, List.set_cons_zero, List.set_cons_succ]
                    go_wp2
                    exact ⟨HN.out, by simp [intOf]; omega⟩
                  · have HE : Hid (PartsPost w word P (.returned (.tuple #[.string (bs word), .slice none 0 0, .bool false])) w1) := by
                      refine ⟨HBl.out.trans (hb1.mono HBl.out.size), .inr ⟨HBad.out (fun n hn e => he n hn ?_), _, rfl⟩⟩
                      rw [HPc.out, e]
                    clear he hb1 HPost HBad HPc HEnd HBy HTk
                    go_wp2
                    go_ret3
                    exact HE.out
                · have zi : (q1 : Int) < (S.size : Int) := by omega
                  go_wp2_with fail
                  refine hN.mono ?_
                  rintro e w1 ⟨z, b, rfl, hb1, hor⟩
                  clear hN
                  rcases hor with ⟨rfl, hz, he⟩ | ⟨rfl, he⟩
                  · have hpz : pc = Lib.itoa z := by rw [HPc.out] at he; have := bs_eq he; rwa [bs_list] at this
                    have HSy : Hid (Says (P.take (j + 1)) (ns ++ [z])) := HPost.out z hz hpz
                    have hbw : Below w.heap.size w w1 := HBl.out.trans (hb1.mono HBl.out.size)
                    have hO1 : w1.ownsRow w.heap.size 3 1 (.slice p7 ns.length c7) ns.length (ns.map (Value.int .i64)) := own_keep (S := fun _ => False) HOw.out (Keep.below hb1) (fun _ _ x => x)
                    have hBa : Below w1.heap.size w1 (w1.alloc (.cells #[.int .i64 z] 3)) := (Below.refl _ _).alloc (Nat.le_refl _) _
                    have hO2 : (w1.alloc (.cells #[.int .i64 z] 3)).ownsRow w.heap.size 3 1 (.slice p7 ns.length c7) ns.length (ns.map (Value.int .i64)) := own_keep (S := fun _ => False) hO1 (Keep.below hBa) (fun _ _ x => x)
                    have hne : ∀ i u, [Value.int .i64 z][i]? = some u → (w1.alloc (.cells #[.int .i64 z] 3)).cell? ((⟨w1.heap.size, 0, none⟩ : Addr).add i) = some u := fun i u hu => by
                      have := (At.alloc w1 [Value.int .i64 z] 3 i u hu).1
                      rw [Addr.add_lit, Nat.zero_add]
                      exact this
                    clear he hpz hb1 hO1 HPost HBad HPc HEnd HBy HTk
                    go_upto_region 14 with fail
                    refine wp_region_lit ?_
                    refine wpList_val (.slice p7 ns.length c7) w1 rfl rfl ?_
                    simp only [Act.put, List.setIfInBounds_toArray, List.set_cons_zero, List.set_cons_succ]
                    refine wpList_val (.int .i64 z) w1 rfl rfl ?_
                    simp only [Act.put, List.setIfInBounds_toArray, List.set_cons_zero, List.set_cons_succ]
                    refine wpList_val (.slice (some ⟨w1.heap.size, 0, none⟩) 1 1) (w1.alloc (.cells #[.int .i64 z] 3)) rfl (by kernel_rfl) ?_
                    simp only [Act.put, List.setIfInBounds_toArray, List.set_cons_zero, List.set_cons_succ]
                    refine wpList_append_own _ rfl (.tmp 56) (.tmp 58) 38 rfl w.heap.size 3 i0 (.int .i64 0) 1 8 Tryz.underlying38 hi hz0 hz1 hz2 rfl (by omega) _ ns.length _ rfl hO2 ⟨w1.heap.size, 0, none⟩ 1 1 _ rfl rfl hne (fun u hu => ?_) (by unfold maxLen; omega) (by omega) (Nat.le_trans hbw.size hBa.size) ?_
                    · rw [List.mem_singleton] at hu
                      subst hu
                      rfl
                    intro v' w2 ho2 hg2 _
                    have HN : Hid (PtL w word P (.int .i64 (q1 : Int)) v' w2) := by
                      refine ⟨j + 1, ns ++ [z], hlt, by rw [HB1.out], HSy.out, by rw [List.length_append, HNl.out]; rfl, ?_, ?_⟩
                      · rw [List.length_append, List.map_append]; exact ho2
                      · have hw2 := hbw.trans (hBa.mono hbw.size)
                        refine ⟨hg2.os.trans hw2.os, hg2.tape.trans hw2.tape, hg2.output.trans hw2.output, Nat.le_trans hw2.size hg2.size, fun b hb => (hg2.block b (Nat.lt_of_lt_of_le hb hw2.size) (fun e => ?_)).trans (hw2.block b hb)⟩
                        have := (own_base hO2 (b := b) e.symm).1
                        omega
                    clear hO2 hne ho2 hg2 hBa hbw HSy
                    simp only [Act.put, List.setIfInBounds_toArray, List.set_cons_zero, List.set_cons_succ]
                    go_wp2
                    exact ⟨HN.out, by simp [intOf]; omega⟩
                  · have HE : Hid (PartsPost w word P (.returned (.tuple #[.string (bs word), .slice none 0 0, .bool false])) w1) := by
                      refine ⟨HBl.out.trans (hb1.mono HBl.out.size), .inr ⟨HBad.out (fun n hn e => he n hn ?_), _, rfl⟩⟩
                      rw [HPc.out, e]
                    clear he hb1 HPost HBad HPc HEnd HBy HTk
                    go_wp2
                    go_ret3
                    exact HE.out
          · obtain rfl : j = P.length := by omega
            have z1 : ¬ (bpos word P P.length : Int) < (S.size : Int) := by rw [bpos_all, HSl.out]; omega
            have HE : Hid (PartsPost w word P (.returned (.tuple #[.string (bs word), .slice p7 ns.length c7, .bool true])) wr) := by
              refine ⟨HBl.out, .inl ⟨ns, _, ?_, rfl, own_isv HOw.out, fun b hb => (own_base HOw.out hb).1⟩⟩
              have := HSay.out
              rwa [List.take_length] at this
            go_wp2
            go_ret3
            exact HE.out
end Go.Proofs.YtanndhoimpnhpaaGreatDoor
namespace Go.Proofs.YtanndhoimpnhpaaGreatDoor
open Go.RowKit
end Go.Proofs.YtanndhoimpnhpaaGreatDoor
namespace Go.Proofs.YtanndhoimpnhpaaGreatDoor
open Go.RowKit
end Go.Proofs.YtanndhoimpnhpaaGreatDoor
namespace Go.Proofs.YtanndhoimpnhpaaGreatDoor.Ln
open Go.Proofs.YtanndhoimpnhpaaGreatDoor Cal
end Go.Proofs.YtanndhoimpnhpaaGreatDoor.Ln
namespace Go.Proofs.YtanndhoimpnhpaaGreatDoor
open Go.ChangeShapes Go.WideShapes Go.ChangeAt Go.RowKit Lg Cal
structure DcX (w : World) (B : Nat) (t : Ln.Terms) (l : List Ln.Ev) (g : Ln.St) (day : Int) (L : List En) (evv bkv : Value) : Prop where
  ln : At w B (dl t evv g day bkv)
  ev : w.ownsRow (B + 1) 50 4 evv l.length (evs l)
  bk : w.ownsRow (B + 1) 114 3 bkv L.length (ens L)
  ap : ∀ b, evv.ownBlock = some b → ¬ bkv.ownBlock = some b
  ds : l.Pairwise (fun a b => ¬ a.s = b.s)
  ok : ∀ e ∈ l, Ln.OkE t e
  le : l.length ≤ 40
  ot : Ln.OkT t
  inl : ∀ e ∈ L, t.st ≤ e.d ∧ e.d < day ∧ 1 ≤ e.k ∧ e.k ≤ 12
  d0 : t.st ≤ day
  d1 : day ≤ t.st + 3700
end Go.Proofs.YtanndhoimpnhpaaGreatDoor
namespace Go.Proofs.YtanndhoimpnhpaaGreatDoor
open Go.ChangeShapes Go.WideShapes Go.RowKit Go.WideMaps Go.Maps Cal
end Go.Proofs.YtanndhoimpnhpaaGreatDoor
namespace Go.Proofs.YtanndhoimpnhpaaGreatDoor
open Go.ChangeShapes Go.WideShapes Go.RowKit Go.WideMaps Go.Maps Cal
end Go.Proofs.YtanndhoimpnhpaaGreatDoor
namespace Go.Proofs.YtanndhoimpnhpaaGreatDoor
open Go.ChangeShapes Go.WideShapes Go.ChangeAt Go.RowKit Lg Cal
theorem own_less {w : World} {base : Nat} {T : TypeId} {size : Nat} {v : Value} {n : Nat} {xs : List Value} (h : w.ownsRow base T size v n xs) (b : Nat) (hb : b ≤ base) : w.ownsRow b T size v n xs := by
  obtain ⟨h1, h2 | ⟨g, cap, cur, h3, h4, h5⟩⟩ := h
  · exact ⟨h1, .inl h2⟩
  · exact ⟨h1, .inr ⟨g, cap, cur, h3, Nat.le_trans hb h4, h5⟩⟩
theorem own_new {w w' : World} {F : Nat → Prop} {v v' : Value} {base : Nat} {T : TypeId} {size n : Nat} {xs : List Value} (h : OwnNew w v v') (hF : ∀ b, v.ownBlock = some b → F b) (ho : w'.ownsRow base T size v' n xs) : ∀ b, v'.ownBlock = some b → Wd F w w' b :=
  h.mine hF (own_less ho 0 (Nat.zero_le _))
def Dc (w : World) (B : Nat) (t : Ln.Terms) (l : List Ln.Ev) (g : Ln.St) (day : Int) (L : List En) (F : Nat → Prop) : Prop :=
  ∃ evv bkv, DcX w B t l g day L evv bkv ∧ F B ∧ (∀ b, evv.ownBlock = some b → F b) ∧ (∀ b, bkv.ownBlock = some b → F b)
theorem DcX.keep {S : Nat → Prop} {w w' : World} {B : Nat} {t : Ln.Terms} {l : List Ln.Ev} {g : Ln.St} {day : Int} {L : List En} {evv bkv : Value} (h : DcX w B t l g day L evv bkv) (hk : Keep S w w') (h0 : ¬ S B) (h1 : ∀ b, evv.ownBlock = some b → ¬ S b) (h2 : ∀ b, bkv.ownBlock = some b → ¬ S b) : DcX w' B t l g day L evv bkv :=
  ⟨At.keep (v := .int .i64 t.st) h.ln hk h0, own_keep h.ev hk h1, own_keep h.bk hk h2, h.ap, h.ds, h.ok, h.le, h.ot, h.inl, h.d0, h.d1⟩
theorem Dc.keep {S F : Nat → Prop} {w w' : World} {B : Nat} {t : Ln.Terms} {l : List Ln.Ev} {g : Ln.St} {day : Int} {L : List En} (h : Dc w B t l g day L F) (hk : Keep S w w') (hs : ∀ b, F b → ¬ S b) : Dc w' B t l g day L F := by
  obtain ⟨evv, bkv, h1, h2, h3, h4⟩ := h
  exact ⟨evv, bkv, h1.keep hk (hs B h2) (fun b hb => hs b (h3 b hb)) (fun b hb => hs b (h4 b hb)), h2, h3, h4⟩
theorem Dc.mono {F G : Nat → Prop} {w : World} {B : Nat} {t : Ln.Terms} {l : List Ln.Ev} {g : Ln.St} {day : Int} {L : List En} (h : Dc w B t l g day L F) (hs : ∀ b, F b → G b) : Dc w B t l g day L G := by
  obtain ⟨evv, bkv, h1, h2, h3, h4⟩ := h
  exact ⟨evv, bkv, h1, hs B h2, fun b hb => hs b (h3 b hb), fun b hb => hs b (h4 b hb)⟩
theorem refopenD (t : Ln.Terms) (w : World) (h : rtB t = true) :
    Calls Tryz.prog 56 #[tmV t] w fun e w' => ∃ B, e = .returned (.tuple #[.pointer (some ⟨B, 0, none⟩), .int .i64 0]) ∧ Dc w' B t [] (Ln.start t) t.st [] (Wd (fun _ => False) w w') ∧ Below w.heap.size w w' := by
  refine (refopen_good t w h).mono ?_
  rintro e w' ⟨⟨B, rfl, hB, hA⟩, hb⟩
  have hBl := At.lt (v := .int .i64 t.st) hA
  have ho := rt_ok h
  exact ⟨B, rfl, ⟨.slice none 0 0, .slice none 0 0, ⟨hA, World.ownsRow_nil _ _ _ _, World.ownsRow_nil _ _ _ _, fun b hb => (by cases hb), List.Pairwise.nil, fun e he => (by simp at he), (by simp), ho, fun e he => (by simp at he), Int.le_refl _, by omega⟩, .inr ⟨hB, hBl⟩, fun b hb => (by cases hb), fun b hb => (by cases hb)⟩, hb⟩
theorem addC_ok {t : Ln.Terms} {l : List Ln.Ev} {e : Ln.Ev} (h : addC t l e = 0) : Ln.OkE t e ∧ l.length < 40 ∧ hasS e.s l = false := by
  rw [addC_eq] at h
  have hf : evF t e = 0 := by
    by_cases hz : evF t e = 0
    · exact hz
    · rw [if_pos hz] at h; exact absurd h hz
  rw [if_neg (by simp [hf])] at h
  have h40 : ¬ 40 ≤ l.length := fun hz => by rw [if_pos hz] at h; cases h
  rw [if_neg h40] at h
  refine ⟨evF_ok hf, by omega, ?_⟩
  cases hz : hasS e.s l with
  | false => rfl
  | true => rw [hz] at h; cases h
theorem hasS_none {q : Int} {l : List Ln.Ev} (h : hasS q l = false) : ∀ x ∈ l, ¬ x.s = q := fun x hx he => by
  have : hasS q l = true := List.any_eq_true.2 ⟨x, hx, by simp [he]⟩
  rw [h] at this
  cases this
def DcAdd (w : World) (B : Nat) (t : Ln.Terms) (l : List Ln.Ev) (g : Ln.St) (day : Int) (L : List En) (F : Nat → Prop) (e : Ln.Ev) (x : Ending) (w' : World) : Prop :=
  x = .returned (.int .i64 (addC t l e)) ∧ Keep F w w' ∧ ((¬ addC t l e = 0 ∧ Dc w' B t l g day L (Wd F w w')) ∨ (addC t l e = 0 ∧ Dc w' B t (l ++ [e]) g day L (Wd F w w')))
theorem refaddD (w : World) (B : Nat) (t : Ln.Terms) (l : List Ln.Ev) (g : Ln.St) (day : Int) (L : List En) (F : Nat → Prop) (h : Dc w B t l g day L F) (e : Ln.Ev) :
    Calls Tryz.prog 57 #[.pointer (some ⟨B, 0, none⟩), evc e] w (DcAdd w B t l g day L F e) := by
  obtain ⟨evv, bkv, h1, h2, h3, h4⟩ := h
  obtain ⟨pa, ecap, rfl⟩ := own_slice h1.ev
  refine (refadd_core w B t g day bkv pa ecap l e h1.le h1.ot.st0 h1.ot.st1 h1.ln h1.ev).mono ?_
  rintro x w' ⟨rfl, ⟨hc, hb⟩ | ⟨hc, v, ho, hon, hA, hk⟩⟩
  · exact ⟨rfl, Keep.below hb, .inl ⟨hc, (Dc.keep (S := fun _ => False) ⟨_, bkv, h1, h2, h3, h4⟩ (Keep.below hb) (fun _ _ x => x)).mono (fun b hb => .inl hb)⟩⟩
  · have hpa : ∀ b, pa.map (·.block) = some b → (Value.slice pa l.length ecap).ownBlock = some b := fun b hb => by
      cases pa with
      | none => cases hb
      | some a => exact hb
    obtain ⟨hok, h40, hns⟩ := addC_ok hc
    refine ⟨rfl, hk.mono (fun b _ hb => hb.elim (fun x => by rw [x]; exact h2) (fun x => h3 b (hpa b x))), .inr ⟨hc, v, bkv, ⟨hA, ?_, own_keep h1.bk hk ?_, ?_, ?_, ?_, ?_, h1.ot, h1.inl, h1.d0, h1.d1⟩, .inl h2, own_new hon h3 ho, fun b hb => .inl (h4 b hb)⟩⟩
    · rw [List.length_append]
      exact ho
    · rintro b hb (x | x)
      · have := (own_base h1.bk hb).1
        omega
      · exact h1.ap b (hpa b x) hb
    · intro b hb hx
      rcases hon with y | ⟨c, y1, y2⟩
      · exact h1.ap b (y.symm.trans hb) hx
      · have : c = b := by rw [y1] at hb; exact Option.some.inj hb
        have := (own_base h1.bk hx).2
        omega
    · refine List.pairwise_append.2 ⟨h1.ds, by simp, fun a ha b hb => ?_⟩
      rw [List.mem_singleton.1 hb]
      exact hasS_none hns a ha
    · intro x hx
      rcases List.mem_append.1 hx with hx | hx
      · exact h1.ok x hx
      · rw [List.mem_singleton.1 hx]; exact hok
    · rw [List.length_append]
      show l.length + 1 ≤ 40
      omega
end Go.Proofs.YtanndhoimpnhpaaGreatDoor
