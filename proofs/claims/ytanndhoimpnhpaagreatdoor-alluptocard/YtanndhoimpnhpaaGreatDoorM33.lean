/- Joined by program: TxQ, TxS, LwA, LwB. -/
import Derived.Test.YtanndhoimpnhpaaGreatDoorM32
import Derived.Test.YtanndhoimpnhpaaGreatDoorM21
import Derived.Test.YtanndhoimpnhpaaGreatDoorM1
import Derived.Test.YtanndhoimpnhpaaGreatDoorM24
import Derived.Test.YtanndhoimpnhpaaGreatDoorM14
import Derived.Deep.RegionHeld3
import Derived.OwnWalk
import Derived.Test.YtanndhoimpnhpaaGreatDoorM25
import Derived.Test.YtanndhoimpnhpaaGreatDoorM18
import Derived.Test.YtanndhoimpnhpaaGreatDoorM29
import Derived.Test.YtanndhoimpnhpaaGreatDoorM8
import Derived.Test.YtanndhoimpnhpaaGreatDoorM20
import Derived.Deep.MidRow
namespace Go.Proofs.YtanndhoimpnhpaaGreatDoor
open Go.ChangeShapes Go.WideShapes Go.ChangeAt Go.RowKit Lg Cal
theorem infoByte : (Tryz.prog.info? 5).map (fun i => (i.zero, i.size, i.bytes)) = some (some (.int .u8 0), 1, 1) := by kernel_rfl
set_option maxRecDepth 10000 in
set_option maxHeartbeats 4000000 in
theorem wline_any (w : World) (W : Nat) (txt word : List UInt8) (nv : Value) (ns : List Int) (hW : Wr w W txt) (hN : Nm w W nv ns) (hr : ∀ n ∈ ns, InR n) (hl : txt.length + word.length + 22 * ns.length ≤ 100000000000000) (htab : Lib.TabBelow Tryz.prog W w "internal/strconv.uint64pow10" .u64 Lib.pow10Tab) :
    Calls Tryz.prog 42 #[.pointer (some ⟨W, 0, none⟩), .string (bs word), nv] w fun e w' => e = .returned (.tuple #[]) ∧ Wr w' W (txt ++ lineB word ns) ∧ Wf W w w' := by
  obtain ⟨i0, hi, hz0, hz1, hz2⟩ := info_parts infoByte
  obtain ⟨v, hA, ho⟩ := hW
  obtain ⟨p0, cap0, rfl⟩ := own_slice ho
  obtain ⟨pn, capn, rfl, hcapn, hcells⟩ := id hN
  have HN : Hid (∀ wx, Wf W w wx → ∀ k (hk : k < ns.length), ∃ b o c d, pn = some ⟨b, o, none⟩ ∧ wx.cell? ⟨b, o + k, none⟩ = some (.pointer (some ⟨c, d, none⟩)) ∧ wx.cell? ⟨c, d, none⟩ = some (.int .i64 ns[k]) ∧ Sf wx W b ∧ Sf wx W c) := fun wx hx => by
    obtain ⟨p, cap, h1, _, h3⟩ := hN.keep hx
    injection h1 with e1 _ _
    subst e1
    exact h3
  have HR : Hid (∀ n ∈ ns, InR n) := hr
  have HTab : Hid (∀ wx, Wf W w wx → Lib.TabBelow Tryz.prog (W + 1) wx "internal/strconv.uint64pow10" .u64 Lib.pow10Tab) := fun wx hx => tab_on htab hx
  have hWl : W < w.heap.size := At.lt hA
  have c0 : w.cell? ⟨W, 0, none⟩ = some (.slice p0 txt.length cap0) := hA.cell 0 rfl
  have HSz : Hid ((bs word).size = word.length) := bs_size word
  have hsz : txt.length + (bs word).size ≤ 100000000000000 := by rw [bs_size]; omega
  have HSt : Hid (Lib.strCells (bs word) = Lib.byteCells word) := by show _ = _; rw [Lib.strCells_eq, bs_list]
  have HA0 : Hid (At w W [.slice p0 txt.length cap0]) := hA
  have HO0 : Hid (w.ownsRow (W + 1) 5 1 (.slice p0 txt.length cap0) txt.length (Lib.byteCells txt)) := ho
  clear hN hcells hr htab hA hcapn
  generalize bs word = Wo at *
  go_enter Tryz.func42, Tryz.ntmps42
  go_wp2_with (at_builtin; refine Lib.wpList_append_own_string _ rfl _ _ 101 9 rfl (W + 1) 5 i0 Tryz.underlying101 Tryz.underlying9 hi hz0 hz1 hz2 _ _ _ rfl ho Wo rfl ?c1 ?c2 ?c3 ?_)
  case c1 => unfold maxLen; omega
  case c2 => omega
  case c3 => omega
  intro v1 w1 ho1 hg1 _
  obtain ⟨aw1, hf1, a2, o2⟩ := Wr.put HA0.out HO0.out hg1 ho1
  obtain ⟨p1, cap1, rfl⟩ := own_slice ho1
  have c1 : w1.cell? ⟨W, 0, none⟩ = some (.slice p0 txt.length cap0) := aw1.cell 0 rfl
  have f1 : w1.frozen? ⟨W, 0, none⟩ = false := aw1.free 0 rfl
  have HW2 : Hid (Wr (w1.setCell ⟨W, 0, none⟩ (.slice p1 (txt.length + Wo.size) cap1)) W (txt ++ word)) := by
    refine ⟨_, a2, ?_⟩
    rw [List.length_append, Lib.byteCells_append, ← HSt.out, ← HSz.out]
    exact o2
  have HF2 : Hid (Wf W w (w1.setCell ⟨W, 0, none⟩ (.slice p1 (txt.length + Wo.size) cap1))) := hf1
  clear c0 ho ho1 hg1 aw1 hf1 a2 o2 HA0 HO0
  go_wp2
  go_loopw [7, 19] (fun _ s19 wr => ∃ k : Nat, k ≤ ns.length ∧ s19 = .int .i64 k ∧ Wr wr W (txt ++ word ++ lnum (ns.take k)) ∧ Wf W w wr) (fun _ s19 _ => ns.length - (intOf s19).toNat)
  case atStart => exact ⟨0, Nat.zero_le _, rfl, by simpa [lnum] using HW2.out, HF2.out⟩
  case round =>
    clear HW2 HF2 c1 f1
    obtain ⟨k, hk, rfl, ⟨v, hA, ho⟩, hf⟩ := hrel
    have HF : Hid (Wf W w wr) := hf
    have hS1 : (lnum (ns.take k)).length ≤ 22 * ns.length := by
      have := lnum_len (ns.take k) (fun n hn => HR.out n (List.mem_of_mem_take hn))
      rw [List.length_take] at this
      omega
    have hS2 : (txt ++ word ++ lnum (ns.take k)).length ≤ 100000000000000 := by rw [List.length_append, List.length_append]; omega
    clear hS1
    have hWr : W < wr.heap.size := At.lt hA
    obtain ⟨p2, cap2, rfl⟩ := own_slice ho
    clear hf
    by_cases hlt : k < ns.length
    · have zk : (k : Int) < (ns.length : Int) := by omega
      obtain ⟨b, o, c, d, rfl, hb1, hb2, hb3, hb4⟩ := HN.out wr HF.out k hlt
      have HTk : Hid (txt ++ word ++ lnum (ns.take (k + 1)) = (txt ++ word ++ lnum (ns.take k) ++ [32]) ++ Lib.itoa ns[k]) := by
        show _ = _
        rw [lnum_take ns k hlt]
        simp
      have HIn : Hid (InR ns[k]) := HR.out _ (List.getElem_mem hlt)
      have HSf : Hid (Sf wr W c) := hb4
      have HCn : Hid (wr.cell? ⟨c, d, none⟩ = some (.int .i64 ns[k])) := hb2
      clear hb3 hb2 hb4
      generalize ns[k] = nn at *
      have HX : Hid (txt ++ word ++ lnum (ns.take k) = txt ++ word ++ lnum (ns.take k)) := rfl
      generalize hX : txt ++ word ++ lnum (ns.take k) = X at *
      clear hX HX
      have c0 : wr.cell? ⟨W, 0, none⟩ = some (.slice p2 X.length cap2) := hA.cell 0 rfl
      have HA0 : Hid (At wr W [.slice p2 X.length cap2]) := hA
      have hB : Below wr.heap.size wr (wr.alloc (.cells #[.int .u8 32] 5)) := (Below.refl _ _).alloc (Nat.le_refl _) _
      have HFa : Hid (Wf W wr (wr.alloc (.cells #[.int .u8 32] 5))) := Wf.below hB (by omega)
      have hA1 : At (wr.alloc (.cells #[.int .u8 32] 5)) W [.slice p2 X.length cap2] := At.keep (S := fun _ => False) hA (Keep.below hB) (fun x => x)
      have ho1 : (wr.alloc (.cells #[.int .u8 32] 5)).ownsRow (W + 1) 5 1 (.slice p2 X.length cap2) X.length (Lib.byteCells X) := own_keep (S := fun _ => False) ho (Keep.below hB) (fun _ _ x => x)
      have hne : ∀ i u, [Value.int .u8 32][i]? = some u → (wr.alloc (.cells #[.int .u8 32] 5)).cell? ((⟨wr.heap.size, 0, none⟩ : Addr).add i) = some u := fun i u hu => by
        have := (At.alloc wr [Value.int .u8 32] 5 i u hu).1
        rw [Addr.add_lit, Nat.zero_add]
        exact this
      clear hA ho
      go_upto_region 4 with fail
      refine wp_region_lit ?_
      refine wpList_val (.pointer (some ⟨W, 0, none⟩)) wr rfl rfl ?_
      simp only [Act.put, List.setIfInBounds_toArray, List.set_cons_zero, List.set_cons_succ]
      refine wpList_val (.pointer (some ⟨W, 0, none⟩)) wr rfl rfl ?_
      simp only [Act.put, List.setIfInBounds_toArray, List.set_cons_zero, List.set_cons_succ]
      refine wpList_val (.pointer (some ⟨W, 0, none⟩)) wr rfl (by go_simp) ?_
      simp only [Act.put, List.setIfInBounds_toArray, List.set_cons_zero, List.set_cons_succ]
      refine wpList_val (.pointer (some ⟨W, 0, none⟩)) wr rfl (by go_simp) ?_
      simp only [Act.put, List.setIfInBounds_toArray, List.set_cons_zero, List.set_cons_succ]
      refine wpList_val (.slice p2 X.length cap2) wr rfl (by go_simp) ?_
      simp only [Act.put, List.setIfInBounds_toArray, List.set_cons_zero, List.set_cons_succ]
      refine wpList_val (.slice (some ⟨wr.heap.size, 0, none⟩) 1 1) (wr.alloc (.cells #[.int .u8 32] 5)) rfl (by kernel_rfl) ?_
      simp only [Act.put, List.setIfInBounds_toArray, List.set_cons_zero, List.set_cons_succ]
      refine wpList_append_own _ rfl (.tmp 27) (.tmp 28) 101 rfl (W + 1) 5 i0 (.int .u8 0) 1 1 Tryz.underlying101 hi hz0 hz1 hz2 rfl (by omega) _ X.length _ rfl ho1 ⟨wr.heap.size, 0, none⟩ 1 1 _ rfl rfl hne (fun u hu => ?_) (by unfold maxLen; omega) (by omega) (by simp; omega) ?_
      · rw [List.mem_singleton] at hu
        subst hu
        rfl
      intro v3 w3 ho3 hg3 _
      obtain ⟨aw3, hf3, a4, o4⟩ := Wr.put hA1 ho1 hg3 ho3
      obtain ⟨p3, cap3, rfl⟩ := own_slice ho3
      have c3 : w3.cell? ⟨W, 0, none⟩ = some (.slice p2 X.length cap2) := aw3.cell 0 rfl
      have f3 : w3.frozen? ⟨W, 0, none⟩ = false := aw3.free 0 rfl
      have HF4 : Hid (Wf W wr (w3.setCell ⟨W, 0, none⟩ (.slice p3 (X.length + 1) cap3))) := HFa.out.trans hf3
      have HA4 : Hid (At (w3.setCell ⟨W, 0, none⟩ (.slice p3 (X.length + 1) cap3)) W [.slice p3 (X.length + 1) cap3]) := a4
      have HO4 : Hid ((w3.setCell ⟨W, 0, none⟩ (.slice p3 (X.length + 1) cap3)).ownsRow (W + 1) 5 1 (.slice p3 (X.length + 1) cap3) (X.length + 1) (Lib.byteCells (X ++ [32]))) := by
        show World.ownsRow _ _ _ _ _ _ _
        rw [Lib.byteCells_append]
        exact o4
      clear ho3 hg3 aw3 hf3 a4 o4 hA1 ho1 hne HFa hB HA0 c0
      simp only [Act.put, List.setIfInBounds_toArray, List.set_cons_zero, List.set_cons_succ]
      go_upto_region 5 with fail
      clear c3 f3 hb1
      generalize w3.setCell ⟨W, 0, none⟩ (.slice p3 (X.length + 1) cap3) = w4 at *
      have HF5 : Hid (Wf W wr w4.drew) := HF4.out.drew
      have HA5 : Hid (At w4.drew W [.slice p3 (X.length + 1) cap3]) := HA4.out.drew
      have HO5 : Hid (w4.drew.ownsRow (W + 1) 5 1 (.slice p3 (X.length + 1) cap3) (X.length + 1) (Lib.byteCells (X ++ [32]))) := HO4.out.drew
      have HCx : Hid (∀ wx, Wf W wr wx → wx.cell? ⟨c, d, none⟩ = some (.int .i64 nn)) := fun wx hx => (World.cell?_of_block (w := wr) (a := ⟨c, d, none⟩) (HSf.out.same hx)).trans HCn.out
      refine wp_region_held_drew (S := fun wx => wx.cell? ⟨c, d, none⟩ = some (.int .i64 nn)) (by kernel_rfl) (HCx.out _ HF5.out) (fun hHeld => ?_)
      clear HF4 HA4 HO4
      generalize w4.drew = U0 at *
      refine wpAnyH_take (i := 0) (v := (.pointer (some ⟨W, 0, none⟩))) rfl (by kernel_rfl) (by kernel_rfl) (by kernel_rfl) (fun _ _ _ h => h) (Or.inl ⟨by rfl, fun wx hSw => by kernel_rfl⟩) (by assumption) ?_
      simp only [Act.put, List.getElem_toArray, List.getElem_cons_zero, List.setIfInBounds_toArray, List.set_cons_zero, List.set_cons_succ]
      refine wpAnyH_take (i := 1) (v := (.pointer (some ⟨W, 0, none⟩))) rfl (by kernel_rfl) (by kernel_rfl) (by kernel_rfl) (fun _ _ _ h => h) (Or.inl ⟨by rfl, fun wx hSw => by kernel_rfl⟩) (by assumption) ?_
      simp only [Act.put, List.getElem_toArray, List.getElem_cons_succ, List.getElem_cons_zero, List.setIfInBounds_toArray, List.set_cons_zero, List.set_cons_succ]
      refine wpAnyH_take (i := 2) (v := (.pointer (some ⟨W, 0, none⟩))) rfl (by kernel_rfl) (by kernel_rfl) (by kernel_rfl) (fun _ _ _ h => h) (Or.inl ⟨by rfl, fun wx hSw => by ((try dsimp only at hSw); go_simp)⟩) (by assumption) ?_
      simp only [Act.put, List.getElem_toArray, List.getElem_cons_succ, List.getElem_cons_zero, List.setIfInBounds_toArray, List.set_cons_zero, List.set_cons_succ]
      refine wpAnyH_take (i := 3) (v := (.pointer (some ⟨W, 0, none⟩))) rfl (by kernel_rfl) (by kernel_rfl) (by kernel_rfl) (fun _ _ _ h => h) (Or.inl ⟨by rfl, fun wx hSw => by ((try dsimp only at hSw); go_simp)⟩) (by assumption) ?_
      simp only [Act.put, List.getElem_toArray, List.getElem_cons_succ, List.getElem_cons_zero, List.setIfInBounds_toArray, List.set_cons_zero, List.set_cons_succ]
      refine wpAnyH_take (i := 5) (v := (.pointer (some ⟨c, d, none⟩))) rfl (by kernel_rfl) (by kernel_rfl) (by kernel_rfl) (fun _ _ _ h => h) (Or.inl ⟨by rfl, fun wx hSw => by kernel_rfl⟩) (by assumption) ?_
      simp only [Act.put, List.getElem_toArray, List.getElem_cons_succ, List.getElem_cons_zero, List.setIfInBounds_toArray, List.set_cons_zero, List.set_cons_succ]
      refine wpAnyH_take (i := 6) (v := (.pointer (some ⟨c, d, none⟩))) rfl (by kernel_rfl) (by kernel_rfl) (by kernel_rfl) (fun _ _ _ h => h) (Or.inl ⟨by rfl, fun wx hSw => by ((try dsimp only at hSw); go_simp)⟩) (by assumption) ?_
      simp only [Act.put, List.getElem_toArray, List.getElem_cons_succ, List.getElem_cons_zero, List.setIfInBounds_toArray, List.set_cons_zero, List.set_cons_succ]
      refine wpAnyH_take (i := 7) (v := (.int .i64 nn)) rfl (by kernel_rfl) (by kernel_rfl) (by kernel_rfl) (fun _ _ _ h => h) (Or.inl ⟨by rfl, fun wx hSw => by (have hc := hSw; go_simp)⟩) (by assumption) ?_
      simp only [Act.put, List.getElem_toArray, List.getElem_cons_succ, List.getElem_cons_zero, List.setIfInBounds_toArray, List.set_cons_zero, List.set_cons_succ]
      refine wpAnyH_ready (rs := [4]) (by kernel_rfl) (by simp) ?_
      refine AllReadyH.cons rfl (fun K hK => ?_) AllReadyH.nil
      rw [if_pos (by rfl)]
      refine wp_valD (.slice p3 (X.length + 1) cap3) U0 (by (have hc := HA5.out.cell 0 rfl; go_simp)) ?_
      refine hK.out _ _ hHeld (fun hHeld => ?_)
      clear hK K
      try simp only [Act.put, List.getElem_toArray, List.getElem_cons_succ, List.getElem_cons_zero, List.setIfInBounds_toArray, List.set_cons_zero, List.set_cons_succ]
      refine wpAnyH_ready (rs := [8]) (by kernel_rfl) (by simp) ?_
      refine AllReadyH.cons rfl (fun K hK => ?_) AllReadyH.nil
      have hC := Tryz.strconv_AppendInt_10 (W + 1) (X.length + 1) nn HIn.out.1 HIn.out.2 (.slice p3 (X.length + 1) cap3) (Lib.byteCells (X ++ [32])) U0 HO5.out (At.lt HA5.out) (by omega) (HTab.out _ (HF.out.trans HF5.out))
      go_simp
      refine hC.mono ?_
      rintro e w5 ⟨v5, rfl, ho5, hb5, hk5⟩
      obtain ⟨aw5, hf5, a6, o6⟩ := Wr.put2 HA5.out hb5 hk5 ho5
      have hf5b : Wf W U0 w5 := ⟨hb5.mono (Nat.le_succ W), fun k o h1 _ h3 => hk5 k o h1 (fun e => by cases e) h3⟩
      have HW6 : Hid (Wr (w5.setCell ⟨W, 0, none⟩ v5) W (txt ++ word ++ lnum (ns.take (k + 1)))) := by
        refine ⟨_, a6, ?_⟩
        rw [HTk.out, Lib.byteCells_append, List.length_append, List.length_append]
        exact o6
      have HF6 : Hid (Wf W w (w5.setCell ⟨W, 0, none⟩ v5)) := HF.out.trans (HF5.out.trans hf5)
      have hS5 := HCx.out w5 (HF5.out.trans hf5b)
      have HS6 : Hid ((w5.setCell ⟨W, 0, none⟩ v5).cell? ⟨c, d, none⟩ = some (.int .i64 nn)) := HCx.out _ (HF5.out.trans hf5)
      obtain ⟨p5, cap5, rfl⟩ := own_slice ho5
      have c5 : w5.cell? ⟨W, 0, none⟩ = some (.slice p3 (X.length + 1) cap3) := aw5.cell 0 rfl
      have f5 : w5.frozen? ⟨W, 0, none⟩ = false := aw5.free 0 rfl
      clear hC ho5 hb5 hk5 aw5 hf5 a6 o6 hf5b HA5 HO5 HF5 hHeld
      go_wp2_with fail
      refine hK.out _ _ hS5 (fun hHeld => ?_)
      clear hK K hS5
      try simp only [Act.put, List.getElem_toArray, List.getElem_cons_succ, List.getElem_cons_zero, List.setIfInBounds_toArray, List.set_cons_zero, List.set_cons_succ]
      refine wpAnyH_take (i := 9) (v := (.pointer (some ⟨W, 0, none⟩))) rfl (by kernel_rfl) (by kernel_rfl) (by kernel_rfl) (fun _ _ _ h => h) (Or.inl ⟨by rfl, fun wx hSw => by ((try dsimp only at hSw); go_simp)⟩) (by assumption) ?_
      simp only [Act.put, List.getElem_toArray, List.getElem_cons_succ, List.getElem_cons_zero, List.setIfInBounds_toArray, List.set_cons_zero, List.set_cons_succ]
      refine wpAnyH_take (i := 10) (v := (.pointer (some ⟨W, 0, none⟩))) rfl (by kernel_rfl) (by kernel_rfl) (by kernel_rfl) (fun _ _ _ h => h) (Or.inl ⟨by rfl, fun wx hSw => by ((try dsimp only at hSw); go_simp)⟩) (by assumption) ?_
      simp only [Act.put, List.getElem_toArray, List.getElem_cons_succ, List.getElem_cons_zero, List.setIfInBounds_toArray, List.set_cons_zero, List.set_cons_succ]
      refine wpAnyH_ready (rs := [11]) (by kernel_rfl) (by simp) ?_
      refine AllReadyH.cons rfl (fun K hK => ?_) AllReadyH.nil
      rw [if_pos (by rfl)]
      refine wp_skipD (w5.setCell ⟨W, 0, none⟩ (.slice p5 (X.length + 1 + (Lib.itoa nn).length) cap5)) (by go_simp) ?_
      refine hK.out _ _ HS6.out (fun _ => ?_)
      clear hK K hHeld HS6 c5 f5
      refine wpAnyH_done (by kernel_rfl) ?_ _
      generalize w5.setCell ⟨W, 0, none⟩ (.slice p5 (X.length + 1 + (Lib.itoa nn).length) cap5) = w6 at *
      go_wp2
      exact ⟨⟨k + 1, hlt, rfl, HW6.out, HF6.out⟩, by simp [intOf]; omega⟩
    · obtain rfl : k = ns.length := by omega
      have zk : ¬ (ns.length : Int) < (ns.length : Int) := by omega
      have HEq : Hid (txt ++ lineB word ns = (txt ++ word ++ lnum (ns.take ns.length)) ++ [10]) := by show _ = _; rw [List.take_length]; simp [lineB]
      generalize hX : txt ++ word ++ lnum (ns.take ns.length) = X at *
      clear hX
      have c0 : wr.cell? ⟨W, 0, none⟩ = some (.slice p2 X.length cap2) := hA.cell 0 rfl
      have hB : Below wr.heap.size wr (wr.alloc (.cells #[.int .u8 10] 5)) := (Below.refl _ _).alloc (Nat.le_refl _) _
      have HFa : Hid (Wf W wr (wr.alloc (.cells #[.int .u8 10] 5))) := Wf.below hB (by omega)
      have hA1 : At (wr.alloc (.cells #[.int .u8 10] 5)) W [.slice p2 X.length cap2] := At.keep (S := fun _ => False) hA (Keep.below hB) (fun x => x)
      have ho1 : (wr.alloc (.cells #[.int .u8 10] 5)).ownsRow (W + 1) 5 1 (.slice p2 X.length cap2) X.length (Lib.byteCells X) := own_keep (S := fun _ => False) ho (Keep.below hB) (fun _ _ x => x)
      have hne : ∀ i u, [Value.int .u8 10][i]? = some u → (wr.alloc (.cells #[.int .u8 10] 5)).cell? ((⟨wr.heap.size, 0, none⟩ : Addr).add i) = some u := fun i u hu => by
        have := (At.alloc wr [Value.int .u8 10] 5 i u hu).1
        rw [Addr.add_lit, Nat.zero_add]
        exact this
      clear hA ho
      go_upto_region 7 with fail
      refine wp_region_lit ?_
      refine wpList_val (.pointer (some ⟨W, 0, none⟩)) wr rfl rfl ?_
      simp only [Act.put, List.setIfInBounds_toArray, List.set_cons_zero, List.set_cons_succ]
      refine wpList_val (.pointer (some ⟨W, 0, none⟩)) wr rfl rfl ?_
      simp only [Act.put, List.setIfInBounds_toArray, List.set_cons_zero, List.set_cons_succ]
      refine wpList_val (.pointer (some ⟨W, 0, none⟩)) wr rfl (by go_simp) ?_
      simp only [Act.put, List.setIfInBounds_toArray, List.set_cons_zero, List.set_cons_succ]
      refine wpList_val (.pointer (some ⟨W, 0, none⟩)) wr rfl (by go_simp) ?_
      simp only [Act.put, List.setIfInBounds_toArray, List.set_cons_zero, List.set_cons_succ]
      refine wpList_val (.slice p2 X.length cap2) wr rfl (by go_simp) ?_
      simp only [Act.put, List.setIfInBounds_toArray, List.set_cons_zero, List.set_cons_succ]
      refine wpList_val (.slice (some ⟨wr.heap.size, 0, none⟩) 1 1) (wr.alloc (.cells #[.int .u8 10] 5)) rfl (by kernel_rfl) ?_
      simp only [Act.put, List.setIfInBounds_toArray, List.set_cons_zero, List.set_cons_succ]
      refine wpList_append_own _ rfl (.tmp 48) (.tmp 49) 101 rfl (W + 1) 5 i0 (.int .u8 0) 1 1 Tryz.underlying101 hi hz0 hz1 hz2 rfl (by omega) _ X.length _ rfl ho1 ⟨wr.heap.size, 0, none⟩ 1 1 _ rfl rfl hne (fun u hu => ?_) (by unfold maxLen; omega) (by omega) (by simp; omega) ?_
      · rw [List.mem_singleton] at hu
        subst hu
        rfl
      intro v3 w3 ho3 hg3 _
      obtain ⟨aw3, hf3, a4, o4⟩ := Wr.put hA1 ho1 hg3 ho3
      obtain ⟨p3, cap3, rfl⟩ := own_slice ho3
      have c3 : w3.cell? ⟨W, 0, none⟩ = some (.slice p2 X.length cap2) := aw3.cell 0 rfl
      have f3 : w3.frozen? ⟨W, 0, none⟩ = false := aw3.free 0 rfl
      have HF4 : Hid (Wf W w (w3.setCell ⟨W, 0, none⟩ (.slice p3 (X.length + 1) cap3))) := HF.out.trans (HFa.out.trans hf3)
      have HW4 : Hid (Wr (w3.setCell ⟨W, 0, none⟩ (.slice p3 (X.length + 1) cap3)) W (txt ++ lineB word ns)) := by
        refine ⟨_, a4, ?_⟩
        rw [HEq.out, Lib.byteCells_append, List.length_append]
        exact o4
      clear ho3 hg3 aw3 hf3 a4 o4 hA1 ho1 hne HFa hB c0
      simp only [Act.put, List.setIfInBounds_toArray, List.set_cons_zero, List.set_cons_succ]
      go_wp2_with fail
      go_end0
      exact ⟨rfl, HW4.out, HF4.out⟩
end Go.Proofs.YtanndhoimpnhpaaGreatDoor
namespace Go.Proofs.YtanndhoimpnhpaaGreatDoor
open Go.ChangeShapes Go.WideShapes Go.ChangeAt Go.RowKit Lg Cal
theorem Wr.below {w w' : World} {W : Nat} {txt : List UInt8} (h : Wr w W txt) (hb : Below w.heap.size w w') : Wr w' W txt := by
  obtain ⟨v, h1, h2⟩ := h
  exact ⟨v, At.keep (S := fun _ => False) h1 (Keep.below hb) (fun x => x), own_keep (S := fun _ => False) h2 (Keep.below hb) (fun _ _ x => x)⟩
theorem evN_at (e : Ln.Ev) (j : Nat) (hj : j < (evN e).length) : (evl e)[j]? = some (.int .i64 (evN e)[j]) := by
  match j, hj with
  | 0, _ => rfl
  | 1, _ => rfl
  | 2, _ => rfl
  | 3, _ => rfl
theorem enN_at (e : En) (j : Nat) (hj : j < (enN e).length) : (enl e)[j]? = some (.int .i64 (enN e)[j]) := by
  match j, hj with
  | 0, _ => rfl
  | 1, _ => rfl
  | 2, _ => rfl
theorem Nm.made1 {w : World} {W b o : Nat} {n : Int} (hc : w.cell? ⟨b, o, none⟩ = some (.int .i64 n)) (hs : Sf w W b) (hb : b < w.heap.size) (hW : W < w.heap.size) :
    Nm (w.alloc (.cells #[.pointer (some ⟨b, o, none⟩)] 110)) W (.slice (some ⟨w.heap.size, 0, none⟩) 1 1) [n] ∧ Wf W w (w.alloc (.cells #[.pointer (some ⟨b, o, none⟩)] 110)) := by
  have hB : Below w.heap.size w (w.alloc (.cells #[.pointer (some ⟨b, o, none⟩)] 110)) := (Below.refl _ _).alloc (Nat.le_refl _) _
  have hf : Wf W w (w.alloc (.cells #[.pointer (some ⟨b, o, none⟩)] 110)) := Wf.below hB (Nat.le_of_lt hW)
  refine ⟨⟨_, _, rfl, Nat.le_refl _, fun k hk => ⟨w.heap.size, 0, b, o, rfl, ?_, ?_, ?_, hs.keep hf⟩⟩, hf⟩
  · obtain rfl : k = 0 := by simp at hk; exact hk
    exact (At.alloc w [.pointer (some ⟨b, o, none⟩)] 110 0 _ rfl).1
  · obtain rfl : k = 0 := by simp at hk; exact hk
    exact (World.cell?_of_block (w := w) (a := ⟨b, o, none⟩) (hB.block b hb)).trans hc
  · exact .inr ⟨by omega, .cells #[.pointer (some ⟨b, o, none⟩)] 110, Array.getElem?_push_size, fun c fz e => by injection e with _ e _; exact absurd e (by decide)⟩
set_option maxRecDepth 10000 in
set_option maxHeartbeats 8000000 in
theorem save_any (w : World) (B P Mb : Nat) (t : Ln.Terms) (E : List Ln.Ev) (g : Ln.St) (day : Int) (L : List En) (evv bkv : Value) (h : LoX w B P Mb t E g day L evv bkv) (hr : Rg t E g day L) (hL : L.length ≤ 100000000000) (htab : Lib.TabIs Tryz.prog w "internal/strconv.uint64pow10" .u64 Lib.pow10Tab) :
    Calls Tryz.prog 18 #[.pointer (some ⟨B, 0, none⟩)] w fun e w' => e = .returned (.string (bs (txtB t E g day L))) ∧ Below w.heap.size w w' := by
  obtain ⟨W, hW⟩ : ∃ W, W = w.heap.size := ⟨_, rfl⟩
  have HW : Hid (W = w.heap.size) := hW
  have hBl : B < w.heap.size := At.lt (v := .int .i64 t.st) h.ln
  have HB : Hid (B < W) := by show B < W; omega
  have HBe : Hid (∀ wx, Wf W w wx → Below w.heap.size w wx) := fun wx hx => by rw [← hW]; exact hx.1
  have HLn : Hid (∀ wx, Wf W w wx → At wx B (ll t evv g day (.pointer (some ⟨P, 0, none⟩)))) := fun wx hx => At.keep (S := fun _ => False) (v := .int .i64 t.st) h.ln (Keep.below (HBe.out wx hx)) (fun x => x)
  have HTab : Hid (∀ wx, Wf W w wx → Lib.TabBelow Tryz.prog W wx "internal/strconv.uint64pow10" .u64 Lib.pow10Tab) := fun wx hx => by
    have := Lib.tabBelow_of_tabIs htab
    rw [← hW] at this
    exact this.on hx.1
  have HBk : Hid (∀ wx, Wf W w wx → BkIs wx P bkv Mb L) := fun wx hx => h.bk.keep (S := fun _ => False) (Keep.below (HBe.out wx hx)) (fun _ _ x => x)
  obtain ⟨pa, ecap, rfl⟩ := own_slice h.ev
  have HEv : Hid (∀ wx, Wf W w wx → ∀ k (hk : k < E.length), ∃ b, pa = some ⟨b, 0, none⟩ ∧ wx.rangeAt b (k * 4) (evl E[k])) := fun wx hx k hk => by
    obtain ⟨T, hn | ⟨gr, capr, cur, he, hgr⟩⟩ := id h.ev
    · omega
    · injection he with e1 _ e3
      subst e1 e3
      have hgl := (own_base h.ev (b := gr) rfl).2
      have hr := (own_range h.ev rfl k E[k] (List.getElem?_eq_getElem hk)).1
      exact ⟨gr, rfl, fun j u hu => (World.cell?_of_block (w := w) (a := ⟨gr, k * 4 + j, none⟩) ((HBe.out wx hx).block gr hgl)).trans (hr j u hu)⟩
  have HRg : Hid (Rg t E g day L) := hr
  have hE40 := h.le
  clear h hr htab hBl
  have b1 : Below w.heap.size w (w.alloc (.cells #[.slice none 0 0] 103)) := (Below.refl _ _).alloc (Nat.le_refl _) _
  have f1 : Wf W w (w.alloc (.cells #[.slice none 0 0] 103)) := Wf.below b1 (by omega)
  have a1 : At (w.alloc (.cells #[.slice none 0 0] 103)) w.heap.size [.slice none 0 0] := At.alloc w [.slice none 0 0] _
  rw [← hW] at a1
  have w1 : Wr (w.alloc (.cells #[.slice none 0 0] 103)) W [] := ⟨_, a1, World.ownsRow_nil _ _ _ _⟩
  have hWl1 : W < (w.alloc (.cells #[.slice none 0 0] 103)).heap.size := At.lt a1
  go_enter Tryz.func18, Tryz.ntmps18
  go_upto_region 2 with fail
  rw [← hW]
  clear hW a1 b1
  generalize w.alloc (.cells #[.slice none 0 0] 103) = V1 at *
  have hcs : ∀ j (hj : j < (tmN t).length), V1.cell? ⟨B, 0 + j, none⟩ = some (.int .i64 (tmN t)[j]) := fun j hj => by
    rw [Nat.zero_add]
    match j, hj with
    | 0, _ => exact (HLn.out _ f1).cell 0 rfl
    | 1, _ => exact (HLn.out _ f1).cell 1 rfl
    | 2, _ => exact (HLn.out _ f1).cell 2 rfl
    | 3, _ => exact (HLn.out _ f1).cell 3 rfl
    | 4, _ => exact (HLn.out _ f1).cell 4 rfl
    | 5, _ => exact (HLn.out _ f1).cell 5 rfl
  obtain ⟨nm2, f2⟩ := Nm.made hcs (.inl HB.out) (Nat.lt_trans HB.out hWl1) hWl1
  have w2 := w1.below (w' := V1.drew.alloc (.cells (ptrs B 0 (tmN t).length).toArray 110)) ((Below.refl _ _).drew.alloc (Nat.le_refl _) _)
  have HF2 : Hid (Wf W w (V1.drew.alloc (.cells (ptrs B 0 (tmN t).length).toArray 110))) := f1.trans f2
  have hCn := termsNumbers_any V1 B 0
  have hWt := wline_any (V1.drew.alloc (.cells (ptrs B 0 (tmN t).length).toArray 110)) W [] wLoan _ (tmN t) w2 nm2 HRg.out.tm (by show 0 + 4 + 22 * 6 ≤ _; omega) (HTab.out _ HF2.out)
  clear hcs nm2 f2 w2 w1 f1 hWl1
  go_wp2_with fail
  refine hCn.mono ?_
  rintro e w6 ⟨rfl, rfl⟩
  clear hCn
  go_wp2_with fail
  refine hWt.mono ?_
  rintro e w3 ⟨rfl, hW3, hf3⟩
  have HW3 : Hid (Wr w3 W (lineB wLoan (tmN t))) := hW3
  have HF3 : Hid (Wf W w w3) := HF2.out.trans hf3
  have c6 : w3.cell? ⟨B, 6, none⟩ = some (.slice pa E.length ecap) := (HLn.out _ HF3.out).cell 6 rfl
  clear hWt hW3 hf3 HF2
  go_wp2
  go_loopw [5, 18] (fun _ s18 wr => ∃ k : Nat, k ≤ E.length ∧ s18 = .int .i64 k ∧ Wr wr W (lineB wLoan (tmN t) ++ evT (E.take k)) ∧ Wf W w wr) (fun _ s18 _ => E.length - (intOf s18).toNat)
  case atStart => exact ⟨0, Nat.zero_le _, rfl, by simpa [evT] using HW3.out, HF3.out⟩
  case round =>
    clear HW3 HF3 c6
    obtain ⟨k, hk, rfl, hWr, hf⟩ := hrel
    have HF : Hid (Wf W w wr) := hf
    have HWr : Hid (Wr wr W (lineB wLoan (tmN t) ++ evT (E.take k))) := hWr
    have hWl : W < wr.heap.size := by obtain ⟨v, h1, _⟩ := hWr; exact At.lt h1
    have hS : (lineB wLoan (tmN t) ++ evT (E.take k)).length ≤ 100000 := by
      have h1 := lineB_len wLoan (tmN t) HRg.out.tm
      have h2 := evT_len (E.take k) (fun e he => HRg.out.ev e (List.mem_of_mem_take he))
      rw [List.length_take] at h2
      have e1 : wLoan.length = 4 := rfl
      have e2 : (tmN t).length = 6 := rfl
      rw [List.length_append]
      omega
    clear hf hWr
    by_cases hlt : k < E.length
    · have zk : (k : Int) < (E.length : Int) := by omega
      obtain ⟨b, rfl, hrw⟩ := HEv.out wr HF.out k hlt
      have hie : ∀ n ∈ evN E[k], InR n := HRg.out.ev _ (List.getElem_mem hlt)
      have HTk : Hid (lineB wLoan (tmN t) ++ evT (E.take (k + 1)) = lineB wLoan (tmN t) ++ evT (E.take k) ++ lineB wEvent (evN E[k])) := by
        show _ = _
        rw [evT_take E k hlt, List.append_assoc]
      generalize E[k] = ev at *
      generalize lineB wLoan (tmN t) ++ evT (E.take k) = S at *
      go_upto_region 5 with fail
      refine wp_region_lit ?_
      refine wpList_val (.pointer (some ⟨b, k * 4, none⟩)) wr rfl (by go_simp) ?_
      simp only [Act.put, List.setIfInBounds_toArray, List.set_cons_zero, List.set_cons_succ]
      refine wpList_load_mid rfl 50 (.tmp 20) rfl b (k * 4) rfl (evl ev) _ hrw Tryz.underlying50 rfl (by kernel_rfl) ?_
      simp only [Act.put, List.setIfInBounds_toArray, List.set_cons_zero, List.set_cons_succ]
      clear hrw
      go_upto_region 6 with (first | (refine wpList_store_new rfl 50 (.tmp 5) (.tmp 21) rfl (evl ev).toArray _ rfl rfl (by kernel_rfl) rfl (by kernel_rfl) ?_) | fail)
      have hB5 : Below wr.heap.size wr (wr.alloc (.cells (evl ev).toArray 50)) := (Below.refl _ _).alloc (Nat.le_refl _) _
      have a5 : At (wr.alloc (.cells (evl ev).toArray 50)) wr.heap.size (evl ev) := At.alloc wr (evl ev) _
      have s5 : Sf (wr.alloc (.cells (evl ev).toArray 50)) W wr.heap.size := .inr ⟨by omega, .cells (evl ev).toArray 50, Array.getElem?_push_size, fun c fz e => by injection e with _ e _; exact absurd e (by decide)⟩
      have f5 : Wf W w (wr.alloc (.cells (evl ev).toArray 50)) := HF.out.trans (Wf.below hB5 (by omega))
      have w5 : Wr (wr.alloc (.cells (evl ev).toArray 50)) W S := HWr.out.below hB5
      have hWl5 : W < (wr.alloc (.cells (evl ev).toArray 50)).heap.size := Nat.lt_of_lt_of_le hWl hB5.size
      have hNl5 : wr.heap.size < (wr.alloc (.cells (evl ev).toArray 50)).heap.size := At.lt (v := .int .i64 ev.d) a5
      clear hB5 HF HWr
      generalize wr.alloc (.cells (evl ev).toArray 50) = V5 at *
      generalize wr.heap.size = N5 at *
      have hcs : ∀ j (hj : j < (evN ev).length), V5.cell? ⟨N5, 0 + j, none⟩ = some (.int .i64 (evN ev)[j]) := fun j hj => by
        rw [Nat.zero_add]
        exact a5.cell j (evN_at ev j hj)
      obtain ⟨nm6, f6⟩ := Nm.made hcs s5 hNl5 hWl5
      have w6 : Wr (V5.drew.alloc (.cells (ptrs N5 0 (evN ev).length).toArray 110)) W S := w5.below ((Below.refl _ _).drew.alloc (Nat.le_refl _) _)
      have f7 := f5.trans f6
      have hCn := eventNumbers_any V5 N5 0
      have hWt := wline_any (V5.drew.alloc (.cells (ptrs N5 0 (evN ev).length).toArray 110)) W S wEvent _ (evN ev) w6 nm6 hie (by show S.length + 5 + 22 * 4 ≤ _; omega) (HTab.out _ f7)
      have HF7 : Hid (Wf W w (V5.drew.alloc (.cells (ptrs N5 0 (evN ev).length).toArray 110))) := f7
      clear a5 s5 f5 w5 hcs nm6 f6 w6 f7 hWl5 hNl5 hie hWl
      go_wp2_with fail
      refine hCn.mono ?_
      rintro e w6 ⟨rfl, rfl⟩
      clear hCn
      go_wp2_with fail
      refine hWt.mono ?_
      rintro e w7 ⟨rfl, hW7, hf7⟩
      have HW7 : Hid (Wr w7 W (S ++ lineB wEvent (evN ev))) := hW7
      have HF8 : Hid (Wf W w w7) := HF7.out.trans hf7
      clear hWt hW7 hf7 HF7
      go_wp2
      exact ⟨⟨k + 1, hlt, rfl, by rw [HTk.out]; exact HW7.out, HF8.out⟩, by simp [intOf]; omega⟩
    · obtain rfl : k = E.length := by omega
      have zk : ¬ (E.length : Int) < (E.length : Int) := by omega
      rw [List.take_length] at HWr hS
      obtain ⟨A, hA⟩ : ∃ A, A = lineB wLoan (tmN t) ++ evT E := ⟨_, rfl⟩
      have HA : Hid (A ++ lineB wAt [day] ++ lineB wNow (nwN g) ++ enT L ++ lineB wEnd [] = txtB t E g day L) := by show _ = _; rw [hA]; rfl
      rw [← hA] at HWr hS
      clear hA
      have c14 : wr.cell? ⟨B, 14, none⟩ = some (.int .i64 day) := (HLn.out _ HF.out).cell 14 rfl
      obtain ⟨nm8, f8⟩ := Nm.made1 c14 (.inl HB.out) (Nat.lt_trans HB.out hWl) hWl
      have w8 := HWr.out.below (w' := wr.alloc (.cells #[.pointer (some ⟨B, 14, none⟩)] 110)) ((Below.refl _ _).alloc (Nat.le_refl _) _)
      have HRd : Hid (∀ n ∈ [day], InR n) := fun n hn => by rw [List.mem_singleton] at hn; subst hn; exact HRg.out.dy
      have HF8 : Hid (Wf W w (wr.alloc (.cells #[.pointer (some ⟨B, 14, none⟩)] 110))) := HF.out.trans f8
      have hWt := wline_any (wr.alloc (.cells #[.pointer (some ⟨B, 14, none⟩)] 110)) W A wAt _ [day] w8 nm8 HRd.out (by show A.length + 2 + 22 * 1 ≤ _; omega) (HTab.out _ HF8.out)
      clear c14 nm8 f8 w8 HF HWr hWl
      go_wp2_with fail
      refine hWt.mono ?_
      rintro e w9 ⟨rfl, hW9, hf9⟩
      have HF9 : Hid (Wf W w w9) := HF8.out.trans hf9
      have hS9 : (A ++ lineB wAt [day]).length ≤ 200000 := by
        have h1 := lineB_len wAt [day] HRd.out
        have e1 : wAt.length = 2 := rfl
        have e2 : [day].length = 1 := rfl
        rw [List.length_append]
        omega
      have hWl9 : W < w9.heap.size := by obtain ⟨v, h1, _⟩ := id hW9; exact At.lt h1
      have hcs : ∀ j (hj : j < (nwN g).length), w9.cell? ⟨B, 7 + j, none⟩ = some (.int .i64 (nwN g)[j]) := fun j hj => by
        match j, hj with
        | 0, _ => exact (HLn.out _ HF9.out).cell 7 rfl
        | 1, _ => exact (HLn.out _ HF9.out).cell 8 rfl
        | 2, _ => exact (HLn.out _ HF9.out).cell 9 rfl
        | 3, _ => exact (HLn.out _ HF9.out).cell 10 rfl
        | 4, _ => exact (HLn.out _ HF9.out).cell 11 rfl
        | 5, _ => exact (HLn.out _ HF9.out).cell 12 rfl
        | 6, _ => exact (HLn.out _ HF9.out).cell 13 rfl
      obtain ⟨nm2, f2⟩ := Nm.made hcs (.inl HB.out) (Nat.lt_trans HB.out hWl9) hWl9
      have w2 := hW9.below (w' := w9.drew.alloc (.cells (ptrs B 7 (nwN g).length).toArray 110)) ((Below.refl _ _).drew.alloc (Nat.le_refl _) _)
      have HF2 : Hid (Wf W w (w9.drew.alloc (.cells (ptrs B 7 (nwN g).length).toArray 110))) := HF9.out.trans f2
      have hCn := owedNumbers_any w9 B 7
      have hS10 : (A ++ lineB wAt [day] ++ lineB wNow (nwN g)).length ≤ 300000 := by
        have h1 := lineB_len wNow (nwN g) HRg.out.nw
        have e1 : wNow.length = 3 := rfl
        have e2 : (nwN g).length = 7 := rfl
        rw [List.length_append]
        omega
      have hWt2 := wline_any (w9.drew.alloc (.cells (ptrs B 7 (nwN g).length).toArray 110)) W (A ++ lineB wAt [day]) wNow _ (nwN g) w2 nm2 HRg.out.nw (by show _ + 3 + 22 * 7 ≤ _; omega) (HTab.out _ HF2.out)
      clear hcs nm2 f2 w2 hWt hW9 hf9 HF8 hWl9 hS9 hS
      go_wp2_with fail
      refine hCn.mono ?_
      rintro e w6 ⟨rfl, rfl⟩
      clear hCn
      go_wp2_with fail
      refine hWt2.mono ?_
      rintro e w10 ⟨rfl, hW10, hf10⟩
      have HF10 : Hid (Wf W w w10) := HF2.out.trans hf10
      have HW10 : Hid (Wr w10 W (A ++ lineB wAt [day] ++ lineB wNow (nwN g))) := hW10
      have hWl10 : W < w10.heap.size := by obtain ⟨v, h1, _⟩ := hW10; exact At.lt h1
      clear hWt2 hW10 hf10 HF2 HF9
      generalize A ++ lineB wAt [day] ++ lineB wNow (nwN g) = A2 at *
      have c15 : w10.cell? ⟨B, 15, none⟩ = some (.pointer (some ⟨P, 0, none⟩)) := (HLn.out _ HF10.out).cell 15 rfl
      have hFr := from_any w10 P bkv Mb L (HBk.out _ HF10.out) (by omega) 0
      rw [show kf 0 L.length = 0 by simp [kf], List.drop_zero, Nat.sub_zero] at hFr
      go_wp2_with fail
      refine hFr.mono ?_
      rintro e w11 ⟨v, rfl, ho, hb11⟩
      obtain ⟨pb, bcap, rfl⟩ := own_slice ho
      have HF11 : Hid (Wf W w w11) := HF10.out.trans (Wf.below hb11 (by omega))
      have HW11 : Hid (Wr w11 W A2) := HW10.out.below hb11
      have HTabE : Hid (∀ wx, Wf W w11 wx → Lib.TabBelow Tryz.prog W wx "internal/strconv.uint64pow10" .u64 Lib.pow10Tab) := fun wx hx => HTab.out wx (HF11.out.trans hx)
      have HEn : Hid (∀ wx, Wf W w11 wx → ∀ k (hk : k < L.length), ∃ b o, pb = some ⟨b, o, none⟩ ∧ wx.rangeAt b (o + k * 3) (enl L[k])) := fun wx hx k hk => by
        obtain ⟨p2, cap2, e, _, hcell⟩ := own_en ho
        injection e with e1 _ _
        subst e1
        obtain ⟨b, o, rfl, hbl, hrg⟩ := hcell k hk
        obtain ⟨cur, hcur⟩ := own_row ho (k := b) rfl
        have hbg := (own_base ho (b := b) rfl).1
        have hsf : Sf w11 W b := .inr ⟨by omega, _, hcur, fun c fz e => by injection e with _ e _; exact absurd e (by decide)⟩
        exact ⟨b, o, rfl, fun j u hu => (World.cell?_of_block (w := w11) (a := ⟨b, o + k * 3 + j, none⟩) (hsf.same hx)).trans (hrg j u hu)⟩
      clear hFr c15 ho hb11 HF10 HW10 hWl10 HEv HBk HLn
      go_wp2
      go_loopw [7, 42] (fun _ s42 wr => ∃ k : Nat, k ≤ L.length ∧ s42 = .int .i64 k ∧ Wr wr W (A2 ++ enT (L.take k)) ∧ Wf W w11 wr) (fun _ s42 _ => L.length - (intOf s42).toNat)
      case atStart => exact ⟨0, Nat.zero_le _, rfl, by simpa [enT] using HW11.out, Wf.refl _ _⟩
      case round =>
        clear HW11
        obtain ⟨k, hk, rfl, hWr, hf⟩ := hrel
        have HF : Hid (Wf W w11 wr) := hf
        have HWr : Hid (Wr wr W (A2 ++ enT (L.take k))) := hWr
        have hWl : W < wr.heap.size := by obtain ⟨v, h1, _⟩ := hWr; exact At.lt h1
        have hS : (A2 ++ enT (L.take k)).length ≤ 20000000000000 := by
          have h2 := enT_len (L.take k) (fun e he => HRg.out.en e (List.mem_of_mem_take he))
          rw [List.length_take] at h2
          rw [List.length_append]
          omega
        clear hf hWr
        by_cases hlt : k < L.length
        · have zk : (k : Int) < (L.length : Int) := by omega
          obtain ⟨b, o, rfl, hrw⟩ := HEn.out wr HF.out k hlt
          have hie : ∀ n ∈ enN L[k], InR n := HRg.out.en _ (List.getElem_mem hlt)
          have HTk : Hid (A2 ++ enT (L.take (k + 1)) = A2 ++ enT (L.take k) ++ lineB wEntry (enN L[k])) := by
            show _ = _
            rw [enT_take L k hlt, List.append_assoc]
          generalize L[k] = en at *
          generalize A2 ++ enT (L.take k) = S at *
          go_upto_region 12 with fail
          refine wp_region_lit ?_
          refine wpList_val (.pointer (some ⟨b, o + k * 3, none⟩)) wr rfl (by go_simp) ?_
          simp only [Act.put, List.setIfInBounds_toArray, List.set_cons_zero, List.set_cons_succ]
          refine wpList_load_mid rfl 114 (.tmp 44) rfl b (o + k * 3) rfl (enl en) _ hrw Tryz.underlying114 rfl (by kernel_rfl) ?_
          simp only [Act.put, List.setIfInBounds_toArray, List.set_cons_zero, List.set_cons_succ]
          clear hrw
          go_upto_region 13 with (first | (refine wpList_store_new rfl 114 (.tmp 7) (.tmp 45) rfl (enl en).toArray _ rfl rfl (by kernel_rfl) rfl (by kernel_rfl) ?_) | fail)
          have hB5 : Below wr.heap.size wr (wr.alloc (.cells (enl en).toArray 114)) := (Below.refl _ _).alloc (Nat.le_refl _) _
          have a5 : At (wr.alloc (.cells (enl en).toArray 114)) wr.heap.size (enl en) := At.alloc wr (enl en) _
          have s5 : Sf (wr.alloc (.cells (enl en).toArray 114)) W wr.heap.size := .inr ⟨by omega, .cells (enl en).toArray 114, Array.getElem?_push_size, fun c fz e => by injection e with _ e _; exact absurd e (by decide)⟩
          have f5 : Wf W w11 (wr.alloc (.cells (enl en).toArray 114)) := HF.out.trans (Wf.below hB5 (by omega))
          have w5 : Wr (wr.alloc (.cells (enl en).toArray 114)) W S := HWr.out.below hB5
          have hWl5 : W < (wr.alloc (.cells (enl en).toArray 114)).heap.size := Nat.lt_of_lt_of_le hWl hB5.size
          have hNl5 : wr.heap.size < (wr.alloc (.cells (enl en).toArray 114)).heap.size := At.lt (v := .int .i64 en.d) a5
          clear hB5 HF HWr
          generalize wr.alloc (.cells (enl en).toArray 114) = V5 at *
          generalize wr.heap.size = N5 at *
          have hcs : ∀ j (hj : j < (enN en).length), V5.cell? ⟨N5, 0 + j, none⟩ = some (.int .i64 (enN en)[j]) := fun j hj => by
            rw [Nat.zero_add]
            exact a5.cell j (enN_at en j hj)
          obtain ⟨nm6, f6⟩ := Nm.made hcs s5 hNl5 hWl5
          have w6 : Wr (V5.drew.alloc (.cells (ptrs N5 0 (enN en).length).toArray 110)) W S := w5.below ((Below.refl _ _).drew.alloc (Nat.le_refl _) _)
          have f7 := f5.trans f6
          have hCn := entryNumbers_any V5 N5 0
          have hWt := wline_any (V5.drew.alloc (.cells (ptrs N5 0 (enN en).length).toArray 110)) W S wEntry _ (enN en) w6 nm6 hie (by show S.length + 5 + 22 * 3 ≤ _; omega) (HTabE.out _ f7)
          have HF7 : Hid (Wf W w11 (V5.drew.alloc (.cells (ptrs N5 0 (enN en).length).toArray 110))) := f7
          clear a5 s5 f5 w5 hcs nm6 f6 w6 f7 hWl5 hNl5 hie hWl
          go_wp2_with fail
          refine hCn.mono ?_
          rintro e w6 ⟨rfl, rfl⟩
          clear hCn
          go_wp2_with fail
          refine hWt.mono ?_
          rintro e w7 ⟨rfl, hW7, hf7⟩
          have HW7 : Hid (Wr w7 W (S ++ lineB wEntry (enN en))) := hW7
          have HF8 : Hid (Wf W w11 w7) := HF7.out.trans hf7
          clear hWt hW7 hf7 HF7
          go_wp2
          exact ⟨⟨k + 1, hlt, rfl, by rw [HTk.out]; exact HW7.out, HF8.out⟩, by simp [intOf]; omega⟩
        · obtain rfl : k = L.length := by omega
          have zk : ¬ (L.length : Int) < (L.length : Int) := by omega
          rw [List.take_length] at HWr hS
          have hWt := wline_any wr W (A2 ++ enT L) wEnd (.slice none 0 0) [] HWr.out ⟨none, 0, rfl, Nat.le_refl _, fun k hk => absurd hk (Nat.not_lt_zero k)⟩ (fun n hn => absurd hn List.not_mem_nil) (by show _ + 3 + 22 * 0 ≤ _; omega) (HTabE.out _ HF.out)
          rw [HA.out] at hWt
          go_wp2_with fail
          refine hWt.mono ?_
          rintro e w12 ⟨rfl, hW12, hf12⟩
          have hTx := text_any w12 W _ hW12 (by rw [← HA.out, List.length_append]; show 0 < _ + 4; omega)
          have HE : Hid (Below w.heap.size w w12) := HBe.out _ (HF11.out.trans (HF.out.trans hf12))
          clear hWt hW12 hf12 HF HWr HEn HF11
          go_wp2_with fail
          refine hTx.mono ?_
          rintro e w13 ⟨rfl, rfl⟩
          clear hTx
          go_wp2
          go_ret
          exact ⟨rfl, HE.out⟩
end Go.Proofs.YtanndhoimpnhpaaGreatDoor
namespace Go.Proofs.YtanndhoimpnhpaaGreatDoor
open Go.ChangeShapes Go.WideShapes Go.ChangeAt Go.RowKit Go.WideMaps Go.Maps Lg Cal
set_option maxRecDepth 10000 in
theorem prun_bad (w : World) (B : Nat) (t : Ln.Terms) (evv : Value) (g : Ln.St) (day0 : Int) (bk : Value) (hA : At w B (ll t evv g day0 bk)) (ht : Ln.OkT t) (day : Int) (hd : day < day0 ∨ t.st + 3700 < day) :
    Calls Tryz.prog 17 #[.pointer (some ⟨B, 0, none⟩), .int .i64 day] w fun e w' => e = .returned (.int .i64 5) ∧ Below w.heap.size w w' := by
  have hsp := fun W => span_any t W ht.st0 ht.st1
  have q0 : w.cell? ⟨B, 0, none⟩ = some (.int .i64 t.st) := hA.cell 0 rfl
  have q1 : w.cell? ⟨B, 1, none⟩ = some (.int .i64 t.pr) := hA.cell 1 rfl
  have q2 : w.cell? ⟨B, 2, none⟩ = some (.int .i64 t.rt) := hA.cell 2 rfl
  have q3 : w.cell? ⟨B, 3, none⟩ = some (.int .i64 t.fi) := hA.cell 3 rfl
  have q4 : w.cell? ⟨B, 4, none⟩ = some (.int .i64 t.ba) := hA.cell 4 rfl
  have q5 : w.cell? ⟨B, 5, none⟩ = some (.int .i64 t.du) := hA.cell 5 rfl
  have q14 : w.cell? ⟨B, 14, none⟩ = some (.int .i64 day0) := hA.cell 14 rfl
  clear hA
  by_cases h1 : day < day0
  · go_enter Tryz.func17, Tryz.ntmps17
    go_wp2
    go_ret
    exact ⟨rfl, Below.refl _ _⟩
  · have hal := fun W => allow_no t.st (t.st + 3700) day W (by omega)
    go_enter Tryz.func17, Tryz.ntmps17
    go_wp2_with fail
    refine (hsp _).mono ?_
    rintro e w1 ⟨rfl, b1⟩
    go_wp2_with fail
    refine (hal _).mono ?_
    rintro e w2 ⟨rfl, b2⟩
    have hb : Below w.heap.size w w2 := b1.trans (b2.mono b1.size)
    clear q0 q1 q2 q3 q4 q5 q14 hsp hal b1 b2
    go_wp2
    go_ret
    exact ⟨rfl, hb⟩
set_option maxRecDepth 10000 in
theorem refrun_bad (w : World) (B : Nat) (t : Ln.Terms) (evv : Value) (g : Ln.St) (day0 : Int) (bk : Value) (hA : At w B (dl t evv g day0 bk)) (ht : Ln.OkT t) (day : Int) (hd : day < day0 ∨ t.st + 3700 < day) :
    Calls Tryz.prog 60 #[.pointer (some ⟨B, 0, none⟩), .int .i64 day] w fun e w' => e = .returned (.int .i64 5) ∧ Below w.heap.size w w' := by
  have q0 : w.cell? ⟨B, 0, none⟩ = some (.int .i64 t.st) := hA.cell 0 rfl
  have q14 : w.cell? ⟨B, 14, none⟩ = some (.int .i64 day0) := hA.cell 14 rfl
  have s0 := ht.st0
  have s1 := ht.st1
  have z2 : IntKind.i64.wrap (t.st + 3700) = t.st + 3700 := by rw [IntKind.wrap_i64]; omega
  clear hA
  by_cases h1 : day < day0
  · go_enter Tryz.func60, Tryz.ntmps60
    go_wp2
    go_ret
    exact ⟨rfl, Below.refl _ _⟩
  · have h2 : t.st + 3700 < day := by omega
    go_enter Tryz.func60, Tryz.ntmps60
    go_wp2
    go_ret
    exact ⟨rfl, Below.refl _ _⟩
theorem hasS_perm {q : Int} {E l : List Ln.Ev} (h : E.Perm l) : hasS q E = hasS q l := by
  unfold hasS
  rw [Bool.eq_iff_iff, List.any_eq_true, List.any_eq_true]
  constructor
  · rintro ⟨x, hx, hq⟩
    exact ⟨x, h.mem_iff.1 hx, hq⟩
  · rintro ⟨x, hx, hq⟩
    exact ⟨x, h.mem_iff.2 hx, hq⟩
theorem addC_perm {t : Ln.Terms} {E l : List Ln.Ev} (h : E.Perm l) (e : Ln.Ev) : addC t E e = addC t l e := by
  rw [addC_eq, addC_eq, h.length_eq, hasS_perm h]
theorem wo_perm {q : Int} {E l : List Ln.Ev} (h : E.Perm l) : (wo q E).Perm (wo q l) := h.filter _
theorem erase_wo {q : Int} {E : List Ln.Ev} (hd : E.Pairwise (fun a b => ¬ a.s = b.s)) (i : Nat) (hi : i < E.length) (hs : E[i].s = q) : E.eraseIdx i = wo q E := by
  have e1 : E = E.take i ++ E[i] :: E.drop (i + 1) := by rw [← List.drop_eq_getElem_cons hi, List.take_append_drop]
  have hp := hd
  rw [e1] at hp
  obtain ⟨_, h2, h3⟩ := List.pairwise_append.1 hp
  obtain ⟨h4, _⟩ := List.pairwise_cons.1 h2
  rw [List.eraseIdx_eq_take_drop_succ]
  have w1 : wo q (E.take i) = E.take i := List.filter_eq_self.2 (fun x hx => by
    have := h3 x hx E[i] List.mem_cons_self
    simp
    omega)
  have w2 : wo q (E.drop (i + 1)) = E.drop (i + 1) := List.filter_eq_self.2 (fun x hx => by
    have := h4 x hx
    simp
    omega)
  have w3 : wo q E = wo q (E.take i) ++ (wo q [E[i]] ++ wo q (E.drop (i + 1))) := by
    unfold wo
    rw [← List.filter_append, ← List.filter_append]
    congr 1
  have w4 : wo q [E[i]] = [] := by
    unfold wo
    simp [hs]
  rw [w3, w4, w1, w2, List.nil_append]
theorem ah_distinct {E l : List Ln.Ev} (h : E.Perm l) (hd : l.Pairwise (fun a b => ¬ a.s = b.s)) : E.Pairwise (fun a b => ¬ a.s = b.s) :=
  (h.symm.pairwise_iff (fun x => fun y => x y.symm)).1 hd
structure TwX (w : World) (B D : Nat) (t : Ln.Terms) (E l : List Ln.Ev) (g : Ln.St) (day : Int) (L : List En) (F1 F2 : Nat → Prop) : Prop where
  pr : Lo w B t E g day L F1
  dc : Dc w D t l g day L F2
  pm : E.Perm l
  ap : ∀ b, F1 b → ¬ F2 b
  l1 : ∀ b, F1 b → b < w.heap.size
  l2 : ∀ b, F2 b → b < w.heap.size
  sv : Sav t E g day L
theorem TwX.pstep {w w' : World} {B D : Nat} {t : Ln.Terms} {E E' l : List Ln.Ev} {g g' : Ln.St} {day day' : Int} {L L' : List En} {F1 F2 : Nat → Prop} (h : TwX w B D t E l g day L F1 F2) (hk : Keep F1 w w') (hlo : Lo w' B t E' g' day' L' (Wd F1 w w')) :
    Lo w' B t E' g' day' L' (Wd F1 w w') ∧ Dc w' D t l g day L F2 ∧ (∀ b, Wd F1 w w' b → ¬ F2 b) ∧ (∀ b, Wd F1 w w' b → b < w'.heap.size) ∧ (∀ b, F2 b → b < w'.heap.size) := by
  refine ⟨hlo, h.dc.keep hk (fun b hb hx => h.ap b hx hb), ?_, ?_, fun b hb => Nat.lt_of_lt_of_le (h.l2 b hb) hk.size⟩
  · rintro b (x | x) hb
    · exact h.ap b x hb
    · have := h.l2 b hb
      omega
  · rintro b (x | x)
    · exact Nat.lt_of_lt_of_le (h.l1 b x) hk.size
    · exact x.2
theorem dstep {w w' : World} {B D : Nat} {t : Ln.Terms} {E l' : List Ln.Ev} {g' : Ln.St} {day' : Int} {L' : List En} {F1 F2 : Nat → Prop} (hlo : Lo w B t E g' day' L' F1) (hap : ∀ b, F1 b → ¬ F2 b) (h1 : ∀ b, F1 b → b < w.heap.size) (h2 : ∀ b, F2 b → b < w.heap.size) (hk : Keep F2 w w') (hdc : Dc w' D t l' g' day' L' (Wd F2 w w')) (hpm : E.Perm l') (hsv : Sav t E g' day' L') :
    TwX w' B D t E l' g' day' L' F1 (Wd F2 w w') := by
  refine ⟨hlo.keep hk (fun b _ hb => hap b hb), hdc, hpm, ?_, fun b hb => Nat.lt_of_lt_of_le (h1 b hb) hk.size, ?_, hsv⟩
  · rintro b hb (x | x)
    · exact hap b hb x
    · have := h1 b hb
      omega
  · rintro b (x | x)
    · exact Nat.lt_of_lt_of_le (h2 b x) hk.size
    · exact x.2
theorem TwX.below {w w' : World} {B D : Nat} {t : Ln.Terms} {E l : List Ln.Ev} {g : Ln.St} {day : Int} {L : List En} {F1 F2 : Nat → Prop} (h : TwX w B D t E l g day L F1 F2) (hb : Below w.heap.size w w') : TwX w' B D t E l g day L F1 F2 :=
  ⟨h.pr.below hb, h.dc.keep (S := fun _ => False) (Keep.below hb) (fun _ _ x => x), h.pm, h.ap, fun b x => Nat.lt_of_lt_of_le (h.l1 b x) hb.size, fun b x => Nat.lt_of_lt_of_le (h.l2 b x) hb.size, h.sv⟩
theorem TwX.keep {S : Nat → Prop} {w w' : World} {B D : Nat} {t : Ln.Terms} {E l : List Ln.Ev} {g : Ln.St} {day : Int} {L : List En} {F1 F2 : Nat → Prop} (h : TwX w B D t E l g day L F1 F2) (hk : Keep S w w') (h1 : ∀ b, F1 b → ¬ S b) (h2 : ∀ b, F2 b → ¬ S b) : TwX w' B D t E l g day L F1 F2 :=
  ⟨h.pr.keep hk (fun b _ hb => h1 b hb), h.dc.keep hk h2, h.pm, h.ap, fun b x => Nat.lt_of_lt_of_le (h.l1 b x) hk.size, fun b x => Nat.lt_of_lt_of_le (h.l2 b x) hk.size, h.sv⟩
end Go.Proofs.YtanndhoimpnhpaaGreatDoor
namespace Go.Proofs.YtanndhoimpnhpaaGreatDoor
open Go.ChangeShapes Go.WideShapes Go.ChangeAt Go.RowKit Go.WideMaps Go.Maps Lg Cal
theorem num_any (n : Int) (w : World) : Calls Tryz.prog 32 #[.int .i64 n] w fun e w' => e = .returned (.int .i64 n) ∧ w' = w := by
  go_enter Tryz.func32, Tryz.ntmps32
  go_wp2
  go_ret
  exact ⟨rfl, rfl⟩
def OpPost (w : World) (t : Ln.Terms) (e : Ending) (w' : World) : Prop :=
  Below w.heap.size w w' ∧ ((rtB t = false ∧ e = .returned (.tuple #[.agg #[.pointer none, .pointer none], .bool true])) ∨
    (rtB t = true ∧ ∃ B D F1 F2, e = .returned (.tuple #[.agg #[.pointer (some ⟨B, 0, none⟩), .pointer (some ⟨D, 0, none⟩)], .bool true]) ∧ TwX w' B D t [] [] (Ln.start t) t.st [] F1 F2 ∧ (∀ b, F1 b → w.heap.size ≤ b) ∧ (∀ b, F2 b → w.heap.size ≤ b)))
set_option maxRecDepth 10000 in
set_option maxHeartbeats 2000000 in
theorem opened_any (t : Ln.Terms) (w : World) : Calls Tryz.prog 24 #[tmV t] w (OpPost w t) := by
  have hb1 : Below w.heap.size w (w.alloc (.cells (tml t).toArray 23)) := (Below.refl _ _).alloc (Nat.le_refl _) _
  have hs1 : (w.alloc (.cells (tml t).toArray 23)).heap.size = w.heap.size + 1 := Array.size_push _
  have a0 : At ((w.alloc (.cells (tml t).toArray 23)).alloc (.cells #[.pointer none, .pointer none] 31)) w.heap.size (tml t) := At.keep (S := fun _ => False) (v := .int .i64 t.st) (At.alloc w (tml t) _) (Keep.below ((Below.refl _ _).alloc (Nat.le_refl _) _)) (fun x => x)
  have a1 : At ((w.alloc (.cells (tml t).toArray 23)).alloc (.cells #[.pointer none, .pointer none] 31)) (w.heap.size + 1) [.pointer none, .pointer none] := by
    have h := At.alloc (w.alloc (.cells (tml t).toArray 23)) [.pointer none, .pointer none] 31
    rw [hs1] at h
    exact h
  have b0 : Below w.heap.size w ((w.alloc (.cells (tml t).toArray 23)).alloc (.cells #[.pointer none, .pointer none] 31)) := hb1.alloc hb1.size _
  have s0 : ((w.alloc (.cells (tml t).toArray 23)).alloc (.cells #[.pointer none, .pointer none] 31)).heap.size = w.heap.size + 2 := (Array.size_push _).trans (by rw [hs1])
  have A0 : Hid (At ((w.alloc (.cells (tml t).toArray 23)).alloc (.cells #[.pointer none, .pointer none] 31)) w.heap.size (tml t)) := a0
  have A1 : Hid (At ((w.alloc (.cells (tml t).toArray 23)).alloc (.cells #[.pointer none, .pointer none] 31)) (w.heap.size + 1) [.pointer none, .pointer none]) := a1
  have B0 : Hid (Below w.heap.size w ((w.alloc (.cells (tml t).toArray 23)).alloc (.cells #[.pointer none, .pointer none] 31))) := b0
  have S0 : Hid (((w.alloc (.cells (tml t).toArray 23)).alloc (.cells #[.pointer none, .pointer none] 31)).heap.size = w.heap.size + 2) := s0
  clear hb1 hs1 a0 a1 b0 s0
  unfold tmV
  go_enter Tryz.func24, Tryz.ntmps24
  go_upto_region 1 with fail
  have hN1 : (w.alloc (.cells (tml t).toArray 23)).heap.size = w.heap.size + 1 := Array.size_push _
  change Code.wp _ _ _ _ ((w.alloc (.cells (tml t).toArray 23)).alloc (.cells #[.pointer none, .pointer none] 31))
  generalize (w.alloc (.cells (tml t).toArray 23)).alloc (.cells #[.pointer none, .pointer none] 31) = V0 at *
  refine wp_region_lit ?_
  refine wpList_load_mid rfl 23 (.tmp 1) rfl _ 0 rfl (tml t) _ A0.out.range Tryz.underlying23 rfl (by kernel_rfl) ?_
  simp only [Act.put, List.setIfInBounds_toArray, List.set_cons_zero, List.set_cons_succ]
  cases hr : rtB t with
  | true =>
    have hO := openL t V0 hr
    unfold tmV at hO
    go_wp2_with fail
    refine hO.mono ?_
    rintro x w1 ⟨B, rfl, hLo, hb1⟩
    clear hO
    have hR := refopenD t w1 hr
    unfold tmV at hR
    have a1 : At w1 w.heap.size (tml t) := At.keep (S := fun _ => False) (v := .int .i64 t.st) A0.out (Keep.below hb1) (fun x => x)
    have HLo : Hid (Lo w1 B t [] (Ln.start t) t.st [] (Wd (fun _ => False) V0 w1) ∧ Below V0.heap.size V0 w1) := ⟨hLo, hb1⟩
    clear hLo hb1
    go_upto_region 2 with fail
    refine wp_region_lit ?_
    refine wpList_load_mid rfl 23 (.tmp 1) rfl _ 0 rfl (tml t) _ a1.range Tryz.underlying23 rfl (by kernel_rfl) ?_
    simp only [Act.put, List.setIfInBounds_toArray, List.set_cons_zero, List.set_cons_succ]
    clear a1
    go_wp2_with fail
    refine hR.mono ?_
    rintro x w2 ⟨D, rfl, hDc, hb2⟩
    clear hR
    have HDc : Hid (Dc w2 D t [] (Ln.start t) t.st [] (Wd (fun _ => False) w1 w2) ∧ Below w1.heap.size w1 w2) := ⟨hDc, hb2⟩
    clear hDc hb2
    go_wp2_with fail
    refine (num_any 0 w2).mono ?_
    rintro x w' ⟨rfl, hw'⟩
    obtain rfl := hw'.symm
    clear hw'
    go_upto_region 5 with fail
    have hbV2 : Below V0.heap.size V0 w2 := HLo.out.2.trans (HDc.out.2.mono HLo.out.2.size)
    have a2 : At w2 (w.heap.size + 1) [.pointer none, .pointer none] := At.keep (S := fun _ => False) (v := .pointer none) A1.out (Keep.below hbV2) (fun x => x)
    have a3 : At (w2.setCells (w.heap.size + 1) 0 [.pointer (some ⟨B, 0, none⟩), .pointer (some ⟨D, 0, none⟩)]) (w.heap.size + 1) [.pointer (some ⟨B, 0, none⟩), .pointer (some ⟨D, 0, none⟩)] := a2.setCells_same rfl
    have HE : Hid (OpPost w t (.returned (.tuple #[.agg #[.pointer (some ⟨B, 0, none⟩), .pointer (some ⟨D, 0, none⟩)], .bool true])) (w2.setCells (w.heap.size + 1) 0 [.pointer (some ⟨B, 0, none⟩), .pointer (some ⟨D, 0, none⟩)])) := by
      have kS : Keep (fun b => b = w.heap.size + 1) w2 (w2.setCells (w.heap.size + 1) 0 [.pointer (some ⟨B, 0, none⟩), .pointer (some ⟨D, 0, none⟩)]) := Keep.setCells (S := fun b => b = w.heap.size + 1) rfl _ _ _ (Keep.refl _ _)
      have hbw2 : Below w.heap.size w w2 := B0.out.trans (hbV2.mono B0.out.size)
      have hs := S0.out
      have hz := HLo.out.2.size
      refine ⟨dfresh hbw2 kS (fun b hb => by omega) hbw2.size, .inr ⟨hr, B, D, Wd (fun _ => False) V0 w1, Wd (fun _ => False) w1 w2, rfl, TwX.keep ⟨HLo.out.1.below HDc.out.2, HDc.out.1, List.Perm.refl _, ?_, ?_, ?_, Sav.start hr⟩ kS ?_ ?_, ?_, ?_⟩⟩
      · rintro b (x | x) (y | y)
        · exact x
        · exact x
        · exact y
        · omega
      · rintro b (x | x)
        · exact x.elim
        · have := HDc.out.2.size; omega
      · rintro b (x | x)
        · exact x.elim
        · exact x.2
      · rintro b (x | x)
        · exact x.elim
        · omega
      · rintro b (x | x)
        · exact x.elim
        · omega
      · rintro b (x | x)
        · exact x.elim
        · omega
      · rintro b (x | x)
        · exact x.elim
        · omega
    refine wp_region_lit ?_
    refine wpList_val (.pointer (some ⟨B, 0, none⟩)) w2 rfl rfl ?_
    simp only [Act.put, List.setIfInBounds_toArray, List.set_cons_zero, List.set_cons_succ]
    refine wpList_val (.pointer (some ⟨D, 0, none⟩)) w2 rfl rfl ?_
    simp only [Act.put, List.setIfInBounds_toArray, List.set_cons_zero, List.set_cons_succ]
    refine wpList_val (.agg #[.pointer (some ⟨B, 0, none⟩), .pointer (some ⟨D, 0, none⟩)]) w2 rfl (by kernel_rfl) ?_
    simp only [Act.put, List.setIfInBounds_toArray, List.set_cons_zero, List.set_cons_succ]
    refine wpList_store_mid rfl 31 (.tmp 2) (.tmp 32) rfl (w.heap.size + 1) 0 #[.pointer (some ⟨B, 0, none⟩), .pointer (some ⟨D, 0, none⟩)] rfl rfl (a2.there 2 rfl) (by kernel_rfl) (by kernel_rfl) ?_
    change wpList _ _ _ _ _ (w2.setCells (w.heap.size + 1) 0 [.pointer (some ⟨B, 0, none⟩), .pointer (some ⟨D, 0, none⟩)])
    generalize w2.setCells (w.heap.size + 1) 0 [.pointer (some ⟨B, 0, none⟩), .pointer (some ⟨D, 0, none⟩)] = W9 at *
    have c0 : W9.cell? ⟨w.heap.size + 1, 0, none⟩ = some (.pointer (some ⟨B, 0, none⟩)) := a3.cell 0 rfl
    have c1 : W9.cell? ⟨w.heap.size + 1, 1, none⟩ = some (.pointer (some ⟨D, 0, none⟩)) := a3.cell 1 rfl
    clear a2 a3 hbV2
    go_wp2
    exact bodyPost_ret (v := .tuple #[.agg #[.pointer (some ⟨B, 0, none⟩), .pointer (some ⟨D, 0, none⟩)], .bool true]) (by simp [results, Tryz.results24, go_sem, c0, c1]) rfl HE.out
  | false =>
    have hO := open_bad t V0 hr
    unfold tmV at hO
    go_wp2_with fail
    refine hO.mono ?_
    rintro x w1 ⟨rfl, hb1⟩
    clear hO
    have hR := refopen_bad t w1 hr
    unfold tmV at hR
    have a1 : At w1 w.heap.size (tml t) := At.keep (S := fun _ => False) (v := .int .i64 t.st) A0.out (Keep.below hb1) (fun x => x)
    have HB1 : Hid (Below V0.heap.size V0 w1) := hb1
    clear hb1
    go_upto_region 2 with fail
    refine wp_region_lit ?_
    refine wpList_load_mid rfl 23 (.tmp 1) rfl _ 0 rfl (tml t) _ a1.range Tryz.underlying23 rfl (by kernel_rfl) ?_
    simp only [Act.put, List.setIfInBounds_toArray, List.set_cons_zero, List.set_cons_succ]
    clear a1
    go_wp2_with fail
    refine hR.mono ?_
    rintro x w2 ⟨rfl, hb2⟩
    clear hR
    have HB2 : Hid (Below w1.heap.size w1 w2) := hb2
    clear hb2
    go_wp2_with fail
    refine (num_any 3 w2).mono ?_
    rintro x w' ⟨rfl, hw'⟩
    obtain rfl := hw'.symm
    clear hw'
    go_upto_region 5 with fail
    have hbV2 : Below V0.heap.size V0 w2 := HB1.out.trans (HB2.out.mono HB1.out.size)
    have a2 : At w2 (w.heap.size + 1) [.pointer none, .pointer none] := At.keep (S := fun _ => False) (v := .pointer none) A1.out (Keep.below hbV2) (fun x => x)
    have a3 : At (w2.setCells (w.heap.size + 1) 0 [.pointer none, .pointer none]) (w.heap.size + 1) [.pointer none, .pointer none] := a2.setCells_same rfl
    have HE : Hid (OpPost w t (.returned (.tuple #[.agg #[.pointer none, .pointer none], .bool true])) (w2.setCells (w.heap.size + 1) 0 [.pointer none, .pointer none])) := by
      have kS : Keep (fun b => b = w.heap.size + 1) w2 (w2.setCells (w.heap.size + 1) 0 [.pointer none, .pointer none]) := Keep.setCells (S := fun b => b = w.heap.size + 1) rfl _ _ _ (Keep.refl _ _)
      have hbw2 : Below w.heap.size w w2 := B0.out.trans (hbV2.mono B0.out.size)
      exact ⟨dfresh hbw2 kS (fun b hb => by omega) hbw2.size, .inl ⟨hr, rfl⟩⟩
    refine wp_region_lit ?_
    refine wpList_val (.pointer none) w2 rfl rfl ?_
    simp only [Act.put, List.setIfInBounds_toArray, List.set_cons_zero, List.set_cons_succ]
    refine wpList_val (.pointer none) w2 rfl rfl ?_
    simp only [Act.put, List.setIfInBounds_toArray, List.set_cons_zero, List.set_cons_succ]
    refine wpList_val (.agg #[.pointer none, .pointer none]) w2 rfl (by kernel_rfl) ?_
    simp only [Act.put, List.setIfInBounds_toArray, List.set_cons_zero, List.set_cons_succ]
    refine wpList_store_mid rfl 31 (.tmp 2) (.tmp 32) rfl (w.heap.size + 1) 0 #[.pointer none, .pointer none] rfl rfl (a2.there 2 rfl) (by kernel_rfl) (by kernel_rfl) ?_
    change wpList _ _ _ _ _ (w2.setCells (w.heap.size + 1) 0 [.pointer none, .pointer none])
    generalize w2.setCells (w.heap.size + 1) 0 [.pointer none, .pointer none] = W9 at *
    have c0 : W9.cell? ⟨w.heap.size + 1, 0, none⟩ = some (.pointer none) := a3.cell 0 rfl
    have c1 : W9.cell? ⟨w.heap.size + 1, 1, none⟩ = some (.pointer none) := a3.cell 1 rfl
    clear a2 a3 hbV2
    go_wp2
    exact bodyPost_ret (v := .tuple #[.agg #[.pointer none, .pointer none], .bool true]) (by simp [results, Tryz.results24, go_sem, c0, c1]) rfl HE.out
end Go.Proofs.YtanndhoimpnhpaaGreatDoor
