/- What is wrong with an event by itself: the program's span, eventFault. -/
import Derived.Test.YtanndhoimpnhpaaGreatDoorM11
import Derived.Test.YtanndhoimpnhpaaGreatDoorM3
import Derived.Test.YtanndhoimpnhpaaGreatDoorM18
import Derived.Test.YtanndhoimpnhpaaGreatDoorM1
import Derived.Test.YtanndhoimpnhpaaGreatDoorM19
namespace Go.Proofs.YtanndhoimpnhpaaGreatDoor
open Go.RowKit Cal

/-- The cells of an event; an event as a value. -/
def evl (e : Ln.Ev) : List Value := [.int .i64 e.d, .int .i64 e.k, .int .i64 e.s, .int .i64 e.a]
def evV (e : Ln.Ev) : Value := .agg (evl e).toArray
/-- The table of limits. -/
def liml : List Value := [.int .i64 0, .int .i64 0, .int .i64 1, .int .i64 100000000000, .int .i64 0, .int .i64 1000000, .int .i64 1, .int .i64 400, .int .i64 0, .int .i64 0, .int .i64 1, .int .i64 100000000000]
def Lim (w : World) : Prop := ∀ i v, liml[i]? = some v → w.cell? ⟨0, i, none⟩ = some v
theorem Lim.keep {S : Nat → Prop} {w w' : World} (h : Lim w) (k : Keep S w w') (hs : ¬ S 0) : Lim w' := by
  intro i v hv
  have h1 := h i v hv
  exact (World.cell?_of_block (w := w) (a := ⟨0, i, none⟩) (k.block _ (World.block_lt_of_cell? _ _ h1) hs)).trans h1
theorem Lim.lt {w : World} (h : Lim w) : 0 < w.heap.size := World.block_lt_of_cell? _ _ (h 0 _ rfl)

set_option maxHeartbeats 1000000 in
theorem span_any (t : Ln.Terms) (w : World) (h0 : 0 ≤ t.st) (h1 : t.st ≤ 105872) :
    Calls Tryz.prog 35 #[tmV t] w fun e w' => e = .returned (.agg #[.int .i64 t.st, .int .i64 (t.st + 3700)]) ∧ Below w.heap.size w w' := by
  unfold tmV
  go_enter Tryz.func35, Tryz.ntmps35
  go_wp2
  exact bodyPost_ret (v := .agg #[.int .i64 t.st, .int .i64 (t.st + 3700)]) (by simp [results, Tryz.results35, go_sem]) rfl ⟨rfl, ((Below.refl _ _).alloc (Nat.le_refl _) _).alloc (by simp) _⟩

/-- What is wrong with an event by itself. -/
def evF (t : Ln.Terms) (e : Ln.Ev) : Int :=
  if e.k < 1 ∨ 5 < e.k then 4
  else if e.d < t.st ∨ t.st + 3700 < e.d then 5
  else if fitsB e.k e.a = false then 6
  else 0
theorem fits_lim (k a : Int) (n : Nat) (hn : k = n) (h1 : 1 ≤ n) (h5 : n ≤ 5) : ∃ lo hi : Int, liml[2 * n]? = some (.int .i64 lo) ∧ liml[2 * n + 1]? = some (.int .i64 hi) ∧ fitsB k a = decide (lo ≤ a ∧ a ≤ hi) := by
  subst hn
  rcases (show n = 1 ∨ n = 2 ∨ n = 3 ∨ n = 4 ∨ n = 5 by omega) with rfl | rfl | rfl | rfl | rfl
  · exact ⟨1, 100000000000, rfl, rfl, by simp [fitsB]⟩
  · exact ⟨0, 1000000, rfl, rfl, by simp [fitsB]⟩
  · exact ⟨1, 400, rfl, rfl, by simp [fitsB]⟩
  · refine ⟨0, 0, rfl, rfl, ?_⟩
    show decide (a = 0) = _
    by_cases h : a = 0
    · simp [h]
    · rw [decide_eq_false h, decide_eq_false (by omega)]
  · exact ⟨1, 100000000000, rfl, rfl, by simp [fitsB]⟩

/-- What the body of eventFault holds in memory. -/
def EfS (w : World) (t : Ln.Terms) (e : Ln.Ev) (wx : World) : Prop := At wx w.heap.size (tml t) ∧ At wx (w.heap.size + 1) (evl e) ∧ Below w.heap.size w wx
theorem EfS.below {w W W' : World} {t : Ln.Terms} {e : Ln.Ev} (h : EfS w t e W) (hb : Below W.heap.size W W') : EfS w t e W' :=
  ⟨At.keep (S := fun _ => False) (v := .int .i64 t.st) h.1 (Keep.below hb) (fun x => x), At.keep (S := fun _ => False) (v := .int .i64 e.d) h.2.1 (Keep.below hb) (fun x => x), h.2.2.trans (hb.mono h.2.2.size)⟩
theorem EfS.drew {w W : World} {t : Ln.Terms} {e : Ln.Ev} (h : EfS w t e W) : EfS w t e W.drew := ⟨h.1.drew, h.2.1.drew, h.2.2.drew⟩

set_option maxRecDepth 10000 in
set_option maxHeartbeats 4000000 in
theorem eventFault_any (t : Ln.Terms) (e : Ln.Ev) (w : World) (h0 : 0 ≤ t.st) (h1 : t.st ≤ 105872) (hlim : Lim w) :
    Calls Tryz.prog 49 #[tmV t, evV e] w fun x w' => x = .returned (.int .i64 (evF t e)) ∧ Below w.heap.size w w' := by
  have hsp := fun W => span_any t W h0 h1
  have hal := fun W => allow_any t.st (t.st + 3700) e.d W
  obtain ⟨xb, hxb⟩ : ∃ xb, xb = decide (t.st ≤ e.d ∧ e.d ≤ t.st + 3700) := ⟨_, rfl⟩
  rw [← hxb] at hal
  have HXB : Hid (xb = decide (t.st ≤ e.d ∧ e.d ≤ t.st + 3700)) := hxb
  clear hxb
  have hgl := hlim.lt
  have HC : Hid (evF t e = if e.k < 1 ∨ 5 < e.k then 4 else if e.d < t.st ∨ t.st + 3700 < e.d then 5 else if fitsB e.k e.a = false then 6 else 0) := rfl
  have HF : Hid (∀ n : Nat, e.k = n → 1 ≤ n → n ≤ 5 → ∃ lo hi : Int, liml[2 * n]? = some (.int .i64 lo) ∧ liml[2 * n + 1]? = some (.int .i64 hi) ∧ fitsB e.k e.a = decide (lo ≤ e.a ∧ e.a ≤ hi)) := fun n => fits_lim e.k e.a n
  have HL : Hid (Lim w) := hlim
  have HS0 : Hid (EfS w t e ((w.alloc (.cells (tml t).toArray 23)).alloc (.cells (evl e).toArray 50))) := by
    have b1 : Below w.heap.size w (w.alloc (.cells (tml t).toArray 23)) := (Below.refl _ _).alloc (Nat.le_refl _) _
    have z1 : (w.alloc (.cells (tml t).toArray 23)).heap.size = w.heap.size + 1 := by simp
    refine ⟨At.over (v := .int .i64 t.st) (At.alloc w (tml t) _) _, ?_, b1.alloc (by omega) _⟩
    have := At.alloc (w.alloc (.cells (tml t).toArray 23)) (evl e) 50
    rw [z1] at this
    exact this
  clear hlim
  generalize evF t e = code at *
  generalize fitsB e.k e.a = fb at *
  unfold tmV evV
  have k1 : ((w.alloc (.cells (tml t).toArray 23)).alloc (.cells (evl e).toArray 50)).cell? ⟨w.heap.size + 1, 1, none⟩ = some (.int .i64 e.k) := HS0.out.2.1.cell 1 rfl
  go_enter Tryz.func49, Tryz.ntmps49
  go_upto_region 1 with fail
  have HZ : Hid ((w.alloc (.cells (tml t).toArray 23)).heap.size = w.heap.size + 1) := by show _ = _; simp
  change Code.wp _ _ _ _ ((w.alloc (.cells (tml t).toArray 23)).alloc (.cells (evl e).toArray 50))
  generalize (w.alloc (.cells (tml t).toArray 23)).alloc (.cells (evl e).toArray 50) = V at *
  try simp only [size_alloc]
  by_cases c1 : e.k < 1
  · have E : Hid (code = 4) := by show code = 4; rw [HC.out, if_pos (Or.inl c1)]
    have HB : Hid (Below w.heap.size w V) := HS0.out.2.2
    clear HC HS0 HF HL hsp hal
    obtain rfl := E.out
    go_wp2
    go_ret
    exact ⟨rfl, HB.out⟩
  by_cases c2 : 5 < e.k
  · have E : Hid (code = 4) := by show code = 4; rw [HC.out, if_pos (Or.inr c2)]
    have HB : Hid (Below w.heap.size w V) := HS0.out.2.2
    clear HC HS0 HF HL hsp hal
    obtain rfl := E.out
    go_wp2
    go_ret
    exact ⟨rfl, HB.out⟩
  go_upto_region 3 with fail
  refine wp_region_held_drew (S := EfS w t e) (by kernel_rfl) HS0.out.drew (fun hHeld => ?_)
  clear HS0 k1
  refine wpAnyH_take (i := 0) (v := (.agg (tml t).toArray)) rfl (by kernel_rfl) (by kernel_rfl) (by kernel_rfl) (fun _ _ _ h => h) (yieldsIf_load_mid (by rfl) 23 (.tmp 2) rfl _ _ rfl _ _ (fun _ h => h.1.range) Tryz.underlying23 rfl (by kernel_rfl)) (by assumption) ?_
  simp only [Act.put, List.getElem_toArray, List.getElem_cons_zero, List.setIfInBounds_toArray, List.set_cons_zero, List.set_cons_succ]
  refine wpAnyH_take (i := 2) (v := (.pointer (some ⟨w.heap.size + 1, 0, none⟩))) rfl (by kernel_rfl) (by kernel_rfl) (by kernel_rfl) (fun _ _ _ h => h) (Or.inl ⟨by rfl, fun wx hSw => by ((try dsimp only at hSw); go_simp)⟩) (by assumption) ?_
  simp only [Act.put, List.getElem_toArray, List.getElem_cons_succ, List.getElem_cons_zero, List.setIfInBounds_toArray, List.set_cons_zero, List.set_cons_succ]
  refine wpAnyH_take (i := 3) (v := (.int .i64 e.d)) rfl (by kernel_rfl) (by kernel_rfl) (by kernel_rfl) (fun _ _ _ h => h) (Or.inl ⟨by rfl, fun wx hSw => by (have hc : wx.cell? ⟨w.heap.size + 1, 0, none⟩ = some (.int .i64 e.d) := hSw.2.1.cell 0 rfl; go_simp)⟩) (by assumption) ?_
  simp only [Act.put, List.getElem_toArray, List.getElem_cons_succ, List.getElem_cons_zero, List.setIfInBounds_toArray, List.set_cons_zero, List.set_cons_succ]
  generalize V.drew = V1 at *
  refine wpAnyH_ready (rs := [1]) (by kernel_rfl) (by simp) ?_
  refine AllReadyH.cons rfl (fun K hK => ?_) AllReadyH.nil
  go_simp
  refine (hsp _).mono ?_
  rintro x w2 ⟨rfl, hb2⟩
  go_wp2_with fail
  refine hK.out _ _ (hHeld.below hb2) (fun hHeld2 => ?_)
  clear hK K hHeld hb2 hsp
  refine wpAnyH_ready (rs := [4]) (by kernel_rfl) (by simp) ?_
  refine AllReadyH.cons rfl (fun K hK => ?_) AllReadyH.nil
  go_simp
  refine (hal _).mono ?_
  rintro x w3 ⟨rfl, hb3⟩
  go_wp2_with fail
  refine hK.out _ _ (hHeld2.below hb3) (fun hHeld3 => ?_)
  clear hK K hHeld2 hb3 hal
  try simp only [Act.put, List.getElem_toArray, List.getElem_cons_succ, List.getElem_cons_zero, List.setIfInBounds_toArray, List.set_cons_zero, List.set_cons_succ]
  cases xb with
  | true =>
    have c3 : t.st ≤ e.d ∧ e.d ≤ t.st + 3700 := of_decide_eq_true HXB.out.symm
    refine wpAnyH_take (i := 5) (v := (.bool false)) rfl (by kernel_rfl) (by kernel_rfl) (by kernel_rfl) (fun _ _ _ h => h) (Or.inl ⟨by rfl, fun wx hSw => by ((try dsimp only at hSw); go_simp)⟩) (by assumption) ?_
    simp only [Act.put, List.getElem_toArray, List.getElem_cons_succ, List.getElem_cons_zero, List.setIfInBounds_toArray, List.set_cons_zero, List.set_cons_succ]
    refine wpAnyH_done (by kernel_rfl) ?_ _
    obtain ⟨n, hn, n1, n5⟩ : ∃ n : Nat, e.k = n ∧ 1 ≤ n ∧ n ≤ 5 := ⟨e.k.toNat, by omega, by omega, by omega⟩
    obtain ⟨lo, hi, l1, l2, l3⟩ := HF.out n hn n1 n5
    have HLR : Hid (∀ wx, EfS w t e wx → wx.rangeAt 0 (n * 2) [.int .i64 lo, .int .i64 hi]) := fun wx hx j v hv => by
      have hb := hx.2.2.block 0 hgl
      match j, hv with
      | 0, hv =>
        cases hv
        exact (World.cell?_of_block (w := w) (a := ⟨0, n * 2 + 0, none⟩) hb).trans (HL.out (n * 2) _ (by rw [Nat.mul_comm]; exact l1))
      | 1, hv =>
        cases hv
        exact (World.cell?_of_block (w := w) (a := ⟨0, n * 2 + 1, none⟩) hb).trans (HL.out (n * 2 + 1) _ (by rw [Nat.mul_comm]; exact l2))
    have HK : Hid (code = if fb = false then 6 else 0) := by show _ = _; rw [HC.out, if_neg (by omega), if_neg (by omega)]
    have hal2 := fun W => allow_any lo hi e.a W
    rw [← l3] at hal2
    have HH : Hid (EfS w t e w3) := hHeld3
    clear HC HF HL l1 l2 l3 c3 hHeld3
    go_upto_region 5 with fail
    refine wp_region_held_drew (S := EfS w t e) (by kernel_rfl) HH.out.drew (fun hHeld4 => ?_)
    clear HH
    refine wpAnyH_take (i := 0) (v := (.pointer (some ⟨w.heap.size + 1, 1, none⟩))) rfl (by kernel_rfl) (by kernel_rfl) (by kernel_rfl) (fun _ _ _ h => h) (Or.inl ⟨by rfl, fun wx hSw => by ((try dsimp only at hSw); go_simp)⟩) (by assumption) ?_
    simp only [Act.put, List.getElem_toArray, List.getElem_cons_zero, List.setIfInBounds_toArray, List.set_cons_zero, List.set_cons_succ]
    refine wpAnyH_take (i := 1) (v := (.int .i64 n)) rfl (by kernel_rfl) (by kernel_rfl) (by kernel_rfl) (fun _ _ _ h => h) (Or.inl ⟨by rfl, fun wx hSw => by (have hc : wx.cell? ⟨w.heap.size + 1, 1, none⟩ = some (.int .i64 e.k) := hSw.2.1.cell 1 rfl; rw [hn] at hc; go_simp)⟩) (by assumption) ?_
    simp only [Act.put, List.getElem_toArray, List.getElem_cons_succ, List.getElem_cons_zero, List.setIfInBounds_toArray, List.set_cons_zero, List.set_cons_succ]
    have hn6 : (0 : Int) ≤ n ∧ (n : Int) < 6 := by omega
    refine wpAnyH_take (i := 2) (v := (.pointer (some ⟨0, n * 2, none⟩))) rfl (by kernel_rfl) (by kernel_rfl) (by kernel_rfl) (fun _ _ _ h => h) (Or.inl ⟨by rfl, fun wx hSw => by ((try dsimp only at hSw); go_simp)⟩) (by assumption) ?_
    simp only [Act.put, List.getElem_toArray, List.getElem_cons_succ, List.getElem_cons_zero, List.setIfInBounds_toArray, List.set_cons_zero, List.set_cons_succ]
    refine wpAnyH_take (i := 3) (v := (.agg #[.int .i64 lo, .int .i64 hi])) rfl (by kernel_rfl) (by kernel_rfl) (by kernel_rfl) (fun _ _ _ h => h) (yieldsIf_load_mid (by rfl) 86 (.tmp 21) rfl _ _ rfl _ _ (fun _ h => HLR.out _ h) Tryz.underlying86 rfl (by kernel_rfl)) (by assumption) ?_
    simp only [Act.put, List.getElem_toArray, List.getElem_cons_succ, List.getElem_cons_zero, List.setIfInBounds_toArray, List.set_cons_zero, List.set_cons_succ]
    refine wpAnyH_take (i := 4) (v := (.pointer (some ⟨w.heap.size + 1, 3, none⟩))) rfl (by kernel_rfl) (by kernel_rfl) (by kernel_rfl) (fun _ _ _ h => h) (Or.inl ⟨by rfl, fun wx hSw => by ((try dsimp only at hSw); go_simp)⟩) (by assumption) ?_
    simp only [Act.put, List.getElem_toArray, List.getElem_cons_succ, List.getElem_cons_zero, List.setIfInBounds_toArray, List.set_cons_zero, List.set_cons_succ]
    refine wpAnyH_take (i := 5) (v := (.int .i64 e.a)) rfl (by kernel_rfl) (by kernel_rfl) (by kernel_rfl) (fun _ _ _ h => h) (Or.inl ⟨by rfl, fun wx hSw => by (have hc : wx.cell? ⟨w.heap.size + 1, 3, none⟩ = some (.int .i64 e.a) := hSw.2.1.cell 3 rfl; go_simp)⟩) (by assumption) ?_
    simp only [Act.put, List.getElem_toArray, List.getElem_cons_succ, List.getElem_cons_zero, List.setIfInBounds_toArray, List.set_cons_zero, List.set_cons_succ]
    generalize w3.drew = V2 at *
    refine wpAnyH_ready (rs := [6]) (by kernel_rfl) (by simp) ?_
    refine AllReadyH.cons rfl (fun K hK => ?_) AllReadyH.nil
    go_simp
    refine (hal2 _).mono ?_
    rintro x w5 ⟨rfl, hb5⟩
    go_wp2_with fail
    refine hK.out _ _ (hHeld4.below hb5) (fun hHeld5 => ?_)
    clear hK K hHeld4 hb5 hal2
    have HB : Hid (Below w.heap.size w w5) := hHeld5.2.2
    try simp only [Act.put, List.getElem_toArray, List.getElem_cons_succ, List.getElem_cons_zero, List.setIfInBounds_toArray, List.set_cons_zero, List.set_cons_succ]
    refine wpAnyH_take (i := 7) (v := (.bool (!fb))) rfl (by kernel_rfl) (by kernel_rfl) (by kernel_rfl) (fun _ _ _ h => h) (Or.inl ⟨by rfl, fun wx hSw => by ((try dsimp only at hSw); go_simp)⟩) (by assumption) ?_
    simp only [Act.put, List.getElem_toArray, List.getElem_cons_succ, List.getElem_cons_zero, List.setIfInBounds_toArray, List.set_cons_zero, List.set_cons_succ]
    refine wpAnyH_done (by kernel_rfl) ?_ _
    clear hHeld5 HLR
    cases fb with
    | true =>
      have E : Hid (code = 0) := by show code = 0; rw [HK.out]; rfl
      obtain rfl := E.out
      go_wp2
      go_ret
      exact ⟨rfl, HB.out⟩
    | false =>
      have E : Hid (code = 6) := by show code = 6; rw [HK.out]; rfl
      obtain rfl := E.out
      go_wp2
      go_ret
      exact ⟨rfl, HB.out⟩
  | false =>
    have c3 : ¬ (t.st ≤ e.d ∧ e.d ≤ t.st + 3700) := of_decide_eq_false HXB.out.symm
    refine wpAnyH_take (i := 5) (v := (.bool true)) rfl (by kernel_rfl) (by kernel_rfl) (by kernel_rfl) (fun _ _ _ h => h) (Or.inl ⟨by rfl, fun wx hSw => by ((try dsimp only at hSw); go_simp)⟩) (by assumption) ?_
    simp only [Act.put, List.getElem_toArray, List.getElem_cons_succ, List.getElem_cons_zero, List.setIfInBounds_toArray, List.set_cons_zero, List.set_cons_succ]
    refine wpAnyH_done (by kernel_rfl) ?_ _
    have E : Hid (code = 5) := by show code = 5; rw [HC.out, if_neg (by omega), if_pos (by omega)]
    have HB : Hid (Below w.heap.size w w3) := hHeld3.2.2
    clear HC HF HL hHeld3
    obtain rfl := E.out
    go_wp2
    go_ret
    exact ⟨rfl, HB.out⟩
end Go.Proofs.YtanndhoimpnhpaaGreatDoor
