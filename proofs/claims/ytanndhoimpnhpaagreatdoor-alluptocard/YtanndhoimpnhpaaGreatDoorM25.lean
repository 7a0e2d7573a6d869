/- Joined by program: TxR, TxZ, TyA, AdH. -/
import Derived.Test.YtanndhoimpnhpaaGreatDoorM24
import Derived.Test.YtanndhoimpnhpaaGreatDoorM21
import Derived.Deep.RegionHeld3
import Derived.Test.YtanndhoimpnhpaaGreatDoorM15
import Derived.Test.YtanndhoimpnhpaaGreatDoorM18
import Derived.Test.YtanndhoimpnhpaaGreatDoorM16
import Derived.Deep.CutRange
import Derived.Test.YtanndhoimpnhpaaGreatDoorM20
namespace Go.Proofs.YtanndhoimpnhpaaGreatDoor
open Go.ChangeShapes Go.WideShapes Go.ChangeAt Go.RowKit Lg Cal
def ptrs (b o : Nat) : Nat → List Value
  | 0 => []
  | n + 1 => ptrs b o n ++ [.pointer (some ⟨b, o + n, none⟩)]
theorem ptrs_len (b o : Nat) : ∀ n, (ptrs b o n).length = n
  | 0 => rfl
  | n + 1 => by simp [ptrs, ptrs_len b o n]
theorem ptrs_at (b o : Nat) : ∀ n k, k < n → (ptrs b o n)[k]? = some (.pointer (some ⟨b, o + k, none⟩))
  | 0, _, h => absurd h (Nat.not_lt_zero _)
  | n + 1, k, h => by
    rw [ptrs]
    rcases Nat.lt_or_ge k n with h1 | h1
    · rw [List.getElem?_append_left (by rw [ptrs_len]; exact h1)]
      exact ptrs_at b o n k h1
    · obtain rfl : k = n := by omega
      rw [List.getElem?_append_right (by rw [ptrs_len]; exact Nat.le_refl _), ptrs_len, Nat.sub_self]
      rfl
theorem Nm.made {w : World} {W b o : Nat} {ns : List Int} (hc : ∀ k (hk : k < ns.length), w.cell? ⟨b, o + k, none⟩ = some (.int .i64 ns[k])) (hs : Sf w W b) (hb : b < w.heap.size) (hW : W < w.heap.size) :
    Nm (w.drew.alloc (.cells (ptrs b o ns.length).toArray 110)) W (.slice (some ⟨w.heap.size, 0, none⟩) ns.length ns.length) ns ∧ Wf W w (w.drew.alloc (.cells (ptrs b o ns.length).toArray 110)) := by
  have hB : Below w.heap.size w (w.drew.alloc (.cells (ptrs b o ns.length).toArray 110)) := (Below.refl _ _).drew.alloc (Nat.le_refl _) _
  have hf : Wf W w (w.drew.alloc (.cells (ptrs b o ns.length).toArray 110)) := Wf.below hB (Nat.le_of_lt hW)
  refine ⟨⟨_, _, rfl, Nat.le_refl _, fun k hk => ⟨w.heap.size, 0, b, o + k, rfl, ?_, ?_, ?_, hs.keep hf⟩⟩, hf⟩
  · rw [Nat.zero_add]
    exact (At.alloc w.drew (ptrs b o ns.length) 110 k _ (ptrs_at b o ns.length k hk)).1
  · exact (World.cell?_of_block (w := w) (a := ⟨b, o + k, none⟩) (hB.block b hb)).trans (hc k hk)
  · refine .inr ⟨by omega, .cells (ptrs b o ns.length).toArray 110, ?_, fun c fz e => ?_⟩
    · show (w.heap.push (.cells (ptrs b o ns.length).toArray 110))[w.heap.size]? = _
      exact Array.getElem?_push_size
    · injection e with _ e _
      exact absurd e (by decide)
set_option maxRecDepth 10000 in
theorem termsNumbers_any (w : World) (b o : Nat) : Calls Tryz.prog 43 #[.pointer (some ⟨b, o, none⟩)] w fun e w' => e = .returned (.slice (some ⟨w.heap.size, 0, none⟩) 6 6) ∧ w' = w.drew.alloc (.cells (ptrs b o 6).toArray 110) := by
  go_enter Tryz.func43, Tryz.ntmps43
  go_upto_region 1 with fail
  refine wp_region_held_drew (S := fun _ => True) (by kernel_rfl) trivial (fun hHeld => ?_)
  refine wpAnyH_take (i := 0) (v := (.pointer (some ⟨b, o, none⟩))) rfl (by kernel_rfl) (by kernel_rfl) (by kernel_rfl) (fun _ _ _ h => h) (Or.inl ⟨by rfl, fun wx hSw => by kernel_rfl⟩) (by assumption) ?_
  simp only [Act.put, List.getElem_toArray, List.getElem_cons_zero, List.setIfInBounds_toArray, List.set_cons_zero, List.set_cons_succ]
  refine wpAnyH_take (i := 1) (v := (.pointer (some ⟨b, o, none⟩))) rfl (by kernel_rfl) (by kernel_rfl) (by kernel_rfl) (fun _ _ _ h => h) (Or.inl ⟨by rfl, fun wx hSw => by ((try dsimp only at hSw); go_simp)⟩) (by assumption) ?_
  simp only [Act.put, List.getElem_toArray, List.getElem_cons_succ, List.getElem_cons_zero, List.setIfInBounds_toArray, List.set_cons_zero, List.set_cons_succ]
  refine wpAnyH_take (i := 2) (v := (.pointer (some ⟨b, o, none⟩))) rfl (by kernel_rfl) (by kernel_rfl) (by kernel_rfl) (fun _ _ _ h => h) (Or.inl ⟨by rfl, fun wx hSw => by ((try dsimp only at hSw); go_simp)⟩) (by assumption) ?_
  simp only [Act.put, List.getElem_toArray, List.getElem_cons_succ, List.getElem_cons_zero, List.setIfInBounds_toArray, List.set_cons_zero, List.set_cons_succ]
  refine wpAnyH_take (i := 3) (v := (.pointer (some ⟨b, o, none⟩))) rfl (by kernel_rfl) (by kernel_rfl) (by kernel_rfl) (fun _ _ _ h => h) (Or.inl ⟨by rfl, fun wx hSw => by kernel_rfl⟩) (by assumption) ?_
  simp only [Act.put, List.getElem_toArray, List.getElem_cons_succ, List.getElem_cons_zero, List.setIfInBounds_toArray, List.set_cons_zero, List.set_cons_succ]
  refine wpAnyH_take (i := 4) (v := (.pointer (some ⟨b, o, none⟩))) rfl (by kernel_rfl) (by kernel_rfl) (by kernel_rfl) (fun _ _ _ h => h) (Or.inl ⟨by rfl, fun wx hSw => by ((try dsimp only at hSw); go_simp)⟩) (by assumption) ?_
  simp only [Act.put, List.getElem_toArray, List.getElem_cons_succ, List.getElem_cons_zero, List.setIfInBounds_toArray, List.set_cons_zero, List.set_cons_succ]
  refine wpAnyH_take (i := 5) (v := (.pointer (some ⟨b, o + 1, none⟩))) rfl (by kernel_rfl) (by kernel_rfl) (by kernel_rfl) (fun _ _ _ h => h) (Or.inl ⟨by rfl, fun wx hSw => by ((try dsimp only at hSw); go_simp)⟩) (by assumption) ?_
  simp only [Act.put, List.getElem_toArray, List.getElem_cons_succ, List.getElem_cons_zero, List.setIfInBounds_toArray, List.set_cons_zero, List.set_cons_succ]
  refine wpAnyH_take (i := 6) (v := (.pointer (some ⟨b, o, none⟩))) rfl (by kernel_rfl) (by kernel_rfl) (by kernel_rfl) (fun _ _ _ h => h) (Or.inl ⟨by rfl, fun wx hSw => by kernel_rfl⟩) (by assumption) ?_
  simp only [Act.put, List.getElem_toArray, List.getElem_cons_succ, List.getElem_cons_zero, List.setIfInBounds_toArray, List.set_cons_zero, List.set_cons_succ]
  refine wpAnyH_take (i := 7) (v := (.pointer (some ⟨b, o, none⟩))) rfl (by kernel_rfl) (by kernel_rfl) (by kernel_rfl) (fun _ _ _ h => h) (Or.inl ⟨by rfl, fun wx hSw => by ((try dsimp only at hSw); go_simp)⟩) (by assumption) ?_
  simp only [Act.put, List.getElem_toArray, List.getElem_cons_succ, List.getElem_cons_zero, List.setIfInBounds_toArray, List.set_cons_zero, List.set_cons_succ]
  refine wpAnyH_take (i := 8) (v := (.pointer (some ⟨b, o + 2, none⟩))) rfl (by kernel_rfl) (by kernel_rfl) (by kernel_rfl) (fun _ _ _ h => h) (Or.inl ⟨by rfl, fun wx hSw => by ((try dsimp only at hSw); go_simp)⟩) (by assumption) ?_
  simp only [Act.put, List.getElem_toArray, List.getElem_cons_succ, List.getElem_cons_zero, List.setIfInBounds_toArray, List.set_cons_zero, List.set_cons_succ]
  refine wpAnyH_take (i := 9) (v := (.pointer (some ⟨b, o, none⟩))) rfl (by kernel_rfl) (by kernel_rfl) (by kernel_rfl) (fun _ _ _ h => h) (Or.inl ⟨by rfl, fun wx hSw => by kernel_rfl⟩) (by assumption) ?_
  simp only [Act.put, List.getElem_toArray, List.getElem_cons_succ, List.getElem_cons_zero, List.setIfInBounds_toArray, List.set_cons_zero, List.set_cons_succ]
  refine wpAnyH_take (i := 10) (v := (.pointer (some ⟨b, o, none⟩))) rfl (by kernel_rfl) (by kernel_rfl) (by kernel_rfl) (fun _ _ _ h => h) (Or.inl ⟨by rfl, fun wx hSw => by ((try dsimp only at hSw); go_simp)⟩) (by assumption) ?_
  simp only [Act.put, List.getElem_toArray, List.getElem_cons_succ, List.getElem_cons_zero, List.setIfInBounds_toArray, List.set_cons_zero, List.set_cons_succ]
  refine wpAnyH_take (i := 11) (v := (.pointer (some ⟨b, o + 3, none⟩))) rfl (by kernel_rfl) (by kernel_rfl) (by kernel_rfl) (fun _ _ _ h => h) (Or.inl ⟨by rfl, fun wx hSw => by ((try dsimp only at hSw); go_simp)⟩) (by assumption) ?_
  simp only [Act.put, List.getElem_toArray, List.getElem_cons_succ, List.getElem_cons_zero, List.setIfInBounds_toArray, List.set_cons_zero, List.set_cons_succ]
  refine wpAnyH_take (i := 12) (v := (.pointer (some ⟨b, o, none⟩))) rfl (by kernel_rfl) (by kernel_rfl) (by kernel_rfl) (fun _ _ _ h => h) (Or.inl ⟨by rfl, fun wx hSw => by kernel_rfl⟩) (by assumption) ?_
  simp only [Act.put, List.getElem_toArray, List.getElem_cons_succ, List.getElem_cons_zero, List.setIfInBounds_toArray, List.set_cons_zero, List.set_cons_succ]
  refine wpAnyH_take (i := 13) (v := (.pointer (some ⟨b, o, none⟩))) rfl (by kernel_rfl) (by kernel_rfl) (by kernel_rfl) (fun _ _ _ h => h) (Or.inl ⟨by rfl, fun wx hSw => by ((try dsimp only at hSw); go_simp)⟩) (by assumption) ?_
  simp only [Act.put, List.getElem_toArray, List.getElem_cons_succ, List.getElem_cons_zero, List.setIfInBounds_toArray, List.set_cons_zero, List.set_cons_succ]
  refine wpAnyH_take (i := 14) (v := (.pointer (some ⟨b, o + 4, none⟩))) rfl (by kernel_rfl) (by kernel_rfl) (by kernel_rfl) (fun _ _ _ h => h) (Or.inl ⟨by rfl, fun wx hSw => by ((try dsimp only at hSw); go_simp)⟩) (by assumption) ?_
  simp only [Act.put, List.getElem_toArray, List.getElem_cons_succ, List.getElem_cons_zero, List.setIfInBounds_toArray, List.set_cons_zero, List.set_cons_succ]
  refine wpAnyH_take (i := 15) (v := (.pointer (some ⟨b, o, none⟩))) rfl (by kernel_rfl) (by kernel_rfl) (by kernel_rfl) (fun _ _ _ h => h) (Or.inl ⟨by rfl, fun wx hSw => by kernel_rfl⟩) (by assumption) ?_
  simp only [Act.put, List.getElem_toArray, List.getElem_cons_succ, List.getElem_cons_zero, List.setIfInBounds_toArray, List.set_cons_zero, List.set_cons_succ]
  refine wpAnyH_take (i := 16) (v := (.pointer (some ⟨b, o, none⟩))) rfl (by kernel_rfl) (by kernel_rfl) (by kernel_rfl) (fun _ _ _ h => h) (Or.inl ⟨by rfl, fun wx hSw => by ((try dsimp only at hSw); go_simp)⟩) (by assumption) ?_
  simp only [Act.put, List.getElem_toArray, List.getElem_cons_succ, List.getElem_cons_zero, List.setIfInBounds_toArray, List.set_cons_zero, List.set_cons_succ]
  refine wpAnyH_take (i := 17) (v := (.pointer (some ⟨b, o + 5, none⟩))) rfl (by kernel_rfl) (by kernel_rfl) (by kernel_rfl) (fun _ _ _ h => h) (Or.inl ⟨by rfl, fun wx hSw => by ((try dsimp only at hSw); go_simp)⟩) (by assumption) ?_
  simp only [Act.put, List.getElem_toArray, List.getElem_cons_succ, List.getElem_cons_zero, List.setIfInBounds_toArray, List.set_cons_zero, List.set_cons_succ]
  refine wpAnyH_ready (rs := [18]) (by kernel_rfl) (by simp) ?_
  refine AllReadyH.cons rfl (fun K hK => ?_) AllReadyH.nil
  rw [if_pos (by rfl)]
  refine wp_valD (.slice (some ⟨w.heap.size, 0, none⟩) 6 6) (w.drew.alloc (.cells #[.pointer (some ⟨b, o, none⟩), .pointer (some ⟨b, o + 1, none⟩), .pointer (some ⟨b, o + 2, none⟩), .pointer (some ⟨b, o + 3, none⟩), .pointer (some ⟨b, o + 4, none⟩), .pointer (some ⟨b, o + 5, none⟩)] 110)) (by kernel_rfl) ?_
  refine hK.out _ _ trivial (fun hHeld => ?_)
  clear hK K
  try simp only [Act.put, List.getElem_toArray, List.getElem_cons_succ, List.getElem_cons_zero, List.setIfInBounds_toArray, List.set_cons_zero, List.set_cons_succ]
  refine wpAnyH_take (i := 19) (v := (.slice (some ⟨w.heap.size, 0, none⟩) 6 6)) rfl (by kernel_rfl) (by kernel_rfl) (by kernel_rfl) (fun _ _ _ h => h) (Or.inl ⟨by rfl, fun wx hSw => by kernel_rfl⟩) (by assumption) ?_
  simp only [Act.put, List.getElem_toArray, List.getElem_cons_succ, List.getElem_cons_zero, List.setIfInBounds_toArray, List.set_cons_zero, List.set_cons_succ]
  refine wpAnyH_done (by kernel_rfl) ?_ _
  go_wp2
  go_ret
  exact ⟨rfl, rfl⟩
set_option maxRecDepth 10000 in
theorem eventNumbers_any (w : World) (b o : Nat) : Calls Tryz.prog 44 #[.pointer (some ⟨b, o, none⟩)] w fun e w' => e = .returned (.slice (some ⟨w.heap.size, 0, none⟩) 4 4) ∧ w' = w.drew.alloc (.cells (ptrs b o 4).toArray 110) := by
  go_enter Tryz.func44, Tryz.ntmps44
  go_upto_region 1 with fail
  refine wp_region_held_drew (S := fun _ => True) (by kernel_rfl) trivial (fun hHeld => ?_)
  refine wpAnyH_take (i := 0) (v := (.pointer (some ⟨b, o, none⟩))) rfl (by kernel_rfl) (by kernel_rfl) (by kernel_rfl) (fun _ _ _ h => h) (Or.inl ⟨by rfl, fun wx hSw => by kernel_rfl⟩) (by assumption) ?_
  simp only [Act.put, List.getElem_toArray, List.getElem_cons_zero, List.setIfInBounds_toArray, List.set_cons_zero, List.set_cons_succ]
  refine wpAnyH_take (i := 1) (v := (.pointer (some ⟨b, o, none⟩))) rfl (by kernel_rfl) (by kernel_rfl) (by kernel_rfl) (fun _ _ _ h => h) (Or.inl ⟨by rfl, fun wx hSw => by ((try dsimp only at hSw); go_simp)⟩) (by assumption) ?_
  simp only [Act.put, List.getElem_toArray, List.getElem_cons_succ, List.getElem_cons_zero, List.setIfInBounds_toArray, List.set_cons_zero, List.set_cons_succ]
  refine wpAnyH_take (i := 2) (v := (.pointer (some ⟨b, o, none⟩))) rfl (by kernel_rfl) (by kernel_rfl) (by kernel_rfl) (fun _ _ _ h => h) (Or.inl ⟨by rfl, fun wx hSw => by ((try dsimp only at hSw); go_simp)⟩) (by assumption) ?_
  simp only [Act.put, List.getElem_toArray, List.getElem_cons_succ, List.getElem_cons_zero, List.setIfInBounds_toArray, List.set_cons_zero, List.set_cons_succ]
  refine wpAnyH_take (i := 3) (v := (.pointer (some ⟨b, o, none⟩))) rfl (by kernel_rfl) (by kernel_rfl) (by kernel_rfl) (fun _ _ _ h => h) (Or.inl ⟨by rfl, fun wx hSw => by kernel_rfl⟩) (by assumption) ?_
  simp only [Act.put, List.getElem_toArray, List.getElem_cons_succ, List.getElem_cons_zero, List.setIfInBounds_toArray, List.set_cons_zero, List.set_cons_succ]
  refine wpAnyH_take (i := 4) (v := (.pointer (some ⟨b, o, none⟩))) rfl (by kernel_rfl) (by kernel_rfl) (by kernel_rfl) (fun _ _ _ h => h) (Or.inl ⟨by rfl, fun wx hSw => by ((try dsimp only at hSw); go_simp)⟩) (by assumption) ?_
  simp only [Act.put, List.getElem_toArray, List.getElem_cons_succ, List.getElem_cons_zero, List.setIfInBounds_toArray, List.set_cons_zero, List.set_cons_succ]
  refine wpAnyH_take (i := 5) (v := (.pointer (some ⟨b, o + 1, none⟩))) rfl (by kernel_rfl) (by kernel_rfl) (by kernel_rfl) (fun _ _ _ h => h) (Or.inl ⟨by rfl, fun wx hSw => by ((try dsimp only at hSw); go_simp)⟩) (by assumption) ?_
  simp only [Act.put, List.getElem_toArray, List.getElem_cons_succ, List.getElem_cons_zero, List.setIfInBounds_toArray, List.set_cons_zero, List.set_cons_succ]
  refine wpAnyH_take (i := 6) (v := (.pointer (some ⟨b, o, none⟩))) rfl (by kernel_rfl) (by kernel_rfl) (by kernel_rfl) (fun _ _ _ h => h) (Or.inl ⟨by rfl, fun wx hSw => by kernel_rfl⟩) (by assumption) ?_
  simp only [Act.put, List.getElem_toArray, List.getElem_cons_succ, List.getElem_cons_zero, List.setIfInBounds_toArray, List.set_cons_zero, List.set_cons_succ]
  refine wpAnyH_take (i := 7) (v := (.pointer (some ⟨b, o, none⟩))) rfl (by kernel_rfl) (by kernel_rfl) (by kernel_rfl) (fun _ _ _ h => h) (Or.inl ⟨by rfl, fun wx hSw => by ((try dsimp only at hSw); go_simp)⟩) (by assumption) ?_
  simp only [Act.put, List.getElem_toArray, List.getElem_cons_succ, List.getElem_cons_zero, List.setIfInBounds_toArray, List.set_cons_zero, List.set_cons_succ]
  refine wpAnyH_take (i := 8) (v := (.pointer (some ⟨b, o + 2, none⟩))) rfl (by kernel_rfl) (by kernel_rfl) (by kernel_rfl) (fun _ _ _ h => h) (Or.inl ⟨by rfl, fun wx hSw => by ((try dsimp only at hSw); go_simp)⟩) (by assumption) ?_
  simp only [Act.put, List.getElem_toArray, List.getElem_cons_succ, List.getElem_cons_zero, List.setIfInBounds_toArray, List.set_cons_zero, List.set_cons_succ]
  refine wpAnyH_take (i := 9) (v := (.pointer (some ⟨b, o, none⟩))) rfl (by kernel_rfl) (by kernel_rfl) (by kernel_rfl) (fun _ _ _ h => h) (Or.inl ⟨by rfl, fun wx hSw => by kernel_rfl⟩) (by assumption) ?_
  simp only [Act.put, List.getElem_toArray, List.getElem_cons_succ, List.getElem_cons_zero, List.setIfInBounds_toArray, List.set_cons_zero, List.set_cons_succ]
  refine wpAnyH_take (i := 10) (v := (.pointer (some ⟨b, o, none⟩))) rfl (by kernel_rfl) (by kernel_rfl) (by kernel_rfl) (fun _ _ _ h => h) (Or.inl ⟨by rfl, fun wx hSw => by ((try dsimp only at hSw); go_simp)⟩) (by assumption) ?_
  simp only [Act.put, List.getElem_toArray, List.getElem_cons_succ, List.getElem_cons_zero, List.setIfInBounds_toArray, List.set_cons_zero, List.set_cons_succ]
  refine wpAnyH_take (i := 11) (v := (.pointer (some ⟨b, o + 3, none⟩))) rfl (by kernel_rfl) (by kernel_rfl) (by kernel_rfl) (fun _ _ _ h => h) (Or.inl ⟨by rfl, fun wx hSw => by ((try dsimp only at hSw); go_simp)⟩) (by assumption) ?_
  simp only [Act.put, List.getElem_toArray, List.getElem_cons_succ, List.getElem_cons_zero, List.setIfInBounds_toArray, List.set_cons_zero, List.set_cons_succ]
  refine wpAnyH_ready (rs := [12]) (by kernel_rfl) (by simp) ?_
  refine AllReadyH.cons rfl (fun K hK => ?_) AllReadyH.nil
  rw [if_pos (by rfl)]
  refine wp_valD (.slice (some ⟨w.heap.size, 0, none⟩) 4 4) (w.drew.alloc (.cells #[.pointer (some ⟨b, o, none⟩), .pointer (some ⟨b, o + 1, none⟩), .pointer (some ⟨b, o + 2, none⟩), .pointer (some ⟨b, o + 3, none⟩)] 110)) (by kernel_rfl) ?_
  refine hK.out _ _ trivial (fun hHeld => ?_)
  clear hK K
  try simp only [Act.put, List.getElem_toArray, List.getElem_cons_succ, List.getElem_cons_zero, List.setIfInBounds_toArray, List.set_cons_zero, List.set_cons_succ]
  refine wpAnyH_take (i := 13) (v := (.slice (some ⟨w.heap.size, 0, none⟩) 4 4)) rfl (by kernel_rfl) (by kernel_rfl) (by kernel_rfl) (fun _ _ _ h => h) (Or.inl ⟨by rfl, fun wx hSw => by kernel_rfl⟩) (by assumption) ?_
  simp only [Act.put, List.getElem_toArray, List.getElem_cons_succ, List.getElem_cons_zero, List.setIfInBounds_toArray, List.set_cons_zero, List.set_cons_succ]
  refine wpAnyH_done (by kernel_rfl) ?_ _
  go_wp2
  go_ret
  exact ⟨rfl, rfl⟩
set_option maxRecDepth 10000 in
theorem owedNumbers_any (w : World) (b o : Nat) : Calls Tryz.prog 45 #[.pointer (some ⟨b, o, none⟩)] w fun e w' => e = .returned (.slice (some ⟨w.heap.size, 0, none⟩) 7 7) ∧ w' = w.drew.alloc (.cells (ptrs b o 7).toArray 110) := by
  go_enter Tryz.func45, Tryz.ntmps45
  go_upto_region 1 with fail
  refine wp_region_held_drew (S := fun _ => True) (by kernel_rfl) trivial (fun hHeld => ?_)
  refine wpAnyH_take (i := 0) (v := (.pointer (some ⟨b, o, none⟩))) rfl (by kernel_rfl) (by kernel_rfl) (by kernel_rfl) (fun _ _ _ h => h) (Or.inl ⟨by rfl, fun wx hSw => by kernel_rfl⟩) (by assumption) ?_
  simp only [Act.put, List.getElem_toArray, List.getElem_cons_zero, List.setIfInBounds_toArray, List.set_cons_zero, List.set_cons_succ]
  refine wpAnyH_take (i := 1) (v := (.pointer (some ⟨b, o, none⟩))) rfl (by kernel_rfl) (by kernel_rfl) (by kernel_rfl) (fun _ _ _ h => h) (Or.inl ⟨by rfl, fun wx hSw => by ((try dsimp only at hSw); go_simp)⟩) (by assumption) ?_
  simp only [Act.put, List.getElem_toArray, List.getElem_cons_succ, List.getElem_cons_zero, List.setIfInBounds_toArray, List.set_cons_zero, List.set_cons_succ]
  refine wpAnyH_take (i := 2) (v := (.pointer (some ⟨b, o, none⟩))) rfl (by kernel_rfl) (by kernel_rfl) (by kernel_rfl) (fun _ _ _ h => h) (Or.inl ⟨by rfl, fun wx hSw => by ((try dsimp only at hSw); go_simp)⟩) (by assumption) ?_
  simp only [Act.put, List.getElem_toArray, List.getElem_cons_succ, List.getElem_cons_zero, List.setIfInBounds_toArray, List.set_cons_zero, List.set_cons_succ]
  refine wpAnyH_take (i := 3) (v := (.pointer (some ⟨b, o, none⟩))) rfl (by kernel_rfl) (by kernel_rfl) (by kernel_rfl) (fun _ _ _ h => h) (Or.inl ⟨by rfl, fun wx hSw => by kernel_rfl⟩) (by assumption) ?_
  simp only [Act.put, List.getElem_toArray, List.getElem_cons_succ, List.getElem_cons_zero, List.setIfInBounds_toArray, List.set_cons_zero, List.set_cons_succ]
  refine wpAnyH_take (i := 4) (v := (.pointer (some ⟨b, o, none⟩))) rfl (by kernel_rfl) (by kernel_rfl) (by kernel_rfl) (fun _ _ _ h => h) (Or.inl ⟨by rfl, fun wx hSw => by ((try dsimp only at hSw); go_simp)⟩) (by assumption) ?_
  simp only [Act.put, List.getElem_toArray, List.getElem_cons_succ, List.getElem_cons_zero, List.setIfInBounds_toArray, List.set_cons_zero, List.set_cons_succ]
  refine wpAnyH_take (i := 5) (v := (.pointer (some ⟨b, o + 1, none⟩))) rfl (by kernel_rfl) (by kernel_rfl) (by kernel_rfl) (fun _ _ _ h => h) (Or.inl ⟨by rfl, fun wx hSw => by ((try dsimp only at hSw); go_simp)⟩) (by assumption) ?_
  simp only [Act.put, List.getElem_toArray, List.getElem_cons_succ, List.getElem_cons_zero, List.setIfInBounds_toArray, List.set_cons_zero, List.set_cons_succ]
  refine wpAnyH_take (i := 6) (v := (.pointer (some ⟨b, o, none⟩))) rfl (by kernel_rfl) (by kernel_rfl) (by kernel_rfl) (fun _ _ _ h => h) (Or.inl ⟨by rfl, fun wx hSw => by kernel_rfl⟩) (by assumption) ?_
  simp only [Act.put, List.getElem_toArray, List.getElem_cons_succ, List.getElem_cons_zero, List.setIfInBounds_toArray, List.set_cons_zero, List.set_cons_succ]
  refine wpAnyH_take (i := 7) (v := (.pointer (some ⟨b, o, none⟩))) rfl (by kernel_rfl) (by kernel_rfl) (by kernel_rfl) (fun _ _ _ h => h) (Or.inl ⟨by rfl, fun wx hSw => by ((try dsimp only at hSw); go_simp)⟩) (by assumption) ?_
  simp only [Act.put, List.getElem_toArray, List.getElem_cons_succ, List.getElem_cons_zero, List.setIfInBounds_toArray, List.set_cons_zero, List.set_cons_succ]
  refine wpAnyH_take (i := 8) (v := (.pointer (some ⟨b, o + 2, none⟩))) rfl (by kernel_rfl) (by kernel_rfl) (by kernel_rfl) (fun _ _ _ h => h) (Or.inl ⟨by rfl, fun wx hSw => by ((try dsimp only at hSw); go_simp)⟩) (by assumption) ?_
  simp only [Act.put, List.getElem_toArray, List.getElem_cons_succ, List.getElem_cons_zero, List.setIfInBounds_toArray, List.set_cons_zero, List.set_cons_succ]
  refine wpAnyH_take (i := 9) (v := (.pointer (some ⟨b, o, none⟩))) rfl (by kernel_rfl) (by kernel_rfl) (by kernel_rfl) (fun _ _ _ h => h) (Or.inl ⟨by rfl, fun wx hSw => by kernel_rfl⟩) (by assumption) ?_
  simp only [Act.put, List.getElem_toArray, List.getElem_cons_succ, List.getElem_cons_zero, List.setIfInBounds_toArray, List.set_cons_zero, List.set_cons_succ]
  refine wpAnyH_take (i := 10) (v := (.pointer (some ⟨b, o, none⟩))) rfl (by kernel_rfl) (by kernel_rfl) (by kernel_rfl) (fun _ _ _ h => h) (Or.inl ⟨by rfl, fun wx hSw => by ((try dsimp only at hSw); go_simp)⟩) (by assumption) ?_
  simp only [Act.put, List.getElem_toArray, List.getElem_cons_succ, List.getElem_cons_zero, List.setIfInBounds_toArray, List.set_cons_zero, List.set_cons_succ]
  refine wpAnyH_take (i := 11) (v := (.pointer (some ⟨b, o + 3, none⟩))) rfl (by kernel_rfl) (by kernel_rfl) (by kernel_rfl) (fun _ _ _ h => h) (Or.inl ⟨by rfl, fun wx hSw => by ((try dsimp only at hSw); go_simp)⟩) (by assumption) ?_
  simp only [Act.put, List.getElem_toArray, List.getElem_cons_succ, List.getElem_cons_zero, List.setIfInBounds_toArray, List.set_cons_zero, List.set_cons_succ]
  refine wpAnyH_take (i := 12) (v := (.pointer (some ⟨b, o, none⟩))) rfl (by kernel_rfl) (by kernel_rfl) (by kernel_rfl) (fun _ _ _ h => h) (Or.inl ⟨by rfl, fun wx hSw => by kernel_rfl⟩) (by assumption) ?_
  simp only [Act.put, List.getElem_toArray, List.getElem_cons_succ, List.getElem_cons_zero, List.setIfInBounds_toArray, List.set_cons_zero, List.set_cons_succ]
  refine wpAnyH_take (i := 13) (v := (.pointer (some ⟨b, o, none⟩))) rfl (by kernel_rfl) (by kernel_rfl) (by kernel_rfl) (fun _ _ _ h => h) (Or.inl ⟨by rfl, fun wx hSw => by ((try dsimp only at hSw); go_simp)⟩) (by assumption) ?_
  simp only [Act.put, List.getElem_toArray, List.getElem_cons_succ, List.getElem_cons_zero, List.setIfInBounds_toArray, List.set_cons_zero, List.set_cons_succ]
  refine wpAnyH_take (i := 14) (v := (.pointer (some ⟨b, o + 4, none⟩))) rfl (by kernel_rfl) (by kernel_rfl) (by kernel_rfl) (fun _ _ _ h => h) (Or.inl ⟨by rfl, fun wx hSw => by ((try dsimp only at hSw); go_simp)⟩) (by assumption) ?_
  simp only [Act.put, List.getElem_toArray, List.getElem_cons_succ, List.getElem_cons_zero, List.setIfInBounds_toArray, List.set_cons_zero, List.set_cons_succ]
  refine wpAnyH_take (i := 15) (v := (.pointer (some ⟨b, o, none⟩))) rfl (by kernel_rfl) (by kernel_rfl) (by kernel_rfl) (fun _ _ _ h => h) (Or.inl ⟨by rfl, fun wx hSw => by kernel_rfl⟩) (by assumption) ?_
  simp only [Act.put, List.getElem_toArray, List.getElem_cons_succ, List.getElem_cons_zero, List.setIfInBounds_toArray, List.set_cons_zero, List.set_cons_succ]
  refine wpAnyH_take (i := 16) (v := (.pointer (some ⟨b, o, none⟩))) rfl (by kernel_rfl) (by kernel_rfl) (by kernel_rfl) (fun _ _ _ h => h) (Or.inl ⟨by rfl, fun wx hSw => by ((try dsimp only at hSw); go_simp)⟩) (by assumption) ?_
  simp only [Act.put, List.getElem_toArray, List.getElem_cons_succ, List.getElem_cons_zero, List.setIfInBounds_toArray, List.set_cons_zero, List.set_cons_succ]
  refine wpAnyH_take (i := 17) (v := (.pointer (some ⟨b, o + 5, none⟩))) rfl (by kernel_rfl) (by kernel_rfl) (by kernel_rfl) (fun _ _ _ h => h) (Or.inl ⟨by rfl, fun wx hSw => by ((try dsimp only at hSw); go_simp)⟩) (by assumption) ?_
  simp only [Act.put, List.getElem_toArray, List.getElem_cons_succ, List.getElem_cons_zero, List.setIfInBounds_toArray, List.set_cons_zero, List.set_cons_succ]
  refine wpAnyH_take (i := 18) (v := (.pointer (some ⟨b, o, none⟩))) rfl (by kernel_rfl) (by kernel_rfl) (by kernel_rfl) (fun _ _ _ h => h) (Or.inl ⟨by rfl, fun wx hSw => by kernel_rfl⟩) (by assumption) ?_
  simp only [Act.put, List.getElem_toArray, List.getElem_cons_succ, List.getElem_cons_zero, List.setIfInBounds_toArray, List.set_cons_zero, List.set_cons_succ]
  refine wpAnyH_take (i := 19) (v := (.pointer (some ⟨b, o, none⟩))) rfl (by kernel_rfl) (by kernel_rfl) (by kernel_rfl) (fun _ _ _ h => h) (Or.inl ⟨by rfl, fun wx hSw => by ((try dsimp only at hSw); go_simp)⟩) (by assumption) ?_
  simp only [Act.put, List.getElem_toArray, List.getElem_cons_succ, List.getElem_cons_zero, List.setIfInBounds_toArray, List.set_cons_zero, List.set_cons_succ]
  refine wpAnyH_take (i := 20) (v := (.pointer (some ⟨b, o + 6, none⟩))) rfl (by kernel_rfl) (by kernel_rfl) (by kernel_rfl) (fun _ _ _ h => h) (Or.inl ⟨by rfl, fun wx hSw => by ((try dsimp only at hSw); go_simp)⟩) (by assumption) ?_
  simp only [Act.put, List.getElem_toArray, List.getElem_cons_succ, List.getElem_cons_zero, List.setIfInBounds_toArray, List.set_cons_zero, List.set_cons_succ]
  refine wpAnyH_ready (rs := [21]) (by kernel_rfl) (by simp) ?_
  refine AllReadyH.cons rfl (fun K hK => ?_) AllReadyH.nil
  rw [if_pos (by rfl)]
  refine wp_valD (.slice (some ⟨w.heap.size, 0, none⟩) 7 7) (w.drew.alloc (.cells #[.pointer (some ⟨b, o, none⟩), .pointer (some ⟨b, o + 1, none⟩), .pointer (some ⟨b, o + 2, none⟩), .pointer (some ⟨b, o + 3, none⟩), .pointer (some ⟨b, o + 4, none⟩), .pointer (some ⟨b, o + 5, none⟩), .pointer (some ⟨b, o + 6, none⟩)] 110)) (by kernel_rfl) ?_
  refine hK.out _ _ trivial (fun hHeld => ?_)
  clear hK K
  try simp only [Act.put, List.getElem_toArray, List.getElem_cons_succ, List.getElem_cons_zero, List.setIfInBounds_toArray, List.set_cons_zero, List.set_cons_succ]
  refine wpAnyH_take (i := 22) (v := (.slice (some ⟨w.heap.size, 0, none⟩) 7 7)) rfl (by kernel_rfl) (by kernel_rfl) (by kernel_rfl) (fun _ _ _ h => h) (Or.inl ⟨by rfl, fun wx hSw => by kernel_rfl⟩) (by assumption) ?_
  simp only [Act.put, List.getElem_toArray, List.getElem_cons_succ, List.getElem_cons_zero, List.setIfInBounds_toArray, List.set_cons_zero, List.set_cons_succ]
  refine wpAnyH_done (by kernel_rfl) ?_ _
  go_wp2
  go_ret
  exact ⟨rfl, rfl⟩
set_option maxRecDepth 10000 in
theorem entryNumbers_any (w : World) (b o : Nat) : Calls Tryz.prog 47 #[.pointer (some ⟨b, o, none⟩)] w fun e w' => e = .returned (.slice (some ⟨w.heap.size, 0, none⟩) 3 3) ∧ w' = w.drew.alloc (.cells (ptrs b o 3).toArray 110) := by
  go_enter Tryz.func47, Tryz.ntmps47
  go_upto_region 1 with fail
  refine wp_region_held_drew (S := fun _ => True) (by kernel_rfl) trivial (fun hHeld => ?_)
  refine wpAnyH_take (i := 0) (v := (.pointer (some ⟨b, o, none⟩))) rfl (by kernel_rfl) (by kernel_rfl) (by kernel_rfl) (fun _ _ _ h => h) (Or.inl ⟨by rfl, fun wx hSw => by kernel_rfl⟩) (by assumption) ?_
  simp only [Act.put, List.getElem_toArray, List.getElem_cons_zero, List.setIfInBounds_toArray, List.set_cons_zero, List.set_cons_succ]
  refine wpAnyH_take (i := 1) (v := (.pointer (some ⟨b, o, none⟩))) rfl (by kernel_rfl) (by kernel_rfl) (by kernel_rfl) (fun _ _ _ h => h) (Or.inl ⟨by rfl, fun wx hSw => by ((try dsimp only at hSw); go_simp)⟩) (by assumption) ?_
  simp only [Act.put, List.getElem_toArray, List.getElem_cons_succ, List.getElem_cons_zero, List.setIfInBounds_toArray, List.set_cons_zero, List.set_cons_succ]
  refine wpAnyH_take (i := 2) (v := (.pointer (some ⟨b, o, none⟩))) rfl (by kernel_rfl) (by kernel_rfl) (by kernel_rfl) (fun _ _ _ h => h) (Or.inl ⟨by rfl, fun wx hSw => by ((try dsimp only at hSw); go_simp)⟩) (by assumption) ?_
  simp only [Act.put, List.getElem_toArray, List.getElem_cons_succ, List.getElem_cons_zero, List.setIfInBounds_toArray, List.set_cons_zero, List.set_cons_succ]
  refine wpAnyH_take (i := 3) (v := (.pointer (some ⟨b, o, none⟩))) rfl (by kernel_rfl) (by kernel_rfl) (by kernel_rfl) (fun _ _ _ h => h) (Or.inl ⟨by rfl, fun wx hSw => by kernel_rfl⟩) (by assumption) ?_
  simp only [Act.put, List.getElem_toArray, List.getElem_cons_succ, List.getElem_cons_zero, List.setIfInBounds_toArray, List.set_cons_zero, List.set_cons_succ]
  refine wpAnyH_take (i := 4) (v := (.pointer (some ⟨b, o, none⟩))) rfl (by kernel_rfl) (by kernel_rfl) (by kernel_rfl) (fun _ _ _ h => h) (Or.inl ⟨by rfl, fun wx hSw => by ((try dsimp only at hSw); go_simp)⟩) (by assumption) ?_
  simp only [Act.put, List.getElem_toArray, List.getElem_cons_succ, List.getElem_cons_zero, List.setIfInBounds_toArray, List.set_cons_zero, List.set_cons_succ]
  refine wpAnyH_take (i := 5) (v := (.pointer (some ⟨b, o + 1, none⟩))) rfl (by kernel_rfl) (by kernel_rfl) (by kernel_rfl) (fun _ _ _ h => h) (Or.inl ⟨by rfl, fun wx hSw => by ((try dsimp only at hSw); go_simp)⟩) (by assumption) ?_
  simp only [Act.put, List.getElem_toArray, List.getElem_cons_succ, List.getElem_cons_zero, List.setIfInBounds_toArray, List.set_cons_zero, List.set_cons_succ]
  refine wpAnyH_take (i := 6) (v := (.pointer (some ⟨b, o, none⟩))) rfl (by kernel_rfl) (by kernel_rfl) (by kernel_rfl) (fun _ _ _ h => h) (Or.inl ⟨by rfl, fun wx hSw => by kernel_rfl⟩) (by assumption) ?_
  simp only [Act.put, List.getElem_toArray, List.getElem_cons_succ, List.getElem_cons_zero, List.setIfInBounds_toArray, List.set_cons_zero, List.set_cons_succ]
  refine wpAnyH_take (i := 7) (v := (.pointer (some ⟨b, o, none⟩))) rfl (by kernel_rfl) (by kernel_rfl) (by kernel_rfl) (fun _ _ _ h => h) (Or.inl ⟨by rfl, fun wx hSw => by ((try dsimp only at hSw); go_simp)⟩) (by assumption) ?_
  simp only [Act.put, List.getElem_toArray, List.getElem_cons_succ, List.getElem_cons_zero, List.setIfInBounds_toArray, List.set_cons_zero, List.set_cons_succ]
  refine wpAnyH_take (i := 8) (v := (.pointer (some ⟨b, o + 2, none⟩))) rfl (by kernel_rfl) (by kernel_rfl) (by kernel_rfl) (fun _ _ _ h => h) (Or.inl ⟨by rfl, fun wx hSw => by ((try dsimp only at hSw); go_simp)⟩) (by assumption) ?_
  simp only [Act.put, List.getElem_toArray, List.getElem_cons_succ, List.getElem_cons_zero, List.setIfInBounds_toArray, List.set_cons_zero, List.set_cons_succ]
  refine wpAnyH_ready (rs := [9]) (by kernel_rfl) (by simp) ?_
  refine AllReadyH.cons rfl (fun K hK => ?_) AllReadyH.nil
  rw [if_pos (by rfl)]
  refine wp_valD (.slice (some ⟨w.heap.size, 0, none⟩) 3 3) (w.drew.alloc (.cells #[.pointer (some ⟨b, o, none⟩), .pointer (some ⟨b, o + 1, none⟩), .pointer (some ⟨b, o + 2, none⟩)] 110)) (by kernel_rfl) ?_
  refine hK.out _ _ trivial (fun hHeld => ?_)
  clear hK K
  try simp only [Act.put, List.getElem_toArray, List.getElem_cons_succ, List.getElem_cons_zero, List.setIfInBounds_toArray, List.set_cons_zero, List.set_cons_succ]
  refine wpAnyH_take (i := 10) (v := (.slice (some ⟨w.heap.size, 0, none⟩) 3 3)) rfl (by kernel_rfl) (by kernel_rfl) (by kernel_rfl) (fun _ _ _ h => h) (Or.inl ⟨by rfl, fun wx hSw => by kernel_rfl⟩) (by assumption) ?_
  simp only [Act.put, List.getElem_toArray, List.getElem_cons_succ, List.getElem_cons_zero, List.setIfInBounds_toArray, List.set_cons_zero, List.set_cons_succ]
  refine wpAnyH_done (by kernel_rfl) ?_ _
  go_wp2
  go_ret
  exact ⟨rfl, rfl⟩
theorem text_any (w : World) (W : Nat) (txt : List UInt8) (hW : Wr w W txt) (h0 : 0 < txt.length) :
    Calls Tryz.prog 48 #[.pointer (some ⟨W, 0, none⟩)] w fun e w' => e = .returned (.string (bs txt)) ∧ w' = w := by
  obtain ⟨v, hA, ho⟩ := hW
  obtain ⟨g, cap, rfl, _, _⟩ := ho.form h0
  have c0 : w.cell? ⟨W, 0, none⟩ = some (.slice (some ⟨g, 0, none⟩) txt.length cap) := hA.cell 0 rfl
  have hcv : (convert 101 9 (.slice (some ⟨g, 0, none⟩) txt.length cap)).run Tryz.prog w = .ok (.string (bs txt)) w := by
    refine run_convert_bytes_back (P := Tryz.prog) w 101 9 5 ⟨g, 0, none⟩ cap txt Tryz.underlying101 Tryz.underlying5 Tryz.underlying9 ?_
    intro j hj
    rw [Addr.add_lit, Nat.zero_add, ho.cellAt j (by omega)]
    unfold Lib.byteCells
    rw [List.getElem?_map, List.getElem?_eq_getElem hj]
    rfl
  clear hA ho
  go_enter Tryz.func48, Tryz.ntmps48
  go_wp2
  go_ret
  exact ⟨rfl, rfl⟩
end Go.Proofs.YtanndhoimpnhpaaGreatDoor
namespace Go.Proofs.YtanndhoimpnhpaaGreatDoor
open Go.ChangeShapes Go.WideShapes Go.ChangeAt Go.RowKit Lg Cal
theorem LoX.book {w w' : World} {B P Mb : Nat} {t : Ln.Terms} {E : List Ln.Ev} {g : Ln.St} {day : Int} {L L' : List En} {evv bkv bkv' : Value} (h : LoX w B P Mb t E g day L evv bkv) (hb : BkIs w' P bkv' Mb L') (ho : OwnNew w bkv bkv') (hk : Keep (BkS P Mb bkv) w w') : LoX w' B P Mb t E g day L' evv bkv' := by
  have hBl : B < w.heap.size := At.lt (v := .int .i64 t.st) h.ln
  have hS : ∀ x, x < w.heap.size → BkS P Mb bkv' x → BkS P Mb bkv x := fun x hx hs => by
    rcases hs with h1 | h1 | h1
    · exact .inl h1
    · exact .inr (.inl h1)
    · rcases ho with h2 | ⟨b, h2, h3⟩
      · exact .inr (.inr (h2.symm.trans h1))
      · rw [h2] at h1
        injection h1 with h1
        omega
  exact ⟨At.keep (v := .int .i64 t.st) h.ln hk h.nb, hb, own_keep h.ev hk (fun b hb => (h.ne b hb).2), fun x => h.nb (hS B hBl x), fun b hb => ⟨(h.ne b hb).1, fun x => (h.ne b hb).2 (hS b (own_base h.ev hb).2 x)⟩, h.so, h.ok, h.le, h.ot⟩
def IsL (w : World) (B : Nat) (s : Sv) (F : Nat → Prop) : Prop := Lo w B s.t s.l s.g s.day s.L F
theorem IsL.book {w : World} {B : Nat} {sv : Sv} {F : Nat → Prop} (h : IsL w B sv F) (d k a : Int) (ha : ¬ a = 0) (hd : I64 d) (hk : I64 k) (ha2 : I64 a) (hl : sv.L.length + 1 ≤ 5000000000000) : ∃ P, w.cell? ⟨B, 15, none⟩ = some (.pointer (some ⟨P, 0, none⟩)) ∧
    Calls Tryz.prog 81 #[.pointer (some ⟨P, 0, none⟩), .agg #[.int .i64 d, .int .i64 k, .int .i64 a]] w fun e w' => e = .returned (.tuple #[]) ∧ IsL w' B { sv with L := sv.L ++ [⟨d, k, a⟩] } (Wd F w w') ∧ Keep F w w' ∧ w'.cell? ⟨B, 15, none⟩ = some (.pointer (some ⟨P, 0, none⟩)) := by
  obtain ⟨P, Mb, evv, bkv, h1, h2⟩ := h
  refine ⟨P, h1.ln.cell 15 rfl, ?_⟩
  refine (write_any w P bkv Mb sv.L h1.bk hl d k a hd hk ha2).mono ?_
  rintro e w' ⟨rfl, bkv', hb, ho, hkp⟩
  rw [if_neg ha] at hb
  refine ⟨rfl, ⟨P, Mb, evv, bkv', h1.book hb ho hkp, fun b hb2 => ?_⟩, hkp.mono (fun x _ hx => h2 x (.inr (.inl hx))), (h1.book hb ho hkp).ln.cell 15 rfl⟩
  rcases hb2 with h3 | (h3 | h3 | h3) | h3
  · exact .inl (h2 b (.inl h3))
  · exact .inl (h2 b (.inr (.inl (.inl h3))))
  · exact .inl (h2 b (.inr (.inl (.inr (.inl h3)))))
  · rcases ho with h4 | ⟨c, h4, h5⟩
    · exact .inl (h2 b (.inr (.inl (.inr (.inr (h4.symm.trans h3))))))
    · rw [h4] at h3
      injection h3 with h3
      subst h3
      exact .inr ⟨h5, (hb.own h4).2⟩
  · exact .inl (h2 b (.inr (.inr h3)))
theorem IsL.keep {S F : Nat → Prop} {w w' : World} {B : Nat} {sv : Sv} (h : IsL w B sv F) (hk : Keep S w w') (hs : ∀ b, F b → ¬ S b) : IsL w' B sv F := Lo.keep h hk (fun b _ hb => hs b hb)
theorem IsL.at {w : World} {B : Nat} {sv : Sv} {F : Nat → Prop} (h : IsL w B sv F) : ∃ evv bk, At w B (ll sv.t evv sv.g sv.day bk) ∧ F B := by
  obtain ⟨P, Mb, evv, bkv, h1, h2⟩ := h
  exact ⟨_, _, h1.ln, h2 B (.inl rfl)⟩
theorem Pt.made (w : World) (R c d n : Nat) (hR : R < w.heap.size) (hc : c < w.heap.size) : Pt (w.drew.alloc (.cells (ptrs c d n).toArray 110)) R (.slice (some ⟨w.heap.size, 0, none⟩) n n) c d n := by
  refine ⟨_, _, rfl, Nat.le_refl _, fun k hk => ⟨w.heap.size, 0, rfl, ?_, by omega, by omega, ?_⟩⟩
  · show w.heap.size < (w.heap.push _).size
    rw [Array.size_push]
    omega
  · rw [Nat.zero_add]
    exact (At.alloc w.drew (ptrs c d n) 110 k _ (ptrs_at c d n k hk)).1
end Go.Proofs.YtanndhoimpnhpaaGreatDoor
namespace Go.Proofs.YtanndhoimpnhpaaGreatDoor
open Go.ChangeShapes Go.WideShapes Go.ChangeAt Go.RowKit Lg Cal
def RbPost (w : World) (B R b0 : Nat) (s : List UInt8) (sv : Sv) (F : Nat → Prop) (e : Ending) (w' : World) : Prop :=
  Below b0 w w' ∧ ((∃ s' sv', e = .returned (.bool true) ∧ tl 4 (some sv) s = tl 4 (some sv') s' ∧ (¬ ∃ ns r, Nx s' wEntry 3 ns r) ∧ At w' R [.string (bs s')] ∧ IsL w' B sv' (Wd F w w') ∧ Lq s' s ∧ sv'.L.length + s'.length ≤ sv.L.length + s.length ∧ sv'.t = sv.t ∧ sv'.day = sv.day) ∨ (e = .returned (.bool false) ∧ tl 4 (some sv) s = none))
def RbI (w w1 : World) (B R N b0 : Nat) (s : List UInt8) (sv : Sv) (F : Nat → Prop) (wr : World) : Prop :=
  ∃ s1 sv1 x0 x1 x2, tl 4 (some sv) s = tl 4 (some sv1) s1 ∧ At wr R [.string (bs s1)] ∧ At wr N [.int .i64 x0, .int .i64 x1, .int .i64 x2] ∧ IsL wr B sv1 (Wd F w1 wr) ∧ Lq s1 s ∧ sv1.L.length + s1.length ≤ sv.L.length + s.length ∧ sv1.t = sv.t ∧ sv1.day = sv.day ∧ Below b0 w wr ∧ w1.heap.size ≤ wr.heap.size
def rdLen (R : Nat) (w : World) : Nat := match w.cell? ⟨R, 0, none⟩ with
  | some (.string S) => S.size
  | _ => 0
theorem rdLen_at {w : World} {R : Nat} {s : List UInt8} (h : At w R [.string (bs s)]) : rdLen R w = s.length := by
  unfold rdLen
  rw [h.cell 0 rfl]
  exact bs_size s
theorem nx_less {s word : List UInt8} {n : Nat} {ns : List Int} {r : List UInt8} (h : Nx s word n ns r) : r.length < s.length := by
  rw [h.1, List.length_append, List.length_cons]
  omega
theorem reB_iff {t : Ln.Terms} {day d k a : Int} : reB t day d k a = true ↔ (t.st ≤ d ∧ d < day ∧ 1 ≤ k ∧ k ≤ 12 ∧ ¬ a = 0) := by
  unfold reB
  rw [Bool.and_eq_true, Bool.and_eq_true, decide_eq_true_eq, decide_eq_true_eq, decide_eq_true_eq]
  omega
theorem three_of {l : List Int} (h : l.length = 3) : ∃ a0 a1 a2, l = [a0, a1, a2] := by
  match l, h with
  | [a0, a1, a2], _ => exact ⟨a0, a1, a2, rfl⟩
set_option maxRecDepth 10000 in
set_option maxHeartbeats 4000000 in
theorem readbook_any (w : World) (B R b0 : Nat) (s : List UInt8) (sv : Sv) (F : Nat → Prop) (hL : IsL w B sv F) (hR : At w R [.string (bs s)]) (hF : ∀ x, F x → b0 ≤ x ∧ x < w.heap.size ∧ ¬ x = R) (hb0 : b0 ≤ R) (hs : Sh s) (hl : sv.L.length + s.length ≤ 4000000000000) (hd0 : -1000000 ≤ sv.day) (hd1 : sv.day ≤ 1000000) (hg : ∀ wx, Below b0 w wx → Gl wx) :
    Calls Tryz.prog 76 #[.pointer (some ⟨B, 0, none⟩), .pointer (some ⟨R, 0, none⟩)] w (RbPost w B R b0 s sv F) := by
  have hRl : R < w.heap.size := At.lt hR
  have hB1 : Below w.heap.size w (w.alloc (.cells #[.int .i64 0, .int .i64 0, .int .i64 0] 114)) := (Below.refl _ _).alloc (Nat.le_refl _) _
  have hA1 : At (w.alloc (.cells #[.int .i64 0, .int .i64 0, .int .i64 0] 114)) w.heap.size [.int .i64 0, .int .i64 0, .int .i64 0] := At.alloc w [.int .i64 0, .int .i64 0, .int .i64 0] _
  have HI0 : Hid (RbI w (w.alloc (.cells #[.int .i64 0, .int .i64 0, .int .i64 0] 114)) B R w.heap.size b0 s sv F (w.alloc (.cells #[.int .i64 0, .int .i64 0, .int .i64 0] 114))) :=
    ⟨s, sv, 0, 0, 0, rfl, hR.lower hB1, hA1, (hL.keep (S := fun _ => False) (Keep.below hB1) (fun _ _ x => x)).mono (fun _ _ h => .inl h), Lq.refl _, Nat.le_refl _, rfl, rfl, hB1.mono (Nat.le_trans hb0 (Nat.le_of_lt hRl)), Nat.le_refl _⟩
  have hsz : (w.alloc (.cells #[.int .i64 0, .int .i64 0, .int .i64 0] 114)).heap.size = w.heap.size + 1 := by simp
  obtain ⟨N, hN⟩ : ∃ N, N = w.heap.size := ⟨_, rfl⟩
  have HN : Hid (N = w.heap.size) := hN
  have HG : Hid (∀ wx, Below b0 w wx → Gl wx) := hg
  have HF : Hid (∀ x, F x → b0 ≤ x ∧ x < w.heap.size ∧ ¬ x = R) := hF
  have HW1 : Hid ((w.alloc (.cells #[.int .i64 0, .int .i64 0, .int .i64 0] 114)).heap.size = w.heap.size + 1) := hsz
  rw [← hN] at HI0
  clear hL hR hF hg hB1 hA1 hsz
  go_enter Tryz.func76, Tryz.ntmps76
  go_wp2
  rw [← hN]
  clear hN
  generalize w.alloc (.cells #[.int .i64 0, .int .i64 0, .int .i64 0] 114) = w1 at *
  go_loopw [4] (fun _ wr => RbI w w1 B R N b0 s sv F wr) (fun _ wr => rdLen R wr)
  case atStart => exact HI0.out
  case round =>
    clear HI0
    obtain ⟨s1, sv1, x0, x1, x2, htl, hR1, hN1, hL1, hs1, hl1, ht1, hdy1, hb1, hsz1⟩ := hrel
    have hRl1 : R < wr.heap.size := At.lt hR1
    have hNl1 : N < wr.heap.size := At.lt hN1
    have hNR : ¬ N = R := by have := HN.out; omega
    have hB2 : Below wr.heap.size wr (wr.drew.alloc (.cells (ptrs N 0 3).toArray 110)) := (Below.refl _ _).drew.alloc (Nat.le_refl _) _
    have hb2 : Below b0 w (wr.drew.alloc (.cells (ptrs N 0 3).toArray 110)) := hb1.trans (hB2.mono (by omega))
    have hCn := entryNumbers_any wr N 0
    have hRd := read_any (wr.drew.alloc (.cells (ptrs N 0 3).toArray 110)) R s1 wEntry N 0 3 [.int .i64 x0, .int .i64 x1, .int .i64 x2] _ (hR1.lower hB2) (hs1.2 hs) (Pt.made wr R N 0 3 hRl1 hNl1) (hN1.lower hB2) (show 0 + 3 ≤ 3 by decide) hNR (noB_wdk 4 (by omega)) (noL_wdk 4 (by omega)) (by decide) (by omega) (HG.out _ hb2)
    have HR1 : Hid (rdLen R wr = s1.length) := rdLen_at hR1
    have HL2 : Hid (IsL (wr.drew.alloc (.cells (ptrs N 0 3).toArray 110)) B sv1 (Wd F w1 wr)) := hL1.keep (S := fun _ => False) (Keep.below hB2) (fun _ _ x => x)
    have HB2 : Hid (Below b0 w (wr.drew.alloc (.cells (ptrs N 0 3).toArray 110)) ∧ wr.heap.size ≤ (wr.drew.alloc (.cells (ptrs N 0 3).toArray 110)).heap.size) := ⟨hb2, hB2.size⟩
    have HRa : Hid (At (wr.drew.alloc (.cells (ptrs N 0 3).toArray 110)) R [.string (bs s1)]) := hR1.lower hB2
    have HTl : Hid (tl 4 (some sv) s = tl 4 (some sv1) s1) := htl
    have HWd : Hid (∀ x, Wd F w1 wr x → b0 ≤ x ∧ ¬ x = R ∧ ¬ x = N ∧ x < wr.heap.size ∧ (F x ∨ w.heap.size ≤ x)) := fun x hx => by
      have h1 := HN.out
      have h2 := HW1.out
      rcases hx with h | ⟨h3, h4⟩
      · have := HF.out x h
        exact ⟨this.1, this.2.2, by omega, by omega, .inl h⟩
      · exact ⟨by omega, by omega, by omega, h4, .inr (by omega)⟩
    have HEq : Hid (sv1.t = sv.t ∧ sv1.day = sv.day ∧ w1.heap.size ≤ wr.heap.size) := ⟨ht1, hdy1, hsz1⟩
    clear hR1 hN1 hL1 hb1 hB2 hb2 htl ht1 hdy1 hsz1
    go_wp2_with fail
    refine hCn.mono ?_
    rintro e w6 ⟨rfl, rfl⟩
    clear hCn
    generalize wr.drew.alloc (.cells (ptrs N 0 3).toArray 110) = w2 at *
    go_wp2_with fail
    refine hRd.mono ?_
    rintro e w3 hx
    clear hRd
    rcases hx with ⟨ns, r, hnx, rfl, hR3, hN3, hk3⟩ | ⟨hno, rfl, hb3⟩
    · obtain ⟨d, k, a, rfl⟩ := three_of hnx.2.1
      have HNx : Hid (Nx s1 (wdk 4) (cnk 4) [d, k, a] r) := hnx
      have HR3 : Hid (At w3 R [.string (bs r)]) := hR3
      have HN3 : Hid (At w3 N [.int .i64 d, .int .i64 k, .int .i64 a]) := hN3
      have HL3 : Hid (IsL w3 B sv1 (Wd F w1 wr)) := HL2.out.keep hk3 (fun b hb h => by
        have := HWd.out b hb
        rcases h with h | h
        · exact this.2.1 h
        · exact this.2.2.1 h)
      have HB3 : Hid (Below b0 w w3 ∧ wr.heap.size ≤ w3.heap.size) := by
        refine ⟨⟨hk3.os.trans HB2.out.1.os, hk3.tape.trans HB2.out.1.tape, hk3.output.trans HB2.out.1.output, Nat.le_trans HB2.out.1.size hk3.size, fun b hb => (hk3.block b ?_ ?_).trans (HB2.out.1.block b hb)⟩, Nat.le_trans HB2.out.2 hk3.size⟩
        · have := HB2.out.2; omega
        · intro h
          have := HN.out
          rcases h with h | h <;> omega
      obtain ⟨evv, bk, hA3, _⟩ := HL3.out.at
      have hRe := rightentry_any w3 B sv1.t evv sv1.g sv1.day bk hA3 (by rw [HEq.out.2.1]; exact hd0) (by rw [HEq.out.2.1]; exact hd1) d k a
      have hr3 : w3.rangeAt N 0 [.int .i64 d, .int .i64 k, .int .i64 a] := hN3.range
      clear hnx hR3 hN3 hk3 hA3 HL2 HB2
      go_upto_region 3 with fail
      refine wp_region_lit ?_
      refine wpList_val (.pointer (some ⟨B, 0, none⟩)) w3 rfl rfl ?_
      simp only [Act.put, List.setIfInBounds_toArray, List.set_cons_zero, List.set_cons_succ]
      refine wpList_load_mid rfl 114 (.tmp 5) rfl N 0 rfl [.int .i64 d, .int .i64 k, .int .i64 a] _ hr3 Tryz.underlying114 rfl (by kernel_rfl) ?_
      simp only [Act.put, List.setIfInBounds_toArray, List.set_cons_zero, List.set_cons_succ]
      clear hr3
      go_wp2_with fail
      refine hRe.mono ?_
      rintro e w4 ⟨rfl, hb4⟩
      clear hRe
      have HB4 : Hid (Below w3.heap.size w3 w4) := hb4
      clear hb4
      cases hre : reB sv1.t sv1.day d k a with
      | false =>
        have HE : Hid (RbPost w B R b0 s sv F (.returned (.bool false)) w4) := by
          refine ⟨HB3.out.1.trans (HB4.out.mono (by have := HB3.out.2; omega)), .inr ⟨rfl, ?_⟩⟩
          rw [HTl.out]
          refine tl_fail (by omega) HNx.out ?_
          show (some sv1).bind (fun s => s.read 4 [d, k, a]) = none
          show sv1.read 4 [d, k, a] = none
          simp only [Sv.read]
          rw [if_neg (fun h => by rw [reB_iff.2 h] at hre; cases hre)]
        clear hre
        go_wp2
        go_ret
        exact HE.out
      | true =>
        have hcond := reB_iff.1 hre
        have HCond : Hid (sv1.t.st ≤ d ∧ d < sv1.day ∧ 1 ≤ k ∧ k ≤ 12 ∧ ¬ a = 0) := hcond
        have hIn : ∀ m ∈ [d, k, a], InR m := HNx.out.2.2
        have HU : Hid (Below w3.heap.size w3 w4.drew) := HB4.out.drew
        have hLU : IsL w4.drew B sv1 (Wd F w1 wr) := HL3.out.keep (S := fun _ => False) (Keep.below HU.out) (fun _ _ x => x)
        obtain ⟨P, hP, hCw⟩ := hLU.book d k a hcond.2.2.2.2 (hIn d (by simp)) (hIn k (by simp)) (hIn a (by simp)) (by omega)
        have hNU : At w4.drew N [.int .i64 d, .int .i64 k, .int .i64 a] := HN3.out.lower HU.out
        have HRU : Hid (At w4.drew R [.string (bs r)]) := HR3.out.lower HU.out
        have HNU : Hid (At w4.drew N [.int .i64 d, .int .i64 k, .int .i64 a]) := hNU
        have HS0 : Hid (w4.drew.cell? ⟨B, 15, none⟩ = some (.pointer (some ⟨P, 0, none⟩)) ∧ w4.drew.rangeAt N 0 [.int .i64 d, .int .i64 k, .int .i64 a]) := ⟨hP, hNU.range⟩
        clear hre hcond hIn hLU hP hNU
        go_upto_region 5 with fail
        refine wp_region_held_drew (S := fun wx => wx.cell? ⟨B, 15, none⟩ = some (.pointer (some ⟨P, 0, none⟩)) ∧ wx.rangeAt N 0 [.int .i64 d, .int .i64 k, .int .i64 a]) (by kernel_rfl) HS0.out (fun hHeld => ?_)
        generalize w4.drew = U at *
        refine wpAnyH_take (i := 0) (v := (.pointer (some ⟨B, 0, none⟩))) rfl (by kernel_rfl) (by kernel_rfl) (by kernel_rfl) (fun _ _ _ h => h) (Or.inl ⟨by rfl, fun wx hSw => by kernel_rfl⟩) (by assumption) ?_
        simp only [Act.put, List.getElem_toArray, List.getElem_cons_zero, List.setIfInBounds_toArray, List.set_cons_zero, List.set_cons_succ]
        refine wpAnyH_take (i := 1) (v := (.pointer (some ⟨B, 0, none⟩))) rfl (by kernel_rfl) (by kernel_rfl) (by kernel_rfl) (fun _ _ _ h => h) (Or.inl ⟨by rfl, fun wx hSw => by ((try dsimp only at hSw); go_simp)⟩) (by assumption) ?_
        simp only [Act.put, List.getElem_toArray, List.getElem_cons_succ, List.getElem_cons_zero, List.setIfInBounds_toArray, List.set_cons_zero, List.set_cons_succ]
        refine wpAnyH_take (i := 2) (v := (.pointer (some ⟨B, 15, none⟩))) rfl (by kernel_rfl) (by kernel_rfl) (by kernel_rfl) (fun _ _ _ h => h) (Or.inl ⟨by rfl, fun wx hSw => by ((try dsimp only at hSw); go_simp)⟩) (by assumption) ?_
        simp only [Act.put, List.getElem_toArray, List.getElem_cons_succ, List.getElem_cons_zero, List.setIfInBounds_toArray, List.set_cons_zero, List.set_cons_succ]
        refine wpAnyH_take (i := 3) (v := (.pointer (some ⟨P, 0, none⟩))) rfl (by kernel_rfl) (by kernel_rfl) (by kernel_rfl) (fun _ _ _ h => h) (Or.inl ⟨by rfl, fun wx hSw => by (have hc := hSw.1; go_simp)⟩) (by assumption) ?_
        simp only [Act.put, List.getElem_toArray, List.getElem_cons_succ, List.getElem_cons_zero, List.setIfInBounds_toArray, List.set_cons_zero, List.set_cons_succ]
        refine wpAnyH_take (i := 4) (v := (.agg #[.int .i64 d, .int .i64 k, .int .i64 a])) rfl (by kernel_rfl) (by kernel_rfl) (by kernel_rfl) (fun _ _ _ h => h) (yieldsIf_load_mid (by rfl) 114 (.tmp 5) rfl _ _ rfl _ _ (fun _ h => h.2) Tryz.underlying114 rfl (by kernel_rfl)) (by assumption) ?_
        simp only [Act.put, List.getElem_toArray, List.getElem_cons_succ, List.getElem_cons_zero, List.setIfInBounds_toArray, List.set_cons_zero, List.set_cons_succ]
        refine wpAnyH_ready (rs := [5]) (by kernel_rfl) (by simp) ?_
        refine AllReadyH.cons rfl (fun K hK => ?_) AllReadyH.nil
        go_simp
        refine hCw.mono ?_
        rintro e w5 ⟨rfl, hL5, hk5, hc5⟩
        have hNw : ¬ Wd F w1 wr N := fun h => (HWd.out N h).2.2.1 rfl
        have hRw : ¬ Wd F w1 wr R := fun h => (HWd.out R h).2.1 rfl
        have hN5 : At w5 N [.int .i64 d, .int .i64 k, .int .i64 a] := HNU.out.block (hk5.block N (At.lt HNU.out) hNw)
        have hR5 : At w5 R [.string (bs r)] := HRU.out.block (hk5.block R (At.lt HRU.out) hRw)
        have hbU : Below b0 w U := HB3.out.1.trans (HU.out.mono (by have := HB3.out.2; omega))
        have HI5 : Hid (RbI w w1 B R N b0 s sv F w5) := by
          refine ⟨r, _, d, k, a, ?_, hR5, hN5, Lo.mono hL5 (fun x _ hx => ?_), ?_, ?_, HEq.out.1, HEq.out.2.1, ?_, ?_⟩
          · rw [HTl.out]
            refine tl_go (j := 4) (k := 4) (by omega) HNx.out (by decide) ?_
            show sv1.read 4 [d, k, a] = _
            simp only [Sv.read]
            rw [if_pos HCond.out]
          · rcases hx with (h | ⟨h1, h2⟩) | ⟨h1, h2⟩
            · exact .inl h
            · exact .inr ⟨h1, by have := HB3.out.2; have := HU.out.size; have := hk5.size; omega⟩
            · exact .inr ⟨by have := HEq.out.2.2; have := HB3.out.2; have := HU.out.size; omega, h2⟩
          · exact (Lq.nx (noL_wdk 4 (by omega)) HNx.out).trans hs1
          · have := nx_less HNx.out
            show (sv1.L ++ [_]).length + _ ≤ _
            rw [List.length_append, List.length_singleton]
            omega
          · refine ⟨hk5.os.trans hbU.os, hk5.tape.trans hbU.tape, hk5.output.trans hbU.output, Nat.le_trans hbU.size hk5.size, fun b hb => (hk5.block b ?_ ?_).trans (hbU.block b hb)⟩
            · have := HB3.out.2; have := HU.out.size; omega
            · intro h
              have := (HWd.out b h).1
              omega
          · have := HEq.out.2.2; have := HB3.out.2; have := HU.out.size; have := hk5.size; omega
        have HM5 : Hid (rdLen R w5 < rdLen R wr) := by
          show _ < _
          rw [rdLen_at hR5, HR1.out]
          exact nx_less HNx.out
        have hS5 : w5.cell? ⟨B, 15, none⟩ = some (.pointer (some ⟨P, 0, none⟩)) ∧ w5.rangeAt N 0 [.int .i64 d, .int .i64 k, .int .i64 a] := ⟨hc5, hN5.range⟩
        clear hCw hL5 hk5 hc5 hN5 hR5 hbU hNw hRw
        go_wp2_with fail
        refine hK.out _ _ hS5 (fun _ => ?_)
        clear hK K hS5 hHeld
        refine wpAnyH_done (by kernel_rfl) ?_ _
        go_wp2
        exact ⟨HI5.out, HM5.out⟩
    · have HE : Hid (RbPost w B R b0 s sv F (.returned (.bool true)) w3) := by
        refine ⟨HB2.out.1.trans (hb3.mono (by have := HB2.out.2; omega)), .inl ⟨s1, sv1, rfl, HTl.out, hno, ?_, ?_, hs1, hl1, HEq.out.1, HEq.out.2.1⟩⟩
        · exact HRa.out.lower hb3
        · refine Lo.mono (HL2.out.keep (S := fun _ => False) (Keep.below hb3) (fun _ _ x => x)) (fun x _ hx => ?_)
          have h1 := HWd.out x hx
          rcases h1.2.2.2.2 with h | h
          · exact .inl h
          · exact .inr ⟨h, by have := HB2.out.2; have := hb3.size; omega⟩
      clear hno hb3
      go_wp2
      go_ret
      exact HE.out
end Go.Proofs.YtanndhoimpnhpaaGreatDoor
namespace Go.Proofs.YtanndhoimpnhpaaGreatDoor
open Go.ChangeShapes Go.WideShapes Go.RowKit Go.WideMaps Go.Maps Cal
theorem OwnNew.mine {w w' : World} {F : Nat → Prop} {v v' : Value} {T : TypeId} {size n : Nat} {xs : List Value} (h : OwnNew w v v') (hF : ∀ b, v.ownBlock = some b → F b) (ho : w'.ownsRow 0 T size v' n xs) : ∀ b, v'.ownBlock = some b → Wd F w w' b := by
  intro b hb
  rcases h with h | ⟨c, h1, h2⟩
  · exact .inl (hF b (h.symm.trans hb))
  · have : c = b := by rw [h1] at hb; exact Option.some.inj hb
    subst this
    exact .inr ⟨h2, (own_base ho hb).2⟩
theorem addL (w : World) (B : Nat) (t : Ln.Terms) (E : List Ln.Ev) (g : Ln.St) (day : Int) (L : List En) (F : Nat → Prop) (h : Lo w B t E g day L F) (e : Ln.Ev) (hlim : Lim w) :
    Calls Tryz.prog 19 #[.pointer (some ⟨B, 0, none⟩), evV e] w fun x w' => x = .returned (.int .i64 (addC t E e)) ∧ Keep F w w' ∧
      ((¬ addC t E e = 0 ∧ Lo w' B t E g day L (Wd F w w')) ∨ (addC t E e = 0 ∧ ∃ E', E'.Perm (e :: E) ∧ Lo w' B t E' g day L (Wd F w w'))) := by
  obtain ⟨P, Mb, evv, bkv, h1, h2⟩ := h
  refine (add_core w B P Mb t E g day L evv bkv h1 e hlim).mono ?_
  rintro x w' ⟨rfl, ⟨hc, hb⟩ | ⟨hc, i, v', hbel, hA, ho, hon, hk⟩⟩
  · exact ⟨rfl, Keep.below hb, .inl ⟨hc, P, Mb, evv, bkv, h1.keep (S := fun _ => False) (Keep.below hb) (fun _ _ x => x), fun b hb => .inl (h2 b hb)⟩⟩
  · have hcc := hc
    rw [addC_eq] at hcc
    have hf : evF t e = 0 := by
      by_cases hz : evF t e = 0
      · exact hz
      · rw [if_pos hz] at hcc; exact absurd hcc hz
    rw [if_neg (by simp [hf])] at hcc
    have h40 : ¬ 40 ≤ E.length := fun hz => by rw [if_pos hz] at hcc; cases hcc
    rw [if_neg h40] at hcc
    have hs : hasS e.s E = false := by
      cases hz : hasS e.s E with
      | false => rfl
      | true => rw [hz] at hcc; cases hcc
    have hle : (So.insAt e E i).length = E.length + 1 := So.insAt_len e E i hbel.le
    have hfresh : ∀ b, v'.ownBlock = some b → ¬ b = B ∧ ¬ BkS P Mb bkv b := fun b hb => by
      rcases hon with hx | ⟨c, hx1, hx2⟩
      · exact h1.ne b (hx.symm.trans hb)
      · have : c = b := by rw [hx1] at hb; exact Option.some.inj hb
        subst this
        have l1 := h1.foLt B (.inl rfl)
        exact ⟨by omega, fun hbs => by have := h1.foLt c (.inr (.inl hbs)); omega⟩
    have hkF : Keep F w w' := hk.mono (fun b _ hb => hb.elim (fun e => h2 b (.inl e)) (fun e => h2 b (.inr (.inr e))))
    refine ⟨rfl, hkF, .inr ⟨hc, So.insAt e E i, So.insAt_perm e E i, P, Mb, v', bkv, ⟨hA, h1.bk.keep hk (fun b hb hx => ?_), ?_, h1.nb, hfresh, bel_sorted hbel h1.so hs, ?_, by omega, h1.ot⟩, ?_⟩⟩
    · rcases hx with hx | hx
      · subst hx; exact h1.nb hb
      · exact (h1.ne b hx).2 hb
    · rw [hle]; exact ho
    · intro x hx
      rcases List.mem_cons.1 ((So.insAt_perm e E i).mem_iff.1 hx) with rfl | hx
      · exact evF_ok hf
      · exact h1.ok x hx
    · rintro b (rfl | hb | hb)
      · exact .inl (h2 _ (.inl rfl))
      · exact .inl (h2 _ (.inr (.inl hb)))
      · exact hon.mine (fun b hb => h2 b (.inr (.inr hb))) ho b hb
end Go.Proofs.YtanndhoimpnhpaaGreatDoor
