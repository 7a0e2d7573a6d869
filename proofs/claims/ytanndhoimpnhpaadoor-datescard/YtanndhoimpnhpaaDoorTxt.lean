/- Texts of digits as plain lists of bytes: whether all are digits, and their number. -/
namespace Go.Proofs.YtanndhoimpnhpaaDoor.Txt

def dg (c : UInt8) : Bool := decide (48 ≤ c.toNat) && decide (c.toNat ≤ 57)
def allD (l : List UInt8) : Bool := l.all dg
def dval (l : List UInt8) : Int := l.foldl (fun n c => 10 * n + (c.toNat : Int) - 48) 0
def dok (s : ByteArray) : Bool := allD s.data.toList
def dnum (s : ByteArray) : Int := if dok s then dval s.data.toList else 0

theorem dg_yes {c : UInt8} (a : 48 ≤ (c.toNat : Int)) (b : (c.toNat : Int) ≤ 57) : dg c = true := by simp [dg]; omega
theorem dg_no {c : UInt8} (a : (c.toNat : Int) < 48 ∨ 57 < (c.toNat : Int)) : dg c = false := by simp [dg]; omega
theorem dg_bd {c : UInt8} (h : dg c = true) : 48 ≤ (c.toNat : Int) ∧ (c.toNat : Int) ≤ 57 := by simp [dg] at h; omega
theorem dval_snoc (l : List UInt8) (c : UInt8) : dval (l ++ [c]) = 10 * dval l + (c.toNat : Int) - 48 := by simp [dval, List.foldl_append]
theorem allD_snoc (l : List UInt8) (c : UInt8) : allD (l ++ [c]) = (allD l && dg c) := by simp [allD]
theorem take_snoc (s : ByteArray) (k : Nat) (h : k < s.size) : s.data.toList.take (k + 1) = s.data.toList.take k ++ [s[k]] := by
  rw [List.take_succ_eq_append_getElem (by simpa using h)]; rfl
theorem take_all (s : ByteArray) (k : Nat) (h : ¬ k < s.size) : s.data.toList.take k = s.data.toList := List.take_of_length_le (by simp; omega)
theorem fold_bd (l : List UInt8) : ∀ n : Int, 0 ≤ n → l.all dg = true → 0 ≤ l.foldl (fun n c => 10 * n + (c.toNat : Int) - 48) n ∧ l.foldl (fun n c => 10 * n + (c.toNat : Int) - 48) n < (n + 1) * 10 ^ l.length := by
  induction l with
  | nil => intro n hn _; simp; omega
  | cons c r ih =>
    intro n hn h
    simp only [List.all_cons, Bool.and_eq_true] at h
    have hb := dg_bd h.1
    have := ih (10 * n + (c.toNat : Int) - 48) (by omega) h.2
    refine ⟨this.1, Int.lt_of_lt_of_le this.2 ?_⟩
    have e : (n + 1) * 10 ^ (c :: r).length = (10 * (n + 1)) * 10 ^ r.length := by
      rw [List.length_cons, Int.pow_succ, Int.mul_comm ((10 : Int) ^ r.length) 10, ← Int.mul_assoc, Int.mul_comm (n + 1) 10]
    rw [e]
    refine Int.mul_le_mul_of_nonneg_right (by omega) (Int.le_of_lt (Int.pow_pos (by decide)))
theorem dval_bd (l : List UInt8) (h : allD l = true) (k : l.length ≤ 10) : 0 ≤ dval l ∧ dval l ≤ 9999999999 := by
  have := fold_bd l 0 (by omega) h
  refine ⟨this.1, ?_⟩
  have h2 : dval l < 10 ^ l.length := by simpa [dval] using this.2
  have h3 : (10 : Int) ^ l.length ≤ 10 ^ 10 := by
    have := Nat.pow_le_pow_right (n := 10) (by decide) k
    exact_mod_cast this
  have : (10 : Int) ^ 10 = 10000000000 := by decide
  omega
theorem dval_lt (l : List UInt8) (h : allD l = true) (n : Nat) (k : l.length = n) : 0 ≤ dval l ∧ dval l < 10 ^ n := by
  have := fold_bd l 0 (by omega) h
  refine ⟨this.1, ?_⟩
  have h2 : dval l < 10 ^ l.length := by simpa [dval] using this.2
  rw [k] at h2
  exact h2
theorem allD_at (s : ByteArray) (k : Nat) (h : k < s.size) (n : dg s[k] = false) : dok s = false := by
  unfold dok allD
  rw [List.all_eq_false]
  exact ⟨s[k], by rw [ByteArray.getElem_eq_getElem_data]; simp, by simp [n]⟩
theorem dnum_yes {s : ByteArray} (h : dok s = true) : dnum s = dval s.data.toList := by simp [dnum, h]
theorem dnum_no {s : ByteArray} (h : dok s = false) : dnum s = 0 := by simp [dnum, h]
theorem dnum_bd (s : ByteArray) (n : Nat) (k : s.size = n) (h : n ≤ 4) : 0 ≤ dnum s ∧ dnum s ≤ 9999 := by
  cases e : dok s with
  | false => rw [dnum_no e]; omega
  | true =>
    rw [dnum_yes e]
    have := dval_lt s.data.toList e n (by simpa using k)
    have h3 : (10 : Int) ^ n ≤ 10 ^ 4 := by
      have := Nat.pow_le_pow_right (n := 10) (by decide) h
      exact_mod_cast this
    have : (10 : Int) ^ 4 = 10000 := by decide
    omega
end Go.Proofs.YtanndhoimpnhpaaDoor.Txt
