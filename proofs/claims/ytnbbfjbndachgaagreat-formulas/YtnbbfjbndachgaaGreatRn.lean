/- A number read by at most five digits is the same number. No program here. -/
import Derived.Test.YtnbbfjbndachgaaGreatFm
namespace Go.Proofs.YtnbbfjbndachgaaGreat.Fm

def rd : Nat → Nat → List UInt8 → Nat × List UInt8
  | 0, v, l => (v, l)
  | _ + 1, v, [] => (v, [])
  | f + 1, v, c :: r => if digB (c.toNat : Int) then rd f (v * 10 + (c.toNat - 48)) r else (v, c :: r)

theorem rd_ge : ∀ (f v : Nat) (l : List UInt8), v ≤ (rd f v l).1
  | 0, v, l => Nat.le_refl _
  | _ + 1, v, [] => Nat.le_refl _
  | f + 1, v, c :: r => by
    rw [rd]; split
    · have := rd_ge f (v * 10 + (c.toNat - 48)) r; omega
    · exact Nat.le_refl _

theorem rd_len : ∀ (f v : Nat) (l : List UInt8), (rd f v l).2.length ≤ l.length
  | 0, v, l => Nat.le_refl _
  | _ + 1, v, [] => Nat.le_refl _
  | f + 1, v, c :: r => by
    rw [rd]; split
    · have := rd_len f (v * 10 + (c.toNat - 48)) r; simp; omega
    · exact Nat.le_refl _

theorem num_rd : ∀ (f v : Nat) (l : List UInt8), 0 < v → v ≤ 1000 → 1000 < v * 10 ^ f → num true v l = if 1000 < (rd f v l).1 then none else some (rd f v l)
  | 0, v, l, h1, h2, h3 => by simp at h3; omega
  | f + 1, v, [], h1, h2, h3 => by rw [rd, num, if_pos rfl, if_neg (by simp; omega)]
  | f + 1, v, c :: r, h1, h2, h3 => by
    rw [rd, num]
    by_cases hd : digB (c.toNat : Int)
    · rw [if_pos hd, if_pos hd, if_neg (by simp; omega)]
      by_cases hb : 1000 < v * 10 + (c.toNat - 48)
      · rw [if_pos hb, if_pos (Nat.lt_of_lt_of_le hb (rd_ge _ _ _))]
      · rw [if_neg hb]
        refine num_rd f _ r (by omega) (by omega) ?_
        have : v * 10 ^ (f + 1) ≤ (v * 10 + (c.toNat - 48)) * 10 ^ f := by
          rw [Nat.pow_succ, Nat.mul_comm (10 ^ f) 10, ← Nat.mul_assoc]
          exact Nat.mul_le_mul_right _ (by omega)
        omega
    · rw [if_neg hd, if_neg hd, if_pos rfl, if_neg (by simp; omega)]

theorem digB_lt {c : UInt8} (h : digB (c.toNat : Int) = true) : 48 ≤ c.toNat ∧ c.toNat ≤ 57 := by
  simp only [digB, decide_eq_true_eq] at h; omega

theorem num_five (l : List UInt8) : num false 0 l = if l.length = (rd 5 0 l).2.length ∨ 1000 < (rd 5 0 l).1 ∨ (hd l = 48 ∧ (rd 5 0 l).2.length + 1 < l.length) then none else some (rd 5 0 l) := by
  cases l with
  | nil => simp [num, rd]
  | cons c r =>
    by_cases hd' : digB (c.toNat : Int)
    · have hc := digB_lt hd'
      rw [num, if_pos hd', if_neg (by simp), if_neg (by omega), rd, if_pos hd', Nat.zero_mul, Nat.zero_add]
      have hl := rd_len 4 (c.toNat - 48) r
      by_cases h0 : c.toNat = 48
      · have e0 : c.toNat - 48 = 0 := by omega
        rw [e0] at hl ⊢
        cases r with
        | nil => simp [num, rd]
        | cons d r =>
          by_cases hd2 : digB (d.toNat : Int)
          · rw [num, if_pos hd2, if_pos (by simp)]
            have hl2 := rd_len 3 (0 * 10 + (d.toNat - 48)) r
            rw [if_pos]
            right; right
            refine ⟨by simp [hd, h0], ?_⟩
            rw [rd, if_pos hd2]
            simp only [List.length_cons]; omega
          · rw [num, if_neg hd2, if_pos rfl, rd, if_neg hd2, if_neg]
            simp
      · have hh : hd (c :: r) ≠ 48 := by simp only [hd]; omega
        rw [num_rd 4 (c.toNat - 48) r (by omega) (by omega) (by omega)]
        by_cases hb : 1000 < (rd 4 (c.toNat - 48) r).1
        · rw [if_pos hb, if_pos (.inr (.inl hb))]
        · rw [if_neg hb, if_neg]
          rintro (h | h | h)
          · simp at h; omega
          · exact hb h
          · exact hh h.1
    · rw [num, if_neg hd', if_neg (by simp), rd, if_neg hd', if_pos (.inl rfl)]

/-- One digit more. -/
theorem rd_step {f v : Nat} {l : List UInt8} (h : digB (hd l) = true) : rd (f + 1) v l = rd f (v * 10 + ((hd l).toNat - 48)) l.tail := by
  cases l with
  | nil => simp [hd, digB] at h
  | cons c r => simp only [hd] at h ⊢; rw [rd, if_pos h]; rfl
theorem rd_stop {f v : Nat} {l : List UInt8} (h : digB (hd l) = false) : rd f v l = (v, l) := by
  cases f with
  | zero => rfl
  | succ f =>
    cases l with
    | nil => rfl
    | cons c r => simp only [hd] at h; rw [rd, h]; rfl

end Go.Proofs.YtnbbfjbndachgaaGreat.Fm
