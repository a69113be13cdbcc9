/- The reader's number. -/
import Derived.Test.YtnbbfjbndachgaaGreatLeaf
namespace Go.Proofs.YtnbbfjbndachgaaGreat
open Go.RowKit

theorem num_dig {g : Bool} {v : Nat} {l : List UInt8} (h : Fm.digB (Fm.hd l) = true) (hz : (g && v == 0) = false) (hb : v * 10 + ((Fm.hd l).toNat - 48) ≤ 1000) :
    Fm.num g v l = Fm.num true (v * 10 + ((Fm.hd l).toNat - 48)) l.tail := by
  cases l with
  | nil => simp [Fm.hd, Fm.digB] at h
  | cons c r =>
    simp only [Fm.hd] at h hb ⊢
    rw [Fm.num, if_pos h, hz, if_neg (by simp), if_neg (by simpa using hb)]
    simp
theorem num_big {g : Bool} {v : Nat} {l : List UInt8} (h : Fm.digB (Fm.hd l) = true) (hb : 1000 < v * 10 + ((Fm.hd l).toNat - 48)) :
    Fm.num g v l = none := by
  cases l with
  | nil => simp [Fm.hd, Fm.digB] at h
  | cons c r =>
    simp only [Fm.hd] at h hb
    rw [Fm.num, if_pos h]
    split
    · rfl
    · rw [if_pos (by simpa using hb)]
theorem num_zero {v : Nat} {l : List UInt8} (h : Fm.digB (Fm.hd l) = true) (hv : v = 0) : Fm.num true v l = none := by
  cases l with
  | nil => simp [Fm.hd, Fm.digB] at h
  | cons c r =>
    simp only [Fm.hd] at h
    rw [Fm.num, if_pos h, if_pos (by simp [hv])]
theorem num_end {g : Bool} {v : Nat} {l : List UInt8} (h : Fm.digB (Fm.hd l) = false) : Fm.num g v l = if g then some (v, l) else none := by
  cases l with
  | nil => rfl
  | cons c r =>
    simp only [Fm.hd] at h
    rw [Fm.num, h, if_neg (by simp)]

/-- What is left behind 'number'. -/
def NumPost (b : Nat) (s : ByteArray) (n : Int) (e : Ending) (w' : World) : Option (Nat × List UInt8) → Prop
  | some (v, l') => e = .returned (.tuple #[.int .i64 v, .bool true]) ∧ v ≤ 1000 ∧ ∃ p', Fm.At s p' l' ∧ Rd w' b s p' n
  | none => ∃ x : Int, e = .returned (.tuple #[.int .i64 x, .bool false])

set_option maxHeartbeats 1000000 in
theorem number_any {b : Nat} {s : ByteArray} {p : Nat} {n : Int} {l : List UInt8} (w : World) (h : Rd w b s p n) (ha : Fm.At s p l) (hs : s.size ≤ maxLen) :
    Calls Tryz.prog 167 #[.pointer (some ⟨b, 0, none⟩)] w fun e w' => NumPost b s n e w' (Fm.num false 0 l) ∧ Fr b w w' := by
  have hrd := h
  have hsz := hs
  unfold maxLen at hs
  obtain ⟨hlt, c0, c1, c2, f1, f2⟩ := h
  have hple := ha.le
  go_enter Tryz.func167, Tryz.ntmps167
  go_wp2
  go_loopg [5] s.size (fun k t wr => ∃ (v q : Nat) (l1 : List UInt8), t = .int .i64 v ∧ v ≤ 1000 ∧ Fm.At s q l1 ∧ p ≤ q ∧ k + q = s.size + p ∧ Rd wr b s q n ∧ Fm.num (decide (p < q)) v l1 = Fm.num false 0 l ∧ Fr b w wr)
  case atStart => exact ⟨0, p, l, rfl, by omega, ha, Nat.le_refl _, rfl, hrd, by simp, Fr.refl _ _⟩
  case round =>
    obtain ⟨v, q, l1, rfl, hv, ha1, hpq, hk, hrd1, hnum, hfr⟩ := hrel
    have Hn := hide hnum
    clear hnum c0 c1 c2 f1 f2
    have hrd1' := hrd1
    obtain ⟨hlt1, d0, d1, d2, g1, g2⟩ := hrd1'
    cases hd : Fm.digB (Fm.hd l1) with
    | false =>
      have Hpost : Hid (∀ w2, Rd w2 b s q n → NumPost b s n (.returned (.tuple #[.int .i64 v, .bool (decide (p < q))])) w2 (Fm.num false 0 l)) := by
        intro w2 h2
        rw [← unhide Hn, num_end hd]
        by_cases hpq' : p < q
        · simp only [hpq', decide_true, if_true]; exact ⟨rfl, hv, q, ha1, h2⟩
        · simp only [hpq', decide_false]; exact ⟨_, rfl⟩
      by_cases hpq' : p < q
      · have hi : (p : Int) < (q : Int) := by omega
        go_wp2_with (first | (go_at_call 144; refine (peek_any _ hrd1 ha1 hsz).mono ?_; rintro e w' ⟨rfl, k, rfl⟩) | (go_at_call 177; refine (isDigit_any _ _).mono ?_; rintro e w' ⟨rfl, rfl⟩))
        go_quiet (fail)
        go_wp2
        go_ret2
        have := unhide Hpost _ ((hrd1.drewN k).drewN nq)
        simp only [hpq', decide_true] at this
        exact ⟨this, (hfr.drewN _).drewN _⟩
      · have hi : ¬ (p : Int) < (q : Int) := by omega
        have hi' : decide ((p : Int) < (q : Int)) = false := by simpa using hi
        go_wp2_with (first | (go_at_call 144; refine (peek_any _ hrd1 ha1 hsz).mono ?_; rintro e w' ⟨rfl, k, rfl⟩) | (go_at_call 177; refine (isDigit_any _ _).mono ?_; rintro e w' ⟨rfl, rfl⟩))
        go_quiet (fail)
        go_wp2
        go_ret2
        have := unhide Hpost _ ((hrd1.drewN k).drewN nq)
        simp only [hpq', decide_false] at this
        exact ⟨this, (hfr.drewN _).drewN _⟩
    | true =>
      have hcc : 48 ≤ Fm.hd l1 ∧ Fm.hd l1 ≤ 57 := by simpa [Fm.digB] using hd
      obtain ⟨hc1, hc2⟩ := hcc
      have hq : q < s.size := by
        rcases Nat.lt_or_ge q s.size with h | h
        · exact h
        · have := ha1.ge h; subst this; simp [Fm.hd] at hc1
      by_cases hz : p < q ∧ v = 0
      · obtain ⟨hz1, hz2⟩ := hz
        have hi : (p : Int) < (q : Int) := by omega
        have Hnone : Hid (Fm.num false 0 l = none) := by
          rw [Hid, ← unhide Hn]; simp only [hz1, decide_true]; exact num_zero hd hz2
        subst hz2
        go_wp2_with (first | (go_at_call 144; refine (peek_any _ hrd1 ha1 hsz).mono ?_; rintro e w' ⟨rfl, k, rfl⟩) | (go_at_call 177; refine (isDigit_any _ _).mono ?_; rintro e w' ⟨rfl, rfl⟩))
        go_ret2
        rw [unhide Hnone]
        exact ⟨⟨_, rfl⟩, hfr.drewN _⟩
      · obtain ⟨m, hm⟩ : ∃ m : Nat, m = v * 10 + ((Fm.hd l1).toNat - 48) := ⟨_, rfl⟩
        have hg : (decide (p < q) && v == 0) = false := by
          by_cases h : p < q
          · simp only [h, decide_true, Bool.true_and]; exact beq_eq_false_iff_ne.2 (fun e => hz ⟨h, e⟩)
          · simp [h]
        have Hbig : Hid (1000 < m → Fm.num false 0 l = none) := fun h => by rw [← unhide Hn]; exact num_big hd (by rw [← hm]; exact h)
        have Hgo : Hid (m ≤ 1000 → ∀ q', q' = q + 1 → Fm.num (decide (p < q')) m l1.tail = Fm.num false 0 l) := fun h q' e => by
          rw [← unhide Hn, num_dig hd hg (by rw [← hm]; exact h), ← hm]; simp [show p < q' by omega]
        have Hm : Hid ((m : Int) = v * 10 + (Fm.hd l1 - 48)) := by show (m : Int) = _; omega
        clear hm hg
        by_cases hpq' : p < q
        all_goals
          first
          | have hi : (p : Int) < (q : Int) := by omega
          | (have hi : ¬ (p : Int) < (q : Int) := by omega
             have hi' : decide ((p : Int) < (q : Int)) = false := by simpa using hi)
          have hv0 : p < q → ((v : Int) == 0) = false := fun h => beq_eq_false_iff_ne.2 (by omega)
          try (have hv0 := hv0 hpq')
          clear hz
          go_wp2_with (first | (go_at_call 144; refine (peek_any _ hrd1 ha1 hsz).mono ?_; rintro e w' ⟨rfl, k, rfl⟩) | (go_at_call 177; refine (isDigit_any _ _).mono ?_; rintro e w' ⟨rfl, rfl⟩) | (go_at_call 115; refine (next_any _ (hrd1.drewN _) ha1 hsz).mono ?_; rintro e w' ⟨rfl, ⟨q', ha2, hq2, hq3, hrd2⟩, hfr2⟩))
          · go_ret2
            have := unhide Hm
            rw [unhide Hbig (by omega)]
            exact ⟨⟨_, rfl⟩, (hfr.drewN _).trans hfr2⟩
          · have hq3 := hq3 hq
            have hmm := unhide Hm
            go_roundg (gk - 1)
            case measure => omega
            case rel => exact ⟨m, q', l1.tail, by rw [hmm], by omega, ha2, by omega, by omega, hrd2, unhide Hgo (by omega) q' hq3, (hfr.drewN _).trans hfr2⟩

end Go.Proofs.YtnbbfjbndachgaaGreat
