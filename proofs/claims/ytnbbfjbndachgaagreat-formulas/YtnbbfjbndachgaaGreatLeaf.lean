/- The small functions: the signs' kinds, peek, next. -/
import Derived.Test.YtnbbfjbndachgaaGreatFr
namespace Go.Proofs.YtnbbfjbndachgaaGreat
open Go.RowKit

theorem drewN2 (w : World) (n m : Nat) : (w.drewN n).drewN m = w.drewN (n + m) := by rw [World.drewN_drewN]
theorem ret_bool {a b : Bool} (h : a = b) : Ending.returned (.bool a) = .returned (.bool b) := by rw [h]
theorem ret_int {k : IntKind} {a b : Int} (h : a = b) : Ending.returned (.int k a) = .returned (.int k b) := by rw [h]

set_option maxHeartbeats 400000 in
theorem isDigit_any (c : Int) (w : World) : Calls Tryz.prog 177 #[.int .u8 c] w fun e w' => e = .returned (.bool (Fm.digB c)) ∧ w' = w := by
  by_cases h1 : 48 ≤ c <;> by_cases h2 : c ≤ 57
  all_goals
    go_enter Tryz.func177, Tryz.ntmps177
    go_wp2
    go_ret
    exact ⟨ret_bool (by unfold Fm.digB; simp; omega), rfl⟩

set_option maxHeartbeats 400000 in
theorem looksBack_any (c : Int) (w : World) : Calls Tryz.prog 166 #[.int .u8 c] w fun e w' => e = .returned (.bool (Fm.backB c)) ∧ w' = w := by
  by_cases h1 : c = 79
  · subst h1
    go_enter Tryz.func166, Tryz.ntmps166
    go_wp2
    go_ret
    exact ⟨rfl, rfl⟩
  by_cases h2 : c = 72
  · subst h2
    go_enter Tryz.func166, Tryz.ntmps166
    go_wp2
    go_ret
    exact ⟨rfl, rfl⟩
  by_cases h3 : c = 83
  · subst h3
    go_enter Tryz.func166, Tryz.ntmps166
    go_wp2
    go_ret
    exact ⟨rfl, rfl⟩
  have e1 : (c == 79) = false := beq_eq_false_iff_ne.2 h1
  have e2 : (c == 72) = false := beq_eq_false_iff_ne.2 h2
  have e3 : (c == 83) = false := beq_eq_false_iff_ne.2 h3
  go_enter Tryz.func166, Tryz.ntmps166
  go_wp2
  go_ret
  exact ⟨ret_bool (by unfold Fm.backB; simp; omega), rfl⟩

set_option maxHeartbeats 400000 in
theorem looksAhead_any (c : Int) (w : World) : Calls Tryz.prog 80 #[.int .u8 c] w fun e w' => e = .returned (.bool (Fm.aheadB c)) ∧ w' = w := by
  by_cases h1 : c = 70
  · subst h1
    go_enter Tryz.func80, Tryz.ntmps80
    go_wp2
    go_ret
    exact ⟨rfl, rfl⟩
  by_cases h2 : c = 71
  · subst h2
    go_enter Tryz.func80, Tryz.ntmps80
    go_wp2
    go_ret
    exact ⟨rfl, rfl⟩
  by_cases h3 : c = 85
  · subst h3
    go_enter Tryz.func80, Tryz.ntmps80
    go_wp2
    go_ret
    exact ⟨rfl, rfl⟩
  have e1 : (c == 70) = false := beq_eq_false_iff_ne.2 h1
  have e2 : (c == 71) = false := beq_eq_false_iff_ne.2 h2
  have e3 : (c == 85) = false := beq_eq_false_iff_ne.2 h3
  go_enter Tryz.func80, Tryz.ntmps80
  go_wp2
  go_ret
  exact ⟨ret_bool (by unfold Fm.aheadB; simp; omega), rfl⟩

set_option maxHeartbeats 400000 in
theorem standsAlone_any (c : Int) (w : World) : Calls Tryz.prog 116 #[.int .u8 c] w fun e w' => e = .returned (.bool (Fm.aloneB c)) ∧ w' = w := by
  by_cases h1 : c = 116
  · subst h1
    go_enter Tryz.func116, Tryz.ntmps116
    go_wp2
    go_ret
    exact ⟨rfl, rfl⟩
  have e1 : (c == 116) = false := beq_eq_false_iff_ne.2 h1
  by_cases h2 : 48 ≤ c <;> by_cases h3 : c < 56
  all_goals
    go_enter Tryz.func116, Tryz.ntmps116
    go_wp2
    go_ret
    exact ⟨ret_bool (by unfold Fm.aloneB; simp; omega), rfl⟩

set_option maxHeartbeats 1000000 in
theorem standsAhead_any (c : Int) (w : World) : Calls Tryz.prog 117 #[.int .u8 c] w fun e w' => e = .returned (.bool (Fm.unB c)) ∧ w' = w := by
  go_enter Tryz.func117, Tryz.ntmps117
  go_wp2
  all_goals
    go_ret
    exact ⟨ret_bool (by unfold Fm.unB; simp_all), rfl⟩

set_option maxHeartbeats 1000000 in
theorem standsBetween_any (c : Int) (w : World) : Calls Tryz.prog 146 #[.int .u8 c] w fun e w' => e = .returned (.bool (Fm.binB c)) ∧ w' = w := by
  go_enter Tryz.func146, Tryz.ntmps146
  go_wp2
  all_goals
    go_ret
    exact ⟨ret_bool (by unfold Fm.binB; simp_all), rfl⟩

set_option maxHeartbeats 400000 in
theorem peek_any {b : Nat} {s : ByteArray} {p : Nat} {n : Int} {l : List UInt8} (w : World) (h : Rd w b s p n) (ha : Fm.At s p l) (_hs : s.size ≤ maxLen) :
    Calls Tryz.prog 144 #[.pointer (some ⟨b, 0, none⟩)] w fun e w' => e = .returned (.int .u8 (Fm.hd l)) ∧ ∃ k, w' = w.drewN k := by
  unfold maxLen at _hs
  obtain ⟨hlt, c0, c1, c2, f1, f2⟩ := h
  by_cases hp : p < s.size
  · have hh := ha.hd hp
    have hi : (p : Int) < (s.size : Int) := by omega
    have HH : Hid (Fm.hd l = ((s[p]).toNat : Int)) := hh
    clear hh
    go_enter Tryz.func144, Tryz.ntmps144
    go_wp2
    go_quiet (fail)
    go_wp2
    go_quiet (fail)
    go_wp2
    go_ret
    exact ⟨ret_int HH.out.symm, _, drewN2 _ _ _⟩
  · have hl := ha.ge (by omega)
    have hi : ¬ (p : Int) < (s.size : Int) := by omega
    subst hl
    go_enter Tryz.func144, Tryz.ntmps144
    go_wp2
    go_quiet (fail)
    go_wp2
    go_ret
    exact ⟨rfl, _, rfl⟩

/-- Where the place stands behind next. -/
theorem At_next {s : ByteArray} {p : Nat} {l : List UInt8} (ha : Fm.At s p l) : Fm.At s (if p < s.size then p + 1 else p) l.tail := by
  by_cases hp : p < s.size
  · rw [if_pos hp]; exact ha.succ hp
  · rw [if_neg hp]; have := ha.ge (by omega); subst this; exact ha

set_option maxHeartbeats 400000 in
theorem next_any {b : Nat} {s : ByteArray} {p : Nat} {n : Int} {l : List UInt8} (w : World) (h : Rd w b s p n) (ha : Fm.At s p l) (hs : s.size ≤ maxLen) :
    Calls Tryz.prog 115 #[.pointer (some ⟨b, 0, none⟩)] w fun e w' => e = .returned (.int .u8 (Fm.hd l)) ∧ (∃ p', Fm.At s p' l.tail ∧ p ≤ p' ∧ (p < s.size → p' = p + 1) ∧ Rd w' b s p' n) ∧ Fr b w w' := by
  have hrd := h
  have hsz := hs
  unfold maxLen at hs
  obtain ⟨hlt, c0, c1, c2, f1, f2⟩ := h
  by_cases hp : p < s.size
  · have hi : (p : Int) < (s.size : Int) := by omega
    have HA : Hid (Fm.At s (p + 1) l.tail) := ha.succ hp
    go_enter Tryz.func115, Tryz.ntmps115
    go_wp2_with (go_at_call 144; refine (peek_any _ hrd ha hsz).mono ?_; rintro e w' ⟨rfl, k, rfl⟩)
    go_quiet (fail)
    go_wp2
    go_ret
    refine ⟨rfl, ⟨p + 1, HA.out, by omega, fun _ => rfl, ?_⟩, ?_⟩
    · exact (hrd.drewN _).set1 (p + 1)
    · exact ((Fr.refl _ _).drewN _).set _ _
  · have hi : ¬ (p : Int) < (s.size : Int) := by omega
    have HA : Hid (Fm.At s p l.tail) := by have := ha.ge (by omega); subst this; exact ha
    go_enter Tryz.func115, Tryz.ntmps115
    go_wp2_with (go_at_call 144; refine (peek_any _ hrd ha hsz).mono ?_; rintro e w' ⟨rfl, k, rfl⟩)
    go_quiet (fail)
    go_wp2
    go_ret
    refine ⟨rfl, ⟨p, HA.out, by omega, fun h => absurd h hp, ?_⟩, ?_⟩
    · exact (hrd.drewN _).drewN _
    · exact ((Fr.refl _ _).drewN _).drewN _

end Go.Proofs.YtnbbfjbndachgaaGreat
