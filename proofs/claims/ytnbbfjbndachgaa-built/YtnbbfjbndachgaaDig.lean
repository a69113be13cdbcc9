/- Folding a number, digits, an interval's text. -/
import Derived.Test.YtnbbfjbndachgaaLeaf
import Derived.Test.YtnbbfjbndachgaaBt
namespace Go.Proofs.Ytnbbfjbndachgaa
open Go.RowKit

theorem conv_one (w : World) (x : Int) : Sem.run Try.prog (convert 40 9 (.slice (some ⟨w.heap.size, 0, none⟩) 1 1)) (w.alloc (.cells #[.int .u8 x] 5)) = .ok (.string ⟨#[UInt8.ofNat x.toNat]⟩) (w.alloc (.cells #[.int .u8 x] 5)) := by
  rw [run_convert_bytes_string _ 40 9 5 _ _ _ Try.underlying40 Try.underlying5 Try.underlying9]
  rw [run_bytesToString _ _ 1 1 [x] (by simp [loadCells, go_sem])]
  rfl

set_option maxHeartbeats 1000000 in
set_option maxRecDepth 100000 in
theorem digits_nine (n : Nat) (w : World) (hn : n ≤ 9) : Calls Try.prog 10 #[.int .i64 n] w fun e w' => e = .returned (.string ⟨#[UInt8.ofNat (48 + n)]⟩) ∧ Below w.heap.size w w' := by
  have hcv := conv_one
  have He : Hid ((48 + (n : Int)).toNat = 48 + n) := by show _ = _; omega
  have hn' : ¬ (9 : Int) < (n : Int) := by omega
  go_enter Try.func10, Try.ntmps10
  go_wp2_with fail
  go_ret
  exact ⟨rfl, (Below.refl _ _).alloc (Nat.le_refl _) _⟩

theorem toList_app (a b : ByteArray) : (a ++ b).data.toList = a.data.toList ++ b.data.toList := by simp [ByteArray.data_append]
theorem size_app (a b : ByteArray) : (a ++ b).size = a.size + b.size := ByteArray.size_append
theorem size_list (a : ByteArray) : a.data.toList.length = a.size := by simp

def DigOk (n : Nat) : Prop := ∀ (w : World) (x : Int), x = (n : Int) → Calls Try.prog 10 #[.int .i64 x] w fun e w' => (∃ v : ByteArray, e = .returned (.string v) ∧ v.data.toList = Fm.dg n ∧ v.size ≤ 3) ∧ Below w.heap.size w w'

theorem dig_nine {n : Nat} (hn : n ≤ 9) : DigOk n := by
  intro w x hx
  subst hx
  refine (digits_nine n w hn).mono ?_
  rintro e w' ⟨rfl, hB⟩
  exact ⟨⟨_, rfl, by unfold Fm.dg; rw [if_pos hn], by show 1 ≤ 3; omega⟩, hB⟩

set_option maxHeartbeats 1000000 in
set_option maxRecDepth 100000 in
theorem dig_more {n : Nat} (hn : 9 < n) (hn9 : n ≤ 999) (h1 : DigOk (n / 10)) (h2 : DigOk (n % 10)) (he : Fm.dg n = Fm.dg (n / 10) ++ Fm.dg (n % 10)) (hl : (Fm.dg n).length ≤ 3) : DigOk n := by
  intro w x hx
  subst hx
  have hn' : (9 : Int) < (n : Int) := by omega
  have He := hide he
  have Hl := hide hl
  clear he hl
  go_enter Try.func10, Try.ntmps10
  go_wp2_with fail
  refine (h1 _ _ (by omega)).mono ?_
  rintro e w1 ⟨⟨v1, rfl, e1, s1⟩, hB1⟩
  have E1 := hide e1
  clear e1
  go_wp2_with fail
  refine (h2 _ _ (by omega)).mono ?_
  rintro e w2 ⟨⟨v2, rfl, e2, s2⟩, hB2⟩
  have E2 := hide e2
  clear e2
  go_wp2_with fail
  go_ret
  have et : (v1 ++ v2).data.toList = Fm.dg n := by rw [toList_app, unhide E1, unhide E2, unhide He]
  exact ⟨⟨v1 ++ v2, rfl, et, by have := unhide Hl; rw [← et, size_list] at this; exact this⟩, hB1.trans (hB2.mono hB1.size)⟩

theorem dig_any {n : Nat} (hn : n ≤ 999) : DigOk n := by
  have two : ∀ m, m ≤ 99 → DigOk m := fun m hm => by
    by_cases h9 : m ≤ 9
    · exact dig_nine h9
    · have a1 : m / 10 ≤ 9 := by omega
      have a2 : m % 10 ≤ 9 := by omega
      refine dig_more (by omega) (by omega) (dig_nine a1) (dig_nine a2) ?_ ?_
      · unfold Fm.dg; rw [if_neg h9, if_pos hm, if_pos a1, if_pos a2]; rfl
      · unfold Fm.dg; rw [if_neg h9, if_pos hm]; simp
  by_cases h99 : n ≤ 99
  · exact two n h99
  · have a1 : n / 10 ≤ 99 := by omega
    have a2 : n % 10 ≤ 9 := by omega
    have a3 : ¬ n / 10 ≤ 9 := by omega
    refine dig_more (by omega) hn (two _ a1) (dig_nine a2) ?_ ?_
    · unfold Fm.dg; rw [if_neg (by omega), if_neg h99, if_neg a3, if_pos a1, if_pos a2]
      have : n / 10 / 10 = n / 100 := by omega
      rw [this]; rfl
    · unfold Fm.dg; rw [if_neg (by omega), if_neg h99]; simp

set_option maxHeartbeats 1000000 in
set_option maxRecDepth 100000 in
theorem between_any {a b : Nat} (ha : a ≤ 999) (hb : b ≤ 999) (w : World) (x y : Int) (hx : x = (a : Int)) (hy : y = (b : Int)) :
    Calls Try.prog 9 #[.int .i64 x, .int .i64 y] w fun e w' => (∃ v : ByteArray, e = .returned (.string v) ∧ v.data.toList = Fm.iv a b ∧ v.size ≤ 9) ∧ Below w.heap.size w w' := by
  subst hx hy
  go_enter Try.func9, Try.ntmps9
  go_wp2_with fail
  refine (dig_any ha _ _ rfl).mono ?_
  rintro e w1 ⟨⟨v1, rfl, e1, s1⟩, hB1⟩
  have E1 := hide e1
  clear e1
  go_wp2_with fail
  refine (dig_any hb _ _ rfl).mono ?_
  rintro e w2 ⟨⟨v2, rfl, e2, s2⟩, hB2⟩
  have E2 := hide e2
  clear e2
  go_wp2_with fail
  go_ret
  refine ⟨⟨_, rfl, ?_, ?_⟩, hB1.trans (hB2.mono hB1.size)⟩
  · simp only [toList_app, unhide E1, unhide E2]; simp [Fm.iv]
  · have one : ∀ x : UInt8, (ByteArray.mk #[x]).size = 1 := fun _ => rfl
    simp only [size_app, one]; omega

theorem fold_neg {c n : Int} (h : c < 0) (hn : 0 < n) : 0 ≤ -((c + 1).tmod n) ∧ -((c + 1).tmod n) < n := by
  rw [← Int.neg_tmod, Int.tmod_eq_emod_of_nonneg (by omega)]
  exact ⟨Int.emod_nonneg _ (by omega), Int.emod_lt_of_pos _ hn⟩

theorem fold_pos {c n : Int} (hn : 0 < n) : 0 ≤ c % n ∧ c % n < n := ⟨Int.emod_nonneg _ (by omega), Int.emod_lt_of_pos _ hn⟩

set_option maxHeartbeats 1000000 in
theorem pick_any (c n : Int) (w : World) (hn : 0 < n) (hn9 : n ≤ 1000) (hc1 : -9223372036854775808 ≤ c) (hc2 : c ≤ 9223372036854775807) :
    Calls Try.prog 8 #[.int .i64 c, .int .i64 n] w fun e w' => (∃ x : Nat, e = .returned (.int .i64 x) ∧ (x : Int) < n) ∧ w' = w := by
  have en : (n == 0) = false := beq_eq_false_iff_ne.2 (by omega)
  by_cases h : c < 0
  · have hf := hide (fold_neg h hn)
    go_enter Try.func8, Try.ntmps8
    go_wp2_with fail
    go_ret
    have := unhide hf
    exact ⟨⟨(-((c + 1).tmod n)).toNat, ret_int (by omega), by omega⟩, rfl⟩
  · have hf := hide (fold_pos (c := c) hn)
    go_enter Try.func8, Try.ntmps8
    go_wp2_with fail
    go_ret
    have := unhide hf
    exact ⟨⟨(c % n).toNat, ret_int (by omega), by omega⟩, rfl⟩

end Go.Proofs.Ytnbbfjbndachgaa
