/- The law Formulas, walked. -/
import Derived.Test.YtnbbfjbndachgaaGreatApi
import Derived.Test.YtnbbfjbndachgaaGreatRApi
namespace Go.Proofs.YtnbbfjbndachgaaGreat
open Go.RowKit

theorem hor_same (l : List UInt8) : horB l = horA l ∧ errB l = errA l := ⟨rfl, rfl⟩

set_option maxHeartbeats 400000 in
theorem num_any (x : Int) (w : World) : Calls Tryz.prog 56 #[.int .i64 x] w fun e w' => e = .returned (.int .i64 x) ∧ w' = w := by
  go_enter Tryz.func56, Tryz.ntmps56
  go_wp2
  go_ret
  exact ⟨rfl, rfl⟩

set_option maxHeartbeats 1000000 in
set_option maxRecDepth 100000 in
theorem step_one (w : World) (X : Nat) (m a b : Int) (ao : Option Addr) (n c : Nat) (s : ByteArray) (hs : s.size ≤ 140737488351232) :
    Calls Tryz.prog 39 #[.pointer (some ⟨X, 0, none⟩), .agg #[.int .i64 1, .int .i64 m, .int .i64 a, .int .i64 b, .slice ao n c, .string s]] w fun e w' => e = .returned (.bool true) ∧ Below w.heap.size w w' := by
  have hs' : s.size ≤ maxLen := by unfold maxLen; omega
  have Hs := hide (hor_same s.data.toList)
  go_enter Tryz.func39, Tryz.ntmps39
  go_wp2_with fail
  refine (horizon_any s _ hs').mono ?_
  rintro e w1 ⟨rfl, hB1⟩
  have q5 : w1.cell? ⟨w.heap.size, 5, none⟩ = some (.string s) := (hB1.cell (p := ⟨w.heap.size, 5, none⟩) (by simp)).trans (by simp [go_sem])
  have hz1 : w.heap.size < w1.heap.size := by have := hB1.size; simp at this; omega
  have hb1 : Below w.heap.size w w1 := ((Below.refl _ _).alloc (Nat.le_refl _) _).trans (hB1.mono (by simp))
  go_wp2_with fail
  refine (rHorizon_any s _ hs).mono ?_
  rintro e w2 ⟨he, hB2⟩
  rw [(unhide Hs).1, (unhide Hs).2] at he
  subst he
  generalize horA s.data.toList = h
  generalize errA s.data.toList = er
  go_wp2_with (go_at_call 56; refine (num_any _ _).mono ?_; rintro e w' ⟨rfl, rfl⟩)
  go_ret
  exact ⟨by simp, hb1.trans (hB2.mono (by omega))⟩

set_option maxHeartbeats 1000000 in
set_option maxRecDepth 100000 in
theorem step_zero (w : World) (X : Nat) (k m a b : Int) (ao : Option Addr) (n c : Nat) (s : ByteArray) (hk : k ≤ 0) (hX : w.cell? ⟨X, 0, none⟩ = some (.slice none 0 0)) (hXl : X < w.heap.size) :
    Calls Tryz.prog 39 #[.pointer (some ⟨X, 0, none⟩), .agg #[.int .i64 k, .int .i64 m, .int .i64 a, .int .i64 b, .slice ao n c, .string s]] w fun e w' => e = .returned (.bool true) ∧ Below w.heap.size w w' := by
  have e1 : (k == 1) = false := beq_eq_false_iff_ne.2 (by omega)
  have e2 : (k == 2) = false := beq_eq_false_iff_ne.2 (by omega)
  have hne : X ≠ w.heap.size := by omega
  go_enter Tryz.func39, Tryz.ntmps39
  go_wp2_with fail
  go_ret
  exact ⟨rfl, (Below.refl _ _).alloc (Nat.le_refl _) _⟩

set_option maxHeartbeats 1000000 in
theorem looks_none (w : World) (X : Nat) (hX : w.cell? ⟨X, 1, none⟩ = some (.slice none 0 0)) :
    Calls Tryz.prog 41 #[.pointer (some ⟨X, 0, none⟩)] w fun e w' => e = .returned (.bool true) ∧ w' = w := by
  go_enter Tryz.func41, Tryz.ntmps41
  go_wp2_with fail
  refine wp_loop_rounds 1 ?_
  rw [rounds_succ]
  go_wp2_with fail
  go_ret
  exact ⟨rfl, rfl⟩

/-- One step of a script in memory. -/
structure OpAt (w : World) (b o : Nat) (k m x y : Int) (ao : Option Addr) (n c : Nat) (s : ByteArray) : Prop where
  c0 : w.cell? ⟨b, o, none⟩ = some (.int .i64 k)
  c1 : w.cell? ⟨b, o + 1, none⟩ = some (.int .i64 m)
  c2 : w.cell? ⟨b, o + 2, none⟩ = some (.int .i64 x)
  c3 : w.cell? ⟨b, o + 3, none⟩ = some (.int .i64 y)
  c4 : w.cell? ⟨b, o + 4, none⟩ = some (.slice ao n c)
  c5 : w.cell? ⟨b, o + 5, none⟩ = some (.string s)
  reach : s.size ≤ 140737488351232

set_option maxHeartbeats 2000000 in
set_option maxRecDepth 100000 in
theorem played_any (w : World) (b off len cap : Nat) (hlen : len ≤ 140737488351232) (hb : b < w.heap.size)
    (hop : ∀ j, j < len → ∃ k m x y ao n c s, OpAt w b (off + j * 6) k m x y ao n c s) :
    Calls Tryz.prog 14 #[.slice (some ⟨b, off, none⟩) len cap, .int .i64 1, .bool false] w fun e w' => e = .returned (.bool true) ∧ Below w.heap.size w w' := by
  have Hop := hide hop
  clear hop
  go_enter Tryz.func14, Tryz.ntmps14
  go_wp2_with fail
  refine (step_one _ _ _ _ _ _ _ _ _ (by decide)).mono ?_
  rintro e w1 ⟨rfl, hB1⟩
  have hB1' : Below (w.heap.size + 1) (w.alloc (.cells #[.slice none 0 0, .slice none 0 0, .slice none 0 0, .bool false] 83)) w1 := hB1.mono (by simp)
  clear hB1
  go_wp2_with fail
  go_loopw [8, 9] (fun ok i wr => ∃ k : Nat, k ≤ len ∧ ok = .bool true ∧ i = .int .i64 k ∧ Below (w.heap.size + 1) (w.alloc (.cells #[.slice none 0 0, .slice none 0 0, .slice none 0 0, .bool false] 83)) wr)
    (fun _ i _ => len - (intOf i).toNat)
  case atStart => exact ⟨0, Nat.zero_le _, rfl, rfl, hB1'⟩
  case round =>
    obtain ⟨k, hk, rfl, rfl, hB⟩ := hrel
    clear hB1'
    have hbw : Below w.heap.size w wr := ((Below.refl _ _).alloc (Nat.le_refl _) _).trans (hB.mono (by omega))
    have hzr : w.heap.size < wr.heap.size := by have := hB.size; simp at this; omega
    have x0 : wr.cell? ⟨w.heap.size, 0, none⟩ = some (.slice none 0 0) := (hB.cell (p := ⟨w.heap.size, 0, none⟩) (by simp)).trans (by simp [go_sem])
    have x1 : wr.cell? ⟨w.heap.size, 1, none⟩ = some (.slice none 0 0) := (hB.cell (p := ⟨w.heap.size, 1, none⟩) (by simp)).trans (by simp [go_sem])
    by_cases hlt : k < len
    rotate_left
    · go_wp2_with fail
      go_ret
      exact ⟨rfl, hbw⟩
    obtain ⟨kd, m, x, y, ao, n, c, s, hopk⟩ := unhide Hop k hlt
    obtain ⟨c0, c1, c2, c3, c4, c5, hr⟩ := hopk
    have c0 := (hbw.cell (p := ⟨b, off + k * 6, none⟩) hb).trans c0
    have c1 := (hbw.cell (p := ⟨b, off + k * 6 + 1, none⟩) hb).trans c1
    have c2 := (hbw.cell (p := ⟨b, off + k * 6 + 2, none⟩) hb).trans c2
    have c3 := (hbw.cell (p := ⟨b, off + k * 6 + 3, none⟩) hb).trans c3
    have c4 := (hbw.cell (p := ⟨b, off + k * 6 + 4, none⟩) hb).trans c4
    have c5 := (hbw.cell (p := ⟨b, off + k * 6 + 5, none⟩) hb).trans c5
    by_cases hkd : kd ≤ 1
    rotate_left
    · go_wp2_with (go_at_call 41; refine (looks_none _ _ x1).mono ?_; rintro e w' ⟨rfl, rfl⟩)
      go_roundw
      case rel => exact ⟨k + 1, by omega, rfl, by go_num, hB⟩
      case measure => simp [intOf]; omega
    by_cases hk1 : kd ≤ 0
    · go_wp2_with fail
      refine (step_zero _ _ _ _ _ _ _ _ _ _ hk1 x0 hzr).mono ?_
      rintro e w2 ⟨rfl, hB2⟩
      have hBw := hB.trans (hB2.mono (by omega))
      have y1 : w2.cell? ⟨w.heap.size, 1, none⟩ = some (.slice none 0 0) := (hB2.cell (p := ⟨w.heap.size, 1, none⟩) hzr).trans x1
      clear c0 c1 c2 c3 c4 c5 x0 x1
      go_wp2_with (go_at_call 41; refine (looks_none _ _ y1).mono ?_; rintro e w' ⟨rfl, rfl⟩)
      go_roundw
      case rel => exact ⟨k + 1, by omega, rfl, by go_num, hBw⟩
      case measure => simp [intOf]; omega
    · obtain rfl : kd = 1 := by omega
      go_wp2_with fail
      refine (step_one _ _ _ _ _ _ _ _ _ hr).mono ?_
      rintro e w2 ⟨rfl, hB2⟩
      have hBw := hB.trans (hB2.mono (by omega))
      have y1 : w2.cell? ⟨w.heap.size, 1, none⟩ = some (.slice none 0 0) := (hB2.cell (p := ⟨w.heap.size, 1, none⟩) hzr).trans x1
      clear c0 c1 c2 c3 c4 c5 x0 x1
      go_wp2_with (go_at_call 41; refine (looks_none _ _ y1).mono ?_; rintro e w' ⟨rfl, rfl⟩)
      go_roundw
      case rel => exact ⟨k + 1, by omega, rfl, by go_num, hBw⟩
      case measure => simp [intOf]; omega

set_option maxHeartbeats 2000000 in
set_option maxRecDepth 100000 in
theorem played_nil (w : World) (ao : Option Addr) (cap : Nat) : Calls Tryz.prog 14 #[.slice ao 0 cap, .int .i64 1, .bool false] w fun e w' => e = .returned (.bool true) ∧ Below w.heap.size w w' := by
  go_enter Tryz.func14, Tryz.ntmps14
  go_wp2_with fail
  refine (step_one _ _ _ _ _ _ _ _ _ (by decide)).mono ?_
  rintro e w1 ⟨rfl, hB1⟩
  have hB : Below w.heap.size w w1 := ((Below.refl _ _).alloc (Nat.le_refl _) _).trans (hB1.mono (by simp))
  go_wp2_with fail
  refine wp_loop_rounds 1 ?_
  rw [rounds_succ]
  go_wp2_with fail
  go_ret
  exact ⟨rfl, hB⟩

set_option maxHeartbeats 1000000 in
theorem formulas_any (w : World) (ao : Option Addr) (len cap : Nat) (h : Calls Tryz.prog 14 #[.slice ao len cap, .int .i64 1, .bool false] w fun e w' => e = .returned (.bool true) ∧ Below w.heap.size w w') :
    Calls Tryz.prog 3 #[.slice ao len cap] w fun e w' => e = .returned (.bool true) ∧ Below w.heap.size w w' := by
  have H := hide h
  clear h
  go_enter Tryz.func3, Tryz.ntmps3
  go_wp2_with fail
  refine (unhide H).mono ?_
  rintro e w1 ⟨rfl, hB1⟩
  go_wp2_with fail
  go_ret
  exact ⟨rfl, hB1⟩

end Go.Proofs.YtnbbfjbndachgaaGreat
