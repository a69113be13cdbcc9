/- The reader's pair: what stands between brackets. -/
import Derived.Test.YtnbbfjbndachgaaGreatRep
namespace Go.Proofs.YtnbbfjbndachgaaGreat
open Go.RowKit

set_option maxHeartbeats 8000000 in
theorem pair_any {b : Nat} {s : ByteArray} {k : Nat} (hok : ∀ j, j ≤ k → FormOk b s j) {p : Nat} {l : List UInt8} (w : World) (h : Rd w b s p (20 - (k : Int))) (ha : Fm.At s p l) (hs : s.size ≤ maxLen) :
    Calls Tryz.prog 119 #[.pointer (some ⟨b, 0, none⟩)] w fun e w' => FormPost w.heap.size b s e w' (Fm.pair k l) ∧ Fr b w w' := by
  have hlt := h.lt
  have hne : w.heap.size ≠ b := by omega
  go_enter Tryz.func119, Tryz.ntmps119
  go_wp2_with fail
  refine (hok k (Nat.le_refl _) _ _ _ (h.alloc _) ha).mono ?_
  rintro e w1 ⟨hpost, hF1⟩
  have hz1 : w.heap.size < w1.heap.size := by have := hF1.size; simp at this; omega
  have hz1' : w.heap.size ≠ w1.heap.size := by omega
  have hb1 : w1.heap.size ≠ b := by omega
  rcases hn : Fm.form k l with _ | ⟨t, k2, l2⟩
  · rw [hn] at hpost
    have hpost : e = _ := hpost
    subst hpost
    have Hw : Hid (Fm.pair k l = none) := by unfold Hid Fm.pair; rw [hn]
    clear hn
    obtain ⟨⟨x0, x1, x2, x3, x4⟩, y0, y1, y2, y3, y4⟩ := fr_zero5 hF1 hne
    go_wp2_with fail
    rw [unhide Hw]
    refine bodyPost_ret (v := .tuple #[.agg #[.int .u8 0, .int .i64 0, .int .i64 0, .bool false, .slice none 0 0], .bool false]) (by simp [results, Tryz.results119, go_sem, x0, x1, x2, x3, x4, hz1]) rfl ⟨rfl, ?_⟩
    repeat (first | refine Fr.alloc ?_ _ | refine Fr.setNew ?_ (Nat.le_refl _) _)
    exact ((Fr.refl _ _).alloc _).trans hF1
  rw [hn] at hpost
  obtain ⟨⟨ao, na, rfl, hrep1⟩, p1, ha1, hrd1⟩ := hpost
  have hk2 := Fm.form_lt hn
  have Hn := hide hn
  clear hn
  go_wp2_with fail
  refine (next_any _ (hrd1.alloc _) ha1 hs).mono ?_
  rintro e w2 ⟨rfl, ⟨p2, ha2, -, -, hrd2⟩, hG2⟩
  have hF2 := (hF1.alloc _).trans hG2
  cases hbin : Fm.binB (Fm.hd l2) with
  | false =>
    have Hw : Hid (Fm.pair k l = none) := by unfold Hid Fm.pair; rw [unhide Hn]; simp only; rw [hbin]; rfl
    obtain ⟨⟨x0, x1, x2, x3, x4⟩, y0, y1, y2, y3, y4⟩ := fr_zero5 hF2 hne
    go_wp2_with (go_at_call 146; refine (standsBetween_any _ _).mono ?_; rintro e w' ⟨rfl, rfl⟩)
    rw [unhide Hw]
    refine bodyPost_ret (v := .tuple #[.agg #[.int .u8 0, .int .i64 0, .int .i64 0, .bool false, .slice none 0 0], .bool false]) (by simp [results, Tryz.results119, go_sem, x0, x1, x2, x3, x4]) rfl ⟨rfl, ?_⟩
    repeat (first | refine Fr.alloc ?_ _ | refine Fr.setNew ?_ (Nat.le_refl _) _)
    exact ((Fr.refl _ _).alloc _).trans hF2
  | true =>
  go_wp2_with (go_at_call 146; refine (standsBetween_any _ _).mono ?_; rintro e w' ⟨rfl, rfl⟩)
  refine (within_any _ _ hrd2 ha2 hs).mono ?_
  rintro e w3 ⟨hpost, hG3⟩
  have hF3 := hF2.trans hG3
  have hz3 : w1.heap.size < w3.heap.size := by have := hG2.size; have := hG3.size; simp at *; omega
  have hz3' : w.heap.size ≠ w3.heap.size := by omega
  have hz3'' : w.heap.size < w3.heap.size := by omega
  have hb3 : w3.heap.size ≠ b := by omega
  rcases hn : Fm.within (Fm.hd l2) l2.tail with _ | ⟨i, l3⟩
  · rw [hn] at hpost
    obtain ⟨x, y, z, rfl⟩ := hpost
    have Hw : Hid (Fm.pair k l = none) := by unfold Hid Fm.pair; rw [unhide Hn]; simp only; rw [hbin, hn]; rfl
    clear hn
    obtain ⟨⟨x0, x1, x2, x3, x4⟩, y0, y1, y2, y3, y4⟩ := fr_zero5 hF3 hne
    go_wp2_with fail
    rw [unhide Hw]
    refine bodyPost_ret (v := .tuple #[.agg #[.int .u8 0, .int .i64 0, .int .i64 0, .bool false, .slice none 0 0], .bool false]) (by simp [results, Tryz.results119, go_sem, x0, x1, x2, x3, x4, hz3'']) rfl ⟨rfl, ?_⟩
    repeat (first | refine Fr.alloc ?_ _ | refine Fr.setNew ?_ (Nat.le_refl _) _)
    exact ((Fr.refl _ _).alloc _).trans hF3
  rw [hn] at hpost
  obtain ⟨rfl, hlo, hhi, p3, ha3, hrd3⟩ := hpost
  have Hn3 := hide hn
  clear hn
  go_wp2_with fail
  refine (hok k2 (by omega) _ _ _ (hrd3.alloc _) ha3).mono ?_
  rintro e w4 ⟨hpost, hG4⟩
  have hF4 := (hF3.alloc _).trans hG4
  have hz4 : w3.heap.size < w4.heap.size := by have := hG4.size; simp at this; omega
  have hz4' : w.heap.size ≠ w4.heap.size := by omega
  have hz4'' : w.heap.size < w4.heap.size := by omega
  have hb4 : w4.heap.size ≠ b := by omega
  have Hmin : Hid (min k k2 = k2) := by show min k k2 = k2; omega
  rcases hn : Fm.form k2 l3 with _ | ⟨u, k4, l4⟩
  · rw [hn] at hpost
    have hpost : e = _ := hpost
    subst hpost
    have Hw : Hid (Fm.pair k l = none) := by unfold Hid Fm.pair; rw [unhide Hn]; simp only; rw [hbin, unhide Hn3]; simp only; rw [unhide Hmin, hn]; rfl
    clear hn
    obtain ⟨⟨x0, x1, x2, x3, x4⟩, y0, y1, y2, y3, y4⟩ := fr_zero5 hF4 hne
    go_wp2_with fail
    rw [unhide Hw]
    refine bodyPost_ret (v := .tuple #[.agg #[.int .u8 0, .int .i64 0, .int .i64 0, .bool false, .slice none 0 0], .bool false]) (by simp [results, Tryz.results119, go_sem, x0, x1, x2, x3, x4, hz4'']) rfl ⟨rfl, ?_⟩
    repeat (first | refine Fr.alloc ?_ _ | refine Fr.setNew ?_ (Nat.le_refl _) _)
    exact ((Fr.refl _ _).alloc _).trans hF4
  rw [hn] at hpost
  obtain ⟨⟨bo, nb, rfl, hrep4⟩, p4, ha4, hrd4⟩ := hpost
  have Hn4 := hide hn
  clear hn
  go_wp2_with fail
  refine (next_any _ (hrd4.alloc _) ha4 hs).mono ?_
  rintro e w5 ⟨rfl, ⟨p5, ha5, -, -, hrd5⟩, hG5⟩
  have hF5 := (hF4.alloc _).trans hG5
  have hz5 : w4.heap.size < w5.heap.size := by have := hG5.size; simp at this; omega
  have hz5' : w.heap.size ≠ w5.heap.size := by omega
  have hz5'' : w.heap.size < w5.heap.size := by omega
  obtain ⟨⟨x0, x1, x2, x3, x4⟩, y0, y1, y2, y3, y4⟩ := fr_zero5 hF5 hne
  by_cases h41 : Fm.hd l4 = 41
  rotate_left
  · have h41' : (Fm.hd l4 != 41) = true := bne_iff_ne.2 h41
    have Hw : Hid (Fm.pair k l = none) := by unfold Hid Fm.pair; rw [unhide Hn]; simp only; rw [hbin, unhide Hn3]; simp only; rw [unhide Hmin, unhide Hn4]; simp only; rw [if_neg h41]; rfl
    go_wp2_with fail
    rw [unhide Hw]
    refine bodyPost_ret (v := .tuple #[.agg #[.int .u8 0, .int .i64 0, .int .i64 0, .bool false, .slice none 0 0], .bool false]) (by simp [results, Tryz.results119, go_sem, x0, x1, x2, x3, x4]) rfl ⟨rfl, ?_⟩
    repeat (first | refine Fr.alloc ?_ _ | refine Fr.setNew ?_ (Nat.le_refl _) _)
    exact ((Fr.refl _ _).alloc _).trans hF5
  have h41' : (Fm.hd l4 != 41) = false := by simp [h41]
  have Hw : Hid (Fm.pair k l = some (.bin (Fm.hd l2) i t u, k4, l4.tail)) := by unfold Hid Fm.pair; rw [unhide Hn]; simp only; rw [hbin, unhide Hn3]; simp only; rw [unhide Hmin, unhide Hn4]; simp only; rw [if_pos h41]; rfl
  clear h41
  have hT1 := ((hG2.trans hG3).alloc _).trans hG4 |>.alloc _ |>.trans hG5
  have hT3 := (hG4.alloc _).trans hG5
  obtain ⟨a0, a1, a2, a3, a4⟩ := fr_node hT1 hb1
  obtain ⟨i0, i1, i2⟩ := fr_itv hT3 hb3
  obtain ⟨b0, b1, b2, b3, b4⟩ := fr_node hG5 hb4
  go_wp2_with fail
  rw [unhide Hw]
  refine bodyPost_ret (v := .tuple #[.agg #[.int .u8 (Fm.hd l2), .int .i64 i.lo, .int .i64 i.hi, .bool i.endless, .slice (some ⟨w5.heap.size, 0, none⟩) 2 2], .bool true]) (by simp [results, Tryz.results119, go_sem, x0, x1, x2, x3, x4, hz5'']) rfl ⟨⟨⟨_, _, rfl, ?_⟩, p5, ha5, ?_⟩, ?_⟩
  · obtain ⟨d1, d2⟩ := node_new2 (T := 105) ((((((w5.setCell ⟨w.heap.size, 0, none⟩ (.int .u8 (Fm.hd l2))).setCell ⟨w.heap.size, 1, none⟩ (.int .i64 i.lo)).setCell ⟨w.heap.size, 2, none⟩ (.int .i64 i.hi)).setCell ⟨w.heap.size, 3, none⟩ (.bool i.endless)).setCell ⟨w.heap.size, 4, none⟩ (.slice (some ⟨w5.heap.size, 0, none⟩) 2 2))) (g := w5.heap.size) (n := na) (m := nb) (by simp) t u ao bo
    refine ⟨w5.heap.size, ao, na, bo, nb, rfl, rfl, by omega, by simp, d1, ?_, d2, ?_⟩
    · refine Rep.alloc ?_ _
      refine Rep.mono (B := w.heap.size + 1) ?_ (by omega)
      repeat (refine Rep.set ?_ (by simp) _)
      exact ((hrep1.mono (by simp)).alloc _).fr hT1 (by omega)
    · refine Rep.alloc ?_ _
      refine Rep.mono (B := w.heap.size + 1) ?_ (by omega)
      repeat (refine Rep.set ?_ (by simp) _)
      exact ((hrep4.mono (by simp; omega)).alloc _).fr hG5 (by omega)
  · refine Rd.alloc ?_ _
    repeat (refine Rd.far ?_ hne _)
    exact hrd5
  · repeat (first | refine Fr.alloc ?_ _ | refine Fr.setNew ?_ (Nat.le_refl _) _)
    exact ((Fr.refl _ _).alloc _).trans hF5

end Go.Proofs.YtnbbfjbndachgaaGreat
