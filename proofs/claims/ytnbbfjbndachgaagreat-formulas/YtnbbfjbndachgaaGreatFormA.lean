/- The reader's formula. -/
import Derived.Test.YtnbbfjbndachgaaGreatSingle
import Derived.Test.YtnbbfjbndachgaaGreatPair
namespace Go.Proofs.YtnbbfjbndachgaaGreat
open Go.RowKit

theorem size_setCell (w : World) (a : Addr) (v : Value) : (w.setCell a v).heap.size = w.heap.size := by simp [World.setCell]

theorem fr_zero5' {b T : Nat} {w w1 : World} {v : Value} (hF : Fr b ((w.setCell ⟨b, 2, none⟩ v).alloc (.cells #[.int .u8 0, .int .i64 0, .int .i64 0, .bool false, .slice none 0 0] T)) w1) (hne : w.heap.size ≠ b) :
    (w1.cell? ⟨w.heap.size, 0, none⟩ = some (.int .u8 0) ∧ w1.cell? ⟨w.heap.size, 1, none⟩ = some (.int .i64 0) ∧ w1.cell? ⟨w.heap.size, 2, none⟩ = some (.int .i64 0) ∧ w1.cell? ⟨w.heap.size, 3, none⟩ = some (.bool false) ∧ w1.cell? ⟨w.heap.size, 4, none⟩ = some (.slice none 0 0)) ∧
    (w1.frozen? ⟨w.heap.size, 0, none⟩ = false ∧ w1.frozen? ⟨w.heap.size, 1, none⟩ = false ∧ w1.frozen? ⟨w.heap.size, 2, none⟩ = false ∧ w1.frozen? ⟨w.heap.size, 3, none⟩ = false ∧ w1.frozen? ⟨w.heap.size, 4, none⟩ = false) := by
  have h := fr_zero5 hF (by rw [size_setCell]; exact hne)
  rw [size_setCell] at h
  exact h

set_option maxHeartbeats 1000000 in
theorem form_zero (b : Nat) (s : ByteArray) : FormOk b s 0 := by
  intro w p l h ha
  have hlt := h.lt
  have hne : w.heap.size ≠ b := by omega
  obtain ⟨_, c0, c1, c2, f1, f2⟩ := h
  have c2 : w.cell? ⟨b, 2, none⟩ = some (.int .i64 20) := c2
  have Hw : Hid (Fm.form 0 l = none) := by show Fm.form 0 l = none; rw [Fm.form]
  go_enter Tryz.func78, Tryz.ntmps78
  go_wp2_with fail
  rw [unhide Hw]
  refine bodyPost_ret (v := .tuple #[.agg #[.int .u8 0, .int .i64 0, .int .i64 0, .bool false, .slice none 0 0], .bool false]) (by simp [results, Tryz.results78, go_sem]) rfl ⟨rfl, ?_⟩
  exact ((Fr.refl _ _).set _ _).alloc _

set_option maxHeartbeats 4000000 in
theorem form_step (b : Nat) (s : ByteArray) (hs : s.size ≤ maxLen) (k : Nat) (hk : k < 20) (hok : ∀ j, j ≤ k → FormOk b s j) : FormOk b s (k + 1) := by
  intro w p l h ha
  have hlt := h.lt
  have hne : w.heap.size ≠ b := by omega
  obtain ⟨n, hn⟩ : ∃ n : Int, n = 20 - ((k + 1 : Nat) : Int) := ⟨_, rfl⟩
  rw [← hn] at h
  have hn1 : n + 1 = 20 - (k : Int) := by omega
  have hn0 : 0 ≤ n := by omega
  have hn2 : n ≤ 19 := by omega
  have hrd0 : Rd ((w.setCell ⟨b, 2, none⟩ (.int .i64 (n + 1))).alloc (.cells #[.int .u8 0, .int .i64 0, .int .i64 0, .bool false, .slice none 0 0] 105)) b s p (20 - (k : Int)) := by rw [← hn1]; exact (h.set2 (n + 1)).alloc _
  have Hn1 := hide hn1
  clear hn hn1
  have Hs := hide (Fm.form_succ k l)
  obtain ⟨_, c0, c1, c2, f1, f2⟩ := h
  go_enter Tryz.func78, Tryz.ntmps78
  go_wp2_with fail
  refine (next_any _ hrd0 ha hs).mono ?_
  rintro e w1 ⟨rfl, ⟨p1, ha1, -, -, hrd1⟩, hF1⟩
  obtain ⟨⟨x0, x1, x2, x3, x4⟩, y0, y1, y2, y3, y4⟩ := fr_zero5' hF1 hne
  have hz1 : w.heap.size < w1.heap.size := by have := hF1.size; simp [World.setCell] at this; omega
  have hF01 : Fr b w w1 := (((Fr.refl _ _).set _ _).alloc _).trans hF1
  clear hrd0 c0 c1 c2 f1 f2
  cases hal : Fm.aloneB (Fm.hd l) with
  | true =>
    have Hw : Hid (Fm.form (k + 1) l = some (.leaf (Fm.hd l), k, l.tail)) := by unfold Hid; rw [unhide Hs, hal]; rfl
    go_wp2_with (go_at_call 116; refine (standsAlone_any _ _).mono ?_; rintro e w' ⟨rfl, rfl⟩)
    rw [unhide Hw]
    refine bodyPost_ret (v := .tuple #[.agg #[.int .u8 (Fm.hd l), .int .i64 0, .int .i64 0, .bool false, .slice none 0 0], .bool true]) (by simp [results, Tryz.results78, go_sem, x0, x1, x2, x3, x4]) rfl ⟨⟨⟨none, 0, rfl, rfl, rfl⟩, p1, ha1, ?_⟩, ?_⟩
    · repeat (refine Rd.far ?_ hne _)
      exact hrd1
    · repeat (first | refine Fr.setNew ?_ (Nat.le_refl _) _)
      exact hF01
  | false =>
    cases hun : Fm.unB (Fm.hd l) with
    | true =>
      have Hw : Hid (Fm.form (k + 1) l = Fm.single k (Fm.hd l) l.tail) := by unfold Hid; rw [unhide Hs, hal, hun]; rfl
      go_wp2_with (first | (go_at_call 116; refine (standsAlone_any _ _).mono ?_; rintro e w' ⟨rfl, rfl⟩) | (go_at_call 117; refine (standsAhead_any _ _).mono ?_; rintro e w' ⟨rfl, rfl⟩))
      refine (single_any (hok k (Nat.le_refl _)) _ _ hrd1 ha1 hs).mono ?_
      rintro e w2 ⟨hpost, hF2⟩
      clear Hs
      have k0 := (hF2.cell (a := ⟨w.heap.size, 0, none⟩) hz1 hne).trans x0
      have k1 := (hF2.cell (a := ⟨w.heap.size, 1, none⟩) hz1 hne).trans x1
      have k2 := (hF2.cell (a := ⟨w.heap.size, 2, none⟩) hz1 hne).trans x2
      have k3 := (hF2.cell (a := ⟨w.heap.size, 3, none⟩) hz1 hne).trans x3
      have k4 := (hF2.cell (a := ⟨w.heap.size, 4, none⟩) hz1 hne).trans x4
      have g0 := (hF2.frozen (a := ⟨w.heap.size, 0, none⟩) hz1 hne).trans y0
      have g1 := (hF2.frozen (a := ⟨w.heap.size, 1, none⟩) hz1 hne).trans y1
      have g2 := (hF2.frozen (a := ⟨w.heap.size, 2, none⟩) hz1 hne).trans y2
      have g3 := (hF2.frozen (a := ⟨w.heap.size, 3, none⟩) hz1 hne).trans y3
      have g4 := (hF2.frozen (a := ⟨w.heap.size, 4, none⟩) hz1 hne).trans y4
      clear x0 x1 x2 x3 x4 y0 y1 y2 y3 y4
      rcases hsg : Fm.single k (Fm.hd l) l.tail with _ | ⟨t, k', l'⟩
      · rw [hsg] at hpost
        have hpost : e = _ := hpost
        subst hpost
        have Hw2 := hide ((unhide Hw).trans hsg)
        clear hsg
        go_wp2_with fail
        rw [unhide Hw2]
        refine bodyPost_ret (v := .tuple #[.agg #[.int .u8 0, .int .i64 0, .int .i64 0, .bool false, .slice none 0 0], .bool false]) (by simp [results, Tryz.results78, go_sem, k0, k1, k2, k3, k4]) rfl ⟨rfl, ?_⟩
        repeat (first | refine Fr.setNew ?_ (Nat.le_refl _) _)
        exact hF01.trans hF2
      · rw [hsg] at hpost
        obtain ⟨⟨ao, na, rfl, hrep⟩, p2, ha2, hrd2⟩ := hpost
        have Hw2 := hide ((unhide Hw).trans hsg)
        clear hsg
        go_wp2_with fail
        rw [unhide Hw2]
        refine bodyPost_ret (v := .tuple #[.agg #[.int .u8 t.sg, .int .i64 t.lo, .int .i64 t.hi, .bool t.en, .slice ao na na], .bool true]) (by simp [results, Tryz.results78, go_sem, k0, k1, k2, k3, k4]) rfl ⟨⟨⟨ao, na, rfl, ?_⟩, p2, ha2, ?_⟩, ?_⟩
        · refine Rep.mono ?_ (Nat.le_of_lt hz1)
          repeat (refine Rep.set ?_ hz1 _)
          exact hrep
        · repeat (refine Rd.far ?_ hne _)
          exact hrd2
        · repeat (first | refine Fr.setNew ?_ (Nat.le_refl _) _)
          exact hF01.trans hF2
    | false =>
      by_cases h40 : Fm.hd l = 40
      · have h40' : (Fm.hd l == 40) = true := by simp [h40]
        have Hw : Hid (Fm.form (k + 1) l = Fm.pair k l.tail) := by unfold Hid; rw [unhide Hs, hal, hun, if_pos h40]; rfl
        clear h40
        go_wp2_with (first | (go_at_call 116; refine (standsAlone_any _ _).mono ?_; rintro e w' ⟨rfl, rfl⟩) | (go_at_call 117; refine (standsAhead_any _ _).mono ?_; rintro e w' ⟨rfl, rfl⟩))
        refine (pair_any hok _ hrd1 ha1 hs).mono ?_
        rintro e w2 ⟨hpost, hF2⟩
        clear Hs
        have k0 := (hF2.cell (a := ⟨w.heap.size, 0, none⟩) hz1 hne).trans x0
        have k1 := (hF2.cell (a := ⟨w.heap.size, 1, none⟩) hz1 hne).trans x1
        have k2 := (hF2.cell (a := ⟨w.heap.size, 2, none⟩) hz1 hne).trans x2
        have k3 := (hF2.cell (a := ⟨w.heap.size, 3, none⟩) hz1 hne).trans x3
        have k4 := (hF2.cell (a := ⟨w.heap.size, 4, none⟩) hz1 hne).trans x4
        have g0 := (hF2.frozen (a := ⟨w.heap.size, 0, none⟩) hz1 hne).trans y0
        have g1 := (hF2.frozen (a := ⟨w.heap.size, 1, none⟩) hz1 hne).trans y1
        have g2 := (hF2.frozen (a := ⟨w.heap.size, 2, none⟩) hz1 hne).trans y2
        have g3 := (hF2.frozen (a := ⟨w.heap.size, 3, none⟩) hz1 hne).trans y3
        have g4 := (hF2.frozen (a := ⟨w.heap.size, 4, none⟩) hz1 hne).trans y4
        clear x0 x1 x2 x3 x4 y0 y1 y2 y3 y4
        rcases hsg : Fm.pair k l.tail with _ | ⟨t, k', l'⟩
        · rw [hsg] at hpost
          have hpost : e = _ := hpost
          subst hpost
          have Hw2 := hide ((unhide Hw).trans hsg)
          clear hsg
          go_wp2_with fail
          rw [unhide Hw2]
          refine bodyPost_ret (v := .tuple #[.agg #[.int .u8 0, .int .i64 0, .int .i64 0, .bool false, .slice none 0 0], .bool false]) (by simp [results, Tryz.results78, go_sem, k0, k1, k2, k3, k4]) rfl ⟨rfl, ?_⟩
          repeat (first | refine Fr.setNew ?_ (Nat.le_refl _) _)
          exact hF01.trans hF2
        · rw [hsg] at hpost
          obtain ⟨⟨ao, na, rfl, hrep⟩, p2, ha2, hrd2⟩ := hpost
          have Hw2 := hide ((unhide Hw).trans hsg)
          clear hsg
          go_wp2_with fail
          rw [unhide Hw2]
          refine bodyPost_ret (v := .tuple #[.agg #[.int .u8 t.sg, .int .i64 t.lo, .int .i64 t.hi, .bool t.en, .slice ao na na], .bool true]) (by simp [results, Tryz.results78, go_sem, k0, k1, k2, k3, k4]) rfl ⟨⟨⟨ao, na, rfl, ?_⟩, p2, ha2, ?_⟩, ?_⟩
          · refine Rep.mono ?_ (Nat.le_of_lt hz1)
            repeat (refine Rep.set ?_ hz1 _)
            exact hrep
          · repeat (refine Rd.far ?_ hne _)
            exact hrd2
          · repeat (first | refine Fr.setNew ?_ (Nat.le_refl _) _)
            exact hF01.trans hF2
      · have h40' : (Fm.hd l == 40) = false := by simp [h40]
        have Hw : Hid (Fm.form (k + 1) l = none) := by unfold Hid; rw [unhide Hs, hal, hun, if_neg h40]; rfl
        go_wp2_with (first | (go_at_call 116; refine (standsAlone_any _ _).mono ?_; rintro e w' ⟨rfl, rfl⟩) | (go_at_call 117; refine (standsAhead_any _ _).mono ?_; rintro e w' ⟨rfl, rfl⟩))
        rw [unhide Hw]
        refine bodyPost_ret (v := .tuple #[.agg #[.int .u8 0, .int .i64 0, .int .i64 0, .bool false, .slice none 0 0], .bool false]) (by simp [results, Tryz.results78, go_sem, x0, x1, x2, x3, x4]) rfl ⟨rfl, ?_⟩
        repeat (first | refine Fr.setNew ?_ (Nat.le_refl _) _)
        exact hF01

theorem form_any (b : Nat) (s : ByteArray) (hs : s.size ≤ maxLen) (k : Nat) : k ≤ 20 → FormOk b s k := by
  induction k using Nat.strongRecOn with
  | _ k ih =>
    intro hk
    cases k with
    | zero => exact form_zero b s
    | succ k => exact form_step b s hs k (by omega) (fun j hj => ih j (by omega) (by omega))

end Go.Proofs.YtnbbfjbndachgaaGreat
