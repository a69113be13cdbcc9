/- The document's formulas of two parts. -/
import Derived.Test.YtnbbfjbndachgaaGreatRUn
namespace Go.Proofs.YtnbbfjbndachgaaGreat
open Go.RowKit

theorem size_setCell' (w : World) (a : Addr) (v : Value) : (w.setCell a v).heap.size = w.heap.size := by simp [World.setCell]

theorem pair_none1 {k : Nat} {l : List UInt8} (h : Fm.form k l = none) : Fm.pair k l = none := by unfold Fm.pair; rw [h]
theorem pair_none2 {k k2 : Nat} {l l2 : List UInt8} {t : Fm.Tree} (h : Fm.form k l = some (t, k2, l2)) (hb : Fm.binB (Fm.hd l2) = false) : Fm.pair k l = none := by
  unfold Fm.pair; rw [h]; simp only; rw [hb]; rfl
theorem pair_none3 {k k2 : Nat} {l l2 : List UInt8} {t : Fm.Tree} (h : Fm.form k l = some (t, k2, l2)) (hw : Fm.within (Fm.hd l2) l2.tail = none) : Fm.pair k l = none := by
  unfold Fm.pair; rw [h]; simp only; rw [hw]; simp
theorem pair_go {k k2 : Nat} {l l2 l3 : List UInt8} {t : Fm.Tree} {i : Fm.Itv} {c : Int} (h : Fm.form k l = some (t, k2, l2)) (hc : Fm.hd l2 = c) (hb : Fm.binB c = true) (hw : Fm.within c l2.tail = some (i, l3)) :
    Fm.pair k l = match Fm.form k2 l3 with | none => none | some (u, k4, l4) => if Fm.hd l4 = 41 then some (.bin c i t u, k4, l4.tail) else none := by
  have hlt := Fm.form_lt h
  have hm : min k k2 = k2 := by omega
  unfold Fm.pair; rw [h]; simp only; rw [hc, hb, hw]; simp only; rw [hm]; rfl

set_option maxHeartbeats 4000000 in
theorem rtwo_and (s : ByteArray) (k : Nat) (hk : k < 20) (hok : ∀ j, j ≤ k → RFormOk s j) (w : World) (p : Nat) (l : List UInt8) (ha : Fm.At s p l) (hs : s.size ≤ 140737488351232)
    (t : Fm.Tree) (k2 : Nat) (l2 : List UInt8) (hn1 : Fm.form k l = some (t, k2, l2)) (c : Int) (hcc : c = 38 ∨ c = 124) (h : Fm.hd l2 = c) :
    Calls Tryz.prog 148 #[.string s, .int .i64 p, .int .i64 k] w fun e w' => RFPost w.heap.size (k + 1) s e w' (Fm.pair k l) ∧ Below w.heap.size w w' := by
  have Hw : Hid (Fm.pair k l = match Fm.form k2 l2.tail with | none => none | some (u, k4, l4) => if Fm.hd l4 = 41 then some (.bin c ⟨0, 0, false⟩ t u, k4, l4.tail) else none) :=
    pair_go hn1 h (by rcases hcc with rfl | rfl <;> rfl) (by rcases hcc with rfl | rfl <;> rfl)
  have hk2 := Fm.form_lt hn1
  have hp := ha.le
  rcases hcc with hcv | hcv
  all_goals
    have Hcv := hide hcv
    have hc0 : c ≠ 0 := by omega
    go_enter Tryz.func148, Tryz.ntmps148
    go_wp2_with fail
    refine (hok k (Nat.le_refl _) _ _ _ p l rfl rfl ha).mono ?_
    rintro e w1 ⟨hpost, hB1⟩
    rw [hn1] at hpost
    obtain ⟨g, p2, rfl, hrep, ha2⟩ := hpost
    have hp2 := at_pos ha2 h hc0
    have hc' : (s[p2]).toNat = _ := Int.ofNat_inj.1 (((ha2.hd hp2).symm.trans h).trans hcv)
    have ha3 := ha2.succ hp2
    clear hcv
    go_wp2_with fail
    refine (hok k2 (by omega) _ _ _ (p2 + 1) l2.tail (by omega) (by omega) ha3).mono ?_
    rintro e w2 ⟨hpost, hB2⟩
    have hz2 : w1.heap.size < w2.heap.size := by have := hB2.size; simp at this; omega
    have hbw : Below w.heap.size w w2 := (below_node hB1 _).trans (hB2.mono (by have := hB1.size; simp; omega))
    rcases hn : Fm.form k2 l2.tail with _ | ⟨u, k4, l4⟩
    · rw [hn] at hpost
      have hpost : e = _ := hpost
      subst hpost
      have Hw2 : Hid (Fm.pair k l = none) := by unfold Hid; rw [unhide Hw, hn]
      clear hn
      go_wp2_with fail
      go_ret3
      rw [unhide Hw2]
      exact ⟨rfl, hbw⟩
    rw [hn] at hpost
    obtain ⟨g2, p4, rfl, hrep2, ha4⟩ := hpost
    have hk4 := Fm.form_lt hn
    have hp4 := ha4.le
    by_cases h41 : Fm.hd l4 = 41
    rotate_left
    · have Hw2 : Hid (Fm.pair k l = none) := by unfold Hid; rw [unhide Hw, hn]; simp only; rw [if_neg h41]
      clear hn
      by_cases hp4' : p4 < s.size
      · have e4 := at_ne ha4 hp4' h41
        go_wp2_with fail
        go_ret3
        rw [unhide Hw2]
        exact ⟨rfl, hbw⟩
      · go_wp2_with fail
        go_ret3
        rw [unhide Hw2]
        exact ⟨rfl, hbw⟩
    have Hw2 : Hid (Fm.pair k l = some (.bin c ⟨0, 0, false⟩ t u, k4, l4.tail)) := by unfold Hid; rw [unhide Hw, hn]; simp only; rw [if_pos h41]
    have hp4' := at_pos ha4 h41 (by omega)
    have e4 := at_eq ha4 hp4' h41
    clear hn h41
    have q0 : w2.cell? ⟨w1.heap.size, 0, none⟩ = some (.int .u8 c) := (hB2.cell (p := ⟨w1.heap.size, 0, none⟩) (by simp)).trans (by rw [unhide Hcv]; simp [go_sem])
    have q1 : w2.cell? ⟨w1.heap.size, 1, none⟩ = some (.int .i64 0) := (hB2.cell (p := ⟨w1.heap.size, 1, none⟩) (by simp)).trans (by simp [go_sem])
    have q2 : w2.cell? ⟨w1.heap.size, 2, none⟩ = some (.int .i64 0) := (hB2.cell (p := ⟨w1.heap.size, 2, none⟩) (by simp)).trans (by simp [go_sem])
    have q3 : w2.cell? ⟨w1.heap.size, 3, none⟩ = some (.pointer (some ⟨g, 0, none⟩)) := (hB2.cell (p := ⟨w1.heap.size, 3, none⟩) (by simp)).trans (by simp [go_sem])
    have q4 : w2.cell? ⟨w1.heap.size, 4, none⟩ = some (.pointer none) := (hB2.cell (p := ⟨w1.heap.size, 4, none⟩) (by simp)).trans (by simp [go_sem])
    have r4 : w2.frozen? ⟨w1.heap.size, 4, none⟩ = false := (hB2.frozen (p := ⟨w1.heap.size, 4, none⟩) (by simp)).trans (by simp [go_sem])
    have Hk : Hid ((k : Int) - (k2 : Nat) + ((k2 : Int) - (k4 : Nat)) + 1 = (k : Int) + 1 - (k4 : Nat)) := by show _ = _; omega
    go_wp2_with fail
    go_ret3
    rw [unhide Hw2]
    refine ⟨⟨w1.heap.size, p4 + 1, ?_, ⟨g, g2, hB1.size, by rw [size_setCell']; exact hz2, ?_, ?_, ?_⟩, ha4.succ hp4'⟩, hbw.setCell (by exact hB1.size) _⟩
    · rw [← unhide Hk]; rfl
    · exact ⟨(World.cell?_setCell_other _ _ _ _ (by simp)).trans q0, (World.cell?_setCell_other _ _ _ _ (by simp)).trans q1, (World.cell?_setCell_other _ _ _ _ (by simp)).trans q2, (World.cell?_setCell_other _ _ _ _ (by simp)).trans q3, World.cell?_setCell_same _ _ _ q4⟩
    · exact hrep.keep (Nat.le_refl _) (by rw [size_setCell']; omega) (fun x _ hx => (Below.heap_setCell _ _ _ _ (by show x ≠ w1.heap.size; omega)).trans ((hB2.block x (by simp; omega)).trans (Below.heap_alloc _ _ _ hx)))
    · refine RepB.mono (B := w1.heap.size + 1) ?_ (by have := hB1.size; omega)
      exact (hrep2.mono (by simp)).set (by simp) _

set_option maxHeartbeats 4000000 in
theorem rtwo_itv (s : ByteArray) (k : Nat) (hk : k < 20) (hok : ∀ j, j ≤ k → RFormOk s j) (w : World) (p : Nat) (l : List UInt8) (ha : Fm.At s p l) (hs : s.size ≤ 140737488351232)
    (t : Fm.Tree) (k2 : Nat) (l2 : List UInt8) (hn1 : Fm.form k l = some (t, k2, l2)) (c : Int) (past : Bool) (hcc : (c = 83 ∧ past = true) ∨ (c = 85 ∧ past = false)) (h : Fm.hd l2 = c) :
    Calls Tryz.prog 148 #[.string s, .int .i64 p, .int .i64 k] w fun e w' => RFPost w.heap.size (k + 1) s e w' (Fm.pair k l) ∧ Below w.heap.size w w' := by
  have hwi : Fm.within c l2.tail = Fm.itv past l2.tail := by rcases hcc with ⟨rfl, rfl⟩ | ⟨rfl, rfl⟩ <;> rfl
  have hbin : Fm.binB c = true := by rcases hcc with ⟨rfl, rfl⟩ | ⟨rfl, rfl⟩ <;> rfl
  have hk2 := Fm.form_lt hn1
  have hp := ha.le
  rcases hcc with ⟨hcv, rfl⟩ | ⟨hcv, rfl⟩
  all_goals
    have Hcv := hide hcv
    have hc0 : c ≠ 0 := by omega
    go_enter Tryz.func148, Tryz.ntmps148
    go_wp2_with fail
    refine (hok k (Nat.le_refl _) _ _ _ p l rfl rfl ha).mono ?_
    rintro e w1 ⟨hpost, hB1⟩
    rw [hn1] at hpost
    obtain ⟨g, p2, rfl, hrep, ha2⟩ := hpost
    have hp2 := at_pos ha2 h hc0
    have hc' : (s[p2]).toNat = _ := Int.ofNat_inj.1 (((ha2.hd hp2).symm.trans h).trans hcv)
    have ha3 := ha2.succ hp2
    clear hcv
    go_wp2_with fail
    refine (rinterval_at s _ (p2 + 1) l2.tail _ _ (by omega) ha3 hs).mono ?_
    rintro e wq ⟨hpost, hwq⟩
    subst hwq
    rcases hni : Fm.itv _ l2.tail with _ | ⟨i, l3⟩
    · rw [hni] at hpost
      have hpost : e = _ := hpost
      subst hpost
      have Hw2 : Hid (Fm.pair k l = none) := pair_none3 hn1 (by rw [h, hwi, hni])
      clear hni
      go_wp2_with fail
      go_ret3
      rw [unhide Hw2]
      exact ⟨rfl, below_node hB1 _⟩
    rw [hni] at hpost
    obtain ⟨hlo, hhi, p3, hap3, rfl⟩ := hpost
    have Hw : Hid (Fm.pair k l = match Fm.form k2 l3 with | none => none | some (u, k4, l4) => if Fm.hd l4 = 41 then some (.bin c i t u, k4, l4.tail) else none) := pair_go hn1 h hbin (hwi.trans hni)
    clear hni
    have hp3 := hap3.le
    go_wp2_with fail
    refine (hok k2 (by omega) _ _ _ p3 l3 rfl (by omega) hap3).mono ?_
    rintro e w2 ⟨hpost, hB2⟩
    have hz2 : w1.heap.size < w2.heap.size := by have := hB2.size; simp at this; omega
    have hbw : Below w.heap.size w w2 := (below_node hB1 _).trans (hB2.mono (by have := hB1.size; simp; omega))
    rcases hn : Fm.form k2 l3 with _ | ⟨u, k4, l4⟩
    · rw [hn] at hpost
      have hpost : e = _ := hpost
      subst hpost
      have Hw2 : Hid (Fm.pair k l = none) := by unfold Hid; rw [unhide Hw, hn]
      clear hn
      go_wp2_with fail
      go_ret3
      rw [unhide Hw2]
      exact ⟨rfl, hbw⟩
    rw [hn] at hpost
    obtain ⟨g2, p4, rfl, hrep2, ha4⟩ := hpost
    have hk4 := Fm.form_lt hn
    have hp4 := ha4.le
    by_cases h41 : Fm.hd l4 = 41
    rotate_left
    · have Hw2 : Hid (Fm.pair k l = none) := by unfold Hid; rw [unhide Hw, hn]; simp only; rw [if_neg h41]
      clear hn
      by_cases hp4' : p4 < s.size
      · have e4 := at_ne ha4 hp4' h41
        go_wp2_with fail
        go_ret3
        rw [unhide Hw2]
        exact ⟨rfl, hbw⟩
      · go_wp2_with fail
        go_ret3
        rw [unhide Hw2]
        exact ⟨rfl, hbw⟩
    have Hw2 : Hid (Fm.pair k l = some (.bin c i t u, k4, l4.tail)) := by unfold Hid; rw [unhide Hw, hn]; simp only; rw [if_pos h41]
    have hp4' := at_pos ha4 h41 (by omega)
    have e4 := at_eq ha4 hp4' h41
    clear hn h41
    have q0 : w2.cell? ⟨w1.heap.size, 0, none⟩ = some (.int .u8 c) := (hB2.cell (p := ⟨w1.heap.size, 0, none⟩) (by simp)).trans (by rw [unhide Hcv]; simp [go_sem])
    have q1 : w2.cell? ⟨w1.heap.size, 1, none⟩ = some (.int .i64 i.lo) := (hB2.cell (p := ⟨w1.heap.size, 1, none⟩) (by simp)).trans (by simp [go_sem])
    have q2 : w2.cell? ⟨w1.heap.size, 2, none⟩ = some (.int .i64 (toI i)) := (hB2.cell (p := ⟨w1.heap.size, 2, none⟩) (by simp)).trans (by simp [go_sem])
    have q3 : w2.cell? ⟨w1.heap.size, 3, none⟩ = some (.pointer (some ⟨g, 0, none⟩)) := (hB2.cell (p := ⟨w1.heap.size, 3, none⟩) (by simp)).trans (by simp [go_sem])
    have q4 : w2.cell? ⟨w1.heap.size, 4, none⟩ = some (.pointer none) := (hB2.cell (p := ⟨w1.heap.size, 4, none⟩) (by simp)).trans (by simp [go_sem])
    have r4 : w2.frozen? ⟨w1.heap.size, 4, none⟩ = false := (hB2.frozen (p := ⟨w1.heap.size, 4, none⟩) (by simp)).trans (by simp [go_sem])
    have Hk : Hid ((k : Int) - (k2 : Nat) + ((k2 : Int) - (k4 : Nat)) + 1 = (k : Int) + 1 - (k4 : Nat)) := by show _ = _; omega
    go_wp2_with fail
    go_ret3
    rw [unhide Hw2]
    refine ⟨⟨w1.heap.size, p4 + 1, ?_, ⟨g, g2, hB1.size, by rw [size_setCell']; exact hz2, ?_, ?_, ?_⟩, ha4.succ hp4'⟩, hbw.setCell (by exact hB1.size) _⟩
    · rw [← unhide Hk]; rfl
    · exact ⟨(World.cell?_setCell_other _ _ _ _ (by simp)).trans q0, (World.cell?_setCell_other _ _ _ _ (by simp)).trans q1, (World.cell?_setCell_other _ _ _ _ (by simp)).trans q2, (World.cell?_setCell_other _ _ _ _ (by simp)).trans q3, World.cell?_setCell_same _ _ _ q4⟩
    · exact hrep.keep (Nat.le_refl _) (by rw [size_setCell']; omega) (fun x _ hx => (Below.heap_setCell _ _ _ _ (by show x ≠ w1.heap.size; omega)).trans ((hB2.block x (by simp; omega)).trans (Below.heap_alloc _ _ _ hx)))
    · refine RepB.mono (B := w1.heap.size + 1) ?_ (by have := hB1.size; omega)
      exact (hrep2.mono (by simp)).set (by simp) _

set_option maxHeartbeats 4000000 in
theorem rtwo_no (s : ByteArray) (k : Nat) (_hk : k < 20) (hok : ∀ j, j ≤ k → RFormOk s j) (w : World) (p : Nat) (l : List UInt8) (ha : Fm.At s p l) (hs : s.size ≤ 140737488351232)
    (t : Fm.Tree) (k2 : Nat) (l2 : List UInt8) (hn1 : Fm.form k l = some (t, k2, l2)) (hb : Fm.binB (Fm.hd l2) = false) :
    Calls Tryz.prog 148 #[.string s, .int .i64 p, .int .i64 k] w fun e w' => RFPost w.heap.size (k + 1) s e w' (Fm.pair k l) ∧ Below w.heap.size w w' := by
  have Hw := hide (pair_none2 hn1 hb)
  have hk2 := Fm.form_lt hn1
  have hp := ha.le
  have hbb : Fm.hd l2 ≠ 38 ∧ Fm.hd l2 ≠ 124 ∧ Fm.hd l2 ≠ 83 ∧ Fm.hd l2 ≠ 85 := by simp only [Fm.binB, decide_eq_false_iff_not] at hb; omega
  obtain ⟨n1, n2, n3, n4⟩ := hbb
  go_enter Tryz.func148, Tryz.ntmps148
  go_wp2_with fail
  refine (hok k (Nat.le_refl _) _ _ _ p l rfl rfl ha).mono ?_
  rintro e w1 ⟨hpost, hB1⟩
  rw [hn1] at hpost
  obtain ⟨g, p2, rfl, hrep, ha2⟩ := hpost
  by_cases hp2 : p2 < s.size
  · have hh := ha2.hd hp2
    have e1 : (((s[p2]).toNat : Int) == 38) = false := beq_eq_false_iff_ne.2 (by omega)
    have e2 : (((s[p2]).toNat : Int) == 124) = false := beq_eq_false_iff_ne.2 (by omega)
    have e3 : (((s[p2]).toNat : Int) == 83) = false := beq_eq_false_iff_ne.2 (by omega)
    have e4 : (((s[p2]).toNat : Int) == 85) = false := beq_eq_false_iff_ne.2 (by omega)
    clear hh
    go_wp2_with fail
    go_ret3
    rw [unhide Hw]
    exact ⟨rfl, below_node hB1 _⟩
  · go_wp2_with fail
    go_ret3
    rw [unhide Hw]
    exact ⟨rfl, hB1⟩

set_option maxHeartbeats 4000000 in
theorem rtwo_none (s : ByteArray) (k : Nat) (hok : ∀ j, j ≤ k → RFormOk s j) (w : World) (p : Nat) (l : List UInt8) (ha : Fm.At s p l) (hn1 : Fm.form k l = none) :
    Calls Tryz.prog 148 #[.string s, .int .i64 p, .int .i64 k] w fun e w' => RFPost w.heap.size (k + 1) s e w' (Fm.pair k l) ∧ Below w.heap.size w w' := by
  have Hw := hide (pair_none1 hn1)
  go_enter Tryz.func148, Tryz.ntmps148
  go_wp2_with fail
  refine (hok k (Nat.le_refl _) _ _ _ p l rfl rfl ha).mono ?_
  rintro e w1 ⟨hpost, hB1⟩
  rw [hn1] at hpost
  have hpost : e = _ := hpost
  subst hpost
  go_wp2_with fail
  go_ret3
  rw [unhide Hw]
  exact ⟨rfl, hB1⟩

theorem rtwo_any (s : ByteArray) (k : Nat) (hk : k < 20) (hs : s.size ≤ 140737488351232) (hok : ∀ j, j ≤ k → RFormOk s j) : RTwoOk s k := by
  intro w x y p l hx hy ha
  subst hx; subst hy
  rcases hn : Fm.form k l with _ | ⟨t, k2, l2⟩
  · exact rtwo_none s k hok w p l ha hn
  · cases hb : Fm.binB (Fm.hd l2) with
    | false => exact rtwo_no s k hk hok w p l ha hs t k2 l2 hn hb
    | true =>
      have hbb : (Fm.hd l2 = 38 ∨ Fm.hd l2 = 124) ∨ Fm.hd l2 = 83 ∨ Fm.hd l2 = 85 := by simp only [Fm.binB, decide_eq_true_eq] at hb; omega
      rcases hbb with h | h | h
      · exact rtwo_and s k hk hok w p l ha hs t k2 l2 hn _ h rfl
      · exact rtwo_itv s k hk hok w p l ha hs t k2 l2 hn _ true (.inl ⟨h, rfl⟩) rfl
      · exact rtwo_itv s k hk hok w p l ha hs t k2 l2 hn _ false (.inr ⟨h, rfl⟩) rfl

end Go.Proofs.YtnbbfjbndachgaaGreat
