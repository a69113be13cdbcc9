/- The reader's interval. -/
import Derived.Test.YtnbbfjbndachgaaGreatNum
namespace Go.Proofs.YtnbbfjbndachgaaGreat
open Go.RowKit

/-- What is left behind 'within'. -/
def WithPost (b : Nat) (s : ByteArray) (n : Int) (e : Ending) (w' : World) : Option (Fm.Itv × List UInt8) → Prop
  | some (i, l') => e = .returned (.tuple #[.agg #[.int .i64 i.lo, .int .i64 i.hi, .bool i.endless], .bool true]) ∧ i.lo ≤ 1000 ∧ i.hi ≤ 1000 ∧ ∃ p', Fm.At s p' l' ∧ Rd w' b s p' n
  | none => ∃ (x y : Int) (z : Bool), e = .returned (.tuple #[.agg #[.int .i64 x, .int .i64 y, .bool z], .bool false])

set_option maxHeartbeats 400000 in
theorem within_none {b : Nat} {s : ByteArray} {p : Nat} {n : Int} {l : List UInt8} (c : Int) (w : World) (h : Rd w b s p n) (ha : Fm.At s p l) (hb : Fm.backB c = false) (hh : Fm.aheadB c = false) :
    Calls Tryz.prog 145 #[.pointer (some ⟨b, 0, none⟩), .int .u8 c] w fun e w' => WithPost b s n e w' (Fm.within c l) ∧ Fr b w w' := by
  have hw : Fm.within c l = some (⟨0, 0, false⟩, l) := by unfold Fm.within; rw [hb, hh]; rfl
  have Hw := hide hw
  clear hw
  go_enter Tryz.func145, Tryz.ntmps145
  go_wp2_with (first | (go_at_call 166; refine (looksBack_any _ _).mono ?_; rintro e w' ⟨rfl, rfl⟩) | (go_at_call 80; refine (looksAhead_any _ _).mono ?_; rintro e w' ⟨rfl, rfl⟩))
  rw [unhide Hw]
  refine bodyPost_ret (v := .tuple #[.agg #[.int .i64 0, .int .i64 0, .bool false], .bool true]) (by simp [results, Tryz.results145, go_sem]) rfl ⟨⟨rfl, by simp, by simp, p, ha, ?_⟩, ?_⟩
  · exact h.alloc _
  · exact (Fr.refl _ _).alloc _

theorem itv_no1 {bk : Bool} {l : List UInt8} (h : Fm.hd l ≠ 91) : Fm.itv bk l = none := by unfold Fm.itv; rw [if_neg h]
theorem itv_no2 {bk : Bool} {l : List UInt8} (h : Fm.hd l = 91) (hn : Fm.num false 0 l.tail = none) : Fm.itv bk l = none := by unfold Fm.itv; rw [if_pos h, hn]
theorem itv_no3 {bk : Bool} {l l2 : List UInt8} {lo : Nat} (h : Fm.hd l = 91) (hn : Fm.num false 0 l.tail = some (lo, l2)) (h4 : Fm.hd l2 ≠ 44) : Fm.itv bk l = none := by
  unfold Fm.itv; rw [if_pos h, hn]; simp only; rw [if_neg h4]
theorem itv_i {l l2 : List UInt8} {lo : Nat} (h : Fm.hd l = 91) (hn : Fm.num false 0 l.tail = some (lo, l2)) (h4 : Fm.hd l2 = 44) (h5 : Fm.hd l2.tail = 105) :
    Fm.itv true l = if Fm.hd l2.tail.tail = 93 then some (⟨lo, 0, true⟩, l2.tail.tail.tail) else none := by
  unfold Fm.itv; rw [if_pos h, hn]; simp only; rw [if_pos h4, if_pos (by simp [h5])]
theorem itv_end {bk : Bool} {l l2 : List UInt8} {lo : Nat} (h : Fm.hd l = 91) (hn : Fm.num false 0 l.tail = some (lo, l2)) (h4 : Fm.hd l2 = 44) (h5 : bk = false ∨ Fm.hd l2.tail ≠ 105) :
    Fm.itv bk l = Fm.itvEnd lo l2.tail := by
  unfold Fm.itv; rw [if_pos h, hn]; simp only; rw [if_pos h4, if_neg (by rcases h5 with h5 | h5 <;> simp [h5])]

set_option maxHeartbeats 1000000 in
theorem within_true {b : Nat} {s : ByteArray} {p : Nat} {n : Int} {l : List UInt8} (c : Int) (w : World) (h : Rd w b s p n) (ha : Fm.At s p l) (hs : s.size ≤ maxLen) (hb : Fm.backB c = true) :
    Calls Tryz.prog 145 #[.pointer (some ⟨b, 0, none⟩), .int .u8 c] w fun e w' => WithPost b s n e w' (Fm.itv true l) ∧ Fr b w w' := by
  have hlt := h.lt
  have hne : w.heap.size ≠ b := by omega
  have hsz := hs
  unfold maxLen at hs
  go_enter Tryz.func145, Tryz.ntmps145
  go_wp2_with (first | (go_at_call 166; refine (looksBack_any _ _).mono ?_; rintro e w' ⟨rfl, rfl⟩) | (go_at_call 80; refine (looksAhead_any _ _).mono ?_; rintro e w' ⟨rfl, rfl⟩))
  refine (next_any _ (h.alloc _) ha hsz).mono ?_
  rintro e w1 ⟨rfl, ⟨p1, ha1, -, -, hrd1⟩, hF1⟩
  have hc1 : ∀ o, w1.cell? ⟨w.heap.size, o, none⟩ = (w.alloc (.cells #[.int .i64 0, .int .i64 0, .bool false] 102)).cell? ⟨w.heap.size, o, none⟩ := fun o => hF1.cell (by simp) hne
  have hf1 : ∀ o, w1.frozen? ⟨w.heap.size, o, none⟩ = (w.alloc (.cells #[.int .i64 0, .int .i64 0, .bool false] 102)).frozen? ⟨w.heap.size, o, none⟩ := fun o => hF1.frozen (by simp) hne
  by_cases h91 : Fm.hd l = 91
  rotate_left
  · have h91' : (Fm.hd l != 91) = true := bne_iff_ne.2 h91
    have Hw := hide (itv_no1 (bk := true) h91)
    go_wp2_with fail
    rw [unhide Hw]
    refine bodyPost_ret (v := .tuple #[.agg #[.int .i64 0, .int .i64 0, .bool false], .bool false]) (by simp [results, Tryz.results145, go_sem, hc1]) rfl ⟨⟨0, 0, false, rfl⟩, ?_⟩
    repeat (refine Fr.setNew ?_ (Nat.le_refl _) _)
    exact ((Fr.refl _ _).alloc _).trans hF1
  have h91' : (Fm.hd l != 91) = false := by simp [h91]
  have H91 := hide h91
  clear h91
  go_wp2_with fail
  refine (number_any _ hrd1 ha1 hsz).mono ?_
  rintro e w2 ⟨hpost, hfr2⟩
  have hF2 := hF1.trans hfr2
  have hc2 : ∀ o, w2.cell? ⟨w.heap.size, o, none⟩ = (w.alloc (.cells #[.int .i64 0, .int .i64 0, .bool false] 102)).cell? ⟨w.heap.size, o, none⟩ := fun o => hF2.cell (by simp) hne
  have hf2 : ∀ o, w2.frozen? ⟨w.heap.size, o, none⟩ = (w.alloc (.cells #[.int .i64 0, .int .i64 0, .bool false] 102)).frozen? ⟨w.heap.size, o, none⟩ := fun o => hF2.frozen (by simp) hne
  clear hc1 hf1
  rcases hn : Fm.num false 0 l.tail with _ | ⟨lo, l2⟩
  · rw [hn] at hpost
    obtain ⟨x, rfl⟩ := hpost
    have Hw := hide (itv_no2 (bk := true) (unhide H91) hn)
    clear hn
    go_wp2_with fail
    rw [unhide Hw]
    refine bodyPost_ret (v := .tuple #[.agg #[.int .i64 0, .int .i64 0, .bool false], .bool false]) (by simp [results, Tryz.results145, go_sem, hc2]) rfl ⟨⟨0, 0, false, rfl⟩, ?_⟩
    repeat (refine Fr.setNew ?_ (Nat.le_refl _) _)
    exact ((Fr.refl _ _).alloc _).trans hF2
  rw [hn] at hpost
  obtain ⟨rfl, hlo, p2, ha2, hrd2⟩ := hpost
  have Hn := hide hn
  clear hn
  go_wp2_with fail
  refine (next_any _ hrd2 ha2 hsz).mono ?_
  rintro e w3 ⟨rfl, ⟨p3, ha3, -, -, hrd3⟩, hfr3⟩
  have hF3 := hF2.trans hfr3
  have hc3 : ∀ o, w3.cell? ⟨w.heap.size, o, none⟩ = (w.alloc (.cells #[.int .i64 0, .int .i64 0, .bool false] 102)).cell? ⟨w.heap.size, o, none⟩ := fun o => hF3.cell (by simp) hne
  have hf3 : ∀ o, w3.frozen? ⟨w.heap.size, o, none⟩ = (w.alloc (.cells #[.int .i64 0, .int .i64 0, .bool false] 102)).frozen? ⟨w.heap.size, o, none⟩ := fun o => hF3.frozen (by simp) hne
  clear hc2 hf2
  by_cases h44 : Fm.hd l2 = 44
  rotate_left
  · have h44' : (Fm.hd l2 != 44) = true := bne_iff_ne.2 h44
    have Hw := hide (itv_no3 (bk := true) (unhide H91) (unhide Hn) h44)
    go_wp2_with fail
    rw [unhide Hw]
    refine bodyPost_ret (v := .tuple #[.agg #[.int .i64 0, .int .i64 0, .bool false], .bool false]) (by simp [results, Tryz.results145, go_sem, hc3]) rfl ⟨⟨0, 0, false, rfl⟩, ?_⟩
    repeat (refine Fr.setNew ?_ (Nat.le_refl _) _)
    exact ((Fr.refl _ _).alloc _).trans hF3
  have h44' : (Fm.hd l2 != 44) = false := by simp [h44]
  have H44 := hide h44
  clear h44
  by_cases h105 : Fm.hd l2.tail = 105
  · have h105' : (Fm.hd l2.tail == 105) = true := by simp [h105]
    have Hw := hide (itv_i (unhide H91) (unhide Hn) (unhide H44) h105)
    clear h105
    go_wp2_with (first | (go_at_call 166; refine (looksBack_any _ _).mono ?_; rintro e w' ⟨rfl, rfl⟩) | (go_at_call 144; refine (peek_any _ hrd3 ha3 hsz).mono ?_; rintro e w' ⟨rfl, k, rfl⟩))
    refine (next_any _ (hrd3.drewN _) ha3 hsz).mono ?_
    rintro e w4 ⟨rfl, ⟨p4, ha4, -, -, hrd4⟩, hfr4⟩
    have hF4 := (hF3.drewN _).trans hfr4
    go_wp2_with fail
    refine (next_any _ hrd4 ha4 hsz).mono ?_
    rintro e w5 ⟨rfl, ⟨p5, ha5, -, -, hrd5⟩, hfr5⟩
    have hF5 := hF4.trans hfr5
    have hc5 : ∀ o, w5.cell? ⟨w.heap.size, o, none⟩ = (w.alloc (.cells #[.int .i64 0, .int .i64 0, .bool false] 102)).cell? ⟨w.heap.size, o, none⟩ := fun o => hF5.cell (by simp) hne
    have hf5 : ∀ o, w5.frozen? ⟨w.heap.size, o, none⟩ = (w.alloc (.cells #[.int .i64 0, .int .i64 0, .bool false] 102)).frozen? ⟨w.heap.size, o, none⟩ := fun o => hF5.frozen (by simp) hne
    clear hc3 hf3
    by_cases h93 : Fm.hd l2.tail.tail = 93
    · have h93' : (Fm.hd l2.tail.tail == 93) = true := by simp [h93]
      have Hw2 := hide ((unhide Hw).trans (if_pos h93))
      clear h93
      go_wp2_with fail
      rw [unhide Hw2]
      refine bodyPost_ret (v := .tuple #[.agg #[.int .i64 lo, .int .i64 0, .bool true], .bool true]) (by simp [results, Tryz.results145, go_sem, hc5]) rfl ⟨⟨rfl, hlo, by simp, p5, ha5, ?_⟩, ?_⟩
      · repeat (refine Rd.far ?_ hne _)
        exact hrd5
      · repeat (refine Fr.setNew ?_ (Nat.le_refl _) _)
        exact ((Fr.refl _ _).alloc _).trans hF5
    · have h93' : (Fm.hd l2.tail.tail == 93) = false := by simp [h93]
      have Hw2 := hide ((unhide Hw).trans (if_neg h93))
      clear h93
      go_wp2_with fail
      rw [unhide Hw2]
      refine bodyPost_ret (v := .tuple #[.agg #[.int .i64 lo, .int .i64 0, .bool true], .bool false]) (by simp [results, Tryz.results145, go_sem, hc5]) rfl ⟨⟨_, _, _, rfl⟩, ?_⟩
      repeat (refine Fr.setNew ?_ (Nat.le_refl _) _)
      exact ((Fr.refl _ _).alloc _).trans hF5
  have h105' : (Fm.hd l2.tail == 105) = false := by simp [h105]
  have Hw := hide (itv_end (bk := true) (unhide H91) (unhide Hn) (unhide H44) (.inr h105))
  clear h105
  go_wp2_with (first | (go_at_call 166; refine (looksBack_any _ _).mono ?_; rintro e w' ⟨rfl, rfl⟩) | (go_at_call 144; refine (peek_any _ hrd3 ha3 hsz).mono ?_; rintro e w' ⟨rfl, k, rfl⟩))
  refine (number_any _ (hrd3.drewN _) ha3 hsz).mono ?_
  rintro e w4 ⟨hpost, hfr4⟩
  have hF4 := (hF3.drewN _).trans hfr4
  have hc4 : ∀ o, w4.cell? ⟨w.heap.size, o, none⟩ = (w.alloc (.cells #[.int .i64 0, .int .i64 0, .bool false] 102)).cell? ⟨w.heap.size, o, none⟩ := fun o => hF4.cell (by simp) hne
  have hf4 : ∀ o, w4.frozen? ⟨w.heap.size, o, none⟩ = (w.alloc (.cells #[.int .i64 0, .int .i64 0, .bool false] 102)).frozen? ⟨w.heap.size, o, none⟩ := fun o => hF4.frozen (by simp) hne
  clear hc3 hf3
  rcases hn4 : Fm.num false 0 l2.tail with _ | ⟨hi, l4⟩
  · rw [hn4] at hpost
    obtain ⟨x, rfl⟩ := hpost
    have Hw2 : Hid (Fm.itv true l = none) := by rw [Hid, unhide Hw]; unfold Fm.itvEnd; rw [hn4]
    clear hn4
    go_wp2_with fail
    rw [unhide Hw2]
    refine bodyPost_ret (v := .tuple #[.agg #[.int .i64 0, .int .i64 0, .bool false], .bool false]) (by simp [results, Tryz.results145, go_sem, hc4]) rfl ⟨⟨0, 0, false, rfl⟩, ?_⟩
    repeat (refine Fr.setNew ?_ (Nat.le_refl _) _)
    exact ((Fr.refl _ _).alloc _).trans hF4
  rw [hn4] at hpost
  obtain ⟨rfl, hhi, p4, ha4, hrd4⟩ := hpost
  by_cases hlh : hi < lo
  · have hlh' : (hi : Int) < (lo : Int) := by omega
    have Hw2 : Hid (Fm.itv true l = none) := by rw [Hid, unhide Hw]; unfold Fm.itvEnd; rw [hn4]; simp only; rw [if_pos hlh]
    clear hn4
    go_wp2_with fail
    rw [unhide Hw2]
    refine bodyPost_ret (v := .tuple #[.agg #[.int .i64 0, .int .i64 0, .bool false], .bool false]) (by simp [results, Tryz.results145, go_sem, hc4]) rfl ⟨⟨0, 0, false, rfl⟩, ?_⟩
    repeat (refine Fr.setNew ?_ (Nat.le_refl _) _)
    exact ((Fr.refl _ _).alloc _).trans hF4
  have hlh' : ¬ (hi : Int) < (lo : Int) := by omega
  have Hw2 : Hid (Fm.itv true l = if Fm.hd l4 = 93 then some (⟨lo, hi, false⟩, l4.tail) else none) := by rw [Hid, unhide Hw]; unfold Fm.itvEnd; rw [hn4]; simp only; rw [if_neg hlh]
  clear hn4
  go_wp2_with fail
  refine (next_any _ hrd4 ha4 hsz).mono ?_
  rintro e w5 ⟨rfl, ⟨p5, ha5, -, -, hrd5⟩, hfr5⟩
  have hF5 := hF4.trans hfr5
  have hc5 : ∀ o, w5.cell? ⟨w.heap.size, o, none⟩ = (w.alloc (.cells #[.int .i64 0, .int .i64 0, .bool false] 102)).cell? ⟨w.heap.size, o, none⟩ := fun o => hF5.cell (by simp) hne
  have hf5 : ∀ o, w5.frozen? ⟨w.heap.size, o, none⟩ = (w.alloc (.cells #[.int .i64 0, .int .i64 0, .bool false] 102)).frozen? ⟨w.heap.size, o, none⟩ := fun o => hF5.frozen (by simp) hne
  clear hc4 hf4
  by_cases h93 : Fm.hd l4 = 93
  · have h93' : (Fm.hd l4 == 93) = true := by simp [h93]
    have Hw3 := hide ((unhide Hw2).trans (if_pos h93))
    clear h93
    go_wp2_with fail
    rw [unhide Hw3]
    refine bodyPost_ret (v := .tuple #[.agg #[.int .i64 lo, .int .i64 hi, .bool false], .bool true]) (by simp [results, Tryz.results145, go_sem, hc5]) rfl ⟨⟨rfl, hlo, hhi, p5, ha5, ?_⟩, ?_⟩
    · repeat (refine Rd.far ?_ hne _)
      exact hrd5
    · repeat (refine Fr.setNew ?_ (Nat.le_refl _) _)
      exact ((Fr.refl _ _).alloc _).trans hF5
  · have h93' : (Fm.hd l4 == 93) = false := by simp [h93]
    have Hw3 := hide ((unhide Hw2).trans (if_neg h93))
    clear h93
    go_wp2_with fail
    rw [unhide Hw3]
    refine bodyPost_ret (v := .tuple #[.agg #[.int .i64 lo, .int .i64 hi, .bool false], .bool false]) (by simp [results, Tryz.results145, go_sem, hc5]) rfl ⟨⟨_, _, _, rfl⟩, ?_⟩
    repeat (refine Fr.setNew ?_ (Nat.le_refl _) _)
    exact ((Fr.refl _ _).alloc _).trans hF5

set_option maxHeartbeats 1000000 in
theorem within_false {b : Nat} {s : ByteArray} {p : Nat} {n : Int} {l : List UInt8} (c : Int) (w : World) (h : Rd w b s p n) (ha : Fm.At s p l) (hs : s.size ≤ maxLen) (hb : Fm.backB c = false) (hah : Fm.aheadB c = true) :
    Calls Tryz.prog 145 #[.pointer (some ⟨b, 0, none⟩), .int .u8 c] w fun e w' => WithPost b s n e w' (Fm.itv false l) ∧ Fr b w w' := by
  have hlt := h.lt
  have hne : w.heap.size ≠ b := by omega
  have hsz := hs
  unfold maxLen at hs
  go_enter Tryz.func145, Tryz.ntmps145
  go_wp2_with (first | (go_at_call 166; refine (looksBack_any _ _).mono ?_; rintro e w' ⟨rfl, rfl⟩) | (go_at_call 80; refine (looksAhead_any _ _).mono ?_; rintro e w' ⟨rfl, rfl⟩))
  refine (next_any _ (h.alloc _) ha hsz).mono ?_
  rintro e w1 ⟨rfl, ⟨p1, ha1, -, -, hrd1⟩, hF1⟩
  have hc1 : ∀ o, w1.cell? ⟨w.heap.size, o, none⟩ = (w.alloc (.cells #[.int .i64 0, .int .i64 0, .bool false] 102)).cell? ⟨w.heap.size, o, none⟩ := fun o => hF1.cell (by simp) hne
  have hf1 : ∀ o, w1.frozen? ⟨w.heap.size, o, none⟩ = (w.alloc (.cells #[.int .i64 0, .int .i64 0, .bool false] 102)).frozen? ⟨w.heap.size, o, none⟩ := fun o => hF1.frozen (by simp) hne
  by_cases h91 : Fm.hd l = 91
  rotate_left
  · have h91' : (Fm.hd l != 91) = true := bne_iff_ne.2 h91
    have Hw := hide (itv_no1 (bk := false) h91)
    go_wp2_with fail
    rw [unhide Hw]
    refine bodyPost_ret (v := .tuple #[.agg #[.int .i64 0, .int .i64 0, .bool false], .bool false]) (by simp [results, Tryz.results145, go_sem, hc1]) rfl ⟨⟨0, 0, false, rfl⟩, ?_⟩
    repeat (refine Fr.setNew ?_ (Nat.le_refl _) _)
    exact ((Fr.refl _ _).alloc _).trans hF1
  have h91' : (Fm.hd l != 91) = false := by simp [h91]
  have H91 := hide h91
  clear h91
  go_wp2_with fail
  refine (number_any _ hrd1 ha1 hsz).mono ?_
  rintro e w2 ⟨hpost, hfr2⟩
  have hF2 := hF1.trans hfr2
  have hc2 : ∀ o, w2.cell? ⟨w.heap.size, o, none⟩ = (w.alloc (.cells #[.int .i64 0, .int .i64 0, .bool false] 102)).cell? ⟨w.heap.size, o, none⟩ := fun o => hF2.cell (by simp) hne
  have hf2 : ∀ o, w2.frozen? ⟨w.heap.size, o, none⟩ = (w.alloc (.cells #[.int .i64 0, .int .i64 0, .bool false] 102)).frozen? ⟨w.heap.size, o, none⟩ := fun o => hF2.frozen (by simp) hne
  clear hc1 hf1
  rcases hn : Fm.num false 0 l.tail with _ | ⟨lo, l2⟩
  · rw [hn] at hpost
    obtain ⟨x, rfl⟩ := hpost
    have Hw := hide (itv_no2 (bk := false) (unhide H91) hn)
    clear hn
    go_wp2_with fail
    rw [unhide Hw]
    refine bodyPost_ret (v := .tuple #[.agg #[.int .i64 0, .int .i64 0, .bool false], .bool false]) (by simp [results, Tryz.results145, go_sem, hc2]) rfl ⟨⟨0, 0, false, rfl⟩, ?_⟩
    repeat (refine Fr.setNew ?_ (Nat.le_refl _) _)
    exact ((Fr.refl _ _).alloc _).trans hF2
  rw [hn] at hpost
  obtain ⟨rfl, hlo, p2, ha2, hrd2⟩ := hpost
  have Hn := hide hn
  clear hn
  go_wp2_with fail
  refine (next_any _ hrd2 ha2 hsz).mono ?_
  rintro e w3 ⟨rfl, ⟨p3, ha3, -, -, hrd3⟩, hfr3⟩
  have hF3 := hF2.trans hfr3
  have hc3 : ∀ o, w3.cell? ⟨w.heap.size, o, none⟩ = (w.alloc (.cells #[.int .i64 0, .int .i64 0, .bool false] 102)).cell? ⟨w.heap.size, o, none⟩ := fun o => hF3.cell (by simp) hne
  have hf3 : ∀ o, w3.frozen? ⟨w.heap.size, o, none⟩ = (w.alloc (.cells #[.int .i64 0, .int .i64 0, .bool false] 102)).frozen? ⟨w.heap.size, o, none⟩ := fun o => hF3.frozen (by simp) hne
  clear hc2 hf2
  by_cases h44 : Fm.hd l2 = 44
  rotate_left
  · have h44' : (Fm.hd l2 != 44) = true := bne_iff_ne.2 h44
    have Hw := hide (itv_no3 (bk := false) (unhide H91) (unhide Hn) h44)
    go_wp2_with fail
    rw [unhide Hw]
    refine bodyPost_ret (v := .tuple #[.agg #[.int .i64 0, .int .i64 0, .bool false], .bool false]) (by simp [results, Tryz.results145, go_sem, hc3]) rfl ⟨⟨0, 0, false, rfl⟩, ?_⟩
    repeat (refine Fr.setNew ?_ (Nat.le_refl _) _)
    exact ((Fr.refl _ _).alloc _).trans hF3
  have h44' : (Fm.hd l2 != 44) = false := by simp [h44]
  have H44 := hide h44
  clear h44
  have Hw := hide (itv_end (bk := false) (unhide H91) (unhide Hn) (unhide H44) (.inl rfl))
  go_wp2_with (first | (go_at_call 166; refine (looksBack_any _ _).mono ?_; rintro e w' ⟨rfl, rfl⟩))
  refine (number_any _ hrd3 ha3 hsz).mono ?_
  rintro e w4 ⟨hpost, hfr4⟩
  have hF4 := hF3.trans hfr4
  have hc4 : ∀ o, w4.cell? ⟨w.heap.size, o, none⟩ = (w.alloc (.cells #[.int .i64 0, .int .i64 0, .bool false] 102)).cell? ⟨w.heap.size, o, none⟩ := fun o => hF4.cell (by simp) hne
  have hf4 : ∀ o, w4.frozen? ⟨w.heap.size, o, none⟩ = (w.alloc (.cells #[.int .i64 0, .int .i64 0, .bool false] 102)).frozen? ⟨w.heap.size, o, none⟩ := fun o => hF4.frozen (by simp) hne
  clear hc3 hf3
  rcases hn4 : Fm.num false 0 l2.tail with _ | ⟨hi, l4⟩
  · rw [hn4] at hpost
    obtain ⟨x, rfl⟩ := hpost
    have Hw2 : Hid (Fm.itv false l = none) := by rw [Hid, unhide Hw]; unfold Fm.itvEnd; rw [hn4]
    clear hn4
    go_wp2_with fail
    rw [unhide Hw2]
    refine bodyPost_ret (v := .tuple #[.agg #[.int .i64 0, .int .i64 0, .bool false], .bool false]) (by simp [results, Tryz.results145, go_sem, hc4]) rfl ⟨⟨0, 0, false, rfl⟩, ?_⟩
    repeat (refine Fr.setNew ?_ (Nat.le_refl _) _)
    exact ((Fr.refl _ _).alloc _).trans hF4
  rw [hn4] at hpost
  obtain ⟨rfl, hhi, p4, ha4, hrd4⟩ := hpost
  by_cases hlh : hi < lo
  · have hlh' : (hi : Int) < (lo : Int) := by omega
    have Hw2 : Hid (Fm.itv false l = none) := by rw [Hid, unhide Hw]; unfold Fm.itvEnd; rw [hn4]; simp only; rw [if_pos hlh]
    clear hn4
    go_wp2_with fail
    rw [unhide Hw2]
    refine bodyPost_ret (v := .tuple #[.agg #[.int .i64 0, .int .i64 0, .bool false], .bool false]) (by simp [results, Tryz.results145, go_sem, hc4]) rfl ⟨⟨0, 0, false, rfl⟩, ?_⟩
    repeat (refine Fr.setNew ?_ (Nat.le_refl _) _)
    exact ((Fr.refl _ _).alloc _).trans hF4
  have hlh' : ¬ (hi : Int) < (lo : Int) := by omega
  have Hw2 : Hid (Fm.itv false l = if Fm.hd l4 = 93 then some (⟨lo, hi, false⟩, l4.tail) else none) := by rw [Hid, unhide Hw]; unfold Fm.itvEnd; rw [hn4]; simp only; rw [if_neg hlh]
  clear hn4
  go_wp2_with fail
  refine (next_any _ hrd4 ha4 hsz).mono ?_
  rintro e w5 ⟨rfl, ⟨p5, ha5, -, -, hrd5⟩, hfr5⟩
  have hF5 := hF4.trans hfr5
  have hc5 : ∀ o, w5.cell? ⟨w.heap.size, o, none⟩ = (w.alloc (.cells #[.int .i64 0, .int .i64 0, .bool false] 102)).cell? ⟨w.heap.size, o, none⟩ := fun o => hF5.cell (by simp) hne
  have hf5 : ∀ o, w5.frozen? ⟨w.heap.size, o, none⟩ = (w.alloc (.cells #[.int .i64 0, .int .i64 0, .bool false] 102)).frozen? ⟨w.heap.size, o, none⟩ := fun o => hF5.frozen (by simp) hne
  clear hc4 hf4
  by_cases h93 : Fm.hd l4 = 93
  · have h93' : (Fm.hd l4 == 93) = true := by simp [h93]
    have Hw3 := hide ((unhide Hw2).trans (if_pos h93))
    clear h93
    go_wp2_with fail
    rw [unhide Hw3]
    refine bodyPost_ret (v := .tuple #[.agg #[.int .i64 lo, .int .i64 hi, .bool false], .bool true]) (by simp [results, Tryz.results145, go_sem, hc5]) rfl ⟨⟨rfl, hlo, hhi, p5, ha5, ?_⟩, ?_⟩
    · repeat (refine Rd.far ?_ hne _)
      exact hrd5
    · repeat (refine Fr.setNew ?_ (Nat.le_refl _) _)
      exact ((Fr.refl _ _).alloc _).trans hF5
  · have h93' : (Fm.hd l4 == 93) = false := by simp [h93]
    have Hw3 := hide ((unhide Hw2).trans (if_neg h93))
    clear h93
    go_wp2_with fail
    rw [unhide Hw3]
    refine bodyPost_ret (v := .tuple #[.agg #[.int .i64 lo, .int .i64 hi, .bool false], .bool false]) (by simp [results, Tryz.results145, go_sem, hc5]) rfl ⟨⟨_, _, _, rfl⟩, ?_⟩
    repeat (refine Fr.setNew ?_ (Nat.le_refl _) _)
    exact ((Fr.refl _ _).alloc _).trans hF5

theorem within_any {b : Nat} {s : ByteArray} {p : Nat} {n : Int} {l : List UInt8} (c : Int) (w : World) (h : Rd w b s p n) (ha : Fm.At s p l) (hs : s.size ≤ maxLen) :
    Calls Tryz.prog 145 #[.pointer (some ⟨b, 0, none⟩), .int .u8 c] w fun e w' => WithPost b s n e w' (Fm.within c l) ∧ Fr b w w' := by
  cases hb : Fm.backB c with
  | true =>
    have e : Fm.within c l = Fm.itv true l := by unfold Fm.within; rw [hb]; rfl
    rw [e]
    exact within_true c w h ha hs hb
  | false =>
    cases hh : Fm.aheadB c with
    | true =>
      have e : Fm.within c l = Fm.itv false l := by unfold Fm.within; rw [hb, hh]; rfl
      rw [e]
      exact within_false c w h ha hs hb hh
    | false => exact within_none c w h ha hb hh

end Go.Proofs.YtnbbfjbndachgaaGreat
