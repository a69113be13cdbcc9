/- The reader's single: a sign ahead of its one part. -/
import Derived.Test.YtnbbfjbndachgaaGreatRep
namespace Go.Proofs.YtnbbfjbndachgaaGreat
open Go.RowKit

set_option maxHeartbeats 4000000 in
theorem single_any {b : Nat} {s : ByteArray} {k : Nat} (hok : FormOk b s k) {p : Nat} {l : List UInt8} (c : Int) (w : World) (h : Rd w b s p (20 - (k : Int))) (ha : Fm.At s p l) (hs : s.size ≤ maxLen) :
    Calls Tryz.prog 118 #[.pointer (some ⟨b, 0, none⟩), .int .u8 c] w fun e w' => FormPost w.heap.size b s e w' (Fm.single k c l) ∧ Fr b w w' := by
  have hlt := h.lt
  have hne : w.heap.size ≠ b := by omega
  go_enter Tryz.func118, Tryz.ntmps118
  go_wp2_with fail
  refine (within_any c _ (h.alloc _) ha hs).mono ?_
  rintro e w1 ⟨hpost, hF1⟩
  have hc1 : ∀ o, w1.cell? ⟨w.heap.size, o, none⟩ = (w.alloc (.cells #[.int .u8 0, .int .i64 0, .int .i64 0, .bool false, .slice none 0 0] 105)).cell? ⟨w.heap.size, o, none⟩ := fun o => hF1.cell (by simp) hne
  have hf1 : ∀ o, w1.frozen? ⟨w.heap.size, o, none⟩ = (w.alloc (.cells #[.int .u8 0, .int .i64 0, .int .i64 0, .bool false, .slice none 0 0] 105)).frozen? ⟨w.heap.size, o, none⟩ := fun o => hF1.frozen (by simp) hne
  have hz1 : w.heap.size < w1.heap.size := by have := hF1.size; simp at this; omega
  have hz1' : w.heap.size ≠ w1.heap.size := by omega
  rcases hn : Fm.within c l with _ | ⟨i, l2⟩
  · rw [hn] at hpost
    obtain ⟨x, y, z, rfl⟩ := hpost
    have Hw : Hid (Fm.single k c l = none) := by unfold Hid Fm.single; rw [hn]
    clear hn
    go_wp2_with fail
    rw [unhide Hw]
    refine bodyPost_ret (v := .tuple #[.agg #[.int .u8 0, .int .i64 0, .int .i64 0, .bool false, .slice none 0 0], .bool false]) (by simp [results, Tryz.results118, go_sem, hc1, hz1]) rfl ⟨rfl, ?_⟩
    repeat (first | refine Fr.alloc ?_ _ | refine Fr.setNew ?_ (Nat.le_refl _) _)
    exact ((Fr.refl _ _).alloc _).trans hF1
  rw [hn] at hpost
  obtain ⟨rfl, hlo, hhi, p1, ha1, hrd1⟩ := hpost
  have Hn := hide hn
  clear hn hc1 hf1
  go_wp2_with fail
  refine (hok _ _ _ (hrd1.alloc _) ha1).mono ?_
  rintro e w2 ⟨hpost, hF2⟩
  have hF02 := (hF1.alloc _).trans hF2
  have hb1 : w1.heap.size ≠ b := by omega
  have hc2 : ∀ o, w2.cell? ⟨w.heap.size, o, none⟩ = (w.alloc (.cells #[.int .u8 0, .int .i64 0, .int .i64 0, .bool false, .slice none 0 0] 105)).cell? ⟨w.heap.size, o, none⟩ := fun o => hF02.cell (by simp) hne
  have hf2 : ∀ o, w2.frozen? ⟨w.heap.size, o, none⟩ = (w.alloc (.cells #[.int .u8 0, .int .i64 0, .int .i64 0, .bool false, .slice none 0 0] 105)).frozen? ⟨w.heap.size, o, none⟩ := fun o => hF02.frozen (by simp) hne
  have hd2 : ∀ o, w2.cell? ⟨w1.heap.size, o, none⟩ = (w1.alloc (.cells #[.int .i64 i.lo, .int .i64 i.hi, .bool i.endless] 102)).cell? ⟨w1.heap.size, o, none⟩ := fun o => hF2.cell (by simp) hb1
  have hz2 : w1.heap.size < w2.heap.size := by have := hF2.size; simp at this; omega
  have hz2' : w1.heap.size ≠ w2.heap.size := by omega
  have hz3 : w.heap.size < w2.heap.size := by omega
  have hz3' : w.heap.size ≠ w2.heap.size := by omega
  have hz4' : w.heap.size ≠ w2.heap.size + 1 := by omega
  rcases hn : Fm.form k l2 with _ | ⟨t, k3, l3⟩
  · rw [hn] at hpost
    have hpost : e = _ := hpost
    subst hpost
    have Hw : Hid (Fm.single k c l = none) := by unfold Hid Fm.single; rw [unhide Hn]; simp only; rw [hn]
    clear hn
    go_wp2_with fail
    rw [unhide Hw]
    refine bodyPost_ret (v := .tuple #[.agg #[.int .u8 0, .int .i64 0, .int .i64 0, .bool false, .slice none 0 0], .bool false]) (by simp [results, Tryz.results118, go_sem, hc2, hz3]) rfl ⟨rfl, ?_⟩
    repeat (first | refine Fr.alloc ?_ _ | refine Fr.setNew ?_ (Nat.le_refl _) _)
    exact ((Fr.refl _ _).alloc _).trans hF02
  rw [hn] at hpost
  obtain ⟨⟨ao, na, rfl, hrep⟩, p3, ha3, hrd3⟩ := hpost
  have Hw : Hid (Fm.single k c l = some (.un c i t, k3, l3)) := by unfold Hid Fm.single; rw [unhide Hn]; simp only; rw [hn]
  clear hn
  go_wp2_with fail
  rw [unhide Hw]
  refine bodyPost_ret (v := .tuple #[.agg #[.int .u8 c, .int .i64 i.lo, .int .i64 i.hi, .bool i.endless, .slice (some ⟨w2.heap.size + 1, 0, none⟩) 1 1], .bool true]) (by simp [results, Tryz.results118, go_sem, hc2, hz3]) rfl ⟨⟨⟨_, _, rfl, ?_⟩, p3, ha3, ?_⟩, ?_⟩
  · refine ⟨w2.heap.size + 1, ao, na, rfl, rfl, by omega, by simp, node_new _ (by simp) _ _, ?_⟩
    refine Rep.alloc (Rep.alloc ?_ _) _
    refine Rep.mono (B := (w1.alloc (.cells #[.int .i64 i.lo, .int .i64 i.hi, .bool i.endless] 102)).heap.size) ?_ (by simp; omega)
    repeat (refine Rep.set ?_ (by simp; omega) _)
    exact hrep
  · refine Rd.alloc (Rd.alloc ?_ _) _
    repeat (refine Rd.far ?_ hne _)
    exact hrd3
  · repeat (first | refine Fr.alloc ?_ _ | refine Fr.setNew ?_ (Nat.le_refl _) _)
    exact ((Fr.refl _ _).alloc _).trans hF02

end Go.Proofs.YtnbbfjbndachgaaGreat
