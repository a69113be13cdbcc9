/- The document's formulas of one part. -/
import Derived.Test.YtnbbfjbndachgaaGreatRForm
namespace Go.Proofs.YtnbbfjbndachgaaGreat
open Go.RowKit

theorem below_node {w w1 : World} (h : Below w.heap.size w w1) (o : Obj) : Below w.heap.size w (w1.alloc o) := h.alloc h.size o

set_option maxHeartbeats 1000000 in
theorem rform_not (s : ByteArray) (k : Nat) (hk : k < 20) (hok : RFormOk s k) (w : World) (p : Nat) (l : List UInt8) (ha : Fm.At s p l) (hs : s.size ≤ 140737488351232) (hp : p < s.size) (h : Fm.hd l = 33) :
    Calls Tryz.prog 120 #[.string s, .int .i64 p, .int .i64 ((k + 1 : Nat) : Int)] w fun e w' => RFPost w.heap.size ((k + 1 : Nat) : Int) s e w' (Fm.form (k + 1) l) ∧ Below w.heap.size w w' := by
  have Hw : Hid (Fm.form (k + 1) l = match Fm.form k l.tail with | none => none | some (t, k3, l3) => some (.un 33 ⟨0, 0, false⟩ t, k3, l3)) := by
    unfold Hid; rw [Fm.form_succ, h]; rfl
  have hc : (s[p]).toNat = 33 := by have := ha.hd hp; rw [h] at this; omega
  have ha1 := ha.succ hp
  clear h
  go_enter Tryz.func120, Tryz.ntmps120
  go_wp2_with fail
  refine (hok _ _ _ (p + 1) l.tail (by omega) (by omega) ha1).mono ?_
  rintro e w1 ⟨hpost, hB1⟩
  rcases hn : Fm.form k l.tail with _ | ⟨t, k3, l3⟩
  · rw [hn] at hpost
    have hpost : e = _ := hpost
    subst hpost
    have Hw2 : Hid (Fm.form (k + 1) l = none) := by unfold Hid; rw [unhide Hw, hn]
    clear hn
    go_wp2_with fail
    go_ret3
    rw [unhide Hw2]
    exact ⟨rfl, hB1⟩
  · rw [hn] at hpost
    obtain ⟨g, p3, rfl, hrep, ha3⟩ := hpost
    have Hw2 : Hid (Fm.form (k + 1) l = some (.un 33 ⟨0, 0, false⟩ t, k3, l3)) := by unfold Hid; rw [unhide Hw, hn]
    have hk3 := Fm.form_lt hn
    have Hk : Hid ((k : Int) - (k3 : Nat) + 1 = ((k + 1 : Nat) : Int) - (k3 : Nat)) := by show _ = _; omega
    clear hn
    go_wp2_with fail
    go_ret3
    rw [unhide Hw2]
    refine ⟨⟨w1.heap.size, p3, ?_, ⟨g, hB1.size, by simp, nodeB_new _ _ _ _ _ _, hrep.alloc _⟩, ha3⟩, below_node hB1 _⟩
    rw [← unhide Hk]; rfl

set_option maxHeartbeats 4000000 in
theorem rform_itv (s : ByteArray) (k : Nat) (hk : k < 20) (hok : RFormOk s k) (w : World) (p : Nat) (l : List UInt8) (ha : Fm.At s p l) (hs : s.size ≤ 140737488351232) (hp : p < s.size) (past : Bool) (c : Int)
    (hcc : (c = 79 ∧ past = true) ∨ (c = 72 ∧ past = true) ∨ (c = 70 ∧ past = false) ∨ (c = 71 ∧ past = false)) (h : Fm.hd l = c) :
    Calls Tryz.prog 120 #[.string s, .int .i64 p, .int .i64 ((k + 1 : Nat) : Int)] w fun e w' => RFPost w.heap.size ((k + 1 : Nat) : Int) s e w' (Fm.form (k + 1) l) ∧ Below w.heap.size w w' := by
  have Hw : Hid (Fm.form (k + 1) l = match Fm.itv past l.tail with | none => none | some (i, l2) => match Fm.form k l2 with | none => none | some (t, k3, l3) => some (.un c i t, k3, l3)) := by
    unfold Hid; rw [Fm.form_succ, h]
    rcases hcc with ⟨rfl, rfl⟩ | ⟨rfl, rfl⟩ | ⟨rfl, rfl⟩ | ⟨rfl, rfl⟩ <;> rfl
  have hc : ((s[p]).toNat : Int) = c := by rw [← ha.hd hp, h]
  have ha1 := ha.succ hp
  clear h
  rcases hcc with ⟨hcv, rfl⟩ | ⟨hcv, rfl⟩ | ⟨hcv, rfl⟩ | ⟨hcv, rfl⟩
  all_goals
    have hc' : (s[p]).toNat = _ := Int.ofNat_inj.1 (hc.trans hcv)
    have Hcv := hide hcv
    clear hcv
    clear hc
    go_enter Tryz.func120, Tryz.ntmps120
    go_wp2_with fail
    refine (rinterval_at s _ (p + 1) l.tail _ _ (by omega) ha1 hs).mono ?_
    rintro e w1 ⟨hpost, rfl⟩
    rcases hn : Fm.itv _ l.tail with _ | ⟨i, l2⟩
    · rw [hn] at hpost
      have hpost : e = _ := hpost
      subst hpost
      have Hw2 : Hid (Fm.form (k + 1) l = none) := by unfold Hid; rw [unhide Hw, hn]
      clear hn
      go_wp2_with fail
      go_ret3
      rw [unhide Hw2]
      exact ⟨rfl, Below.refl _ _⟩
    rw [hn] at hpost
    obtain ⟨hlo, hhi, p2, ha2, rfl⟩ := hpost
    have Hn := hide hn
    clear hn
    have hp2 := ha2.le
    go_wp2_with fail
    refine (hok _ _ _ p2 l2 rfl (by omega) ha2).mono ?_
    rintro e w2 ⟨hpost, hB1⟩
    rcases hn : Fm.form k l2 with _ | ⟨t, k3, l3⟩
    · rw [hn] at hpost
      have hpost : e = _ := hpost
      subst hpost
      have Hw2 : Hid (Fm.form (k + 1) l = none) := by unfold Hid; rw [unhide Hw, unhide Hn]; simp only; rw [hn]
      clear hn
      go_wp2_with fail
      go_ret3
      rw [unhide Hw2]
      exact ⟨rfl, hB1⟩
    · rw [hn] at hpost
      obtain ⟨g, p3, rfl, hrep, ha3⟩ := hpost
      have Hw2 : Hid (Fm.form (k + 1) l = some (.un c i t, k3, l3)) := by unfold Hid; rw [unhide Hw, unhide Hn]; simp only; rw [hn]
      have hk3 := Fm.form_lt hn
      have Hk : Hid ((k : Int) - (k3 : Nat) + 1 = ((k + 1 : Nat) : Int) - (k3 : Nat)) := by show _ = _; omega
      clear hn
      go_wp2_with fail
      go_ret3
      rw [unhide Hw2, unhide Hcv]
      refine ⟨⟨w2.heap.size, p3, ?_, ⟨g, hB1.size, by simp, nodeB_new _ _ _ _ _ _, hrep.alloc _⟩, ha3⟩, below_node hB1 _⟩
      rw [← unhide Hk]; rfl

end Go.Proofs.YtnbbfjbndachgaaGreat
