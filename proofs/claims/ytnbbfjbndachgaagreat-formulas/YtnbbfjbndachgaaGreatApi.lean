/- Parse, and the call Horizon. -/
import Derived.Test.YtnbbfjbndachgaaGreatFormA
import Derived.Test.YtnbbfjbndachgaaGreatHor
import Derived.Test.YtnbbfjbndachgaaGreatFb
namespace Go.Proofs.YtnbbfjbndachgaaGreat
open Go.RowKit

/-- What a text is read as. -/
def parsed (l : List UInt8) : Option Fm.Tree :=
  match Fm.form 20 l with
  | some (t, _, []) => some t
  | _ => none

def ParsePost (B : Nat) (e : Ending) (w' : World) : Option Fm.Tree → Prop
  | some t => ∃ ao n, e = .returned (.tuple #[.agg #[.int .u8 t.sg, .int .i64 t.lo, .int .i64 t.hi, .bool t.en, .slice ao n n], .bool true]) ∧ Rep B w' t ao n
  | none => e = .returned (.tuple #[.agg #[.int .u8 0, .int .i64 0, .int .i64 0, .bool false, .slice none 0 0], .bool false])

set_option maxHeartbeats 2000000 in
theorem parse_any (s : ByteArray) (w : World) (hs : s.size ≤ maxLen) :
    Calls Tryz.prog 50 #[.string s] w fun e w' => ParsePost w.heap.size e w' (parsed s.data.toList) ∧ Below w.heap.size w w' := by
  have hne : w.heap.size ≠ w.heap.size + 1 := by omega
  have ha := Fm.At.start s
  have hrd0 : Rd ((w.alloc (.cells #[.int .u8 0, .int .i64 0, .int .i64 0, .bool false, .slice none 0 0] 105)).alloc (.cells #[.string s, .int .i64 0, .int .i64 0] 156)) (w.heap.size + 1) s 0 (20 - ((20 : Nat) : Int)) := by
    constructor <;> simp [go_sem]
  go_enter Tryz.func50, Tryz.ntmps50
  go_wp2_with fail
  refine (form_any _ s hs 20 (Nat.le_refl _) _ _ _ hrd0 ha).mono ?_
  rintro e w1 ⟨hpost, hF1⟩
  have hF0 : Fr (w.heap.size + 1) (w.alloc (.cells #[.int .u8 0, .int .i64 0, .int .i64 0, .bool false, .slice none 0 0] 105)) w1 := ((Fr.refl _ _).alloc _).trans hF1
  obtain ⟨⟨x0, x1, x2, x3, x4⟩, y0, y1, y2, y3, y4⟩ := fr_zero5 hF0 hne
  have hz1 : w.heap.size + 2 ≤ w1.heap.size := by have := hF1.size; simp at this; omega
  have hz1' : w.heap.size ≠ w1.heap.size := by omega
  have hz1'' : w.heap.size < w1.heap.size := by omega
  have hz2 : w.heap.size + 1 < w1.heap.size := by omega
  have hz2' : w.heap.size + 1 ≠ w1.heap.size := by omega
  have hB1 : Below w.heap.size w w1 := ((Below.refl _ _).alloc (Nat.le_refl _) _).trans (hF0.below (by omega) (by simp))
  rcases hn : Fm.form 20 s.data.toList with _ | ⟨t, k, l'⟩
  · rw [hn] at hpost
    have hpost : e = _ := hpost
    subst hpost
    have Hw : Hid (parsed s.data.toList = none) := by unfold Hid parsed; rw [hn]
    clear hn
    go_wp2_with fail
    rw [unhide Hw]
    refine bodyPost_ret (v := .tuple #[.agg #[.int .u8 0, .int .i64 0, .int .i64 0, .bool false, .slice none 0 0], .bool false]) (by simp [results, Tryz.results50, go_sem, x0, x1, x2, x3, x4, hz1'']) rfl ⟨rfl, ?_⟩
    refine Below.alloc ?_ (by simp only [size_setCell]; omega) _
    repeat (refine Below.setCell ?_ (by exact Nat.le_refl _) _)
    exact hB1
  · rw [hn] at hpost
    obtain ⟨⟨ao, na, rfl, hrep⟩, p1, ha1, hrd1⟩ := hpost
    obtain ⟨_, d0, d1, d2, g1, g2⟩ := hrd1
    have hln := ha1.len
    cases l' with
    | cons u r =>
      have Hw : Hid (parsed s.data.toList = none) := by unfold Hid parsed; rw [hn]
      clear hn
      have hp : ((p1 : Int) != (s.size : Int)) = true := by rw [bne_iff_ne]; simp at hln; omega
      go_wp2_with fail
      rw [unhide Hw]
      refine bodyPost_ret (v := .tuple #[.agg #[.int .u8 0, .int .i64 0, .int .i64 0, .bool false, .slice none 0 0], .bool false]) (by simp [results, Tryz.results50, go_sem, x0, x1, x2, x3, x4, hz1'']) rfl ⟨rfl, ?_⟩
      refine Below.alloc ?_ (by simp only [size_setCell]; omega) _
      repeat (refine Below.setCell ?_ (by exact Nat.le_refl _) _)
      exact hB1
    | nil =>
      have Hw : Hid (parsed s.data.toList = some t) := by unfold Hid parsed; rw [hn]
      clear hn
      have hp : ((p1 : Int) != (s.size : Int)) = false := by simp at hln; simp [hln]
      go_wp2_with fail
      rw [unhide Hw]
      refine bodyPost_ret (v := .tuple #[.agg #[.int .u8 t.sg, .int .i64 t.lo, .int .i64 t.hi, .bool t.en, .slice ao na na], .bool true]) (by simp [results, Tryz.results50, go_sem, x0, x1, x2, x3, x4, hz1'']) rfl ⟨⟨ao, na, rfl, ?_⟩, ?_⟩
      · refine Rep.alloc ?_ _
        refine Rep.mono (B := w.heap.size + 1) ?_ (by omega)
        repeat (refine Rep.set ?_ (by simp) _)
        exact hrep.mono (by simp)
      · refine Below.alloc ?_ (by simp only [size_setCell]; omega) _
        repeat (refine Below.setCell ?_ (by exact Nat.le_refl _) _)
        exact hB1

/-- What Horizon answers: the horizon, the error. -/
def horA (l : List UInt8) : Int := match parsed l with | some t => Fm.hz t | none => 0
def errA (l : List UInt8) : Int := match parsed l with | some _ => 0 | none => 1

theorem parsed_le {l : List UInt8} {t : Fm.Tree} (h : parsed l = some t) : Fm.hz t ≤ 20000 := by
  unfold parsed at h
  split at h
  · rename_i hf
    simp only [Option.some.injEq] at h
    subst h
    exact Fm.form_bound hf
  · cases h

set_option maxHeartbeats 1000000 in
theorem horizon_any (s : ByteArray) (w : World) (hs : s.size ≤ maxLen) :
    Calls Tryz.prog 34 #[.string s] w fun e w' => e = .returned (.tuple #[.int .i64 (horA s.data.toList), .int .i64 (errA s.data.toList)]) ∧ Below w.heap.size w w' := by
  go_enter Tryz.func34, Tryz.ntmps34
  go_wp2_with fail
  refine (parse_any s w hs).mono ?_
  rintro e w1 ⟨hpost, hB1⟩
  have hz1 := hB1.size
  rcases hn : parsed s.data.toList with _ | t
  · rw [hn] at hpost
    have hpost : e = _ := hpost
    subst hpost
    have Hw : Hid (horA s.data.toList = 0 ∧ errA s.data.toList = 1) := by unfold Hid horA errA; rw [hn]; exact ⟨rfl, rfl⟩
    clear hn
    go_wp2_with fail
    go_ret2
    rw [(unhide Hw).1, (unhide Hw).2]
    exact ⟨rfl, hB1.alloc hz1 _⟩
  · rw [hn] at hpost
    obtain ⟨ao, na, rfl, hrep⟩ := hpost
    have Hw : Hid (horA s.data.toList = Fm.hz t ∧ errA s.data.toList = 0) := by unfold Hid horA errA; rw [hn]; exact ⟨rfl, rfl⟩
    have hle := parsed_le hn
    clear hn
    go_wp2_with fail
    refine (hor_any t _ _ _ _ (hrep.alloc _) hle).mono ?_
    rintro e w2 ⟨rfl, hB2⟩
    go_wp2_with fail
    go_ret2
    rw [(unhide Hw).1, (unhide Hw).2]
    exact ⟨rfl, (hB1.alloc hz1 _).trans (hB2.mono (by simp; omega))⟩

end Go.Proofs.YtnbbfjbndachgaaGreat
