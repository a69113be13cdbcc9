/- The document's interval. -/
import Derived.Test.YtnbbfjbndachgaaGreatRNum
import Derived.Test.YtnbbfjbndachgaaGreatWith
namespace Go.Proofs.YtnbbfjbndachgaaGreat
open Go.RowKit

/-- How the document writes an interval's end: -1, if there is none. -/
def toI (i : Fm.Itv) : Int := if i.endless then -1 else i.hi

def RItvPost (s : ByteArray) (e : Ending) : Option (Fm.Itv × List UInt8) → Prop
  | some (i, l') => i.lo ≤ 1000 ∧ i.hi ≤ 1000 ∧ ∃ p', Fm.At s p' l' ∧ e = .returned (.tuple #[.int .i64 i.lo, .int .i64 (toI i), .int .i64 (p' : Nat)])
  | none => e = .returned (.tuple #[.int .i64 0, .int .i64 0, .int .i64 (-1)])

theorem rnumber_at (s : ByteArray) (x : Int) (i : Nat) (l : List UInt8) (w : World) (hx : x = (i : Int)) (ha : Fm.At s i l) (hs : s.size ≤ 140737488351232) :
    Calls Tryz.prog 168 #[.string s, .int .i64 x] w fun e w' => RNumPost s e (Fm.num false 0 l) ∧ w' = w := by
  subst hx; exact rnumber_any s i l w ha hs

/-- The byte at a place, as the walk writes the test. -/
theorem at_eq {s : ByteArray} {p : Nat} {l : List UInt8} (ha : Fm.At s p l) (hp : p < s.size) {c : Int} (h : Fm.hd l = c) : (((s[p]).toNat : Int) != c) = false := by rw [← ha.hd hp, h]; simp
theorem at_ne {s : ByteArray} {p : Nat} {l : List UInt8} (ha : Fm.At s p l) (hp : p < s.size) {c : Int} (h : Fm.hd l ≠ c) : (((s[p]).toNat : Int) != c) = true := by rw [← ha.hd hp]; exact bne_iff_ne.2 h
theorem at_pos {s : ByteArray} {p : Nat} {l : List UInt8} (ha : Fm.At s p l) {c : Int} (h : Fm.hd l = c) (hc : c ≠ 0) : p < s.size := by
  rcases Nat.lt_or_ge p s.size with h1 | h1
  · exact h1
  · rw [ha.ge h1] at h; simp [Fm.hd] at h; omega

set_option maxHeartbeats 2000000 in
set_option maxRecDepth 100000 in
theorem rinterval_any (s : ByteArray) (i : Nat) (l : List UInt8) (past : Bool) (w : World) (ha : Fm.At s i l) (hs : s.size ≤ 140737488351232) :
    Calls Tryz.prog 147 #[.string s, .int .i64 i, .bool past] w fun e w' => RItvPost s e (Fm.itv past l) ∧ w' = w := by
  have hi := ha.le
  by_cases h91 : Fm.hd l = 91
  rotate_left
  · have Hw := hide (itv_no1 (bk := past) h91)
    by_cases hp : i < s.size
    · have e1 := at_ne ha hp h91
      go_enter Tryz.func147, Tryz.ntmps147
      go_wp2_with fail
      go_ret3
      rw [unhide Hw]
      exact ⟨rfl, rfl⟩
    · go_enter Tryz.func147, Tryz.ntmps147
      go_wp2_with fail
      go_ret3
      rw [unhide Hw]
      exact ⟨rfl, rfl⟩
  have hp := at_pos ha h91 (by omega)
  have e1 := at_eq ha hp h91
  have ha1 := ha.succ hp
  have H91 := hide h91
  clear h91
  go_enter Tryz.func147, Tryz.ntmps147
  go_wp2_with fail
  refine (rnumber_at s _ (i + 1) _ _ (by omega) ha1 hs).mono ?_
  rintro e w1 ⟨hpost, rfl⟩
  rcases hn : Fm.num false 0 l.tail with _ | ⟨lo, l2⟩
  · rw [hn] at hpost
    have hpost : e = _ := hpost
    subst hpost
    have Hw := hide (itv_no2 (bk := past) (unhide H91) hn)
    clear hn
    go_wp2_with fail
    go_ret3
    rw [unhide Hw]
    exact ⟨rfl, rfl⟩
  rw [hn] at hpost
  obtain ⟨hlo, p2, ha2, rfl⟩ := hpost
  have Hn := hide hn
  clear hn
  have hp2 := ha2.le
  by_cases h44 : Fm.hd l2 = 44
  rotate_left
  · have Hw := hide (itv_no3 (bk := past) (unhide H91) (unhide Hn) h44)
    by_cases hp : p2 < s.size
    · have e2 := at_ne ha2 hp h44
      go_wp2_with fail
      go_ret3
      rw [unhide Hw]
      exact ⟨rfl, rfl⟩
    · go_wp2_with fail
      go_ret3
      rw [unhide Hw]
      exact ⟨rfl, rfl⟩
  have hp2' := at_pos ha2 h44 (by omega)
  have e2 := at_eq ha2 hp2' h44
  have ha3 := ha2.succ hp2'
  have H44 := hide h44
  clear h44 e1
  by_cases h105 : past = true ∧ Fm.hd l2.tail = 105
  · obtain ⟨rfl, h105⟩ := h105
    have hp3 := at_pos ha3 h105 (by omega)
    have e3 := at_eq ha3 hp3 h105
    have ha4 := ha3.succ hp3
    have Hw := hide (itv_i (unhide H91) (unhide Hn) (unhide H44) h105)
    clear h105
    by_cases h93 : Fm.hd l2.tail.tail = 93
    · have hp4 := at_pos ha4 h93 (by omega)
      have e4 := at_eq ha4 hp4 h93
      have Hw2 := hide ((unhide Hw).trans (if_pos h93))
      clear h93
      go_wp2_with fail
      go_ret3
      rw [unhide Hw2]
      exact ⟨⟨hlo, by simp, _, ha4.succ hp4, rfl⟩, rfl⟩
    · have Hw2 := hide ((unhide Hw).trans (if_neg h93))
      by_cases hp4 : p2 + 2 < s.size
      · have e4 := at_ne ha4 hp4 h93
        go_wp2_with fail
        go_ret3
        rw [unhide Hw2]
        exact ⟨rfl, rfl⟩
      · go_wp2_with fail
        go_ret3
        rw [unhide Hw2]
        exact ⟨rfl, rfl⟩
  have Hw := hide (itv_end (bk := past) (unhide H91) (unhide Hn) (unhide H44) (by
    cases past with
    | false => exact .inl rfl
    | true => exact .inr fun h => h105 ⟨rfl, h⟩))
  have hc3 : (¬ p2 + 1 < s.size) ∨ (∃ h : p2 + 1 < s.size, (((s[p2 + 1]).toNat : Int) != 105) = true) ∨ (∃ h : p2 + 1 < s.size, (((s[p2 + 1]).toNat : Int) != 105) = false ∧ past = false) := by
    by_cases h1 : p2 + 1 < s.size
    · by_cases h2 : Fm.hd l2.tail = 105
      · refine .inr (.inr ⟨h1, at_eq ha3 h1 h2, ?_⟩)
        cases past with
        | false => rfl
        | true => exact absurd ⟨rfl, h2⟩ h105
      · exact .inr (.inl ⟨h1, at_ne ha3 h1 h2⟩)
    · exact .inl h1
  clear h105
  rcases hc3 with hp3 | ⟨hp3, e3⟩ | ⟨hp3, e3, rfl⟩
  all_goals
    go_wp2_with fail
    refine (rnumber_at s _ (p2 + 1) _ _ (by omega) ha3 hs).mono ?_
    rintro e w2 ⟨hpost, rfl⟩
    rcases hn4 : Fm.num false 0 l2.tail with _ | ⟨hi, l4⟩
    · rw [hn4] at hpost
      have hpost : e = _ := hpost
      subst hpost
      have Hw2 : Hid (Fm.itv _ l = none) := (unhide Hw).trans (by unfold Fm.itvEnd; rw [hn4])
      clear hn4
      go_wp2_with fail
      go_ret3
      rw [unhide Hw2]
      exact ⟨rfl, rfl⟩
    rw [hn4] at hpost
    obtain ⟨hhi, p4, ha4, rfl⟩ := hpost
    have hp4 := ha4.le
    by_cases hlh : hi < lo
    · have hlh' : (hi : Int) < (lo : Int) := by omega
      have Hw2 : Hid (Fm.itv _ l = none) := (unhide Hw).trans (by unfold Fm.itvEnd; rw [hn4]; simp only; rw [if_pos hlh])
      clear hn4
      go_wp2_with fail
      go_ret3
      rw [unhide Hw2]
      exact ⟨rfl, rfl⟩
    have hlh' : ¬ (hi : Int) < (lo : Int) := by omega
    have Hw2 : Hid (Fm.itv _ l = if Fm.hd l4 = 93 then some (⟨lo, hi, false⟩, l4.tail) else none) := (unhide Hw).trans (by unfold Fm.itvEnd; rw [hn4]; simp only; rw [if_neg hlh])
    clear hn4
    by_cases h93 : Fm.hd l4 = 93
    · have hp4' := at_pos ha4 h93 (by omega)
      have e4 := at_eq ha4 hp4' h93
      have Hw3 := hide ((unhide Hw2).trans (if_pos h93))
      clear h93
      go_wp2_with fail
      go_ret3
      rw [unhide Hw3]
      exact ⟨⟨hlo, hhi, _, ha4.succ hp4', rfl⟩, rfl⟩
    · have Hw3 := hide ((unhide Hw2).trans (if_neg h93))
      by_cases hp4' : p4 < s.size
      · have e4 := at_ne ha4 hp4' h93
        go_wp2_with fail
        go_ret3
        rw [unhide Hw3]
        exact ⟨rfl, rfl⟩
      · go_wp2_with fail
        go_ret3
        rw [unhide Hw3]
        exact ⟨rfl, rfl⟩

theorem rinterval_at (s : ByteArray) (x : Int) (i : Nat) (l : List UInt8) (past : Bool) (w : World) (hx : x = (i : Int)) (ha : Fm.At s i l) (hs : s.size ≤ 140737488351232) :
    Calls Tryz.prog 147 #[.string s, .int .i64 x, .bool past] w fun e w' => RItvPost s e (Fm.itv past l) ∧ w' = w := by
  subst hx; exact rinterval_any s i l past w ha hs

end Go.Proofs.YtnbbfjbndachgaaGreat
