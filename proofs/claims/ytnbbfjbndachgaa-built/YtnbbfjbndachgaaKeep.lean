/- The keeps' own small functions. -/
import Derived.Test.YtnbbfjbndachgaaApi
import Derived.Test.YtnbbfjbndachgaaBt
namespace Go.Proofs.Ytnbbfjbndachgaa
open Go.RowKit

theorem parsed_pars (l : List UInt8) : parsed l = Fm.pars l := rfl

theorem has_hor {l : List UInt8} {is : Bool} {h : Int} (hh : Fm.Has l is h) : (is = true ∧ horA l = h ∧ errA l = 0) ∨ (is = false ∧ horA l = 0 ∧ errA l = 1) := by
  unfold Fm.Has at hh
  unfold horA errA
  rw [parsed_pars]
  rcases hp : Fm.pars l with _ | t
  · rw [hp] at hh; exact .inr ⟨hh, rfl, rfl⟩
  · rw [hp] at hh; exact .inl ⟨hh.1, hh.2, rfl⟩

set_option maxHeartbeats 1000000 in
theorem has_any (s : ByteArray) (is : Bool) (h : Int) (w : World) (hs : s.size ≤ maxLen) (hh : Fm.Has s.data.toList is h) :
    Calls Try.prog 4 #[.string s, .bool is, .int .i64 h] w fun e w' => e = .returned (.bool true) ∧ Below w.heap.size w w' := by
  have Hh := hide (has_hor hh)
  clear hh
  go_enter Try.func4, Try.ntmps4
  go_wp2_with fail
  refine (horizon_any s w hs).mono ?_
  rintro e w1 ⟨he, hB1⟩
  rcases unhide Hh with ⟨rfl, h1, h2⟩ | ⟨rfl, h1, h2⟩
  all_goals
    rw [h1, h2] at he
    subst he
    clear h1 h2 Hh
    go_wp2_with fail
    go_ret
    exact ⟨by simp, hB1⟩

set_option maxHeartbeats 1000000 in
theorem plain_any (s : ByteArray) (w : World) (hs : s.size ≤ 140737488351232) :
    Calls Try.prog 5 #[.string s] w fun e w' => (∃ (x : ByteArray) (t : Fm.Tree), e = .returned (.string x) ∧ Fm.pars x.data.toList = some t ∧ Fm.hz t ≤ 900 ∧ x.size ≤ 140737488351232) ∧ Below w.heap.size w w' := by
  have hs' : s.size ≤ maxLen := by unfold maxLen; omega
  have Hz : Hid (Fm.pars [48] = some (.leaf 48)) := by
    have := (Fm.form_txt Fm.t0 20 [])
    rw [List.append_nil] at this
    show Fm.pars [48] = _
    unfold Fm.pars; rw [this]; rfl
  go_enter Try.func5, Try.ntmps5
  go_wp2_with fail
  refine (horizon_any s w hs').mono ?_
  rintro e w1 ⟨rfl, hB1⟩
  rcases hn : Fm.pars s.data.toList with _ | t
  · have h2 : errA s.data.toList = 1 := by unfold errA; rw [parsed_pars, hn]
    rw [h2]
    clear hn h2
    generalize horA s.data.toList = hv
    go_wp2_with fail
    go_ret
    exact ⟨⟨⟨#[48]⟩, _, rfl, unhide Hz, by simp [Fm.hz], by decide⟩, hB1⟩
  · have h2 : errA s.data.toList = 0 := by unfold errA; rw [parsed_pars, hn]
    have h1 : horA s.data.toList = Fm.hz t := by unfold horA; rw [parsed_pars, hn]
    rw [h1, h2]
    have Hn := hide hn
    clear hn h1 h2
    by_cases h9 : (900 : Int) < (Fm.hz t : Int)
    · go_wp2_with fail
      go_ret
      exact ⟨⟨⟨#[48]⟩, _, rfl, unhide Hz, by simp [Fm.hz], by decide⟩, hB1⟩
    · go_wp2_with fail
      go_ret
      exact ⟨⟨s, t, rfl, unhide Hn, by omega, hs⟩, hB1⟩

set_option maxHeartbeats 1000000 in
theorem size_any (s : ByteArray) (w : World) (hs : s.size ≤ 140737488351232) :
    Calls Try.prog 7 #[.string s] w fun e w' => e = .returned (.int .i64 ((Fm.szf 0 false s.data.toList).1 : Nat)) ∧ w' = w := by
  go_enter Try.func7, Try.ntmps7
  go_wp2_with fail
  go_loopg [3, 4, 5] s.size (fun f t u v wr => ∃ (n i : Nat) (q : Bool) (l1 : List UInt8), t = .int .i64 n ∧ u = .bool q ∧ v = .int .i64 i ∧ i + f = s.size ∧ n ≤ i ∧ Fm.At s i l1 ∧ Fm.szf n q l1 = Fm.szf 0 false s.data.toList ∧ wr = w)
  case atStart => exact ⟨0, 0, false, _, rfl, rfl, rfl, by omega, by omega, Fm.At.start s, rfl, rfl⟩
  case round =>
    obtain ⟨n, i, q, l1, rfl, rfl, rfl, hf, hni, ha, hsz, rfl⟩ := hrel
    have Hsz := hide hsz
    have Hf := hide hf
    have hi := ha.le
    clear hsz hf
    by_cases hlt : i < s.size
    rotate_left
    · have Hend : Hid (Fm.szf 0 false s.data.toList = (n, q)) := by unfold Hid; rw [← unhide Hsz, ha.ge (by omega)]; rfl
      go_wp2_with fail
      go_ret
      exact ⟨ret_int (by rw [unhide Hend]), rfl⟩
    · have hl := ha.cons hlt
      have Hstep : Hid (Fm.szf n q l1 = if ((s[i]).toNat : Int) = 91 then Fm.szf n true l1.tail else if ((s[i]).toNat : Int) = 93 then Fm.szf n false l1.tail else if q = false ∧ ((s[i]).toNat : Int) ≠ 40 ∧ ((s[i]).toNat : Int) ≠ 41 then Fm.szf (n + 1) q l1.tail else Fm.szf n q l1.tail) := by
        unfold Hid; rw [hl]; rfl
      have ha1 := ha.succ hlt
      clear hl
      have hc : ((s[i]).toNat = 91) ∨ ((s[i]).toNat = 93) ∨ (((s[i]).toNat : Int) ≠ 91 ∧ ((s[i]).toNat : Int) ≠ 93) := by omega
      cases q
      all_goals
        rcases hc with h1 | h1 | ⟨h1, h2⟩
        · have Hn : Hid (Fm.szf n true l1.tail = Fm.szf 0 false s.data.toList) := by unfold Hid; rw [← unhide Hsz, unhide Hstep, if_pos (by omega)]
          go_wp2_with fail
          have := unhide Hf
          go_roundg (gk - 1)
          case measure => omega
          case rel => exact ⟨n, i + 1, true, l1.tail, rfl, rfl, by go_num, by omega, by omega, ha1, unhide Hn, rfl⟩
        · have Hn : Hid (Fm.szf n false l1.tail = Fm.szf 0 false s.data.toList) := by unfold Hid; rw [← unhide Hsz, unhide Hstep, if_neg (by omega), if_pos (by omega)]
          go_wp2_with fail
          have := unhide Hf
          go_roundg (gk - 1)
          case measure => omega
          case rel => exact ⟨n, i + 1, false, l1.tail, rfl, rfl, by go_num, by omega, by omega, ha1, unhide Hn, rfl⟩
        · have e1 : (((s[i]).toNat : Int) == 91) = false := beq_eq_false_iff_ne.2 h1
          have e2 : (((s[i]).toNat : Int) == 93) = false := beq_eq_false_iff_ne.2 h2
          by_cases h3 : ((s[i]).toNat : Int) = 40
          · have e3 : (((s[i]).toNat : Int) != 40) = false := by simp [h3]
            first
            | have Hn : Hid (Fm.szf n false l1.tail = Fm.szf 0 false s.data.toList) := by unfold Hid; rw [← unhide Hsz, unhide Hstep, if_neg h1, if_neg h2, if_neg (fun h => h.2.1 h3)]
            | have Hn : Hid (Fm.szf n true l1.tail = Fm.szf 0 false s.data.toList) := by unfold Hid; rw [← unhide Hsz, unhide Hstep, if_neg h1, if_neg h2, if_neg (fun h => h.2.1 h3)]
            clear h1 h2 h3
            go_wp2_with fail
            have := unhide Hf
            go_roundg (gk - 1)
            case measure => omega
            case rel => exact ⟨n, i + 1, _, l1.tail, rfl, rfl, by go_num, by omega, by omega, ha1, unhide Hn, rfl⟩
          · have e3 : (((s[i]).toNat : Int) != 40) = true := bne_iff_ne.2 h3
            by_cases h4 : ((s[i]).toNat : Int) = 41
            · have e4 : (((s[i]).toNat : Int) != 41) = false := by simp [h4]
              first
              | have Hn : Hid (Fm.szf n false l1.tail = Fm.szf 0 false s.data.toList) := by unfold Hid; rw [← unhide Hsz, unhide Hstep, if_neg h1, if_neg h2, if_neg (fun h => h.2.2 h4)]
              | have Hn : Hid (Fm.szf n true l1.tail = Fm.szf 0 false s.data.toList) := by unfold Hid; rw [← unhide Hsz, unhide Hstep, if_neg h1, if_neg h2, if_neg (fun h => h.2.2 h4)]
              clear h1 h2 h3 h4
              go_wp2_with fail
              have := unhide Hf
              go_roundg (gk - 1)
              case measure => omega
              case rel => exact ⟨n, i + 1, _, l1.tail, rfl, rfl, by go_num, by omega, by omega, ha1, unhide Hn, rfl⟩
            · have e4 : (((s[i]).toNat : Int) != 41) = true := bne_iff_ne.2 h4
              first
              | (have Hn : Hid (Fm.szf (n + 1) false l1.tail = Fm.szf 0 false s.data.toList) := by unfold Hid; rw [← unhide Hsz, unhide Hstep, if_neg h1, if_neg h2, if_pos ⟨rfl, h3, h4⟩]
                 clear h1 h2 h3 h4
                 go_wp2_with fail
                 have := unhide Hf
                 go_roundg (gk - 1)
                 case measure => omega
                 case rel => exact ⟨n + 1, i + 1, false, l1.tail, by go_num, rfl, by go_num, by omega, by omega, ha1, unhide Hn, rfl⟩)
              | (have Hn : Hid (Fm.szf n true l1.tail = Fm.szf 0 false s.data.toList) := by unfold Hid; rw [← unhide Hsz, unhide Hstep, if_neg h1, if_neg h2, if_neg (by simp)]
                 clear h1 h2 h3 h4
                 go_wp2_with fail
                 have := unhide Hf
                 go_roundg (gk - 1)
                 case measure => omega
                 case rel => exact ⟨n, i + 1, true, l1.tail, rfl, rfl, by go_num, by omega, by omega, ha1, unhide Hn, rfl⟩)

end Go.Proofs.Ytnbbfjbndachgaa
