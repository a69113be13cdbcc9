/- The document's number. -/
import Derived.Test.YtnbbfjbndachgaaGreatFr
import Derived.Test.YtnbbfjbndachgaaGreatRn
import Derived.Test.YtnbbfjbndachgaaGreatFb
namespace Go.Proofs.YtnbbfjbndachgaaGreat
open Go.RowKit

def RNumPost (s : ByteArray) (e : Ending) : Option (Nat × List UInt8) → Prop
  | some (v, l') => v ≤ 1000 ∧ ∃ p', Fm.At s p' l' ∧ e = .returned (.tuple #[.int .i64 v, .int .i64 (p' : Nat)])
  | none => e = .returned (.tuple #[.int .i64 0, .int .i64 (-1)])

theorem ten_step {f v d : Nat} (hf : 1 ≤ f) (hf5 : f ≤ 5) (h : v + 1 ≤ 10 ^ (5 - f)) (hd : d ≤ 9) : v * 10 + d + 1 ≤ 10 ^ (5 - (f - 1)) := by
  have : f = 1 ∨ f = 2 ∨ f = 3 ∨ f = 4 ∨ f = 5 := by omega
  rcases this with rfl | rfl | rfl | rfl | rfl <;> simp at h ⊢ <;> omega
theorem ten_le {f v : Nat} (h : v + 1 ≤ 10 ^ (5 - f)) : v ≤ 99999 := by
  have : 10 ^ (5 - f) ≤ 10 ^ 5 := Nat.pow_le_pow_right (by omega) (by omega)
  simp at this; omega

set_option maxHeartbeats 2000000 in
set_option maxRecDepth 100000 in
theorem rnumber_any (s : ByteArray) (i : Nat) (l : List UInt8) (w : World) (ha : Fm.At s i l) (hs : s.size ≤ 140737488351232) :
    Calls Tryz.prog 168 #[.string s, .int .i64 i] w fun e w' => RNumPost s e (Fm.num false 0 l) ∧ w' = w := by
  have hi := ha.le
  go_enter Tryz.func168, Tryz.ntmps168
  go_wp2_with fail
  go_loopg [6, 7] 5 (fun f t u wr => ∃ (v q : Nat) (l1 : List UInt8), t = .int .i64 v ∧ u = .int .i64 q ∧ q + f = i + 5 ∧ v + 1 ≤ 10 ^ (5 - f) ∧ f ≤ 5 ∧ Fm.At s q l1 ∧ Fm.rd f v l1 = Fm.rd 5 0 l ∧ wr = w)
  case atStart => exact ⟨0, i, l, rfl, rfl, rfl, by simp, by omega, ha, rfl, rfl⟩
  case round =>
    obtain ⟨v, q, l1, rfl, rfl, hq, hv, hf5, ha1, hrd, rfl⟩ := hrel
    have Hrd := hide hrd
    have Hv := hide hv
    have hv9 := ten_le hv
    clear hrd hv
    have hq2 := ha1.le
    have Hq := hide hq
    have hiq : i ≤ q := by omega
    have hqi : q ≤ i + 5 := by omega
    have hle1 := ha1.len
    have hle := ha.len
    have Hend : Hid (Fm.rd gk v l1 = (v, l1) → Fm.num false 0 l = if q = i ∨ 1000 < v ∨ (Fm.hd l = 48 ∧ i + 1 < q) then none else some (v, l1)) := by
      intro h
      have h5 : Fm.rd 5 0 l = (v, l1) := (unhide Hrd).symm.trans h
      rw [Fm.num_five, h5]
      simp only
      by_cases c : q = i ∨ 1000 < v ∨ (Fm.hd l = 48 ∧ i + 1 < q)
      · rw [if_pos c, if_pos (by omega)]
      · rw [if_neg c, if_neg (by omega)]
    clear hle1 hle hq
    have Hle : Hid (l1.length + q = s.size) := ha1.len
    have Hfail : Hid (Fm.rd gk v l1 = (v, l1) → (q = i ∨ 1000 < v ∨ (Fm.hd l = 48 ∧ i + 1 < q)) → RNumPost s (.returned (.tuple #[.int .i64 0, .int .i64 (-1)])) (Fm.num false 0 l)) := by
      intro h1 h2; rw [unhide Hend h1, if_pos h2]; rfl
    have Hgood : Hid (Fm.rd gk v l1 = (v, l1) → ¬ (q = i ∨ 1000 < v ∨ (Fm.hd l = 48 ∧ i + 1 < q)) → RNumPost s (.returned (.tuple #[.int .i64 v, .int .i64 q])) (Fm.num false 0 l)) := by
      intro h1 h2; rw [unhide Hend h1, if_neg h2]; exact ⟨by omega, q, ha1, rfl⟩
    have Hstop : Hid (Fm.digB (Fm.hd l1) = false ∨ gk = 0 → Fm.rd gk v l1 = (v, l1)) := by
      rintro (h | h)
      · exact Fm.rd_stop h
      · rw [h]; rfl
    have Hhd : Hid (∀ h : q < s.size, Fm.hd l1 = ((s[q]).toNat : Int)) := fun h => ha1.hd h
    have Hhi : Hid (∀ h : i < s.size, Fm.hd l = ((s[i]).toNat : Int)) := fun h => ha.hd h
    have Hnil : Hid (¬ q < s.size → Fm.hd l1 = 0) := fun h => by rw [ha1.ge (by omega)]; rfl
    clear Hend
    by_cases hqs : q < s.size
    all_goals
      rcases Nat.lt_or_ge i q with hqi' | hqi'
      by_cases hv1 : (1000 : Int) < (v : Int)
      all_goals
        first
        | have e1 : ((q : Int) == (i : Int)) = false := beq_eq_false_iff_ne.2 (by omega)
        | have e1 : ((q : Int) == (i : Int)) = true := beq_iff_eq.2 (by omega)
        go_wp2_with fail
        all_goals first
          | (go_ret2
             refine ⟨unhide Hfail (unhide Hstop ?_) ?_, rfl⟩
             · have := unhide Hq
               first
               | exact .inr (by omega)
               | (have hc := unhide Hhd hqs; exact .inl (by rw [hc]; simp only [Fm.digB, decide_eq_false_iff_not]; omega))
               | (have hc := unhide Hnil hqs; exact .inl (by rw [hc]; rfl))
             · first
               | omega
               | (have hc := unhide Hhi (by omega); omega))
          | (go_ret2
             refine ⟨unhide Hgood (unhide Hstop ?_) ?_, rfl⟩
             · have := unhide Hq
               first
               | exact .inr (by omega)
               | (have hc := unhide Hhd hqs; exact .inl (by rw [hc]; simp only [Fm.digB, decide_eq_false_iff_not]; omega))
               | (have hc := unhide Hnil hqs; exact .inl (by rw [hc]; rfl))
             · have hc := unhide Hhi (by omega)
               omega)
          | (have hc1 : (48 : Int) ≤ ((s[q]).toNat : Int) := by assumption
             have hc2 : ((s[q]).toNat : Int) ≤ 57 := by assumption
             have hc3 := unhide Hhd hqs
             have hc4 : Fm.digB (Fm.hd l1) = true := by rw [hc3]; simp only [Fm.digB, decide_eq_true_eq]; omega
             have hc5 := unhide Hq
             go_roundg (gk - 1)
             case measure => omega
             case rel =>
               refine ⟨v * 10 + ((Fm.hd l1).toNat - 48), q + 1, l1.tail, ?_, rfl, by omega, ten_step (by omega) hf5 (unhide Hv) (by omega), by omega, ha1.succ hqs, ?_, rfl⟩
               · rw [hc3]; congr 1; omega
               · obtain ⟨f, rfl⟩ : ∃ f, gk = f + 1 := ⟨gk - 1, by omega⟩
                 exact (Fm.rd_step hc4).symm.trans (unhide Hrd))

end Go.Proofs.YtnbbfjbndachgaaGreat
