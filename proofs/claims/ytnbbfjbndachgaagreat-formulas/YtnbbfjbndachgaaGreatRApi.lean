/- The document's Horizon. -/
import Derived.Test.YtnbbfjbndachgaaGreatRTwo
import Derived.Test.YtnbbfjbndachgaaGreatFb
namespace Go.Proofs.YtnbbfjbndachgaaGreat
open Go.RowKit

set_option maxHeartbeats 2000000 in
theorem rform_pair (s : ByteArray) (k : Nat) (hk : k < 20) (hok : RTwoOk s k) (w : World) (p : Nat) (l : List UInt8) (ha : Fm.At s p l) (hs : s.size ≤ 140737488351232) (hp : p < s.size) (h : Fm.hd l = 40) :
    Calls Tryz.prog 120 #[.string s, .int .i64 p, .int .i64 ((k + 1 : Nat) : Int)] w fun e w' => RFPost w.heap.size ((k + 1 : Nat) : Int) s e w' (Fm.form (k + 1) l) ∧ Below w.heap.size w w' := by
  have Hw : Hid (Fm.form (k + 1) l = Fm.pair k l.tail) := by unfold Hid; rw [Fm.form_succ, h]; rfl
  have hc : (s[p]).toNat = 40 := by have := ha.hd hp; rw [h] at this; omega
  have ha1 := ha.succ hp
  have Hk : Hid (((k + 1 : Nat) : Int) = (k : Int) + 1) := by show _ = _; omega
  clear h
  go_enter Tryz.func120, Tryz.ntmps120
  go_wp2_with fail
  refine (hok _ _ _ (p + 1) l.tail (by omega) (by omega) ha1).mono ?_
  rintro e w1 ⟨hpost, hB1⟩
  rcases hn : Fm.pair k l.tail with _ | ⟨t, k3, l3⟩
  · rw [hn] at hpost
    have hpost : e = _ := hpost
    subst hpost
    have Hw2 := hide ((unhide Hw).trans hn)
    clear hn
    go_wp2_with fail
    go_ret3
    rw [unhide Hw2]
    exact ⟨rfl, hB1⟩
  · rw [hn] at hpost
    obtain ⟨g, p3, rfl, hrep, ha3⟩ := hpost
    have Hw2 := hide ((unhide Hw).trans hn)
    clear hn
    go_wp2_with fail
    go_ret3
    rw [unhide Hw2]
    exact ⟨⟨g, p3, by rw [unhide Hk]; rfl, hrep, ha3⟩, hB1⟩

set_option maxHeartbeats 2000000 in
theorem rform_no (s : ByteArray) (k : Nat) (hk : k < 20) (w : World) (p : Nat) (l : List UInt8) (ha : Fm.At s p l) (_hs : s.size ≤ 140737488351232) (hp : p < s.size) (h1 : Fm.aloneB (Fm.hd l) = false) (h2 : Fm.unB (Fm.hd l) = false) (h3 : Fm.hd l ≠ 40) :
    Calls Tryz.prog 120 #[.string s, .int .i64 p, .int .i64 ((k + 1 : Nat) : Int)] w fun e w' => RFPost w.heap.size ((k + 1 : Nat) : Int) s e w' (Fm.form (k + 1) l) ∧ Below w.heap.size w w' := by
  have Hw : Hid (Fm.form (k + 1) l = none) := by unfold Hid; rw [Fm.form_succ, h1, h2, if_neg h3]; rfl
  have hh := ha.hd hp
  rw [hh] at h1 h2 h3
  clear hh
  simp only [Fm.aloneB, decide_eq_false_iff_not] at h1
  simp only [Fm.unB, decide_eq_false_iff_not] at h2
  have e1 : (((s[p]).toNat : Int) == 116) = false := beq_eq_false_iff_ne.2 (by omega)
  have e2 : (((s[p]).toNat : Int) == 33) = false := beq_eq_false_iff_ne.2 (by omega)
  have e3 : (((s[p]).toNat : Int) == 79) = false := beq_eq_false_iff_ne.2 (by omega)
  have e4 : (((s[p]).toNat : Int) == 72) = false := beq_eq_false_iff_ne.2 (by omega)
  have e5 : (((s[p]).toNat : Int) == 70) = false := beq_eq_false_iff_ne.2 (by omega)
  have e6 : (((s[p]).toNat : Int) == 71) = false := beq_eq_false_iff_ne.2 (by omega)
  have e7 : (((s[p]).toNat : Int) == 40) = false := beq_eq_false_iff_ne.2 (by omega)
  have e8 : (48 ≤ ((s[p]).toNat : Int) ∧ 55 < ((s[p]).toNat : Int)) ∨ ((s[p]).toNat : Int) < 48 := by omega
  clear h1 h2 h3
  rcases e8 with ⟨e8, e9⟩ | e8
  all_goals
    go_enter Tryz.func120, Tryz.ntmps120
    go_wp2_with fail
    go_ret3
    rw [unhide Hw]
    exact ⟨rfl, Below.refl _ _⟩

theorem rform_any (s : ByteArray) (hs : s.size ≤ 140737488351232) (k : Nat) : k ≤ 20 → RFormOk s k := by
  induction k using Nat.strongRecOn with
  | _ k ih =>
    intro hk w x y p l hx hy ha
    subst hx; subst hy
    cases k with
    | zero => exact rform_end s 0 w p l ha (.inl rfl)
    | succ k =>
      rcases Nat.lt_or_ge p s.size with hp | hp
      rotate_left
      · exact rform_end s (k + 1) w p l ha (.inr hp)
      have ok : ∀ j, j ≤ k → RFormOk s j := fun j hj => ih j (by omega) (by omega)
      cases h1 : Fm.aloneB (Fm.hd l) with
      | true => exact rform_leaf s k (by omega) w p l ha hs hp h1
      | false =>
        cases h2 : Fm.unB (Fm.hd l) with
        | true =>
          have hc : Fm.hd l = 33 ∨ (Fm.hd l = 79 ∨ Fm.hd l = 72) ∨ Fm.hd l = 70 ∨ Fm.hd l = 71 := by simp only [Fm.unB, decide_eq_true_eq] at h2; omega
          rcases hc with h | (h | h) | h | h
          · exact rform_not s k (by omega) (ok k (Nat.le_refl _)) w p l ha hs hp h
          · exact rform_itv s k (by omega) (ok k (Nat.le_refl _)) w p l ha hs hp true _ (.inl ⟨h, rfl⟩) rfl
          · exact rform_itv s k (by omega) (ok k (Nat.le_refl _)) w p l ha hs hp true _ (.inr (.inl ⟨h, rfl⟩)) rfl
          · exact rform_itv s k (by omega) (ok k (Nat.le_refl _)) w p l ha hs hp false _ (.inr (.inr (.inl ⟨h, rfl⟩))) rfl
          · exact rform_itv s k (by omega) (ok k (Nat.le_refl _)) w p l ha hs hp false _ (.inr (.inr (.inr ⟨h, rfl⟩))) rfl
        | false =>
          by_cases h3 : Fm.hd l = 40
          · exact rform_pair s k (by omega) (rtwo_any s k (by omega) hs ok) w p l ha hs hp h3
          · exact rform_no s k (by omega) w p l ha hs hp h1 h2 h3

/-! ### The horizon of a tree of pointers -/

def HorIs (w : World) (f : Option Addr) (x : Nat) : Prop := Calls Tryz.prog 82 #[.pointer f] w fun e w' => e = .returned (.int .i64 x) ∧ w' = w

theorem horIs_nil (w : World) : HorIs w none 0 := by
  unfold HorIs
  go_enter Tryz.func82, Tryz.ntmps82
  go_wp2_with fail
  go_ret
  exact ⟨rfl, rfl⟩

set_option maxHeartbeats 2000000 in
theorem horIs_node (w : World) (g : Nat) (c fr t : Int) (f u : Option Addr) (x y r : Nat) (hn : NodeB w g c fr t f u) (hx : HorIs w f x) (hy : HorIs w u y) (bx : x ≤ 20000) (by' : y ≤ 20000)
    (ht : Fm.aheadB c = true → 0 ≤ t ∧ t ≤ 20000) (hr : (r : Int) = max x y + if Fm.aheadB c then t else 0) : HorIs w (some ⟨g, 0, none⟩) r := by
  obtain ⟨c0, c1, c2, c3, c4⟩ := hn
  have Hx := hide hx
  have Hy := hide hy
  clear hx hy
  unfold HorIs
  have hcc : c = 70 ∨ c = 71 ∨ c = 85 ∨ (c ≠ 70 ∧ c ≠ 71 ∧ c ≠ 85) := by omega
  by_cases hxy : (x : Int) < (y : Int)
  all_goals
    rcases hcc with rfl | rfl | rfl | ⟨n1, n2, n3⟩
    all_goals
      first
      | (have hah : Fm.aheadB c = false := by simp only [Fm.aheadB, decide_eq_false_iff_not]; omega
         have Hr : Hid ((r : Int) = max x y) := by rw [Hid, hr, hah]; simp
         have e1 : (c == 70) = false := beq_eq_false_iff_ne.2 n1
         have e2 : (c == 71) = false := beq_eq_false_iff_ne.2 n2
         have e3 : (c == 85) = false := beq_eq_false_iff_ne.2 n3)
      | (obtain ⟨ht1, ht2⟩ := ht rfl
         have Hr : Hid ((r : Int) = max x y + t) := hr)
      clear hr ht
      go_enter Tryz.func82, Tryz.ntmps82
      go_wp2_with fail
      refine (unhide Hx).mono ?_
      rintro e w1 ⟨rfl, rfl⟩
      go_wp2_with fail
      refine (unhide Hy).mono ?_
      rintro e w1 ⟨rfl, rfl⟩
      go_wp2_with fail
      go_ret
      refine ⟨?_, rfl⟩
      rw [unhide Hr]
      exact congrArg (fun z => Ending.returned (.int .i64 z)) (by omega)

/-- A formula that looks ahead has an end. -/
def Good : Fm.Tree → Prop
  | .leaf _ => True
  | .un c i t => (Fm.aheadB c = true → i.endless = false) ∧ Good t
  | .bin c i t u => (Fm.aheadB c = true → i.endless = false) ∧ Good t ∧ Good u

theorem itv_good {l : List UInt8} {i : Fm.Itv} {l' : List UInt8} (h : Fm.itv false l = some (i, l')) : i.endless = false := by
  unfold Fm.itv at h
  split at h
  · split at h
    · cases h
    · split at h
      · rw [if_neg (by simp)] at h
        unfold Fm.itvEnd at h
        split at h
        · cases h
        · split at h
          · cases h
          · split at h
            · simp only [Option.some.injEq, Prod.mk.injEq] at h
              rw [← h.1]
            · cases h
      · cases h
  · cases h

theorem within_good {c : Int} {l : List UInt8} {i : Fm.Itv} {l' : List UInt8} (h : Fm.within c l = some (i, l')) (hc : Fm.aheadB c = true) : i.endless = false := by
  have hb : Fm.backB c = false := by
    simp only [Fm.aheadB, decide_eq_true_eq] at hc
    simp only [Fm.backB, decide_eq_false_iff_not]; omega
  unfold Fm.within at h
  rw [hb, hc] at h
  exact itv_good h

theorem form_good : ∀ (k : Nat) (l : List UInt8) (t : Fm.Tree) (k' : Nat) (l' : List UInt8), Fm.form k l = some (t, k', l') → Good t := by
  intro k
  induction k using Nat.strongRecOn with
  | _ k ih =>
    intro l t k' l' h
    cases k with
    | zero => simp [Fm.form] at h
    | succ k =>
      rw [Fm.form_succ] at h
      split at h
      · simp only [Option.some.injEq, Prod.mk.injEq] at h
        obtain ⟨rfl, rfl, rfl⟩ := h
        trivial
      · split at h
        · unfold Fm.single at h
          split at h
          · cases h
          · rename_i hw
            split at h
            · cases h
            · rename_i hf
              simp only [Option.some.injEq, Prod.mk.injEq] at h
              obtain ⟨rfl, rfl, rfl⟩ := h
              exact ⟨within_good hw, ih k (by omega) _ _ _ _ hf⟩
        · split at h
          · unfold Fm.pair at h
            split at h
            · cases h
            · rename_i hf1
              split at h
              · split at h
                · cases h
                · rename_i hw
                  split at h
                  · cases h
                  · rename_i hf2
                    split at h
                    · simp only [Option.some.injEq, Prod.mk.injEq] at h
                      obtain ⟨rfl, rfl, rfl⟩ := h
                      exact ⟨within_good hw, ih k (by omega) _ _ _ _ hf1, ih _ (by omega) _ _ _ _ hf2⟩
                    · cases h
              · cases h
          · cases h

theorem rhor_any (B : Nat) (w : World) : ∀ (t : Fm.Tree) (g : Nat), RepB B w t g → Good t → Fm.hz t ≤ 20000 → HorIs w (some ⟨g, 0, none⟩) (Fm.hz t) := by
  intro t
  induction t with
  | leaf c =>
    rintro g ⟨_, _, hn⟩ _ _
    exact horIs_node w g c 0 0 none none 0 0 0 hn (horIs_nil w) (horIs_nil w) (by omega) (by omega) (fun _ => by omega) (by simp)
  | un c i t ih =>
    rintro g ⟨g1, _, _, hn, hr⟩ ⟨hg, hgt⟩ hz
    have hz' : Fm.hz (.un c i t) = Fm.hz t + if Fm.aheadB c then i.hi else 0 := rfl
    have e : Fm.aheadB c = true → toI i = i.hi := fun h => by unfold toI; rw [hg h]; rfl
    refine horIs_node w g c i.lo (toI i) _ none (Fm.hz t) 0 _ hn (ih g1 hr hgt (by omega)) (horIs_nil w) (by omega) (by omega) ?_ ?_
    · intro h; rw [e h]; rw [hz', h] at hz; simp at hz; omega
    · rw [hz']
      cases h : Fm.aheadB c with
      | true => rw [e h]; simp
      | false => simp
  | bin c i t u iht ihu =>
    rintro g ⟨g1, g2, _, _, hn, hr, hr2⟩ ⟨hg, hgt, hgu⟩ hz
    have hz' : Fm.hz (.bin c i t u) = max (Fm.hz t) (Fm.hz u) + if Fm.aheadB c then i.hi else 0 := rfl
    have e : Fm.aheadB c = true → toI i = i.hi := fun h => by unfold toI; rw [hg h]; rfl
    refine horIs_node w g c i.lo (toI i) _ _ (Fm.hz t) (Fm.hz u) _ hn (iht g1 hr hgt (by omega)) (ihu g2 hr2 hgu (by omega)) (by omega) (by omega) ?_ ?_
    · intro h; rw [e h]; rw [hz', h] at hz; simp at hz; omega
    · rw [hz']
      cases h : Fm.aheadB c with
      | true => rw [e h]; simp
      | false => simp

/-! ### Parse, Horizon -/

/-- What a text is read as. -/
def parsedB (l : List UInt8) : Option Fm.Tree :=
  match Fm.form 20 l with
  | some (t, _, []) => some t
  | _ => none

def RParsePost (B : Nat) (e : Ending) (w' : World) : Option Fm.Tree → Prop
  | some t => ∃ g, e = .returned (.pointer (some ⟨g, 0, none⟩)) ∧ RepB B w' t g
  | none => e = .returned (.pointer none)

set_option maxHeartbeats 2000000 in
theorem rparse_any (s : ByteArray) (w : World) (hs : s.size ≤ 140737488351232) :
    Calls Tryz.prog 81 #[.string s] w fun e w' => RParsePost w.heap.size e w' (parsedB s.data.toList) ∧ Below w.heap.size w w' := by
  have ha := Fm.At.start s
  go_enter Tryz.func81, Tryz.ntmps81
  go_wp2_with fail
  refine (rform_any s hs 20 (Nat.le_refl _) _ _ _ 0 _ rfl rfl ha).mono ?_
  rintro e w1 ⟨hpost, hB1⟩
  rcases hn : Fm.form 20 s.data.toList with _ | ⟨t, k, l'⟩
  · rw [hn] at hpost
    have hpost : e = _ := hpost
    subst hpost
    have Hw : Hid (parsedB s.data.toList = none) := by unfold Hid parsedB; rw [hn]
    clear hn
    go_wp2_with fail
    go_ret
    rw [unhide Hw]
    exact ⟨rfl, hB1⟩
  · rw [hn] at hpost
    obtain ⟨g, p1, rfl, hrep, ha1⟩ := hpost
    have hln := ha1.len
    have hk := Fm.form_le _ _ _ _ _ hn
    have e2 : ¬ (20 : Int) < ((20 : Nat) : Int) - (k : Int) := by omega
    have e3 : ((20 : Nat) : Int) - (k : Int) ≤ 20 := by omega
    cases l' with
    | cons u r =>
      have Hw : Hid (parsedB s.data.toList = none) := by unfold Hid parsedB; rw [hn]
      clear hn
      have hp : ((p1 : Int) != (s.size : Int)) = true := by rw [bne_iff_ne]; simp at hln; omega
      go_wp2_with fail
      go_ret
      rw [unhide Hw]
      exact ⟨rfl, hB1⟩
    | nil =>
      have Hw : Hid (parsedB s.data.toList = some t) := by unfold Hid parsedB; rw [hn]
      clear hn
      have hp : ((p1 : Int) != (s.size : Int)) = false := by simp at hln; simp [hln]
      go_wp2_with fail
      go_ret
      rw [unhide Hw]
      exact ⟨⟨g, rfl, hrep⟩, hB1⟩

def horB (l : List UInt8) : Int := match parsedB l with | some t => Fm.hz t | none => 0
def errB (l : List UInt8) : Int := match parsedB l with | some _ => 0 | none => 1

theorem parsedB_ok {l : List UInt8} {t : Fm.Tree} (h : parsedB l = some t) : Fm.hz t ≤ 20000 ∧ Good t := by
  unfold parsedB at h
  split at h
  · rename_i hf
    simp only [Option.some.injEq] at h
    subst h
    exact ⟨Fm.form_bound hf, form_good _ _ _ _ _ hf⟩
  · cases h

set_option maxHeartbeats 1000000 in
theorem rHorizon_any (s : ByteArray) (w : World) (hs : s.size ≤ 140737488351232) :
    Calls Tryz.prog 55 #[.string s] w fun e w' => e = .returned (.tuple #[.int .i64 (horB s.data.toList), .int .i64 (errB s.data.toList)]) ∧ Below w.heap.size w w' := by
  go_enter Tryz.func55, Tryz.ntmps55
  go_wp2_with fail
  refine (rparse_any s w hs).mono ?_
  rintro e w1 ⟨hpost, hB1⟩
  rcases hn : parsedB s.data.toList with _ | t
  · rw [hn] at hpost
    have hpost : e = _ := hpost
    subst hpost
    have Hw : Hid (horB s.data.toList = 0 ∧ errB s.data.toList = 1) := by unfold Hid horB errB; rw [hn]; exact ⟨rfl, rfl⟩
    clear hn
    go_wp2_with fail
    go_ret2
    rw [(unhide Hw).1, (unhide Hw).2]
    exact ⟨rfl, hB1⟩
  · rw [hn] at hpost
    obtain ⟨g, rfl, hrep⟩ := hpost
    have Hw : Hid (horB s.data.toList = Fm.hz t ∧ errB s.data.toList = 0) := by unfold Hid horB errB; rw [hn]; exact ⟨rfl, rfl⟩
    have hok := parsedB_ok hn
    have Hor := hide (rhor_any _ w1 t g hrep hok.2 hok.1)
    clear hn
    go_wp2_with fail
    refine (unhide Hor).mono ?_
    rintro e w2 ⟨rfl, rfl⟩
    go_wp2_with fail
    go_ret2
    rw [(unhide Hw).1, (unhide Hw).2]
    exact ⟨rfl, hB1⟩

end Go.Proofs.YtnbbfjbndachgaaGreat
