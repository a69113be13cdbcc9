/- Formulas' texts: what is read is what was written. No program here. -/
import Derived.Test.YtnbbfjbndachgaaFb
namespace Go.Proofs.Ytnbbfjbndachgaa.Fm

/-- Counting signs outside of intervals, byte by byte. -/
def szf : Nat → Bool → List UInt8 → Nat × Bool
  | n, q, [] => (n, q)
  | n, q, c :: r =>
    if (c.toNat : Int) = 91 then szf n true r
    else if (c.toNat : Int) = 93 then szf n false r
    else if q = false ∧ (c.toNat : Int) ≠ 40 ∧ (c.toNat : Int) ≠ 41 then szf (n + 1) q r
    else szf n q r

theorem szf_append : ∀ (a b : List UInt8) (n : Nat) (q : Bool), szf n q (a ++ b) = szf (szf n q a).1 (szf n q a).2 b
  | [], b, n, q => rfl
  | c :: a, b, n, q => by
    simp only [List.cons_append, szf]
    split
    · exact szf_append a b _ _
    · split
      · exact szf_append a b _ _
      · split <;> exact szf_append a b _ _

def Quiet (v : List UInt8) : Prop := ∀ n, szf n false v = (n, false)

theorem szf_digits : ∀ (d : List UInt8) (n : Nat), (∀ c ∈ d, digB (c.toNat : Int) = true) → szf n true d = (n, true)
  | [], n, _ => rfl
  | c :: d, n, h => by
    have hc := h c (List.mem_cons_self ..)
    simp only [digB, decide_eq_true_eq] at hc
    rw [szf, if_neg (by omega), if_neg (by omega), if_neg (by simp)]
    exact szf_digits d n fun x hx => h x (List.mem_cons_of_mem _ hx)

/-- A text of a tree. -/
inductive Txt : Tree → List UInt8 → Prop
  | leaf (b : UInt8) (h : aloneB (b.toNat : Int) = true) : Txt (.leaf (b.toNat : Int)) [b]
  | un (b : UInt8) (i : Itv) (v : List UInt8) (t : Tree) (u : List UInt8) (h : unB (b.toNat : Int) = true) (hw : ∀ r, within (b.toNat : Int) (v ++ r) = some (i, r)) (hq : Quiet v) (ht : Txt t u) : Txt (.un (b.toNat : Int) i t) (b :: (v ++ u))
  | bin (b : UInt8) (i : Itv) (v : List UInt8) (t1 : Tree) (u1 : List UInt8) (t2 : Tree) (u2 : List UInt8) (h : binB (b.toNat : Int) = true) (hw : ∀ r, within (b.toNat : Int) (v ++ r) = some (i, r)) (hq : Quiet v) (h1 : Txt t1 u1) (h2 : Txt t2 u2) :
      Txt (.bin (b.toNat : Int) i t1 t2) (40 :: (u1 ++ (b :: (v ++ (u2 ++ [41])))))

theorem un_not_alone {c : Int} (h : unB c = true) : aloneB c = false := by
  simp only [unB, decide_eq_true_eq] at h; simp only [aloneB, decide_eq_false_iff_not]; omega

theorem form_txt {t : Tree} {u : List UInt8} (h : Txt t u) : ∀ (k : Nat) (r : List UInt8), form k (u ++ r) = if signs t ≤ k then some (t, k - signs t, r) else none := by
  induction h with
  | leaf b hb =>
    intro k r
    cases k with
    | zero => rw [form]; rfl
    | succ k => rw [form_succ]; simp [hd, hb, signs]
  | un b i v t u hb hw _ _ ih =>
    intro k r
    cases k with
    | zero => rw [form]; rfl
    | succ k =>
      rw [form_succ]
      simp only [List.cons_append, hd, List.tail_cons, un_not_alone hb, hb, Bool.false_eq_true, if_false, if_true]
      unfold single
      rw [List.append_assoc, hw]
      simp only
      rw [ih]
      by_cases hs : signs t ≤ k
      · rw [if_pos hs, if_pos (by simp only [signs]; omega)]
        simp only [signs, Option.some.injEq, Prod.mk.injEq, true_and, and_true]; omega
      · rw [if_neg hs, if_neg (by simp only [signs]; omega)]
  | bin b i v t1 u1 t2 u2 hb hw _ _ _ ih1 ih2 =>
    intro k r
    cases k with
    | zero => rw [form]; rfl
    | succ k =>
      rw [form_succ]
      have e40 : hd (40 :: (u1 ++ (b :: (v ++ (u2 ++ [41])))) ++ r) = 40 := rfl
      rw [e40, if_neg (by decide), if_neg (by decide), if_pos rfl]
      simp only [List.cons_append, List.tail_cons, List.append_assoc, List.nil_append]
      unfold pair
      rw [ih1]
      by_cases h1 : signs t1 ≤ k
      · rw [if_pos h1]
        have eb : ∀ x, hd (b :: x) = (b.toNat : Int) := fun _ => rfl
        simp only [eb, hb, if_true, List.tail_cons]
        rw [hw]
        simp only
        have hm : min k (k - signs t1) = k - signs t1 := by omega
        rw [hm, ih2]
        by_cases h2 : signs t2 ≤ k - signs t1
        · rw [if_pos h2, if_pos (by simp only [signs]; omega)]
          have e41 : hd (41 :: r) = 41 := rfl
          simp only [List.tail_cons, signs]
          rw [if_pos e41]
          simp only [Option.some.injEq, Prod.mk.injEq, true_and, and_true]; omega
        · rw [if_neg h2, if_neg (by simp only [signs]; omega)]
      · rw [if_neg h1, if_neg (by simp only [signs]; omega)]

theorem txt_size {t : Tree} {u : List UInt8} (h : Txt t u) : ∀ n, szf n false u = (n + signs t, false) := by
  have sgn : ∀ (b : UInt8) (n : Nat) (r : List UInt8), (aloneB (b.toNat : Int) = true ∨ unB (b.toNat : Int) = true ∨ binB (b.toNat : Int) = true) → szf n false (b :: r) = szf (n + 1) false r := by
    intro b n r hb
    have : (b.toNat : Int) ≠ 91 ∧ (b.toNat : Int) ≠ 93 ∧ (b.toNat : Int) ≠ 40 ∧ (b.toNat : Int) ≠ 41 := by
      simp only [aloneB, unB, binB, decide_eq_true_eq] at hb; omega
    rw [szf, if_neg this.1, if_neg this.2.1, if_pos ⟨rfl, this.2.2⟩]
  induction h with
  | leaf b hb => intro n; rw [sgn b n [] (.inl hb)]; rfl
  | un b i v t u hb _ hq _ ih =>
    intro n
    rw [sgn b n _ (.inr (.inl hb)), szf_append, hq, ih]
    simp only [signs, Prod.mk.injEq, and_true]; omega
  | bin b i v t1 u1 t2 u2 hb _ hq _ _ ih1 ih2 =>
    intro n
    have h40 : ∀ (n : Nat) (r : List UInt8), szf n false (40 :: r) = szf n false r := fun n r => by
      rw [szf, if_neg (by decide), if_neg (by decide), if_neg (by rintro ⟨_, h, _⟩; exact h rfl)]
    have h41 : ∀ (n : Nat), szf n false [41] = (n, false) := fun n => by
      rw [szf, if_neg (by decide), if_neg (by decide), if_neg (by rintro ⟨_, _, h⟩; exact h rfl)]; rfl
    rw [h40, szf_append, ih1, sgn b _ _ (.inr (.inr hb)), szf_append, hq, szf_append, ih2, h41]
    simp only [signs, Prod.mk.injEq, and_true]; omega

theorem txt_ne {t : Tree} {u : List UInt8} (h : Txt t u) : u ≠ [] := by cases h <;> simp

/-! ### What was read was written -/

theorem cons_of_hd {l : List UInt8} {b : UInt8} (h : hd l = (b.toNat : Int)) (hb : b ≠ 0) : l = b :: l.tail := by
  cases l with
  | nil => simp only [hd] at h; exact absurd (UInt8.toNat_inj.1 (show b.toNat = (0 : UInt8).toNat from by simp; omega)) hb
  | cons c r =>
    simp only [hd] at h
    rw [UInt8.toNat_inj.1 (show c.toNat = b.toNat by omega)]; rfl

theorem num_sound : ∀ (l : List UInt8) (g : Bool) (v : Nat) (n : Nat) (l' : List UInt8), num g v l = some (n, l') →
    ∃ d, l = d ++ l' ∧ (∀ c ∈ d, digB (c.toNat : Int) = true) ∧ (g = false → d ≠ []) ∧ ∀ r, digB (hd r) = false → num g v (d ++ r) = some (n, r)
  | [], g, v, n, l', h => by
    cases g <;> simp [num] at h
    obtain ⟨rfl, rfl⟩ := h
    refine ⟨[], rfl, by simp, by simp, fun r hr => ?_⟩
    cases r with
    | nil => rfl
    | cons c r => simp only [hd] at hr; simp [num, hr]
  | c :: l, g, v, n, l', h => by
    rw [num] at h
    by_cases hc : digB (c.toNat : Int)
    · rw [if_pos hc] at h
      split at h
      · cases h
      · rename_i h0
        split at h
        · cases h
        · rename_i h1
          obtain ⟨d, e, hd', _, hr⟩ := num_sound l true _ n l' h
          refine ⟨c :: d, by rw [e]; rfl, ?_, by simp, fun r hrr => ?_⟩
          · intro x hx
            rcases List.mem_cons.1 hx with rfl | hx
            · exact hc
            · exact hd' x hx
          · rw [List.cons_append, num, if_pos hc, if_neg h0, if_neg h1]
            exact hr r hrr
    · rw [if_neg hc] at h
      cases g with
      | false => simp at h
      | true =>
        simp at h
        obtain ⟨rfl, rfl⟩ := h
        refine ⟨[], rfl, by simp, by simp, fun r hr => ?_⟩
        cases r with
        | nil => rfl
        | cons c r => simp only [hd] at hr; simp [num, hr]

theorem quiet_itv {m : List UInt8} (h : ∀ n, szf n true m = (n, true)) : Quiet (91 :: (m ++ [93])) := by
  intro n
  rw [szf, if_pos (by rfl), szf_append, h]
  rfl

theorem within_sound {c : Int} {l : List UInt8} {i : Itv} {l' : List UInt8} (h : within c l = some (i, l')) :
    ∃ v, l = v ++ l' ∧ (∀ r, within c (v ++ r) = some (i, r)) ∧ Quiet v := by
  unfold within at h
  by_cases hc : backB c || aheadB c
  rotate_left
  · rw [if_neg hc] at h
    simp only [Option.some.injEq, Prod.mk.injEq] at h
    obtain ⟨rfl, rfl⟩ := h
    exact ⟨[], rfl, fun r => by unfold within; rw [if_neg hc]; rfl, fun n => rfl⟩
  rw [if_pos hc] at h
  generalize hbk : backB c = bk at h
  have key : ∃ v, l = v ++ l' ∧ (∀ r, itv bk (v ++ r) = some (i, r)) ∧ Quiet v := by
    unfold itv at h
    split at h
    rotate_left
    · cases h
    rename_i h91
    have e1 := cons_of_hd (b := 91) h91 (by decide)
    split at h
    · cases h
    rename_i lo l2 hn
    obtain ⟨d1, ed1, hd1, _, hr1⟩ := num_sound _ _ _ _ _ hn
    split at h
    rotate_left
    · cases h
    rename_i h44
    have e2 := cons_of_hd (b := 44) h44 (by decide)
    split at h
    · rename_i h105
      simp only [Bool.and_eq_true, beq_iff_eq] at h105
      have e3 := cons_of_hd (b := 105) h105.2 (by decide)
      split at h
      rotate_left
      · cases h
      rename_i h93
      have e4 := cons_of_hd (b := 93) h93 (by decide)
      simp only [Option.some.injEq, Prod.mk.injEq] at h
      obtain ⟨rfl, rfl⟩ := h
      refine ⟨91 :: ((d1 ++ [44, 105]) ++ [93]), ?_, fun r => ?_, quiet_itv fun n => ?_⟩
      · conv => lhs; rw [e1, ed1, e2, e3, e4]
        simp
      · have hh : hd (91 :: ((d1 ++ [44, 105]) ++ [93]) ++ r) = 91 := rfl
        have ht : (91 :: ((d1 ++ [44, 105]) ++ [93]) ++ r).tail = d1 ++ (44 :: 105 :: 93 :: r) := by simp
        unfold itv
        rw [if_pos hh, ht, hr1 (44 :: 105 :: 93 :: r) (by rfl)]
        simp only
        rw [if_pos (by rfl), if_pos (by simp only [h105.1, List.tail_cons]; rfl), if_pos (by rfl)]
        rfl
      · rw [szf_append, szf_digits d1 n hd1]; rfl
    · rename_i h105
      unfold itvEnd at h
      split at h
      · cases h
      rename_i hi l3 hn2
      obtain ⟨d2, ed2, hd2, hne2, hr2⟩ := num_sound _ _ _ _ _ hn2
      split at h
      · cases h
      rename_i hlt
      split at h
      rotate_left
      · cases h
      rename_i h93
      have e4 := cons_of_hd (b := 93) h93 (by decide)
      simp only [Option.some.injEq, Prod.mk.injEq] at h
      obtain ⟨rfl, rfl⟩ := h
      refine ⟨91 :: ((d1 ++ (44 :: d2)) ++ [93]), ?_, fun r => ?_, quiet_itv fun n => ?_⟩
      · conv => lhs; rw [e1, ed1, e2, ed2, e4]
        simp
      · have hh : hd (91 :: ((d1 ++ (44 :: d2)) ++ [93]) ++ r) = 91 := rfl
        have ht : (91 :: ((d1 ++ (44 :: d2)) ++ [93]) ++ r).tail = d1 ++ (44 :: (d2 ++ (93 :: r))) := by simp
        unfold itv
        rw [if_pos hh, ht, hr1 (44 :: (d2 ++ (93 :: r))) (by rfl)]
        simp only
        have hnot : ¬ ((bk && hd (44 :: (d2 ++ 93 :: r)).tail == 105) = true) := by
          cases d2 with
          | nil => exact absurd rfl (hne2 rfl)
          | cons x d2 =>
            have := hd2 x (List.mem_cons_self ..)
            simp only [digB, decide_eq_true_eq] at this
            simp only [List.tail_cons, List.cons_append, hd, Bool.and_eq_true, beq_iff_eq]
            omega
        rw [if_pos (by rfl), if_neg hnot]
        unfold itvEnd
        rw [List.tail_cons, hr2 (93 :: r) (by rfl)]
        simp only
        rw [if_neg hlt, if_pos (by rfl)]
        rfl
      · rw [szf_append, szf_digits d1 n hd1]
        show szf n true (44 :: d2) = _
        rw [szf, if_neg (by decide), if_neg (by decide), if_neg (by simp)]
        exact szf_digits d2 n hd2
  obtain ⟨v, e, hr, hq⟩ := key
  exact ⟨v, e, fun r => by unfold within; rw [if_pos hc, hbk]; exact hr r, hq⟩

theorem alone_ne {c : Int} (h : aloneB c = true) : c ≠ 0 := by simp only [aloneB, decide_eq_true_eq] at h; omega
theorem un_ne {c : Int} (h : unB c = true) : c ≠ 0 := by simp only [unB, decide_eq_true_eq] at h; omega
theorem bin_ne {c : Int} (h : binB c = true) : c ≠ 0 := by simp only [binB, decide_eq_true_eq] at h; omega

theorem form_sound : ∀ (k : Nat) (l : List UInt8) (t : Tree) (k' : Nat) (l' : List UInt8), form k l = some (t, k', l') → ∃ u, l = u ++ l' ∧ Txt t u := by
  intro k
  induction k using Nat.strongRecOn with
  | _ k ih =>
    intro l t k' l' h
    cases k with
    | zero => simp [form] at h
    | succ k =>
      rw [form_succ] at h
      split at h
      · rename_i ha
        obtain ⟨b, r, rfl, _⟩ := hd_ne rfl (alone_ne ha)
        simp only [Option.some.injEq, Prod.mk.injEq] at h
        obtain ⟨rfl, rfl, rfl⟩ := h
        exact ⟨[b], rfl, Txt.leaf b ha⟩
      · split at h
        · rename_i hu
          obtain ⟨b, r, rfl, _⟩ := hd_ne rfl (un_ne hu)
          unfold single at h
          split at h
          · cases h
          · rename_i hw
            split at h
            · cases h
            · rename_i hf
              simp only [Option.some.injEq, Prod.mk.injEq] at h
              obtain ⟨rfl, rfl, rfl⟩ := h
              obtain ⟨v, ev, hv, hq⟩ := within_sound hw
              obtain ⟨u, eu, hu'⟩ := ih k (by omega) _ _ _ _ hf
              refine ⟨b :: (v ++ u), ?_, Txt.un b _ v _ u hu hv hq hu'⟩
              simp only [List.tail_cons] at ev
              rw [ev, eu]; simp
        · split at h
          · rename_i h40
            have e0 := cons_of_hd (b := 40) h40 (by decide)
            unfold pair at h
            split at h
            · cases h
            · rename_i hf1
              obtain ⟨u1, eu1, hu1⟩ := ih k (by omega) _ _ _ _ hf1
              split at h
              · rename_i hb
                obtain ⟨b, r2, rfl, _⟩ := hd_ne rfl (bin_ne hb)
                split at h
                · cases h
                · rename_i hw
                  obtain ⟨v, ev, hv, hq⟩ := within_sound hw
                  split at h
                  · cases h
                  · rename_i hf2
                    obtain ⟨u2, eu2, hu2⟩ := ih _ (by omega) _ _ _ _ hf2
                    split at h
                    · rename_i h41
                      have e4 := cons_of_hd (b := 41) h41 (by decide)
                      simp only [Option.some.injEq, Prod.mk.injEq] at h
                      obtain ⟨rfl, rfl, rfl⟩ := h
                      refine ⟨40 :: (u1 ++ (b :: (v ++ (u2 ++ [41])))), ?_, Txt.bin b _ v _ u1 _ u2 hb hv hq hu1 hu2⟩
                      simp only [List.tail_cons] at ev
                      conv => lhs; rw [e0, eu1, ev, eu2, e4]
                      simp
                    · cases h
              · cases h
          · cases h

end Go.Proofs.Ytnbbfjbndachgaa.Fm
