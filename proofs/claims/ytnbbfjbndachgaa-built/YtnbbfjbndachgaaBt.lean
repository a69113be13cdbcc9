/- Formulas out of formulas. No program here. -/
import Derived.Test.YtnbbfjbndachgaaTx
namespace Go.Proofs.Ytnbbfjbndachgaa.Fm

def pars (l : List UInt8) : Option Tree :=
  match form 20 l with
  | some (t, _, []) => some t
  | _ => none

theorem pars_txt {l : List UInt8} {t : Tree} (h : pars l = some t) : Txt t l ∧ signs t ≤ 20 ∧ hz t ≤ 20000 := by
  unfold pars at h
  split at h
  · rename_i hf
    simp only [Option.some.injEq] at h
    subst h
    obtain ⟨u, e, hu⟩ := form_sound _ _ _ _ _ hf
    have := form_le _ _ _ _ _ hf
    rw [e, List.append_nil]
    exact ⟨hu, by omega, form_bound hf⟩
  · cases h

/-- Is that a formula, just if it should be, and has it this horizon? -/
def Has (l : List UInt8) (is : Bool) (h : Int) : Prop :=
  match pars l with
  | some t => is = true ∧ (hz t : Int) = h
  | none => is = false

theorem has_txt {t : Tree} {u : List UInt8} (h : Txt t u) {is : Bool} {hh : Int} (his : is = decide (signs t ≤ 20)) (hhh : (hz t : Int) = hh) : Has u is hh := by
  have e := form_txt h 20 []
  rw [List.append_nil] at e
  unfold Has pars
  rw [e]
  by_cases hs : signs t ≤ 20
  · rw [if_pos hs]; exact ⟨by simp [his, hs], hhh⟩
  · rw [if_neg hs]; simp [his, hs]

theorem has_none {u : List UInt8} (h : ∀ t k, form 20 u ≠ some (t, k, [])) : Has u false 0 := by
  unfold Has pars
  split
  · rename_i heq
    split at heq
    · rename_i hf; exact absurd hf (h _ _)
    · cases heq
  · rfl

/-- Up to 999 in digits. -/
def dg (n : Nat) : List UInt8 :=
  if n ≤ 9 then [UInt8.ofNat (48 + n)] else if n ≤ 99 then [UInt8.ofNat (48 + n / 10), UInt8.ofNat (48 + n % 10)] else [UInt8.ofNat (48 + n / 100), UInt8.ofNat (48 + n / 10 % 10), UInt8.ofNat (48 + n % 10)]

theorem ub {d : Nat} (h : d ≤ 9) : (UInt8.ofNat (48 + d)).toNat = 48 + d := by
  rw [UInt8.toNat_ofNat']; omega

theorem num_one {g : Bool} {v d : Nat} {r : List UInt8} (hd' : d ≤ 9) (hg : (g && v == 0) = false) (hb : v * 10 + d ≤ 1000) : num g v (UInt8.ofNat (48 + d) :: r) = num true (v * 10 + d) r := by
  have e : (UInt8.ofNat (48 + d)).toNat - 48 = d := by rw [ub hd']; omega
  rw [num, if_pos (by rw [ub hd']; simp only [digB, decide_eq_true_eq]; omega), hg, if_neg (by simp), e, if_neg (by omega)]

theorem num_stop {v : Nat} {r : List UInt8} (h : digB (hd r) = false) : num true v r = some (v, r) := by
  cases r with
  | nil => rfl
  | cons c r => simp only [hd] at h; rw [num, h]; rfl

theorem num_dg {n : Nat} (hn : n ≤ 999) {r : List UInt8} (h : digB (hd r) = false) : num false 0 (dg n ++ r) = some (n, r) := by
  unfold dg
  split
  · simp only [List.cons_append, List.nil_append]
    rw [num_one (by omega) (by simp) (by omega), num_stop h]; simp
  · split
    · simp only [List.cons_append, List.nil_append]
      rw [num_one (by omega) (by simp) (by omega), num_one (by omega) (by simp; omega) (by omega), num_stop h]
      simp only [Option.some.injEq, Prod.mk.injEq, and_true]; omega
    · simp only [List.cons_append, List.nil_append]
      rw [num_one (by omega) (by simp) (by omega), num_one (by omega) (by simp; omega) (by omega), num_one (by omega) (by simp; omega) (by omega), num_stop h]
      simp only [Option.some.injEq, Prod.mk.injEq, and_true]; omega

theorem dg_dig {n : Nat} (hn : n ≤ 999) : ∀ c ∈ dg n, digB (c.toNat : Int) = true := by
  have u : ∀ d, d ≤ 9 → digB ((UInt8.ofNat (48 + d)).toNat : Int) = true := fun d hd => by rw [ub hd]; simp only [digB, decide_eq_true_eq]; omega
  intro c hc
  unfold dg at hc
  split at hc
  · simp only [List.mem_cons, List.not_mem_nil, or_false] at hc; subst hc; exact u _ (by omega)
  · split at hc
    · simp only [List.mem_cons, List.not_mem_nil, or_false] at hc; rcases hc with rfl | rfl <;> exact u _ (by omega)
    · simp only [List.mem_cons, List.not_mem_nil, or_false] at hc; rcases hc with rfl | rfl | rfl <;> exact u _ (by omega)

theorem dg_cons {n : Nat} (hn : n ≤ 999) : ∃ c r, dg n = c :: r ∧ digB (c.toNat : Int) = true := by
  have h := dg_dig hn
  cases e : dg n with
  | nil => unfold dg at e; split at e <;> (try split at e) <;> simp at e
  | cons c r => exact ⟨c, r, rfl, h c (by rw [e]; exact List.mem_cons_self ..)⟩

/-- An interval's text. -/
def iv (a b : Nat) : List UInt8 := 91 :: ((dg a ++ (44 :: dg b)) ++ [93])
/-- .. without an end. -/
def ivi (a : Nat) : List UInt8 := 91 :: ((dg a ++ [44, 105]) ++ [93])

theorem itv_iv {a b : Nat} (hab : a ≤ b) (hb : b ≤ 999) (bk : Bool) (r : List UInt8) : itv bk (iv a b ++ r) = some (⟨a, b, false⟩, r) := by
  have hh : hd (iv a b ++ r) = 91 := rfl
  have ht : (iv a b ++ r).tail = dg a ++ (44 :: (dg b ++ (93 :: r))) := by simp [iv]
  unfold itv
  rw [if_pos hh, ht, num_dg (by omega) (by rfl)]
  simp only
  obtain ⟨c, d, ed, hc⟩ := dg_cons hb
  have hnot : ¬ ((bk && hd (44 :: (dg b ++ 93 :: r)).tail == 105) = true) := by
    rw [ed]
    simp only [digB, decide_eq_true_eq] at hc
    simp only [List.tail_cons, List.cons_append, hd, Bool.and_eq_true, beq_iff_eq]
    omega
  rw [if_pos (by rfl), if_neg hnot]
  unfold itvEnd
  rw [List.tail_cons, num_dg hb (by rfl)]
  simp only
  rw [if_neg (by omega), if_pos (by rfl)]
  rfl

theorem itv_ivi {a : Nat} (ha : a ≤ 999) (r : List UInt8) : itv true (ivi a ++ r) = some (⟨a, 0, true⟩, r) := by
  have hh : hd (ivi a ++ r) = 91 := rfl
  have ht : (ivi a ++ r).tail = dg a ++ (44 :: 105 :: 93 :: r) := by simp [ivi]
  unfold itv
  rw [if_pos hh, ht, num_dg ha (by rfl)]
  simp only
  rw [if_pos (by rfl), if_pos (by rfl), if_pos (by rfl)]
  rfl

theorem itv_ivi_no {a : Nat} (ha : a ≤ 999) (r : List UInt8) : itv false (ivi a ++ r) = none := by
  have hh : hd (ivi a ++ r) = 91 := rfl
  have ht : (ivi a ++ r).tail = dg a ++ (44 :: 105 :: 93 :: r) := by simp [ivi]
  unfold itv
  rw [if_pos hh, ht, num_dg ha (by rfl)]
  simp only
  rw [if_pos (by rfl), if_neg (by simp)]
  rfl

theorem quiet_iv {a b : Nat} (ha : a ≤ 999) (hb : b ≤ 999) : Quiet (iv a b) := quiet_itv fun n => by
  rw [szf_append, szf_digits _ n (dg_dig ha)]
  show szf n true (44 :: dg b) = _
  rw [szf, if_neg (by decide), if_neg (by decide), if_neg (by simp)]
  exact szf_digits _ n (dg_dig hb)
theorem quiet_ivi {a : Nat} (ha : a ≤ 999) : Quiet (ivi a) := quiet_itv fun n => by
  rw [szf_append, szf_digits _ n (dg_dig ha)]; rfl

section
variable {tx ty : Tree} {X Y : List UInt8}

theorem has_not (hx : Txt tx X) {is : Bool} (his : is = decide (signs tx < 20)) : Has (33 :: X) is (hz tx) :=
  has_txt (Txt.un 33 ⟨0, 0, false⟩ [] tx X (by rfl) (fun _ => rfl) (fun _ => rfl) hx) (by rw [his]; rfl) (by simp [hz, aheadB])
theorem has_once (hx : Txt tx X) {a b : Nat} (hab : a ≤ b) (hb : b ≤ 999) {is : Bool} (his : is = decide (signs tx < 20)) : Has (79 :: (iv a b ++ X)) is (hz tx) :=
  has_txt (Txt.un 79 ⟨a, b, false⟩ (iv a b) tx X (by rfl) (fun r => itv_iv hab hb true r) (quiet_iv (by omega) hb) hx) (by rw [his]; rfl) (by simp [hz, aheadB])
theorem has_glob (hx : Txt tx X) {a b : Nat} (hab : a ≤ b) (hb : b ≤ 999) {is : Bool} (his : is = decide (signs tx < 20)) : Has (71 :: (iv a b ++ X)) is ((hz tx : Int) + b) :=
  has_txt (Txt.un 71 ⟨a, b, false⟩ (iv a b) tx X (by rfl) (fun r => itv_iv hab hb false r) (quiet_iv (by omega) hb) hx) (by rw [his]; rfl) (by simp [hz, aheadB])
theorem has_hist (hx : Txt tx X) {a : Nat} (ha : a ≤ 999) {is : Bool} (his : is = decide (signs tx < 20)) : Has (72 :: (ivi a ++ X)) is (hz tx) :=
  has_txt (Txt.un 72 ⟨a, 0, true⟩ (ivi a) tx X (by rfl) (fun r => itv_ivi ha r) (quiet_ivi ha) hx) (by rw [his]; rfl) (by simp [hz, aheadB])

theorem has_and (hx : Txt tx X) (hy : Txt ty Y) {is : Bool} (his : is = decide (signs tx + signs ty < 20)) : Has (40 :: (X ++ (38 :: (Y ++ [41])))) is (max (hz tx : Int) (hz ty)) :=
  has_txt (Txt.bin 38 ⟨0, 0, false⟩ [] tx X ty Y (by rfl) (fun _ => rfl) (fun _ => rfl) hx hy) (by rw [his]; rfl) (by simp [hz, aheadB]; omega)
theorem has_or (hx : Txt tx X) (hy : Txt ty Y) {is : Bool} (his : is = decide (signs tx + signs ty < 20)) : Has (40 :: (X ++ (124 :: (Y ++ [41])))) is (max (hz tx : Int) (hz ty)) :=
  has_txt (Txt.bin 124 ⟨0, 0, false⟩ [] tx X ty Y (by rfl) (fun _ => rfl) (fun _ => rfl) hx hy) (by rw [his]; rfl) (by simp [hz, aheadB]; omega)
theorem has_since (hx : Txt tx X) (hy : Txt ty Y) {a b : Nat} (hab : a ≤ b) (hb : b ≤ 999) {is : Bool} (his : is = decide (signs tx + signs ty < 20)) : Has (40 :: (X ++ (83 :: (iv a b ++ (Y ++ [41]))))) is (max (hz tx : Int) (hz ty)) :=
  has_txt (Txt.bin 83 ⟨a, b, false⟩ (iv a b) tx X ty Y (by rfl) (fun r => itv_iv hab hb true r) (quiet_iv (by omega) hb) hx hy) (by rw [his]; rfl) (by simp [hz, aheadB]; omega)
theorem has_until (hx : Txt tx X) (hy : Txt ty Y) {a b : Nat} (hab : a ≤ b) (hb : b ≤ 999) {is : Bool} (his : is = decide (signs tx + signs ty < 20)) : Has (40 :: (X ++ (85 :: (iv a b ++ (Y ++ [41]))))) is (max (hz tx : Int) (hz ty) + b) :=
  has_txt (Txt.bin 85 ⟨a, b, false⟩ (iv a b) tx X ty Y (by rfl) (fun r => itv_iv hab hb false r) (quiet_iv (by omega) hb) hx hy) (by rw [his]; rfl) (by simp [hz, aheadB]; omega)

theorem no_two (hx : Txt tx X) (hy : Txt ty Y) : Has (X ++ Y) false 0 := has_none fun t k h => by
  rw [form_txt hx] at h
  split at h
  · simp only [Option.some.injEq, Prod.mk.injEq] at h
    exact txt_ne hy h.2.2
  · cases h
theorem no_brackets (hx : Txt tx X) : Has (40 :: (X ++ [41])) false 0 := has_none fun t k h => by
  rw [form_succ] at h
  have e : hd (40 :: (X ++ [41])) = 40 := rfl
  rw [e, if_neg (by decide), if_neg (by decide), if_pos rfl, List.tail_cons] at h
  unfold pair at h
  rw [form_txt hx] at h
  by_cases hs : signs tx ≤ 19
  · rw [if_pos hs] at h
    simp only at h
    rw [if_neg (by decide)] at h
    cases h
  · rw [if_neg hs] at h; cases h
theorem no_close (hx : Txt tx X) (hy : Txt ty Y) : Has (40 :: (X ++ (38 :: Y))) false 0 := has_none fun t k h => by
  rw [form_succ] at h
  have e : hd (40 :: (X ++ (38 :: Y))) = 40 := rfl
  rw [e, if_neg (by decide), if_neg (by decide), if_pos rfl, List.tail_cons] at h
  unfold pair at h
  rw [form_txt hx] at h
  by_cases hs : signs tx ≤ 19
  · rw [if_pos hs] at h
    simp only at h
    have e38 : hd (38 :: Y) = 38 := rfl
    have ew : within 38 (38 :: Y).tail = some (⟨0, 0, false⟩, Y) := rfl
    rw [e38, if_pos (by decide), ew] at h
    simp only at h
    have ey := form_txt hy (min 19 (19 - signs tx)) []
    rw [List.append_nil] at ey
    rw [ey] at h
    split at h
    · cases h
    · rename_i heq
      split at heq
      · simp only [Option.some.injEq, Prod.mk.injEq] at heq
        rw [← heq.2.2, if_neg (by decide)] at h
        cases h
      · cases heq
  · rw [if_neg hs] at h; cases h
theorem no_endless (_hx : Txt tx X) {a : Nat} (ha : a ≤ 999) : Has (70 :: (ivi a ++ X)) false 0 := has_none fun t k h => by
  rw [form_succ] at h
  have e : hd (70 :: (ivi a ++ X)) = 70 := rfl
  rw [e, if_neg (by decide), if_pos (by decide), List.tail_cons] at h
  unfold single at h
  have ew : within 70 (ivi a ++ X) = none := itv_ivi_no ha X
  rw [ew] at h
  cases h
theorem no_blank (X : List UInt8) : Has (32 :: X) false 0 := has_none fun t k h => by
  rw [form_succ] at h
  have e : hd (32 :: X) = 32 := rfl
  rw [e, if_neg (by decide), if_neg (by decide), if_neg (by decide)] at h
  cases h
end

/-! ### The five of the document -/

theorem t0 : Txt (.leaf 48) [48] := Txt.leaf 48 (by rfl)
theorem t1 : Txt (.leaf 49) [49] := Txt.leaf 49 (by rfl)
theorem tt : Txt (.leaf 116) [116] := Txt.leaf 116 (by rfl)
theorem ex1 : Has [70, 91, 49, 44, 53, 93, 40, 48, 38, 70, 91, 48, 44, 55, 93, 49, 41] true 12 :=
  has_txt (Txt.un 70 ⟨1, 5, false⟩ [91, 49, 44, 53, 93] _ _ (by rfl) (fun _ => rfl) (fun _ => rfl) (Txt.bin 38 ⟨0, 0, false⟩ [] _ _ _ _ (by rfl) (fun _ => rfl) (fun _ => rfl) t0 (Txt.un 70 ⟨0, 7, false⟩ [91, 48, 44, 55, 93] _ _ (by rfl) (fun _ => rfl) (fun _ => rfl) t1))) (by rfl) (by rfl)
theorem ex2 : Has [40, 48, 83, 91, 50, 44, 57, 93, 49, 41] true 0 :=
  has_txt (Txt.bin 83 ⟨2, 9, false⟩ [91, 50, 44, 57, 93] _ _ _ _ (by rfl) (fun _ => rfl) (fun _ => rfl) t0 t1) (by rfl) (by rfl)
theorem ex3 : Has [56] false 0 := has_none fun t k h => by
  rw [form_succ] at h
  have e : hd [56] = 56 := rfl
  rw [e, if_neg (by decide), if_neg (by decide), if_neg (by decide)] at h
  cases h
theorem ex4 : Has [70, 91, 53, 44, 52, 93, 48] false 0 := has_none fun t k h => by
  rw [form_succ] at h
  have e : hd [70, 91, 53, 44, 52, 93, 48] = 70 := rfl
  rw [e, if_neg (by decide), if_pos (by decide), List.tail_cons] at h
  unfold single at h
  have ew : within 70 [91, 53, 44, 52, 93, 48] = none := rfl
  rw [ew] at h
  cases h
theorem ex5 : Has [79, 91, 48, 44, 105, 93, 116] true 0 :=
  has_txt (Txt.un 79 ⟨0, 0, true⟩ [91, 48, 44, 105, 93] _ _ (by rfl) (fun _ => rfl) (fun _ => rfl) tt) (by rfl) (by rfl)

end Go.Proofs.Ytnbbfjbndachgaa.Fm
