/- Formulas as texts, read by one plain function: what both readers are held against. No program here. -/
namespace Go.Proofs.YtnbbfjbndachgaaGreat.Fm

/-- The first byte; 0 at the end. -/
def hd : List UInt8 → Int
  | [] => 0
  | c :: _ => (c.toNat : Int)

def digB (c : Int) : Bool := decide (48 ≤ c ∧ c ≤ 57)
def backB (c : Int) : Bool := decide (c = 79 ∨ c = 72 ∨ c = 83)
def aheadB (c : Int) : Bool := decide (c = 70 ∨ c = 71 ∨ c = 85)
def aloneB (c : Int) : Bool := decide (c = 116 ∨ (48 ≤ c ∧ c < 56))
def unB (c : Int) : Bool := decide (c = 33 ∨ c = 79 ∨ c = 72 ∨ c = 70 ∨ c = 71)
def binB (c : Int) : Bool := decide (c = 38 ∨ c = 124 ∨ c = 83 ∨ c = 85)

/-- The place p of the text s, with l behind it. -/
def At (s : ByteArray) (p : Nat) (l : List UInt8) : Prop := p ≤ s.size ∧ s.data.toList.drop p = l

theorem At.le {s p l} (h : At s p l) : p ≤ s.size := h.1
theorem At.len {s p l} (h : At s p l) : l.length + p = s.size := by
  obtain ⟨h1, h2⟩ := h
  have : l.length = s.data.toList.length - p := by rw [← h2, List.length_drop]
  have e : s.data.toList.length = s.size := by simp
  omega
theorem At.nil {s p} (h : At s p []) : p = s.size := by have := h.len; simpa using this
theorem At.ge {s p l} (h : At s p l) (hp : s.size ≤ p) : l = [] := by
  have := h.len; exact List.length_eq_zero_iff.1 (by omega)
theorem At.cons {s p} {l : List UInt8} (h : At s p l) (hp : p < s.size) : l = s[p] :: s.data.toList.drop (p + 1) := by
  obtain ⟨_, h2⟩ := h
  rw [← h2, List.drop_eq_getElem_cons (by simpa using hp)]; rfl
theorem At.hd {s p} {l : List UInt8} (h : At s p l) (hp : p < s.size) : hd l = ((s[p]).toNat : Int) := by rw [h.cons hp]; rfl
theorem At.succ {s p} {l : List UInt8} (h : At s p l) (hp : p < s.size) : At s (p + 1) l.tail := by
  refine ⟨by omega, ?_⟩
  rw [h.cons hp]; rfl
theorem At.start (s : ByteArray) : At s 0 s.data.toList := ⟨Nat.zero_le _, rfl⟩

theorem hd_bd (l : List UInt8) : 0 ≤ hd l ∧ hd l ≤ 255 := by
  cases l with
  | nil => exact ⟨by decide, by decide⟩
  | cons c r => have := c.toNat_lt; simp only [hd]; omega

theorem hd_ne {l : List UInt8} {c : Int} (h : hd l = c) (hc : c ≠ 0) : ∃ u r, l = u :: r ∧ (u.toNat : Int) = c := by
  cases l with
  | nil => simp [hd] at h; omega
  | cons u r => exact ⟨u, r, rfl, h⟩

/-- A number: how far it is read (begun: a digit was read), its value. -/
def num (begun : Bool) (v : Nat) : List UInt8 → Option (Nat × List UInt8)
  | [] => if begun then some (v, []) else none
  | c :: r =>
    if digB (c.toNat : Int) then
      if begun && v == 0 then none
      else if 1000 < v * 10 + (c.toNat - 48) then none
      else num true (v * 10 + (c.toNat - 48)) r
    else if begun then some (v, c :: r) else none

/-- An interval: low, high, endless. -/
structure Itv where
  lo : Nat
  hi : Nat
  endless : Bool

def itvEnd (lo : Nat) (l : List UInt8) : Option (Itv × List UInt8) :=
  match num false 0 l with
  | none => none
  | some (hi, l3) => if hi < lo then none else if hd l3 = 93 then some (⟨lo, hi, false⟩, l3.tail) else none

def itv (back : Bool) (l : List UInt8) : Option (Itv × List UInt8) :=
  if hd l = 91 then
    match num false 0 l.tail with
    | none => none
    | some (lo, l2) =>
      if hd l2 = 44 then
        if back && hd l2.tail == 105 then
          if hd l2.tail.tail = 93 then some (⟨lo, 0, true⟩, l2.tail.tail.tail) else none
        else itvEnd lo l2.tail
      else none
  else none

def within (c : Int) (l : List UInt8) : Option (Itv × List UInt8) :=
  if backB c || aheadB c then itv (backB c) l else some (⟨0, 0, false⟩, l)

inductive Tree where
  | leaf (c : Int)
  | un (c : Int) (i : Itv) (t : Tree)
  | bin (c : Int) (i : Itv) (t u : Tree)

/-- A formula of at most k signs: its tree, how many signs are left, what is left of the text. -/
def form (k : Nat) (l : List UInt8) : Option (Tree × Nat × List UInt8) :=
  match k with
  | 0 => none
  | k + 1 =>
    let c := hd l
    if aloneB c then some (.leaf c, k, l.tail)
    else if unB c then
      match within c l.tail with
      | none => none
      | some (i, l2) =>
        match form k l2 with
        | none => none
        | some (t, k3, l3) => some (.un c i t, k3, l3)
    else if c = 40 then
      match form k l.tail with
      | none => none
      | some (t, k2, l2) =>
        if binB (hd l2) then
          match within (hd l2) l2.tail with
          | none => none
          | some (i, l3) =>
            match form (min k k2) l3 with
            | none => none
            | some (u, k4, l4) => if hd l4 = 41 then some (.bin (hd l2) i t u, k4, l4.tail) else none
        else none
    else none
termination_by k
decreasing_by all_goals omega

def single (k : Nat) (c : Int) (l : List UInt8) : Option (Tree × Nat × List UInt8) :=
  match within c l with
  | none => none
  | some (i, l2) =>
    match form k l2 with
    | none => none
    | some (t, k3, l3) => some (.un c i t, k3, l3)

def pair (k : Nat) (l : List UInt8) : Option (Tree × Nat × List UInt8) :=
  match form k l with
  | none => none
  | some (t, k2, l2) =>
    if binB (hd l2) then
      match within (hd l2) l2.tail with
      | none => none
      | some (i, l3) =>
        match form (min k k2) l3 with
        | none => none
        | some (u, k4, l4) => if hd l4 = 41 then some (.bin (hd l2) i t u, k4, l4.tail) else none
    else none

theorem form_succ (k : Nat) (l : List UInt8) : form (k + 1) l = if aloneB (hd l) then some (.leaf (hd l), k, l.tail) else if unB (hd l) then single k (hd l) l.tail else if hd l = 40 then pair k l.tail else none := by
  rw [form]; rfl

def Tree.sg : Tree → Int
  | .leaf c => c
  | .un c _ _ => c
  | .bin c _ _ _ => c
def Tree.lo : Tree → Nat
  | .leaf _ => 0
  | .un _ i _ => i.lo
  | .bin _ i _ _ => i.lo
def Tree.hi : Tree → Nat
  | .leaf _ => 0
  | .un _ i _ => i.hi
  | .bin _ i _ _ => i.hi
def Tree.en : Tree → Bool
  | .leaf _ => false
  | .un _ i _ => i.endless
  | .bin _ i _ _ => i.endless

def hz : Tree → Nat
  | .leaf _ => 0
  | .un c i t => hz t + if aheadB c then i.hi else 0
  | .bin c i t u => max (hz t) (hz u) + if aheadB c then i.hi else 0

/-- How many signs. -/
def signs : Tree → Nat
  | .leaf _ => 1
  | .un _ _ t => signs t + 1
  | .bin _ _ t u => signs t + signs u + 1

/-- What Horizon answers. -/
def horizon (l : List UInt8) : Option Nat :=
  match form 20 l with
  | some (t, _, []) => some (hz t)
  | _ => none

theorem form_le : ∀ (k : Nat) (l : List UInt8) (t : Tree) (k' : Nat) (l' : List UInt8), form k l = some (t, k', l') → k' + signs t = k := by
  intro k
  induction k using Nat.strongRecOn with
  | _ k ih =>
    intro l t k' l' h
    cases k with
    | zero => simp [form] at h
    | succ k =>
      rw [form] at h
      by_cases h1 : aloneB (hd l)
      · rw [if_pos h1] at h
        simp only [Option.some.injEq, Prod.mk.injEq] at h
        obtain ⟨rfl, rfl, rfl⟩ := h
        simp [signs]
      rw [if_neg h1] at h
      by_cases h2 : unB (hd l)
      · rw [if_pos h2] at h
        split at h
        · cases h
        · split at h
          · cases h
          · rename_i heq
            simp only [Option.some.injEq, Prod.mk.injEq] at h
            obtain ⟨rfl, rfl, rfl⟩ := h
            have := ih k (by omega) _ _ _ _ heq
            simp [signs]; omega
      rw [if_neg h2] at h
      by_cases h3 : hd l = 40
      · rw [if_pos h3] at h
        split at h
        · cases h
        · rename_i heq
          have a1 := ih k (by omega) _ _ _ _ heq
          split at h
          · split at h
            · cases h
            · split at h
              · cases h
              · rename_i heq2
                have a2 := ih _ (by omega) _ _ _ _ heq2
                split at h
                · simp only [Option.some.injEq, Prod.mk.injEq] at h
                  obtain ⟨rfl, rfl, rfl⟩ := h
                  simp [signs]; omega
                · cases h
          · cases h
      · rw [if_neg h3] at h; cases h

theorem form_lt {k : Nat} {l : List UInt8} {t : Tree} {k' : Nat} {l' : List UInt8} (h : form k l = some (t, k', l')) : k' < k := by
  have h1 := form_le k l t k' l' h
  cases t <;> simp [signs] at h1 <;> omega

end Go.Proofs.YtnbbfjbndachgaaGreat.Fm
