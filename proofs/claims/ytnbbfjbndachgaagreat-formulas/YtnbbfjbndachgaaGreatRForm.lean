/- The document's formulas: trees of pointers. -/
import Derived.Test.YtnbbfjbndachgaaGreatRItv
namespace Go.Proofs.YtnbbfjbndachgaaGreat
open Go.RowKit

structure NodeB (w : World) (g : Nat) (c fr t : Int) (f u : Option Addr) : Prop where
  c0 : w.cell? ⟨g, 0, none⟩ = some (.int .u8 c)
  c1 : w.cell? ⟨g, 1, none⟩ = some (.int .i64 fr)
  c2 : w.cell? ⟨g, 2, none⟩ = some (.int .i64 t)
  c3 : w.cell? ⟨g, 3, none⟩ = some (.pointer f)
  c4 : w.cell? ⟨g, 4, none⟩ = some (.pointer u)

/-- The tree at block g, all of it in blocks from B on. -/
def RepB (B : Nat) (w : World) : Fm.Tree → Nat → Prop
  | .leaf c, g => B ≤ g ∧ g < w.heap.size ∧ NodeB w g c 0 0 none none
  | .un c i t, g => ∃ g1, B ≤ g ∧ g < w.heap.size ∧ NodeB w g c i.lo (toI i) (some ⟨g1, 0, none⟩) none ∧ RepB B w t g1
  | .bin c i t u, g => ∃ g1 g2, B ≤ g ∧ g < w.heap.size ∧ NodeB w g c i.lo (toI i) (some ⟨g1, 0, none⟩) (some ⟨g2, 0, none⟩) ∧ RepB B w t g1 ∧ RepB B w u g2

theorem NodeB.keep {w w' : World} {g : Nat} {c fr t : Int} {f u : Option Addr} (h : NodeB w g c fr t f u) (e : w'.heap[g]? = w.heap[g]?) : NodeB w' g c fr t f u := by
  have k : ∀ i, w'.cell? ⟨g, i, none⟩ = w.cell? ⟨g, i, none⟩ := fun i => World.cell?_of_block (w := w) e
  exact ⟨(k _).trans h.c0, (k _).trans h.c1, (k _).trans h.c2, (k _).trans h.c3, (k _).trans h.c4⟩

theorem RepB.keep {B B' : Nat} {w w' : World} (hB : B' ≤ B) (hs : w.heap.size ≤ w'.heap.size) (hk : ∀ g, B ≤ g → g < w.heap.size → w'.heap[g]? = w.heap[g]?) : ∀ {t : Fm.Tree} {g : Nat}, RepB B w t g → RepB B' w' t g := by
  intro t
  induction t with
  | leaf c => rintro g ⟨h1, h2, h3⟩; exact ⟨by omega, by omega, h3.keep (hk g h1 h2)⟩
  | un c i t ih =>
    rintro g ⟨g1, h1, h2, h3, h4⟩
    exact ⟨g1, by omega, by omega, h3.keep (hk g h1 h2), ih h4⟩
  | bin c i t u iht ihu =>
    rintro g ⟨g1, g2, h1, h2, h3, h4, h5⟩
    exact ⟨g1, g2, by omega, by omega, h3.keep (hk g h1 h2), iht h4, ihu h5⟩

section
variable {B B' g : Nat} {w w' : World} {t : Fm.Tree}
theorem RepB.below {n : Nat} (h : RepB B w t g) (hb : Below n w w') (hn : w.heap.size ≤ n) : RepB B w' t g :=
  h.keep (Nat.le_refl _) hb.size (fun g _ h2 => hb.block g (by omega))
theorem RepB.mono (h : RepB B w t g) (hb : B' ≤ B) : RepB B' w t g := h.keep hb (Nat.le_refl _) (fun _ _ _ => rfl)
theorem RepB.alloc (h : RepB B w t g) (o : Obj) : RepB B (w.alloc o) t g :=
  h.keep (Nat.le_refl _) (by simp) (fun g _ h2 => Below.heap_alloc _ _ _ h2)
theorem RepB.set (h : RepB B w t g) {a : Addr} (ha : a.block < B) (v : Value) : RepB B (w.setCell a v) t g :=
  h.keep (Nat.le_refl _) (by simp [World.setCell]) (fun g h1 _ => Below.heap_setCell _ _ _ _ (by omega))
end

theorem nodeB_new (X : World) {T : Nat} (c fr t : Int) (f u : Option Addr) : NodeB (X.alloc (.cells #[.int .u8 c, .int .i64 fr, .int .i64 t, .pointer f, .pointer u] T)) X.heap.size c fr t f u := by
  constructor <;> simp [World.cell?_alloc_new]

def RFPost (B : Nat) (k : Int) (s : ByteArray) (e : Ending) (w' : World) : Option (Fm.Tree × Nat × List UInt8) → Prop
  | some (t, k', l') => ∃ g p', e = .returned (.tuple #[.pointer (some ⟨g, 0, none⟩), .int .i64 (p' : Nat), .int .i64 (k - (k' : Nat))]) ∧ RepB B w' t g ∧ Fm.At s p' l'
  | none => e = .returned (.tuple #[.pointer none, .int .i64 0, .int .i64 0])

def RFormOk (s : ByteArray) (k : Nat) : Prop := ∀ (w : World) (x y : Int) (p : Nat) (l : List UInt8), x = (p : Int) → y = (k : Int) → Fm.At s p l →
    Calls Tryz.prog 120 #[.string s, .int .i64 x, .int .i64 y] w fun e w' => RFPost w.heap.size k s e w' (Fm.form k l) ∧ Below w.heap.size w w'

def RTwoOk (s : ByteArray) (k : Nat) : Prop := ∀ (w : World) (x y : Int) (p : Nat) (l : List UInt8), x = (p : Int) → y = (k : Int) → Fm.At s p l →
    Calls Tryz.prog 148 #[.string s, .int .i64 x, .int .i64 y] w fun e w' => RFPost w.heap.size (k + 1) s e w' (Fm.pair k l) ∧ Below w.heap.size w w'

set_option maxHeartbeats 1000000 in
theorem rform_end (s : ByteArray) (k : Nat) (w : World) (p : Nat) (l : List UInt8) (ha : Fm.At s p l) (h : k = 0 ∨ s.size ≤ p) :
    Calls Tryz.prog 120 #[.string s, .int .i64 p, .int .i64 k] w fun e w' => RFPost w.heap.size k s e w' (Fm.form k l) ∧ Below w.heap.size w w' := by
  have Hw : Hid (Fm.form k l = none) := by
    rcases h with rfl | h
    · show Fm.form 0 l = none; rw [Fm.form]
    · have := ha.ge h; subst this
      cases k with
      | zero => show Fm.form 0 [] = none; rw [Fm.form]
      | succ k => show Fm.form (k + 1) [] = none; rw [Fm.form_succ]; rfl
  rcases Nat.lt_or_ge k 1 with hk | hk
  · go_enter Tryz.func120, Tryz.ntmps120
    go_wp2_with fail
    go_ret3
    rw [unhide Hw]
    exact ⟨rfl, Below.refl _ _⟩
  · have hp : s.size ≤ p := by omega
    go_enter Tryz.func120, Tryz.ntmps120
    go_wp2_with fail
    go_ret3
    rw [unhide Hw]
    exact ⟨rfl, Below.refl _ _⟩

set_option maxHeartbeats 1000000 in
theorem rform_leaf (s : ByteArray) (k : Nat) (hk : k < 20) (w : World) (p : Nat) (l : List UInt8) (ha : Fm.At s p l) (hs : s.size ≤ 140737488351232) (hp : p < s.size) (h : Fm.aloneB (Fm.hd l) = true) :
    Calls Tryz.prog 120 #[.string s, .int .i64 p, .int .i64 ((k + 1 : Nat) : Int)] w fun e w' => RFPost w.heap.size ((k + 1 : Nat) : Int) s e w' (Fm.form (k + 1) l) ∧ Below w.heap.size w w' := by
  have Hw : Hid (Fm.form (k + 1) l = some (.leaf (Fm.hd l), k, l.tail)) := by unfold Hid; rw [Fm.form_succ, h]; rfl
  have hh := ha.hd hp
  have Hh := hide hh
  have hc : (s[p]).toNat = 116 ∨ (48 ≤ ((s[p]).toNat : Int) ∧ ((s[p]).toNat : Int) ≤ 55) := by
    rw [hh] at h; simp only [Fm.aloneB, decide_eq_true_eq] at h; omega
  have Hk : Hid (((k + 1 : Nat) : Int) - (k : Nat) = 1) := by show _ = _; omega
  clear h hh
  rcases hc with hc | ⟨hc1, hc2⟩
  all_goals
    go_enter Tryz.func120, Tryz.ntmps120
    go_wp2_with fail
    go_ret3
    rw [unhide Hw]
    refine ⟨⟨w.heap.size, p + 1, ?_, ⟨Nat.le_refl _, by simp, ?_⟩, ha.succ hp⟩, (Below.refl _ _).alloc (Nat.le_refl _) _⟩
    · rw [unhide Hk]; rfl
    · rw [unhide Hh]
      try rw [hc]
      exact nodeB_new _ _ _ _ _ _

end Go.Proofs.YtnbbfjbndachgaaGreat
