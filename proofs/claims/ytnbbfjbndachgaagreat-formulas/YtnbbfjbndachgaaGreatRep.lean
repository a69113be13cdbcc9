/- A tree of a formula in memory. -/
import Derived.Test.YtnbbfjbndachgaaGreatWith
namespace Go.Proofs.YtnbbfjbndachgaaGreat
open Go.RowKit

/-- One formula's five cells. -/
structure Node (w : World) (g o : Nat) (t : Fm.Tree) (ao : Option Addr) (n : Nat) : Prop where
  c0 : w.cell? ⟨g, o, none⟩ = some (.int .u8 t.sg)
  c1 : w.cell? ⟨g, o + 1, none⟩ = some (.int .i64 t.lo)
  c2 : w.cell? ⟨g, o + 2, none⟩ = some (.int .i64 t.hi)
  c3 : w.cell? ⟨g, o + 3, none⟩ = some (.bool t.en)
  c4 : w.cell? ⟨g, o + 4, none⟩ = some (.slice ao n n)

/-- The slice of parts of a tree (where it begins, how long it is), all of it in blocks from B on. -/
def Rep (B : Nat) (w : World) : Fm.Tree → Option Addr → Nat → Prop
  | .leaf _, ao, n => ao = none ∧ n = 0
  | .un _ _ t, ao, n => ∃ g a1 n1, ao = some ⟨g, 0, none⟩ ∧ n = 1 ∧ B ≤ g ∧ g < w.heap.size ∧ Node w g 0 t a1 n1 ∧ Rep B w t a1 n1
  | .bin _ _ t u, ao, n => ∃ g a1 n1 a2 n2, ao = some ⟨g, 0, none⟩ ∧ n = 2 ∧ B ≤ g ∧ g < w.heap.size ∧ Node w g 0 t a1 n1 ∧ Rep B w t a1 n1 ∧ Node w g 5 u a2 n2 ∧ Rep B w u a2 n2

theorem Node.keep {w w' : World} {g o : Nat} {t : Fm.Tree} {ao : Option Addr} {n : Nat} (h : Node w g o t ao n) (e : w'.heap[g]? = w.heap[g]?) : Node w' g o t ao n := by
  have c : ∀ i, w'.cell? ⟨g, i, none⟩ = w.cell? ⟨g, i, none⟩ := fun i => World.cell?_of_block (w := w) e
  exact ⟨(c _).trans h.c0, (c _).trans h.c1, (c _).trans h.c2, (c _).trans h.c3, (c _).trans h.c4⟩

theorem Rep.keep {B B' : Nat} {w w' : World} (hB : B' ≤ B) (hs : w.heap.size ≤ w'.heap.size) (hk : ∀ g, B ≤ g → g < w.heap.size → w'.heap[g]? = w.heap[g]?) : ∀ {t : Fm.Tree} {ao : Option Addr} {n : Nat}, Rep B w t ao n → Rep B' w' t ao n := by
  intro t
  induction t with
  | leaf c => exact fun h => h
  | un c i t ih =>
    rintro ao n ⟨g, a1, n1, e, e', h1, h2, h3, h4⟩
    exact ⟨g, a1, n1, e, e', by omega, by omega, h3.keep (hk g h1 h2), ih h4⟩
  | bin c i t u iht ihu =>
    rintro ao n ⟨g, a1, n1, a2, n2, e, e', h1, h2, h3, h4, h5, h6⟩
    exact ⟨g, a1, n1, a2, n2, e, e', by omega, by omega, h3.keep (hk g h1 h2), iht h4, h5.keep (hk g h1 h2), ihu h6⟩

section
variable {b B B' n : Nat} {w w' : World} {t : Fm.Tree} {ao : Option Addr}
theorem Rep.fr (h : Rep B w t ao n) (hf : Fr b w w') (hb : b < B) : Rep B w' t ao n :=
  h.keep (Nat.le_refl _) hf.size (fun g h1 h2 => hf.block g h2 (by omega))
theorem Rep.mono (h : Rep B w t ao n) (hb : B' ≤ B) : Rep B' w t ao n :=
  h.keep hb (Nat.le_refl _) (fun _ _ _ => rfl)
theorem Rep.alloc (h : Rep B w t ao n) (o : Obj) : Rep B (w.alloc o) t ao n :=
  h.keep (Nat.le_refl _) (by simp) (fun g _ h2 => Below.heap_alloc _ _ _ h2)
theorem Rep.set (h : Rep B w t ao n) {a : Addr} (ha : a.block < B) (v : Value) : Rep B (w.setCell a v) t ao n :=
  h.keep (Nat.le_refl _) (by simp [World.setCell]) (fun g h1 _ => Below.heap_setCell _ _ _ _ (by omega))
end

theorem node_new (X : World) {g T n : Nat} (hg : g = X.heap.size) (t : Fm.Tree) (ao : Option Addr) : Node (X.alloc (.cells #[.int .u8 t.sg, .int .i64 t.lo, .int .i64 t.hi, .bool t.en, .slice ao n n] T)) g 0 t ao n := by
  subst hg
  constructor <;> simp [World.cell?_alloc_new]
theorem node_new2 (X : World) {g T n m : Nat} (hg : g = X.heap.size) (t u : Fm.Tree) (ao bo : Option Addr) :
    Node (X.alloc (.cells #[.int .u8 t.sg, .int .i64 t.lo, .int .i64 t.hi, .bool t.en, .slice ao n n, .int .u8 u.sg, .int .i64 u.lo, .int .i64 u.hi, .bool u.en, .slice bo m m] T)) g 0 t ao n ∧
    Node (X.alloc (.cells #[.int .u8 t.sg, .int .i64 t.lo, .int .i64 t.hi, .bool t.en, .slice ao n n, .int .u8 u.sg, .int .i64 u.lo, .int .i64 u.hi, .bool u.en, .slice bo m m] T)) g 5 u bo m := by
  subst hg
  constructor <;> constructor <;> simp [World.cell?_alloc_new]

/-- What is left behind 'formula', 'single', 'pair'. -/
def FormPost (B b : Nat) (s : ByteArray) (e : Ending) (w' : World) : Option (Fm.Tree × Nat × List UInt8) → Prop
  | some (t, k', l') => (∃ ao n, e = .returned (.tuple #[.agg #[.int .u8 t.sg, .int .i64 t.lo, .int .i64 t.hi, .bool t.en, .slice ao n n], .bool true]) ∧ Rep B w' t ao n) ∧ ∃ p', Fm.At s p' l' ∧ Rd w' b s p' (20 - (k' : Int))
  | none => e = .returned (.tuple #[.agg #[.int .u8 0, .int .i64 0, .int .i64 0, .bool false, .slice none 0 0], .bool false])

/-- What 'formula' does where k signs are left. -/
def FormOk (b : Nat) (s : ByteArray) (k : Nat) : Prop :=
  ∀ (w : World) (p : Nat) (l : List UInt8), Rd w b s p (20 - (k : Int)) → Fm.At s p l →
    Calls Tryz.prog 78 #[.pointer (some ⟨b, 0, none⟩)] w fun e w' => FormPost w.heap.size b s e w' (Fm.form k l) ∧ Fr b w w'

section
variable {b T : Nat} {w w1 : World}
/-- The cells of a result that was laid ahead of a call. -/
theorem fr_zero5 (hF : Fr b (w.alloc (.cells #[.int .u8 0, .int .i64 0, .int .i64 0, .bool false, .slice none 0 0] T)) w1) (hne : w.heap.size ≠ b) :
    (w1.cell? ⟨w.heap.size, 0, none⟩ = some (.int .u8 0) ∧ w1.cell? ⟨w.heap.size, 1, none⟩ = some (.int .i64 0) ∧ w1.cell? ⟨w.heap.size, 2, none⟩ = some (.int .i64 0) ∧ w1.cell? ⟨w.heap.size, 3, none⟩ = some (.bool false) ∧ w1.cell? ⟨w.heap.size, 4, none⟩ = some (.slice none 0 0)) ∧
    (w1.frozen? ⟨w.heap.size, 0, none⟩ = false ∧ w1.frozen? ⟨w.heap.size, 1, none⟩ = false ∧ w1.frozen? ⟨w.heap.size, 2, none⟩ = false ∧ w1.frozen? ⟨w.heap.size, 3, none⟩ = false ∧ w1.frozen? ⟨w.heap.size, 4, none⟩ = false) := by
  have c : ∀ o, w1.cell? ⟨w.heap.size, o, none⟩ = _ := fun o => hF.cell (by simp) hne
  have f : ∀ o, w1.frozen? ⟨w.heap.size, o, none⟩ = _ := fun o => hF.frozen (by simp) hne
  have g : ∀ o, w1.frozen? ⟨w.heap.size, o, none⟩ = false := fun o => (f o).trans (World.frozen?_alloc_at _ _ _ _ rfl)
  refine ⟨⟨(c _).trans ?_, (c _).trans ?_, (c _).trans ?_, (c _).trans ?_, (c _).trans ?_⟩, g _, g _, g _, g _, g _⟩ <;> simp [World.cell?_alloc_new]
theorem fr_itv {i : Fm.Itv} (hF : Fr b (w.alloc (.cells #[.int .i64 i.lo, .int .i64 i.hi, .bool i.endless] T)) w1) (hne : w.heap.size ≠ b) :
    w1.cell? ⟨w.heap.size, 0, none⟩ = some (.int .i64 i.lo) ∧ w1.cell? ⟨w.heap.size, 1, none⟩ = some (.int .i64 i.hi) ∧ w1.cell? ⟨w.heap.size, 2, none⟩ = some (.bool i.endless) := by
  have c : ∀ o, w1.cell? ⟨w.heap.size, o, none⟩ = _ := fun o => hF.cell (by simp) hne
  refine ⟨(c _).trans ?_, (c _).trans ?_, (c _).trans ?_⟩ <;> simp [World.cell?_alloc_new]
theorem fr_node {t : Fm.Tree} {ao : Option Addr} {n : Nat} (hF : Fr b (w.alloc (.cells #[.int .u8 t.sg, .int .i64 t.lo, .int .i64 t.hi, .bool t.en, .slice ao n n] T)) w1) (hne : w.heap.size ≠ b) :
    w1.cell? ⟨w.heap.size, 0, none⟩ = some (.int .u8 t.sg) ∧ w1.cell? ⟨w.heap.size, 1, none⟩ = some (.int .i64 t.lo) ∧ w1.cell? ⟨w.heap.size, 2, none⟩ = some (.int .i64 t.hi) ∧ w1.cell? ⟨w.heap.size, 3, none⟩ = some (.bool t.en) ∧ w1.cell? ⟨w.heap.size, 4, none⟩ = some (.slice ao n n) := by
  have c : ∀ o, w1.cell? ⟨w.heap.size, o, none⟩ = _ := fun o => hF.cell (by simp) hne
  refine ⟨(c _).trans ?_, (c _).trans ?_, (c _).trans ?_, (c _).trans ?_, (c _).trans ?_⟩ <;> simp [World.cell?_alloc_new]
end

end Go.Proofs.YtnbbfjbndachgaaGreat
