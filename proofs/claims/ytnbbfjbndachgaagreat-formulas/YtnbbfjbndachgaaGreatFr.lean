/- The world while a text is read: the reader's block alone is written. -/
import Derived.Test.YtnbbfjbndachgaaGreatRows
import Derived.Test.YtnbbfjbndachgaaGreatFm
import Derived.WalkKit
import Derived.WalkSpells
import Derived.WalkLawsBesides
import Derived.Deep.QuietTactic
import Derived.BigQuiet
import Derived.Deep.LoopGhost
import Derived.Deep.RegionWith
namespace Go.Proofs.YtnbbfjbndachgaaGreat
open Go.RowKit

theorem hide {p : Prop} (h : p) : Hid p := h
theorem unhide {p : Prop} (h : Hid p) : p := h

/-- Of what was there, block b alone may have turned. -/
structure Fr (b : Nat) (w w' : World) : Prop where
  os : w'.os = w.os
  tape : w'.tape = w.tape
  output : w'.output = w.output
  size : w.heap.size ≤ w'.heap.size
  block : ∀ k, k < w.heap.size → k ≠ b → w'.heap[k]? = w.heap[k]?

theorem Fr.refl (b : Nat) (w : World) : Fr b w w := ⟨rfl, rfl, rfl, Nat.le_refl _, fun _ _ _ => rfl⟩
theorem Fr.trans {b : Nat} {u v w : World} (h : Fr b u v) (k : Fr b v w) : Fr b u w :=
  ⟨k.os.trans h.os, k.tape.trans h.tape, k.output.trans h.output, Nat.le_trans h.size k.size, fun i hi hb => (k.block i (Nat.lt_of_lt_of_le hi h.size) hb).trans (h.block i hi hb)⟩
theorem Fr.drewN {b : Nat} {u w : World} (h : Fr b u w) (n : Nat) : Fr b u (w.drewN n) := ⟨h.os, h.tape, h.output, h.size, h.block⟩
theorem Fr.drew {b : Nat} {u w : World} (h : Fr b u w) : Fr b u w.drew := ⟨h.os, h.tape, h.output, h.size, h.block⟩
theorem Fr.alloc {b : Nat} {u w : World} (h : Fr b u w) (o : Obj) : Fr b u (w.alloc o) :=
  h.trans ⟨rfl, rfl, rfl, by simp, fun k hk _ => Below.heap_alloc _ _ _ hk⟩
theorem Fr.set {b : Nat} {u w : World} (h : Fr b u w) (o : Nat) (v : Value) : Fr b u (w.setCell ⟨b, o, none⟩ v) :=
  h.trans ⟨rfl, rfl, rfl, by simp [World.setCell], fun k _ hb => Below.heap_setCell _ _ _ _ hb⟩
theorem Fr.setNew {b : Nat} {u w : World} (h : Fr b u w) {a : Addr} (ha : u.heap.size ≤ a.block) (v : Value) : Fr b u (w.setCell a v) :=
  ⟨h.os, h.tape, h.output, by simpa [World.setCell] using h.size, fun k hk hb => (Below.heap_setCell _ _ _ _ (by omega)).trans (h.block k hk hb)⟩
theorem Fr.ofBelow {b : Nat} {u w : World} (h : Below u.heap.size u w) : Fr b u w := ⟨h.os, h.tape, h.output, h.size, fun k hk _ => h.block k hk⟩
theorem Fr.cell {b : Nat} {u w : World} (h : Fr b u w) {a : Addr} (ha : a.block < u.heap.size) (hb : a.block ≠ b) : w.cell? a = u.cell? a := World.cell?_of_block (w := u) (h.block _ ha hb)
theorem Fr.frozen {b : Nat} {u w : World} (h : Fr b u w) {a : Addr} (ha : a.block < u.heap.size) (hb : a.block ≠ b) : w.frozen? a = u.frozen? a := World.frozen?_of_block (w := u) (h.block _ ha hb)
theorem Fr.below {b B : Nat} {u w : World} (h : Fr b u w) (hb : B ≤ b) (hB : B ≤ u.heap.size) : Below B u w := ⟨h.os, h.tape, h.output, h.size, fun k hk => h.block k (by omega) (by omega)⟩

/-- The reader in block b: its text, how far it is, how many signs. -/
structure Rd (w : World) (b : Nat) (s : ByteArray) (p : Nat) (n : Int) : Prop where
  lt : b < w.heap.size
  c0 : w.cell? ⟨b, 0, none⟩ = some (.string s)
  c1 : w.cell? ⟨b, 1, none⟩ = some (.int .i64 p)
  c2 : w.cell? ⟨b, 2, none⟩ = some (.int .i64 n)
  f1 : w.frozen? ⟨b, 1, none⟩ = false
  f2 : w.frozen? ⟨b, 2, none⟩ = false

theorem Rd.drewN {w : World} {b s p n} (h : Rd w b s p n) (k : Nat) : Rd (w.drewN k) b s p n := ⟨h.lt, h.c0, h.c1, h.c2, h.f1, h.f2⟩
theorem Rd.drew {w : World} {b s p n} (h : Rd w b s p n) : Rd w.drew b s p n := ⟨h.lt, h.c0, h.c1, h.c2, h.f1, h.f2⟩

theorem Rd.alloc {w : World} {b s p n} (h : Rd w b s p n) (o : Obj) : Rd (w.alloc o) b s p n := by
  have e : (w.alloc o).heap[b]? = w.heap[b]? := Below.heap_alloc _ _ _ h.lt
  have c : ∀ i, (w.alloc o).cell? ⟨b, i, none⟩ = w.cell? ⟨b, i, none⟩ := fun i => World.cell?_of_block (w := w) e
  have f : ∀ i, (w.alloc o).frozen? ⟨b, i, none⟩ = w.frozen? ⟨b, i, none⟩ := fun i => World.frozen?_of_block (w := w) e
  exact ⟨by have := h.lt; simp; omega, (c 0).trans h.c0, (c 1).trans h.c1, (c 2).trans h.c2, (f 1).trans h.f1, (f 2).trans h.f2⟩

/-- A store into another block. -/
theorem Rd.far {w : World} {b s p n} (h : Rd w b s p n) {a : Addr} (ha : a.block ≠ b) (v : Value) : Rd (w.setCell a v) b s p n := by
  have e : (w.setCell a v).heap[b]? = w.heap[b]? := Below.heap_setCell _ _ _ _ (by omega)
  have c : ∀ i, (w.setCell a v).cell? ⟨b, i, none⟩ = w.cell? ⟨b, i, none⟩ := fun i => World.cell?_of_block (w := w) e
  have f : ∀ i, (w.setCell a v).frozen? ⟨b, i, none⟩ = w.frozen? ⟨b, i, none⟩ := fun i => World.frozen?_of_block (w := w) e
  exact ⟨by have := h.lt; simpa [World.setCell] using this, (c 0).trans h.c0, (c 1).trans h.c1, (c 2).trans h.c2, (f 1).trans h.f1, (f 2).trans h.f2⟩

/-- A store into the place, into the count. -/
theorem Rd.set1 {w : World} {b s p n} (h : Rd w b s p n) (q : Nat) : Rd (w.setCell ⟨b, 1, none⟩ (.int .i64 q)) b s q n :=
  ⟨by have := h.lt; simpa [World.setCell] using this, (World.cell?_setCell_other _ _ _ _ (by simp)).trans h.c0, World.cell?_setCell_same _ _ _ h.c1, (World.cell?_setCell_other _ _ _ _ (by simp)).trans h.c2, by simpa using h.f1, by simpa using h.f2⟩
theorem Rd.set2 {w : World} {b s p n} (h : Rd w b s p n) (m : Int) : Rd (w.setCell ⟨b, 2, none⟩ (.int .i64 m)) b s p m :=
  ⟨by have := h.lt; simpa [World.setCell] using this, (World.cell?_setCell_other _ _ _ _ (by simp)).trans h.c0, (World.cell?_setCell_other _ _ _ _ (by simp)).trans h.c1, World.cell?_setCell_same _ _ _ h.c2, by simpa using h.f1, by simpa using h.f2⟩

end Go.Proofs.YtnbbfjbndachgaaGreat
