/- A script of steps as it came in: its cells. -/
import Derived.Test.YtnbbfjbndachgaaGreatLaw
import Derived.ProofKit
import Derived.SizedLaws
import Derived.Deep.Slices
namespace Go.Proofs.YtnbbfjbndachgaaGreat
open Go.ChangeShapes Go.WideShapes Go.ChangeAt Go.RowKit Go.Deep

theorem Tryz.cellsOp : Tryz.prog.cellsOf 86 = 6 := by kernel_rfl
theorem Tryz.cellsConf : Tryz.prog.cellsOf 74 = 2 := by kernel_rfl
theorem Tryz.cellsInt : Tryz.prog.cellsOf 3 = 1 := by kernel_rfl
theorem Tryz.cellsStr : Tryz.prog.cellsOf 9 = 1 := by kernel_rfl
theorem Tryz.cellsStrs : Tryz.prog.cellsOf 25 = 1 := by kernel_rfl
theorem Tryz.bytesOp : Tryz.prog.bytesOf 86 = 72 := by kernel_rfl

section
variable {H : Type} {enc : TypeId × Value → H} {w : World} {base : Nat} {spare : Nat → Bool} {held : Bool}

theorem list6 {α : Type} {l : List α} (h : l.length = 6) : ∃ a b c d e f, l = [a, b, c, d, e, f] := by
  match l, h with
  | [a, b, c, d, e, f], _ => exact ⟨a, b, c, d, e, f, rfl⟩
theorem list5 {α : Type} {l : List α} (h : l.length = 5) : ∃ a b c d e, l = [a, b, c, d, e] := by
  match l, h with
  | [a, b, c, d, e], _ => exact ⟨a, b, c, d, e, rfl⟩

/-- What a step's six cells hold. -/
theorem open_op {fuel : Nat} {cs : List Value} {x : DataW H × List MemPlace} (h : DataW.trod enc Tryz.prog w base spare held fuel 86 cs = some x) :
    ∃ (k m a b : Int) (ao : Option Addr) (n c : Nat) (s : ByteArray), cs = [.int .i64 k, .int .i64 m, .int .i64 a, .int .i64 b, .slice ao n c, .string s] ∧ s.data.toList.length ∈ x.1.weights Tryz.prog 86 := by
  obtain ⟨xs, n, _, rfl, hl, hlen, hf⟩ := DataW.trod_struct Tryz.underlying86 h
  rw [Tryz.cellsOp] at hl
  obtain ⟨a0, a1, a2, a3, a4, a5, rfl⟩ := list6 hl
  obtain ⟨y0, y1, y2, y3, y4, rfl⟩ := list5 (show xs.length = 5 from hlen)
  have f0 : DataW.trod enc Tryz.prog w base spare held n 3 [a0] = some y0 := by have := hf 0 _ rfl; simpa [Tryz.cellsInt] using this
  have f1 : DataW.trod enc Tryz.prog w base spare held n 3 [a1] = some y1 := by have := hf 1 _ rfl; simpa [Tryz.cellsInt] using this
  have f2 : DataW.trod enc Tryz.prog w base spare held n 74 [a2, a3] = some y2 := by have := hf 2 _ rfl; simpa [Tryz.cellsConf] using this
  have f3 : DataW.trod enc Tryz.prog w base spare held n 25 [a4] = some y3 := by have := hf 3 _ rfl; simpa [Tryz.cellsStrs] using this
  have f4 : DataW.trod enc Tryz.prog w base spare held n 9 [a5] = some y4 := by have := hf 4 _ rfl; simpa [Tryz.cellsStr] using this
  obtain ⟨k, e0, -, -⟩ := DataW.trod_int Tryz.underlying3 f0
  obtain ⟨m, e1, -, -⟩ := DataW.trod_int Tryz.underlying3 f1
  obtain ⟨u0, u1, nn, -, -, g0, g1⟩ := trod_struct2 Tryz.underlying74 f2
  have g0 : DataW.trod enc Tryz.prog w base spare held nn 3 [a2] = some u0 := by simpa [Tryz.cellsInt] using g0
  have g1 : DataW.trod enc Tryz.prog w base spare held nn 3 [a3] = some u1 := by simpa [Tryz.cellsInt] using g1
  obtain ⟨a, e2, -, -⟩ := DataW.trod_int Tryz.underlying3 g0
  obtain ⟨b, e3, -, -⟩ := DataW.trod_int Tryz.underlying3 g1
  obtain ⟨s, e5, hy4, -⟩ := DataW.trod_string Tryz.underlying9 f4
  have e4 : ∃ ao n c, a4 = Value.slice ao n c := by
    rcases DataW.trod_slice Tryz.underlying25 f3 with ⟨h1, _⟩ | ⟨ad, l, c, _, _, _, _, h1, _⟩
    · simp at h1; exact ⟨_, _, _, h1⟩
    · simp at h1; exact ⟨_, _, _, h1⟩
  obtain ⟨ao, nn', c, e4⟩ := e4
  simp only [List.cons.injEq, and_true] at e0 e1 e2 e3 e5
  subst e0 e1 e2 e3 e4 e5
  refine ⟨k, m, a, b, ao, nn', c, s, rfl, ?_⟩
  simp [DataW.weights, Tryz.underlying86, DataW.weightsEach, hy4]

theorem mem_weightsAll {P : Program} {e : TypeId} {n : Nat} : ∀ {l : List (DataW H)} {d : DataW H}, d ∈ l → n ∈ d.weights P e → n ∈ DataW.weightsAll P e l
  | d0 :: r, d, hd, hn => by
    simp only [DataW.weightsAll, List.mem_append]
    rcases List.mem_cons.1 hd with rfl | hd
    · exact .inl hn
    · exact .inr (mem_weightsAll hd hn)

/-- The script. -/
theorem open_script {fuel : Nat} {a : Option Addr} {len cap : Nat} {x : DataW H × List MemPlace} (h : DataW.trod enc Tryz.prog w 0 (fun _ => true) true fuel 22 [.slice a len cap] = some x)
    (hsz : ∀ n ∈ x.1.weights Tryz.prog 22, n ≤ reachBytes) :
    len = 0 ∨ ∃ b off, a = some ⟨b, off, none⟩ ∧ b < w.heap.size ∧ len ≤ 140737488351232 ∧ ∀ j, j < len → ∃ k m x y ao n c s, OpAt w b (off + j * 6) k m x y ao n c s := by
  rcases open_slice Tryz.underlying22 h with ⟨h1, _⟩ | ⟨ad, l, c, m, n, D, Pl, h1, _, hlc, hcm, hm, rfl, hel⟩
  · simp at h1; exact .inl h1.2.1
  simp only [List.cons.injEq, Value.slice.injEq, and_true] at h1
  obtain ⟨rfl, rfl, rfl⟩ := h1
  rcases Nat.eq_zero_or_pos len with h0 | hpos
  · exact .inl h0
  right
  simp only [if_true] at hm
  subst hm
  have hcell : ∀ j, j < len → ∃ (k m a b : Int) (ao : Option Addr) (n c : Nat) (s : ByteArray), s.size ≤ 140737488351232 ∧
      ∀ i, i < 6 → w.cell? ((ad.add (j * 6)).add i) = [Value.int .i64 k, .int .i64 m, .int .i64 a, .int .i64 b, .slice ao n c, .string s][i]? := by
    intro j hj
    obtain ⟨cs', hc, ht⟩ := hel j (by omega)
    rw [Tryz.cellsOp] at hc
    obtain ⟨k, m, a, b, ao, n, c, s, rfl, hmem⟩ := open_op ht
    obtain ⟨_, _, hcc⟩ := World.cells?_some hc
    refine ⟨k, m, a, b, ao, n, c, s, ?_, hcc⟩
    have := hsz s.data.toList.length (by
      simp only [DataW.weights, Tryz.underlying22, List.mem_cons, List.mem_append]
      exact .inr (.inl (mem_weightsAll (List.mem_map.2 ⟨j, List.mem_range.2 hj, rfl⟩) hmem)))
    have e : s.data.toList.length = s.size := by simp
    rw [e] at this
    exact Nat.le_trans this (by decide)
  obtain ⟨k0, m0, a0, b0, ao0, n0, c0, s0, _, hc0⟩ := hcell 0 hpos
  have q0 := hc0 0 (by omega)
  simp at q0
  have hsp : ad.spot = none := by have := World.cell?_spot q0; simpa [Addr.add] using this
  obtain ⟨b, off, spot⟩ := ad
  simp only at hsp
  subst hsp
  have hb : b < w.heap.size := by have := World.block_lt_of_cell? w _ q0; simpa [Addr.add] using this
  refine ⟨b, off, rfl, hb, ?_, ?_⟩
  · have := hsz _ (by simp only [DataW.weights, Tryz.underlying22, List.mem_cons]; exact .inl rfl)
    rw [Tryz.bytesOp] at this
    simp only [List.length_map, List.length_range] at this
    have r : reachBytes ≤ 140737488351232 := by decide
    omega
  · intro j hj
    obtain ⟨k, m, x, y, ao, n, c, s, hs, hc⟩ := hcell j hj
    have z : ∀ i, i < 6 → (((⟨b, off, none⟩ : Addr).add (j * 6)).add i) = ⟨b, off + j * 6 + i, none⟩ := fun i _ => by
      rw [add_add]; unfold Addr.add; split
      · rename_i h; simp at h; simp
      · simp; omega
    refine ⟨k, m, x, y, ao, n, c, s, ?_, ?_, ?_, ?_, ?_, ?_, hs⟩
    · have := hc 0 (by omega); rw [z 0 (by omega)] at this; simpa using this
    · have := hc 1 (by omega); rw [z 1 (by omega)] at this; simpa using this
    · have := hc 2 (by omega); rw [z 2 (by omega)] at this; simpa using this
    · have := hc 3 (by omega); rw [z 3 (by omega)] at this; simpa using this
    · have := hc 4 (by omega); rw [z 4 (by omega)] at this; simpa using this
    · have := hc 5 (by omega); rw [z 5 (by omega)] at this; simpa using this
end

end Go.Proofs.YtnbbfjbndachgaaGreat
