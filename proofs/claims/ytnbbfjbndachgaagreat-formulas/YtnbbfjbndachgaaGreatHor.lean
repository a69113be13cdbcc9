/- The greatest of several numbers; a formula's horizon. -/
import Derived.Test.YtnbbfjbndachgaaGreatRep
namespace Go.Proofs.YtnbbfjbndachgaaGreat
open Go.RowKit

def maxs : List Int → Int
  | [] => 0
  | x :: r => r.foldl max x

set_option maxHeartbeats 1000000 in
theorem greatest_any (w : World) (ao : Option Addr) (cap : Nat) : Calls Tryz.prog 79 #[.slice ao 0 cap] w fun e w' => e = .returned (.int .i64 0) ∧ w' = w := by
  go_enter Tryz.func79, Tryz.ntmps79
  go_wp2
  go_ret
  exact ⟨rfl, rfl⟩

set_option maxHeartbeats 1000000 in
theorem greatest_one (w : World) (g cap : Nat) (x : Int) (h0 : w.cell? ⟨g, 0, none⟩ = some (.int .i64 x)) (_hc : 1 ≤ cap) : Calls Tryz.prog 79 #[.slice (some ⟨g, 0, none⟩) 1 cap] w fun e w' => e = .returned (.int .i64 x) ∧ w' = w := by
  go_enter Tryz.func79, Tryz.ntmps79
  go_wp2
  all_goals
    refine wp_loop_rounds 1 ?_
    rw [rounds_succ]
    go_wp2
    go_ret
    exact ⟨rfl, rfl⟩

set_option maxHeartbeats 1000000 in
theorem greatest_two (w : World) (g cap : Nat) (x y : Int) (h0 : w.cell? ⟨g, 0, none⟩ = some (.int .i64 x)) (h1 : w.cell? ⟨g, 1, none⟩ = some (.int .i64 y)) (hc : 2 ≤ cap) : Calls Tryz.prog 79 #[.slice (some ⟨g, 0, none⟩) 2 cap] w fun e w' => e = .returned (.int .i64 (max x y)) ∧ w' = w := by
  by_cases hxy : x < y
  all_goals
    go_enter Tryz.func79, Tryz.ntmps79
    go_wp2
    refine wp_loop_rounds 2 ?_
    rw [rounds_succ]
    go_wp2
    rw [rounds_succ]
    go_wp2
    go_ret
    exact ⟨ret_int (by omega), rfl⟩

def HorOk (T : Fm.Tree) : Prop := ∀ (B : Nat) (w : World) (ao : Option Addr) (n : Nat), Rep B w T ao n → Fm.hz T ≤ 20000 →
    Calls Tryz.prog 51 #[.agg #[.int .u8 T.sg, .int .i64 T.lo, .int .i64 T.hi, .bool T.en, .slice ao n n]] w fun e w' => e = .returned (.int .i64 (Fm.hz T)) ∧ Below w.heap.size w w'

theorem make0 (w : World) : (Instr.makeSlice 27 (.int .i64 0) (.int .i64 0)).run Tryz.prog w = .ok (.slice (some ⟨w.heap.size, 0, none⟩) 0 0) (w.alloc (.cells #[] 3)) := by kernel_rfl
theorem make1 (w : World) : (Instr.makeSlice 27 (.int .i64 0) (.int .i64 1)).run Tryz.prog w = .ok (.slice (some ⟨w.heap.size, 0, none⟩) 0 1) (w.alloc (.cells #[.int .i64 0] 3)) := by kernel_rfl
theorem make2 (w : World) : (Instr.makeSlice 27 (.int .i64 0) (.int .i64 2)).run Tryz.prog w = .ok (.slice (some ⟨w.heap.size, 0, none⟩) 0 2) (w.alloc (.cells #[.int .i64 0, .int .i64 0] 3)) := by kernel_rfl

set_option maxHeartbeats 1000000 in
set_option maxRecDepth 100000 in
theorem hor_leaf (c : Int) : HorOk (.leaf c) := by
  intro B w ao n hr _
  obtain ⟨rfl, rfl⟩ := hr
  show Calls Tryz.prog 51 #[.agg #[.int .u8 c, .int .i64 0, .int .i64 0, .bool false, .slice none 0 0]] w fun e w' => e = .returned (.int .i64 0) ∧ Below w.heap.size w w'
  have hm0 := make0
  cases ha : Fm.aheadB c
  all_goals
    go_enter Tryz.func51, Tryz.ntmps51
    go_wp2_with fail
    refine wp_loop_rounds 1 ?_
    rw [rounds_succ]
    go_wp2_with (first | (go_at_call 79; refine (greatest_any _ _ _).mono ?_; rintro e w' ⟨rfl, rfl⟩) | (go_at_call 80; refine (looksAhead_any _ _).mono ?_; rintro e w' ⟨rfl, rfl⟩))
    go_ret
    exact ⟨rfl, ((Below.refl _ _).alloc (Nat.le_refl _) _).alloc (by simp) _⟩

theorem Tryz.infoInt : (Tryz.prog.info? 3).map (fun i => (i.zero, i.size, i.bytes)) = some (some (.int .i64 0), 1, 8) := by kernel_rfl

theorem below_grown {w w' : World} (h : Below w.heap.size w w') : w.grownBy w' none := ⟨h.os, h.tape, h.output, h.size, fun k hk _ => h.block k hk⟩

/-- The row that 'make' laid, behind the part's copy and the part's own horizon. -/
theorem own_made {w w2 : World} {o1 o3 : Obj} {cur : Array Value} {cap : Nat} (hm : cap ≤ maxLen) (hs : cur.size = cap)
    (hB : Below (((w.alloc o1).alloc (.cells cur 3)).alloc o3).heap.size (((w.alloc o1).alloc (.cells cur 3)).alloc o3) w2) :
    w2.ownsRow (w.heap.size + 1) 3 1 (.slice (some ⟨w.heap.size + 1, 0, none⟩) 0 cap) 0 [] := by
  have h1 := World.ownsRow_made (w.alloc o1) (base := w.heap.size + 1) (e := 3) (size := 1) cur cap (by simp) hm (by simpa using hs)
  have h2 := (h1.alloc o3).kept (below_grown hB) (.inr (by simp [Value.ownBlock]))
  simpa using h2

theorem one_cells (x : Int) : ∀ u ∈ [Value.int .i64 x], u.oneCell' = true := by
  intro u hu; simp at hu; subst hu; rfl

set_option maxHeartbeats 1000000 in
set_option maxRecDepth 100000 in
theorem hor_un (c : Int) (i : Fm.Itv) (t : Fm.Tree) (ih : HorOk t) : HorOk (.un c i t) := by
  intro B w ao n hr hb
  obtain ⟨g, a1, n1, rfl, rfl, hg1, hg2, hnd, hr1⟩ := hr
  show Calls Tryz.prog 51 #[.agg #[.int .u8 c, .int .i64 i.lo, .int .i64 i.hi, .bool i.endless, .slice (some ⟨g, 0, none⟩) 1 1]] w fun e w' => e = .returned (.int .i64 (Fm.hz (.un c i t))) ∧ Below w.heap.size w w'
  have hm1 := make1
  have hbt : Fm.hz t ≤ 20000 := by simp only [Fm.hz] at hb; omega
  obtain ⟨i0, hi0, hz0, hz1, hz2⟩ := info_parts Tryz.infoInt
  obtain ⟨c0, c1, c2, c3, c4⟩ := hnd
  simp only [Nat.zero_add] at c1 c2 c3 c4
  cases ha : Fm.aheadB c
  all_goals
    have Hhz : Hid (Fm.hz (.un c i t) = Fm.hz t + if Fm.aheadB c then i.hi else 0) := rfl
    have hih : Fm.aheadB c = true → i.hi ≤ 20000 := by
      intro h; rw [unhide Hhz, h] at hb; simp at hb; omega
    rw [ha] at hih
    try (have hih2 : i.hi ≤ 20000 := hih rfl)
    clear hb hih
    go_enter Tryz.func51, Tryz.ntmps51
    go_wp2_with fail
    refine wp_loop_rounds 2 ?_
    rw [rounds_succ]
    go_wp2_with fail
    refine (ih B _ _ _ (((hr1.alloc _).alloc _).alloc _) hbt).mono ?_
    rintro e w2 ⟨rfl, hB2⟩
    have x0 : w2.cell? ⟨w.heap.size, 0, none⟩ = some (.int .u8 c) := (hB2.cell (p := ⟨w.heap.size, 0, none⟩) (by simp; omega)).trans (by simp [go_sem])
    have x2 : w2.cell? ⟨w.heap.size, 2, none⟩ = some (.int .i64 i.hi) := (hB2.cell (p := ⟨w.heap.size, 2, none⟩) (by simp; omega)).trans (by simp [go_sem])
    have hzz : w.heap.size + 3 ≤ w2.heap.size := by have := hB2.size; simp at this; omega
    have hown := own_made (cap := 1) (by unfold maxLen; omega) (by rfl) hB2
    go_wp2_with (at_builtin; refine wpList_append_fits _ rfl _ _ 27 rfl (w.heap.size + 1) 3 i0 1 Tryz.underlying27 hi0 hz1 (w.heap.size + 1) 0 1 [] rfl (hown.alloc _) ⟨w2.heap.size, 0, none⟩ 1 1 [.int .i64 (Fm.hz t)] rfl rfl (cell_one_new _ _ _) (one_cells _) (by omega) ?_; intro w3 hown3 hgrow3)
    simp only [Nat.zero_add, List.nil_append] at hown3
    have z0 : w3.cell? ⟨w.heap.size, 0, none⟩ = some (.int .u8 c) := hgrow3.cell (by rw [World.cell?_alloc_lt _ _ _ (by show w.heap.size < _; omega)]; exact x0) (by simp)
    have z2 : w3.cell? ⟨w.heap.size, 2, none⟩ = some (.int .i64 i.hi) := hgrow3.cell (by rw [World.cell?_alloc_lt _ _ _ (by show w.heap.size < _; omega)]; exact x2) (by simp)
    have m0 : w3.cell? ⟨w.heap.size + 1, 0, none⟩ = some (.int .i64 (Fm.hz t)) := by have := hown3.cellAt 0 (by omega); simpa using this
    clear x0 x2
    go_wp2_with fail
    rw [rounds_succ]
    go_wp2_with (first | (go_at_call 79; refine (greatest_one _ _ _ _ m0 (by omega)).mono ?_; rintro e w' ⟨rfl, rfl⟩) | (go_at_call 80; refine (looksAhead_any _ _).mono ?_; rintro e w' ⟨rfl, rfl⟩))
    go_ret
    refine ⟨ret_int ?_, ?_⟩
    · rw [unhide Hhz, ha]; simp
    · have hb0 : Below w.heap.size w w2 := ((((Below.refl _ _).alloc (Nat.le_refl _) _).alloc (by simp) _).alloc (by simp; omega) _).trans (hB2.mono (by simp; omega))
      exact (hb0.alloc (by omega) _).grown hgrow3 (by simp; omega) (by intro k hk; simp at hk; omega)

set_option maxHeartbeats 2000000 in
set_option maxRecDepth 100000 in
theorem hor_bin (c : Int) (i : Fm.Itv) (t u : Fm.Tree) (iht : HorOk t) (ihu : HorOk u) : HorOk (.bin c i t u) := by
  intro B w ao n hr hb
  obtain ⟨g, a1, n1, a2, n2, rfl, rfl, hg1, hg2, hnd, hr1, hnd2, hr2⟩ := hr
  show Calls Tryz.prog 51 #[.agg #[.int .u8 c, .int .i64 i.lo, .int .i64 i.hi, .bool i.endless, .slice (some ⟨g, 0, none⟩) 2 2]] w fun e w' => e = .returned (.int .i64 (Fm.hz (.bin c i t u))) ∧ Below w.heap.size w w'
  have hm2 := make2
  have hbt : Fm.hz t ≤ 20000 := by simp only [Fm.hz] at hb; omega
  have hbu : Fm.hz u ≤ 20000 := by simp only [Fm.hz] at hb; omega
  obtain ⟨i0, hi0, hz0, hz1, hz2⟩ := info_parts Tryz.infoInt
  obtain ⟨c0, c1, c2, c3, c4⟩ := hnd
  obtain ⟨d0, d1, d2, d3, d4⟩ := hnd2
  simp only [Nat.zero_add] at c1 c2 c3 c4
  simp only [Nat.reduceAdd] at d1 d2 d3 d4
  cases ha : Fm.aheadB c
  all_goals
    have Hhz : Hid (Fm.hz (.bin c i t u) = max (Fm.hz t) (Fm.hz u) + if Fm.aheadB c then i.hi else 0) := rfl
    have hih : Fm.aheadB c = true → i.hi ≤ 20000 := by
      intro h; rw [unhide Hhz, h] at hb; simp at hb; omega
    rw [ha] at hih
    try (have hih2 : i.hi ≤ 20000 := hih rfl)
    clear hb hih
    go_enter Tryz.func51, Tryz.ntmps51
    go_wp2_with fail
    refine wp_loop_rounds 3 ?_
    rw [rounds_succ]
    go_wp2_with fail
    refine (iht B _ _ _ (((hr1.alloc _).alloc _).alloc _) hbt).mono ?_
    rintro e w2 ⟨rfl, hB2⟩
    have x0 : w2.cell? ⟨w.heap.size, 0, none⟩ = some (.int .u8 c) := (hB2.cell (p := ⟨w.heap.size, 0, none⟩) (by simp; omega)).trans (by simp [go_sem])
    have x2 : w2.cell? ⟨w.heap.size, 2, none⟩ = some (.int .i64 i.hi) := (hB2.cell (p := ⟨w.heap.size, 2, none⟩) (by simp; omega)).trans (by simp [go_sem])
    have hzz : w.heap.size + 3 ≤ w2.heap.size := by have := hB2.size; simp at this; omega
    have hown := own_made (cap := 2) (by unfold maxLen; omega) (by rfl) hB2
    have hb2 : Below w.heap.size w w2 := ((((Below.refl _ _).alloc (Nat.le_refl _) _).alloc (by simp) _).alloc (by simp; omega) _).trans (hB2.mono (by simp; omega))
    go_wp2_with (at_builtin; refine wpList_append_fits _ rfl _ _ 27 rfl (w.heap.size + 1) 3 i0 1 Tryz.underlying27 hi0 hz1 (w.heap.size + 1) 0 2 [] rfl (hown.alloc _) ⟨w2.heap.size, 0, none⟩ 1 1 [.int .i64 (Fm.hz t)] rfl rfl (cell_one_new _ _ _) (one_cells _) (by omega) ?_; intro w3 hown3 hgrow3)
    simp only [Nat.zero_add, List.nil_append] at hown3
    have hb3 : Below w.heap.size w w3 := (hb2.alloc (by omega) _).grown hgrow3 (by simp; omega) (by intro k hk; simp at hk; omega)
    have hz3 : w2.heap.size + 1 ≤ w3.heap.size := by have := hgrow3.size; simp at this; omega
    have z0 : w3.cell? ⟨w.heap.size, 0, none⟩ = some (.int .u8 c) := hgrow3.cell (by rw [World.cell?_alloc_lt _ _ _ (by show w.heap.size < _; omega)]; exact x0) (by simp)
    have z2 : w3.cell? ⟨w.heap.size, 2, none⟩ = some (.int .i64 i.hi) := hgrow3.cell (by rw [World.cell?_alloc_lt _ _ _ (by show w.heap.size < _; omega)]; exact x2) (by simp)
    have y0 : w3.cell? ⟨g, 5, none⟩ = some (.int .u8 u.sg) := (hb3.cell hg2).trans d0
    have y1 : w3.cell? ⟨g, 6, none⟩ = some (.int .i64 u.lo) := (hb3.cell hg2).trans d1
    have y2 : w3.cell? ⟨g, 7, none⟩ = some (.int .i64 u.hi) := (hb3.cell hg2).trans d2
    have y3 : w3.cell? ⟨g, 8, none⟩ = some (.bool u.en) := (hb3.cell hg2).trans d3
    have y4 : w3.cell? ⟨g, 9, none⟩ = some (.slice a2 n2 n2) := (hb3.cell hg2).trans d4
    have hr3 : Rep B w3 u a2 n2 := hr2.keep (Nat.le_refl _) hb3.size (fun g _ h => hb3.block g h)
    clear x0 x2 c0 c1 c2 c3 c4 d0 d1 d2 d3 d4 hown
    go_wp2_with fail
    rw [rounds_succ]
    go_wp2_with fail
    refine (ihu B _ _ _ (hr3.alloc _) hbu).mono ?_
    rintro e w4 ⟨rfl, hB4⟩
    have hz4 : w3.heap.size + 1 ≤ w4.heap.size := by have := hB4.size; simp at this; omega
    have s0 : w4.cell? ⟨w.heap.size, 0, none⟩ = some (.int .u8 c) := (hB4.cell (p := ⟨w.heap.size, 0, none⟩) (by simp; omega)).trans (by rw [World.cell?_alloc_lt _ _ _ (by show w.heap.size < _; omega)]; exact z0)
    have s2 : w4.cell? ⟨w.heap.size, 2, none⟩ = some (.int .i64 i.hi) := (hB4.cell (p := ⟨w.heap.size, 2, none⟩) (by simp; omega)).trans (by rw [World.cell?_alloc_lt _ _ _ (by show w.heap.size < _; omega)]; exact z2)
    have hb4 : Below w.heap.size w w4 := (hb3.alloc (by omega) _).trans (hB4.mono (by simp; omega))
    have hown4 := (hown3.alloc _).kept (below_grown hB4) (.inr (by simp [Value.ownBlock]))
    clear z0 z2 y0 y1 y2 y3 y4
    go_wp2_with (at_builtin; refine wpList_append_fits _ rfl _ _ 27 rfl (w.heap.size + 1) 3 i0 1 Tryz.underlying27 hi0 hz1 (w.heap.size + 1) 1 2 [.int .i64 (Fm.hz t)] rfl (hown4.alloc _) ⟨w4.heap.size, 0, none⟩ 1 1 [.int .i64 (Fm.hz u)] rfl rfl (cell_one_new _ _ _) (one_cells _) (by omega) ?_; intro w5 hown5 hgrow5)
    simp only [Nat.reduceAdd, List.cons_append, List.nil_append] at hown5
    have hb5 : Below w.heap.size w w5 := (hb4.alloc (by omega) _).grown hgrow5 (by simp; omega) (by intro k hk; simp at hk; omega)
    have q0 : w5.cell? ⟨w.heap.size, 0, none⟩ = some (.int .u8 c) := hgrow5.cell (by rw [World.cell?_alloc_lt _ _ _ (by show w.heap.size < _; omega)]; exact s0) (by simp)
    have q2 : w5.cell? ⟨w.heap.size, 2, none⟩ = some (.int .i64 i.hi) := hgrow5.cell (by rw [World.cell?_alloc_lt _ _ _ (by show w.heap.size < _; omega)]; exact s2) (by simp)
    have m0 : w5.cell? ⟨w.heap.size + 1, 0, none⟩ = some (.int .i64 (Fm.hz t)) := by have := hown5.cellAt 0 (by omega); simpa using this
    have m1 : w5.cell? ⟨w.heap.size + 1, 1, none⟩ = some (.int .i64 (Fm.hz u)) := by have := hown5.cellAt 1 (by omega); simpa using this
    clear s0 s2
    have hmx : (max (Fm.hz t : Int) (Fm.hz u)) ≤ 20000 := by omega
    have hmx0 : 0 ≤ (max (Fm.hz t : Int) (Fm.hz u)) := by omega
    go_wp2_with fail
    rw [rounds_succ]
    go_wp2_with (first | (go_at_call 79; refine (greatest_two _ _ _ _ _ m0 m1 (by omega)).mono ?_; rintro e w' ⟨rfl, rfl⟩) | (go_at_call 80; refine (looksAhead_any _ _).mono ?_; rintro e w' ⟨rfl, rfl⟩))
    go_ret
    refine ⟨ret_int ?_, hb5⟩
    rw [unhide Hhz, ha]; simp <;> omega

theorem hor_any : ∀ T : Fm.Tree, HorOk T
  | .leaf c => hor_leaf c
  | .un c i t => hor_un c i t (hor_any t)
  | .bin c i t u => hor_bin c i t u (hor_any t) (hor_any u)

end Go.Proofs.YtnbbfjbndachgaaGreat
