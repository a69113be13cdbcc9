/- Bounds: numbers up to 1000, horizons up to 20000. No program here. -/
import Derived.Test.YtnbbfjbndachgaaGreatFm
namespace Go.Proofs.YtnbbfjbndachgaaGreat.Fm

theorem num_le : ∀ (l : List UInt8) (g : Bool) (v : Nat), v ≤ 1000 → ∀ n l', num g v l = some (n, l') → n ≤ 1000
  | [], g, v, hv, n, l', h => by
    cases g <;> simp [num] at h
    omega
  | c :: r, g, v, hv, n, l', h => by
    rw [num] at h
    split at h
    · split at h
      · cases h
      · split at h
        · cases h
        · exact num_le r true _ (by omega) n l' h
    · split at h
      · simp at h; omega
      · cases h

theorem itvEnd_le {lo : Nat} {l : List UInt8} {i : Itv} {l' : List UInt8} (h : itvEnd lo l = some (i, l')) : i.hi ≤ 1000 := by
  unfold itvEnd at h
  split at h
  · cases h
  · rename_i hn
    split at h
    · cases h
    · split at h
      · simp only [Option.some.injEq, Prod.mk.injEq] at h
        rw [← h.1]
        exact num_le _ _ _ (by omega) _ _ hn
      · cases h

theorem itv_le {b : Bool} {l : List UInt8} {i : Itv} {l' : List UInt8} (h : itv b l = some (i, l')) : i.hi ≤ 1000 := by
  unfold itv at h
  split at h
  · split at h
    · cases h
    · split at h
      · split at h
        · split at h
          · simp only [Option.some.injEq, Prod.mk.injEq] at h
            rw [← h.1]; simp
          · cases h
        · exact itvEnd_le h
      · cases h
  · cases h

theorem within_le {c : Int} {l : List UInt8} {i : Itv} {l' : List UInt8} (h : within c l = some (i, l')) : i.hi ≤ 1000 := by
  unfold within at h
  split at h
  · exact itv_le h
  · simp only [Option.some.injEq, Prod.mk.injEq] at h
    rw [← h.1]; simp

theorem form_hz : ∀ (k : Nat) (l : List UInt8) (t : Tree) (k' : Nat) (l' : List UInt8), form k l = some (t, k', l') → hz t ≤ 1000 * signs t := by
  intro k
  induction k using Nat.strongRecOn with
  | _ k ih =>
    intro l t k' l' h
    cases k with
    | zero => simp [form] at h
    | succ k =>
      rw [form_succ] at h
      split at h
      · simp only [Option.some.injEq, Prod.mk.injEq] at h
        obtain ⟨rfl, rfl, rfl⟩ := h
        simp [hz]
      · split at h
        · unfold single at h
          split at h
          · cases h
          · rename_i hw
            split at h
            · cases h
            · rename_i hf
              simp only [Option.some.injEq, Prod.mk.injEq] at h
              obtain ⟨rfl, rfl, rfl⟩ := h
              have a := ih k (by omega) _ _ _ _ hf
              have b := within_le hw
              simp only [hz, signs]
              split <;> omega
        · split at h
          · unfold pair at h
            split at h
            · cases h
            · rename_i hf1
              have a := ih k (by omega) _ _ _ _ hf1
              split at h
              · split at h
                · cases h
                · rename_i hw
                  have b := within_le hw
                  split at h
                  · cases h
                  · rename_i hf2
                    have c := ih _ (by omega) _ _ _ _ hf2
                    split at h
                    · simp only [Option.some.injEq, Prod.mk.injEq] at h
                      obtain ⟨rfl, rfl, rfl⟩ := h
                      simp only [hz, signs]
                      split <;> omega
                    · cases h
              · cases h
          · cases h

theorem form_bound {l : List UInt8} {t : Tree} {k' : Nat} {l' : List UInt8} (h : form 20 l = some (t, k', l')) : hz t ≤ 20000 := by
  have a := form_hz _ _ _ _ _ h
  have b := form_le _ _ _ _ _ h
  omega

end Go.Proofs.YtnbbfjbndachgaaGreat.Fm
