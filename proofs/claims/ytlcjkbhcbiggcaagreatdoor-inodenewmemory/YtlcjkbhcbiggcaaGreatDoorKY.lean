/- Which blocks a row of steps may have written. -/
import Derived.Test.YtlcjkbhcbiggcaaGreatDoorBV
namespace Go.Proofs.YtlcjkbhcbiggcaaGreatDoor
open Go.RowKit Go.Maps
set_option maxRecDepth 100000

theorem kput_nil (b : Nat) : kput [] b = [b] := rfl
theorem kput_cons (k : Nat) (ks : List Nat) (b : Nat) : kput (k :: ks) b = if b < k then b :: k :: ks else if b = k then k :: ks else k :: kput ks b := by
  unfold kput
  simp only [List.map_cons, mput]
  split
  · simp [Function.comp_def]
  · split <;> simp_all [Function.comp_def]
theorem kput_mem (x b : Nat) : ∀ ks : List Nat, x ∈ kput ks b ↔ x = b ∨ x ∈ ks
  | [] => by rw [kput_nil]; simp
  | k :: ks => by
    rw [kput_cons]
    have ih := kput_mem x b ks
    split
    · simp
    · split
      · rename_i _ e
        subst e
        simp
      · simp only [List.mem_cons, ih]
        constructor
        · rintro (h | h | h)
          · exact Or.inr (Or.inl h)
          · exact Or.inl h
          · exact Or.inr (Or.inr h)
        · rintro (h | h | h)
          · exact Or.inr (Or.inl h)
          · exact Or.inl h
          · exact Or.inr (Or.inr h)
theorem kput_len (b : Nat) : ∀ ks : List Nat, (kput ks b).length ≤ ks.length + 1
  | [] => by rw [kput_nil]; simp
  | k :: ks => by
    rw [kput_cons]
    have ih := kput_len b ks
    split
    · simp
    · split
      · simp
      · simp; omega
theorem kput_sorted (b : Nat) : ∀ ks : List Nat, ks.Pairwise (· < ·) → (kput ks b).Pairwise (· < ·)
  | [], _ => by rw [kput_nil]; simp
  | k :: ks, h => by
    rw [kput_cons]
    have ih := kput_sorted b ks h.tail
    have hk := List.pairwise_cons.1 h
    split
    · rename_i hb
      exact List.pairwise_cons.2 ⟨fun x hx => by
        rcases List.mem_cons.1 hx with rfl | hx
        · exact hb
        · exact Nat.lt_trans hb (hk.1 x hx), h⟩
    · split
      · exact h
      · rename_i h1 h2
        refine List.pairwise_cons.2 ⟨fun x hx => ?_, ih⟩
        rcases (kput_mem x b ks).1 hx with rfl | hx
        · omega
        · exact hk.1 x hx
theorem kput_in (b : Nat) : ∀ ks : List Nat, ks.Pairwise (· < ·) → b ∈ ks → (kput ks b).length = ks.length
  | [], _, h => by simp at h
  | k :: ks, hs, h => by
    rw [kput_cons]
    have hk := List.pairwise_cons.1 hs
    rcases List.mem_cons.1 h with rfl | h
    · rw [if_neg (by omega), if_pos rfl]
    · have := hk.1 b h
      rw [if_neg (by omega), if_neg (by omega)]
      simp [kput_in b ks hs.tail h]
/-- The slots from u on were never taken; the blocks of those ahead are written, and no others. -/
structure Ky (N u : Nat) (T : Nat → Rec) (ks : List Nat) : Prop where
  so : ks.Pairwise (· < ·)
  fr : ∀ n, u ≤ n → n < N → (T n).kind = 0
  wr : ∀ n, n < u → 34 + n / 4 ∈ ks
  ln : ks.length ≤ (u + 3) / 4
theorem Ky.zero (N : Nat) : Ky N 0 (fun _ => rec0) [] := ⟨by simp, fun _ _ _ => rfl, fun _ h => absurd h (Nat.not_lt_zero _), by simp⟩
theorem Ky.step {N u : Nat} {T : Nat → Rec} {ks : List Nat} (h : Ky N u T ks) {o : Option (Nat × Rec)} {X : Prop} (ho : ∀ n r, o = some (n, r) → n < N ∧ ((T n).kind ≠ 0 ∨ (X ∧ ∀ j, j < n → (T j).kind ≠ 0))) : ∃ u', u' ≤ u + 1 ∧ Ky N u' (updT T o) (keyO ks o) := by
  match o, ho with
  | none, _ => exact ⟨u, by omega, h⟩
  | some (n, r), ho =>
    obtain ⟨hn, hc⟩ := ho n r rfl
    have hk : ∀ x : Nat, x ∈ kput ks (34 + n / 4) ↔ x = 34 + n / 4 ∨ x ∈ ks := fun x => kput_mem x _ ks
    by_cases hnu : n < u
    · refine ⟨u, by omega, kput_sorted _ _ h.so, fun x hx hxN => ?_, fun x hx => (hk _).2 (Or.inr (h.wr x hx)), ?_⟩
      · show (if x = n then r else T x).kind = 0
        rw [if_neg (by omega)]
        exact h.fr x hx hxN
      · show (kput ks (34 + n / 4)).length ≤ _
        rw [kput_in _ _ h.so (h.wr n hnu)]
        exact h.ln
    · rcases hc with hc | ⟨_, hlow⟩
      · exact absurd (h.fr n (by omega) hn) hc
      · obtain rfl : n = u := by
          by_cases e : n = u
          · exact e
          · exact absurd (h.fr u (Nat.le_refl _) (by omega)) (hlow u (by omega))
        refine ⟨n + 1, by omega, kput_sorted _ _ h.so, fun x hx hxN => ?_, fun x hx => ?_, ?_⟩
        · show (if x = n then r else T x).kind = 0
          rw [if_neg (by omega)]
          exact h.fr x (by omega) hxN
        · by_cases e : x = n
          · subst e
            exact (hk _).2 (Or.inl rfl)
          · exact (hk _).2 (Or.inr (h.wr x (by omega)))
        · show (kput ks (34 + n / 4)).length ≤ _
          have hl := h.ln
          by_cases e : n % 4 = 0
          · have := kput_len (34 + n / 4) ks
            omega
          · have hw := h.wr (n - 1) (by omega)
            rw [show 34 + (n - 1) / 4 = 34 + n / 4 from by omega] at hw
            rw [kput_in _ _ h.so hw]
            omega
end Go.Proofs.YtlcjkbhcbiggcaaGreatDoor
