/- The book of QueuePlays: holds, by its contract. -/
import Derived.Test.YtkfdneohkgmmbabKP
namespace Go.Proofs.Ytkfdneohkgmmbab
open Go.RowKit
set_option maxRecDepth 100000

theorem ce_at (W : List Ke) : ∀ (k : Nat) (h : k < W.length), (W.flatMap ce)[k * 3]? = some W[k].v ∧ (W.flatMap ce)[k * 3 + 1]? = some (.int .i64 W[k].mark) ∧ (W.flatMap ce)[k * 3 + 2]? = some (.int .i64 W[k].n) := by
  induction W with
  | nil => intro k h; simp at h
  | cons x W ih =>
    intro k h
    cases k with
    | zero => exact ⟨rfl, rfl, rfl⟩
    | succ k =>
      have := ih k (by simpa using h)
      rw [List.flatMap_cons, show (k + 1) * 3 = k * 3 + 3 by omega, List.getElem?_append_right (by simp [ce]), List.getElem?_append_right (by simp [ce]), List.getElem?_append_right (by simp [ce])]
      simpa [ce, show k * 3 + 3 + 1 - 3 = k * 3 + 1 by omega, show k * 3 + 3 + 2 - 3 = k * 3 + 2 by omega] using this
theorem krow_at {w : World} {base n cap : Nat} {ao : Option Addr} {W : List Ke} (h : w.ownsRow base 60 3 (.slice ao n cap) W.length (W.flatMap ce)) (hn : W.length = n) (k : Nat) (hk : k < n) : ∃ g, ao = some ⟨g, 0, none⟩ ∧ n ≤ cap ∧ w.cell? ⟨g, k * 3, none⟩ = some (W[k]'(by omega)).v ∧ w.cell? ⟨g, k * 3 + 1, none⟩ = some (.int .i64 (W[k]'(by omega)).mark) ∧ w.cell? ⟨g, k * 3 + 2, none⟩ = some (.int .i64 (W[k]'(by omega)).n) := by
  subst hn
  rcases own_shape h with ⟨_, q⟩ | ⟨g, cap', q, hc, _⟩
  · omega
  · cases q
    obtain ⟨e1, e2, e3⟩ := ce_at W k hk
    exact ⟨g, rfl, hc, by rw [h.cellAt _ (by omega), e1], by rw [h.cellAt _ (by omega), e2], by rw [h.cellAt _ (by omega), e3]⟩
set_option maxHeartbeats 4000000 in
theorem holds_any {w : World} (kv : Value) (es : List Ke) (hk : w.ownsRow 0 60 3 kv es.length (es.flatMap ce)) (he : ∀ e ∈ es, w.ownsRow 0 3 1 e.v e.n (mk e.n e.mark)) (hn : ∀ e ∈ es, e.n ≤ 200) (hes : es.length ≤ 1000) :
    Calls Try.prog 10 #[kv] w fun e w' => e = .returned (.bool true) ∧ ∃ m, w' = w.drewN m := by
  obtain ⟨ka, kc, hkv⟩ := own_slice hk
  obtain ⟨N, hN⟩ : ∃ N, es.length = N := ⟨_, rfl⟩
  have HN : Hid (es.length = N) := hN
  rw [hN] at hkv hes
  subst hkv
  have c1 : (N : Int) ≤ 1000 := by omega
  clear hN
  go_enter Try.func10, Try.ntmps10
  go_wp2_with fail
  go_loopw [3] (fun i wr => ∃ k m : Nat, k ≤ N ∧ i = .int .i64 k ∧ wr = w.drewN m) (fun i _ => N + 1 - (intOf i).toNat)
  case atStart => exact ⟨0, 0, Nat.zero_le _, rfl, rfl⟩
  case round =>
    obtain ⟨k, m, hkn, rfl, rfl⟩ := hrel
    by_cases hlt : k < N
    · have d1 : (k : Int) < N := by omega
      obtain ⟨g, rfl, hcap, x0, x1, x2⟩ := krow_at hk HN.out k hlt
      have hmem : es[k]'(by rw [HN.out]; exact hlt) ∈ es := List.getElem_mem _
      have heo := he _ hmem
      have hen := hn _ hmem
      clear hmem
      generalize es[k]'(by rw [HN.out]; exact hlt) = y at x0 x1 x2 heo hen
      obtain ⟨yv, ymark, yn⟩ := y
      simp only at x0 x1 x2 heo hen
      obtain ⟨ya, yc, hyv⟩ := own_slice heo
      subst hyv
      have d2 : (yn : Int) ≤ 200 := by omega
      have hcapi : (N : Int) ≤ kc := by omega
      go_wp2_with fail
      go_quiet (fail)
      go_wp2_with fail
      go_loopw [4] (fun i wr => ∃ q m : Nat, q ≤ yn ∧ i = .int .i64 q ∧ wr = w.drewN m) (fun i _ => yn + 1 - (intOf i).toNat)
      case atStart => exact ⟨0, m + nq, Nat.zero_le _, rfl, by first | rfl | simp⟩
      case round =>
        obtain ⟨q, m', hq, rfl, rfl⟩ := hrel
        by_cases hqn : q < yn
        · have d3 : (q : Int) < yn := by omega
          obtain ⟨g', rfl⟩ : ∃ g', ya = some ⟨g', 0, none⟩ := by
            rcases own_shape heo with ⟨_, q2⟩ | ⟨g', cap', q1, _⟩
            · omega
            · cases q1; exact ⟨g', rfl⟩
          have x3 := heo.cellAt q (by omega)
          rw [List.getElem?_replicate, if_pos hqn] at x3
          go_wp2_with fail
          go_quiet (fail)
          go_wp2_with fail
          go_roundw
          case rel => exact ⟨q + 1, m' + nq, by omega, by go_num, by first | rfl | simp⟩
          case measure => simp [intOf]; omega
        · go_wp2_with fail
          go_roundw
          case rel => exact ⟨k + 1, m', by omega, by go_num, rfl⟩
          case measure => simp [intOf]; omega
    · go_wp2_with fail
      go_ret
      exact ⟨rfl, m, rfl⟩
end Go.Proofs.Ytkfdneohkgmmbab
