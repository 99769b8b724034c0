/- first of the document's own alarm, its keys ints, by their contracts. -/
import Derived.Test.YtbopghpfghaoeaaD2i
namespace Go.Proofs.Ytbopghpfghaoeaa
open Go.RowKit Go.Maps
set_option maxRecDepth 100000
attribute [local go_sem ↓] Go.wp_at_zero Go.wp_at_succ

/-- What first answers. -/
def FstI (l : List (Int × Int)) (z : Int) : Prop := (z = -1 ∧ l = []) ∨ ∃ (n : Nat) (m : Int × Int), z = n ∧ l[n]? = some m ∧ ∀ (j : Nat) x, l[j]? = some x → ah OI x m = false
theorem Sh.minI {l S : List (Int × Int)} (h : Sh OI l S) {n : Nat} {m : Int × Int} (hn : l[n]? = some m) (hm : ∀ (j : Nat) x, l[j]? = some x → ah OI x m = false) : ∃ T, S = m :: T := by
  have hmS := (h.mem m).1 (List.mem_of_getElem? hn)
  cases S with
  | nil => cases hmS
  | cons y T =>
    refine ⟨T, ?_⟩
    rcases List.mem_cons.1 hmS with e | e
    · rw [e]
    · have h1 := (List.pairwise_cons.1 h.srt).1 m e
      obtain ⟨j, hj⟩ := List.mem_iff_getElem?.1 ((h.mem y).2 List.mem_cons_self)
      rw [hm j y hj] at h1; cases h1
set_option maxHeartbeats 4000000 in
theorem first_I {w : World} {lab : Nat → Nat} {k rb : Nat} {rv : Value} {l : List (Int × Int)} (h : RxI w lab k rb rv l) :
    Calls Try.prog 54 #[.pointer (some ⟨rb, 0, none⟩)] w fun e w' => ∃ z : Int, e = .returned (.int .i64 z) ∧ FstI l z ∧ Below w.heap.size w w' := by
  obtain ⟨N, hN⟩ : ∃ N, l.length = N := ⟨_, rfl⟩
  have HN : Hid (l.length = N) := hN
  have hL := h.hl
  rw [hN] at hL
  have HR : Hid (RxI w lab k rb rv l) := h
  have hlb := heap_lt h.box
  obtain ⟨ao, cap, hrv⟩ := own_slice h.row
  have c0 := h.c0
  rw [hrv, hN] at c0
  have HV : Hid (rv = .slice ao N cap) := by show _ = _; rw [hrv, hN]
  have a0 : (N : Int) ≤ 4398046511104 := by omega
  clear h hN hrv
  go_enter Try.func54, Try.ntmps54
  go_wp2_with fail
  go_loopw [3, 4] (fun v u wr => ∃ (i : Nat) (z : Int), i ≤ N ∧ u = .int .i64 i ∧ v = .int .i64 z ∧ Hid ((i = 0 ∧ z = -1) ∨ ∃ (b : Nat) (m : Int × Int), z = b ∧ b < i ∧ l[b]? = some m ∧ ∀ (j : Nat) x, j < i → l[j]? = some x → ah OI x m = false) ∧ Below w.heap.size w wr) (fun _ u _ => N + 1 - (intOf u).toNat)
  case atStart => exact ⟨0, -1, Nat.zero_le _, rfl, rfl, Or.inl ⟨rfl, rfl⟩, Below.refl _ _⟩
  case round =>
    obtain ⟨i, z, hi, rfl, rfl, hz, hB⟩ := hrel
    have c1 : wr.cell? ⟨rb, 0, none⟩ = some (.slice ao N cap) := (hB.cell (p := ⟨rb, 0, none⟩) hlb).trans c0
    by_cases hlt : i < N
    · obtain ⟨x, hx⟩ : ∃ x, l[i]? = some x := ⟨_, List.getElem?_eq_getElem (by rw [HN.out]; exact hlt)⟩
      obtain ⟨gr, cap', hrv', hcap, x0, x1, x2, _⟩ := HR.out.at hx
      rw [HV.out] at hrv'
      rw [HN.out] at hrv' hcap
      cases hrv'
      have hgl := World.block_lt_of_cell? w _ x0
      have y0 := (hB.cell (p := ⟨gr, i * 3, none⟩) hgl).trans x0
      have y1 := (hB.cell (p := ⟨gr, i * 3 + 1, none⟩) hgl).trans x1
      have y2 := (hB.cell (p := ⟨gr, i * 3 + 2, none⟩) hgl).trans x2
      have a1 : (i : Int) < N := by omega
      have a2 : (0 : Int) ≤ i := by omega
      rcases hz.out with ⟨rfl, rfl⟩ | ⟨b, m, rfl, hbi, hbm, hmin⟩
      · have HZ : Hid (∀ (j : Nat) y, j < 1 → l[j]? = some y → ah OI y x = false) := fun j y hj hy => by
          obtain rfl : j = 0 := by omega
          rw [hx] at hy; cases hy; exact ah_irr _ _
        have HX : Hid (l[0]? = some x) := hx
        have hd : decide ((-1 : Int) < 0) = true := by decide
        clear hz hx
        go_wp2_with fail
        go_region
        go_wp2_with fail
        go_roundw
        case rel => exact ⟨1, 0, by omega, by go_num, by first | rfl | go_num, Or.inr ⟨0, x, rfl, by omega, HX.out, HZ.out⟩, hB.trans ((below_drewN wr 1).mono hB.size)⟩
        case measure => simp [intOf] <;> omega
      · obtain ⟨gr', cap'', hrv'', _, m0, m1, m2, _⟩ := HR.out.at hbm
        rw [HV.out, HN.out] at hrv''
        cases hrv''
        have p0 := (hB.cell (p := ⟨gr, b * 3, none⟩) hgl).trans m0
        have p1 := (hB.cell (p := ⟨gr, b * 3 + 1, none⟩) hgl).trans m1
        have p2 := (hB.cell (p := ⟨gr, b * 3 + 2, none⟩) hgl).trans m2
        have a3 : (b : Int) < N := by omega
        have a4 : (0 : Int) ≤ b := by omega
        have d0 : decide ((b : Int) < 0) = false := decide_eq_false (by omega)
        have HX : Hid (l[i]? = some x) := hx
        have HM : Hid (l[b]? = some m) := hbm
        have HMin : Hid (∀ (j : Nat) x, j < i → l[j]? = some x → ah OI x m = false) := hmin
        have HT : Hid (ah OI x m = true → ∀ (j : Nat) y, j < i + 1 → l[j]? = some y → ah OI y x = false) := fun e j y hj hy => by
          by_cases q : j = i
          · subst q; rw [HX.out] at hy; cases hy; exact ah_irr _ _
          · exact le_tr _ (ah_as _ e) (HMin.out j y (by omega) hy)
        have HF : Hid (ah OI x m = false → ∀ (j : Nat) y, j < i + 1 → l[j]? = some y → ah OI y m = false) := fun e j y hj hy => by
          by_cases q : j = i
          · subst q; rw [HX.out] at hy; cases hy; exact e
          · exact HMin.out j y (by omega) hy
        have hc : (N : Int) ≤ cap := by omega
        clear hz hx hbm hmin m0 m1 m2 x0 x1 x2
        by_cases h1 : x.2 < m.2
        · have e : ah OI x m = true := (ah_iff _ _ _).2 (Or.inl h1)
          have d1 : decide (x.2 < m.2) = true := decide_eq_true h1
          go_wp2_with fail
          go_region
          go_wp2_with fail
          go_roundw
          case rel => exact ⟨i + 1, i, by omega, by go_num, rfl, Or.inr ⟨i, x, rfl, by omega, HX.out, HT.out e⟩, hB.trans ((below_drewN wr 1).mono hB.size)⟩
          case measure => simp [intOf]; omega
        · have d1 : decide (x.2 < m.2) = false := decide_eq_false h1
          by_cases h2 : x.2 = m.2
          · have e : ah OI x m = OI.lt x.1 m.1 := by simp [ah, h2]
            have d2 : (x.2 == m.2) = true := by simpa using h2
            have hlb2 : rb < wr.heap.size := World.block_lt_of_cell? wr _ c1
            have hgl2 : gr < wr.heap.size := World.block_lt_of_cell? wr _ y0
            have H2 : Hid (x.2 = m.2) := h2
            clear h1 h2
            go_wp2_with fail
            go_region_held3 (fun w' => w'.cell? ⟨rb, 0, none⟩ = some (.slice (some ⟨gr, 0, none⟩) N cap) ∧ w'.cell? ⟨gr, i * 3, none⟩ = some (([.int .i64 x.1, .string ⟨#[]⟩] : List Value)[0]) ∧ w'.cell? ⟨gr, i * 3 + 1, none⟩ = some (([.int .i64 x.1, .string ⟨#[]⟩] : List Value)[1]) ∧ w'.cell? ⟨gr, i * 3 + 2, none⟩ = some (.int .i64 x.2) ∧ w'.cell? ⟨gr, b * 3, none⟩ = some (([.int .i64 m.1, .string ⟨#[]⟩] : List Value)[0]) ∧ w'.cell? ⟨gr, b * 3 + 1, none⟩ = some (([.int .i64 m.1, .string ⟨#[]⟩] : List Value)[1]) ∧ w'.cell? ⟨gr, b * 3 + 2, none⟩ = some (.int .i64 m.2))
              (first | exact ⟨c1, y0, y1, y2, p0, p1, p2⟩ | exact ⟨q0, q1, q2, q3, q4, q5, q6⟩)
              (first
                | (go_at_call 62; refine (dbelow_I x.1 m.1 _).mono ?_; rintro e' wA ⟨rfl, bA⟩; have q0 := (bA.cell (p := ⟨rb, 0, none⟩) hlb2).trans c1; have q1 := (bA.cell (p := ⟨gr, i * 3, none⟩) hgl2).trans y0; have q2 := (bA.cell (p := ⟨gr, i * 3 + 1, none⟩) hgl2).trans y1; have q3 := (bA.cell (p := ⟨gr, i * 3 + 2, none⟩) hgl2).trans y2; have q4 := (bA.cell (p := ⟨gr, b * 3, none⟩) hgl2).trans p0; have q5 := (bA.cell (p := ⟨gr, b * 3 + 1, none⟩) hgl2).trans p1; have q6 := (bA.cell (p := ⟨gr, b * 3 + 2, none⟩) hgl2).trans p2))
            have BA := hB.trans (((below_drewN wr 1).trans bA).mono hB.size)
            clear q0 q1 q2 q3 q4 q5 q6 c1 y0 y1 y2 p0 p1 p2
            cases f : OI.lt x.1 m.1
            · rw [f] at e
              go_wp2_with fail
              go_roundw
              case rel => exact ⟨i + 1, b, by omega, by go_num, rfl, Or.inr ⟨b, m, rfl, by omega, HM.out, HF.out e⟩, BA⟩
              case measure => simp [intOf]; omega
            · rw [f] at e
              go_wp2_with fail
              go_roundw
              case rel => exact ⟨i + 1, i, by omega, by go_num, rfl, Or.inr ⟨i, x, rfl, by omega, HX.out, HT.out e⟩, BA⟩
              case measure => simp [intOf]; omega
          · have e : ah OI x m = false := by
              cases q : ah OI x m
              · rfl
              · rw [ah_iff] at q
                rcases q with q | ⟨q, _⟩
                · exact absurd q h1
                · exact absurd q h2
            have d2 : (x.2 == m.2) = false := by simpa using h2
            go_wp2_with fail
            go_region
            go_wp2_with fail
            go_roundw
            case rel => exact ⟨i + 1, b, by omega, by go_num, rfl, Or.inr ⟨b, m, rfl, by omega, HM.out, HF.out e⟩, hB.trans ((below_drewN wr 1).mono hB.size)⟩
            case measure => simp [intOf]; omega
    · obtain rfl : i = N := by omega
      have HFin : Hid (FstI l z) := by
        rcases hz.out with ⟨h0, rfl⟩ | ⟨b, m, rfl, hbi, hbm, hmin⟩
        · exact Or.inl ⟨rfl, List.eq_nil_of_length_eq_zero (by rw [HN.out]; exact h0)⟩
        · exact Or.inr ⟨b, m, rfl, hbm, fun j x hx => hmin j x (by have := (List.getElem?_eq_some_iff.1 hx).1; rw [HN.out] at this; exact this) hx⟩
      clear hz
      go_wp2_with fail
      go_ret
      exact ⟨z, rfl, HFin.out, hB⟩
end Go.Proofs.Ytbopghpfghaoeaa
