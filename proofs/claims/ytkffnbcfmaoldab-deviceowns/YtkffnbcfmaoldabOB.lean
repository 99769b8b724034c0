/- (*Hoard).whole by its contract. -/
import Derived.Test.YtkffnbcfmaoldabOA
namespace Go.Proofs.Ytkffnbcfmaoldab
open Go.RowKit Go.Maps
set_option maxRecDepth 100000

theorem own_get {w : World} {base e n : Nat} {v : Value} {xs : List Value} (h : w.ownsRow base e 1 v n xs) {i : Nat} (hi : i < n) : ∃ g cap, v = .slice (some ⟨g, 0, none⟩) n cap ∧ w.cell? ⟨g, i, none⟩ = xs[i]? := by
  rcases h.2 with ⟨_, h0⟩ | ⟨g, cap, cur, hv, _, hg, h1, h2, h3, h4⟩
  · omega
  · refine ⟨g, cap, hv, ?_⟩
    rw [← h4, List.getElem?_take, if_pos (by omega)]
    simp only [World.cell?, hg]
    simp
set_option maxHeartbeats 2000000 in
theorem whole_h {w : World} {base hb : Nat} {K : Nat → Prop} {vL vW : Value} {es : List It} (h : Hd w base hb K vL vW es) (hes : es.length ≤ 1000) (hen : ∀ e ∈ es, e.L.length ≤ 1000000) :
    Calls Try.prog 24 #[.pointer (some ⟨hb, 0, none⟩)] w fun e w' => e = .returned (.bool true) ∧ Below w.heap.size w w' := by
  obtain ⟨aL, cL, rfl⟩ := row_slice h.rl
  obtain ⟨aW, cW, rfl⟩ := row_slice h.rc
  obtain ⟨N, hN⟩ : ∃ N, es.length = N := ⟨_, rfl⟩
  have hbox := h.box
  have hrl := h.rl
  have hrc := h.rc
  have hdat := h.dat
  have hown := h.own
  rw [hN] at hbox hrl hrc hes
  clear h
  have hNi : (N : Int) ≤ 1000 := by omega
  have b0 : w.cell? ⟨hb, 0, none⟩ = some (.slice aL N cL) := by simp [World.cell?, hbox]
  have b1 : w.cell? ⟨hb, 1, none⟩ = some (.slice aW N cW) := by simp [World.cell?, hbox]
  go_enter Try.func24, Try.ntmps24
  go_wp2_with fail
  go_loopw [3] (fun i wr => ∃ k : Nat, k ≤ N ∧ i = .int .i64 k ∧ Below w.heap.size w wr) (fun i _ => N - (intOf i).toNat)
  case atStart => exact ⟨0, Nat.zero_le _, rfl, Below.refl _ _⟩
  case round =>
    obtain ⟨k, hk, rfl, hB⟩ := hrel
    have c0 := cell_later hB b0
    have c1 := cell_later hB b1
    by_cases hlt : k < N
    · have hki : (k : Int) < N := by omega
      obtain ⟨gL, kL, eL, l0w⟩ := own_get hrl hlt
      obtain ⟨gW, kW, eW, m0w⟩ := own_get hrc hlt
      cases eL
      cases eW
      obtain ⟨x, hx⟩ : ∃ x, es[k]? = some x := ⟨_, List.getElem?_eq_getElem (by omega)⟩
      rw [List.getElem?_map, hx] at l0w m0w
      have hxm := List.mem_of_getElem? hx
      have hxl := hen x hxm
      have lx : Lies wr (some ⟨x.g, 0, none⟩) x.L.length x.L.length x.L := (Lies.full (hdat x hxm) rfl).turns (Below.turns hB (fun _ => False)) (fun _ _ => id)
      obtain ⟨aU, cU, eU⟩ := own_len (hown x hxm)
      have ux := hown x hxm
      rw [eU] at ux
      have ly : Lies wr aU x.L.length cU x.L := (Lies.owned ux).turns (Below.turns hB (fun _ => False)) (fun _ _ => id)
      have l0 : wr.cell? ⟨gL, k, none⟩ = some (.slice (some ⟨x.g, 0, none⟩) x.L.length x.L.length) := cell_later hB l0w
      have m0 : wr.cell? ⟨gW, k, none⟩ = some (.slice aU x.L.length cU) := by
        have := cell_later hB m0w
        rw [this]; simp [eU]
      clear l0w m0w hx hdat hown hen eU ux
      go_wp2_with fail
      go_region_held3 (fun w' => w'.cell? ⟨hb, 0, none⟩ = some (.slice (some ⟨gL, 0, none⟩) N cL) ∧ w'.cell? ⟨hb, 1, none⟩ = some (.slice (some ⟨gW, 0, none⟩) N cW) ∧ w'.cell? ⟨gL, k, none⟩ = some (.slice (some ⟨x.g, 0, none⟩) x.L.length x.L.length) ∧ w'.cell? ⟨gW, k, none⟩ = some (.slice aU x.L.length cU))
        (first | exact ⟨c0, c1, l0, m0⟩ | simp [c0, c1, l0, m0])
        (first
          | (go_at_call 17; refine (same_true (some ⟨x.g, 0, none⟩) aU x.L.length x.L.length x.L.length cU x.L wr.drew (by omega) (lx.heap rfl) (ly.heap rfl)).mono ?_; rintro e wS ⟨rfl, tS, rfl⟩))
      go_wp2_with fail
      go_roundw
      case rel => exact ⟨k + 1, by omega, by go_num, below_drewN hB _⟩
      case measure => simp [intOf]; omega
    · have hki : ¬ (k : Int) < N := by omega
      go_wp2
      go_ret
      exact ⟨rfl, hB⟩
end Go.Proofs.Ytkffnbcfmaoldab
