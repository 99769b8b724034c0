/- (*Hoard).whole by its contract. -/
import Derived.Test.YtpbanjgjljdepaaHO1
namespace Go.Proofs.Ytpbanjgjljdepaa
open Go.RowKit Go.Maps
set_option maxRecDepth 100000

theorem cell_later {w w' : World} {a : Addr} {v : Value} (hb : Below w.heap.size w w') (h : w.cell? a = some v) : w'.cell? a = some v := (hb.cell (World.block_lt_of_cell? w _ h)).trans h
theorem same_yes (ao bo : Option Addr) (n m c1 c2 : Nat) (xs : List Int) (w : World) (hn : n ≤ 200000000000000) (hA : Lies w ao n c1 xs) (hB : Lies w bo m c2 xs) :
    Calls Try.prog 20 #[.slice ao n c1, .slice bo m c2] w fun e w' => e = .returned (.bool true) ∧ ∃ m, w' = w.drewN m := by
  refine (same_any ao bo n m c1 c2 xs xs w hn hA hB).mono ?_
  rintro e w' ⟨rfl, h⟩
  exact ⟨by simp, h⟩
theorem own_get {w : World} {base e n : Nat} {v : Value} {xs : List Value} (h : w.ownsRow base e 1 v n xs) {i : Nat} (hi : i < n) : ∃ g cap, v = .slice (some ⟨g, 0, none⟩) n cap ∧ w.cell? ⟨g, i, none⟩ = xs[i]? := by
  rcases h.2 with ⟨_, h0⟩ | ⟨g, cap, cur, hv, _, hg, h1, h2, h3, h4⟩
  · omega
  · refine ⟨g, cap, hv, ?_⟩
    rw [← h4, List.getElem?_take, if_pos (by omega)]
    simp only [World.cell?, hg]
    simp
set_option maxHeartbeats 2000000 in
theorem whole_h {w : World} {lab : Nat → Nat} {hb : Nat} {vL vW : Value} {es : List It} (h : Hd w lab hb vL vW es) (hes : es.length ≤ 1000) :
    Calls Try.prog 26 #[.pointer (some ⟨hb, 0, none⟩)] w fun e w' => e = .returned (.bool true) ∧ Below w.heap.size w w' := by
  obtain ⟨aL, cL, rfl⟩ := own_slice h.rl
  obtain ⟨aW, cW, rfl⟩ := own_slice h.rc
  obtain ⟨N, hN⟩ : ∃ N, es.length = N := ⟨_, rfl⟩
  have hbox := h.box
  have hrl := h.rl
  have hrc := h.rc
  have hdat := h.dat
  have hown := h.own
  have hen := h.le
  rw [hN] at hbox hrl hrc hes
  clear h
  have hNi : (N : Int) ≤ 1000 := by omega
  have b0 : w.cell? ⟨hb, 0, none⟩ = some (.slice aL N cL) := by simp [World.cell?, hbox]
  have b1 : w.cell? ⟨hb, 1, none⟩ = some (.slice aW N cW) := by simp [World.cell?, hbox]
  go_enter Try.func26, Try.ntmps26
  go_wp2_with fail
  go_loopw [3] (fun i wr => ∃ k : Nat, k ≤ N ∧ i = .int .i64 k ∧ Below w.heap.size w wr) (fun i _ => N - (intOf i).toNat)
  case atStart => exact ⟨0, Nat.zero_le _, rfl, Below.refl _ _⟩
  case round =>
    obtain ⟨k, hk, rfl, hB⟩ := hrel
    have c0 := cell_later hB b0
    have c1 := cell_later hB b1
    by_cases hlt : k < N
    · have hki : (k : Int) < N := by omega
      obtain ⟨gL, kL, eL, l0w⟩ := own_get hrl hlt
      obtain ⟨gW, kW, eW, m0w⟩ := own_get hrc hlt
      cases eL
      cases eW
      obtain ⟨x, hx⟩ : ∃ x, es[k]? = some x := ⟨_, List.getElem?_eq_getElem (by omega)⟩
      rw [List.getElem?_map, hx] at l0w m0w
      have hxm := List.mem_of_getElem? hx
      have hxl := hen x hxm
      obtain ⟨aX, cX, eX⟩ := own_len (hdat x hxm)
      have xx := hdat x hxm
      rw [eX] at xx
      have lx : Lies wr aX x.L.length cX x.L := (Lies.owned xx).turns (Below.turns hB (fun _ => False)) (fun _ _ => id)
      obtain ⟨aU, cU, eU⟩ := own_len (hown x hxm)
      have ux := hown x hxm
      rw [eU] at ux
      have ly : Lies wr aU x.L.length cU x.L := (Lies.owned ux).turns (Below.turns hB (fun _ => False)) (fun _ _ => id)
      have l0 : wr.cell? ⟨gL, k, none⟩ = some (.slice aX x.L.length cX) := by
        have := cell_later hB l0w
        rw [this]; simp [eX]
      have m0 : wr.cell? ⟨gW, k, none⟩ = some (.slice aU x.L.length cU) := by
        have := cell_later hB m0w
        rw [this]; simp [eU]
      clear l0w m0w hx hdat hown hen eU ux eX xx
      go_wp2_with fail
      go_region_held3 (fun w' => w'.cell? ⟨hb, 0, none⟩ = some (.slice (some ⟨gL, 0, none⟩) N cL) ∧ w'.cell? ⟨hb, 1, none⟩ = some (.slice (some ⟨gW, 0, none⟩) N cW) ∧ w'.cell? ⟨gL, k, none⟩ = some (.slice aX x.L.length cX) ∧ w'.cell? ⟨gW, k, none⟩ = some (.slice aU x.L.length cU))
        (first | exact ⟨c0, c1, l0, m0⟩ | simp [c0, c1, l0, m0])
        (first
          | (go_at_call 20; refine (same_yes aX aU x.L.length x.L.length cX cU x.L wr.drew (by omega) (lx.below (⟨rfl, rfl, rfl, Nat.le_refl _, fun _ _ => rfl⟩ : Below wr.heap.size wr wr.drew) (Nat.le_refl _)) (ly.below (⟨rfl, rfl, rfl, Nat.le_refl _, fun _ _ => rfl⟩ : Below wr.heap.size wr wr.drew) (Nat.le_refl _))).mono ?_; rintro e wS ⟨rfl, tS, rfl⟩))
      go_wp2_with fail
      go_roundw
      case rel => exact ⟨k + 1, by omega, by go_num, hB.trans ((below_drewN wr _).mono hB.size)⟩
      case measure => simp [intOf]; omega
    · have hki : ¬ (k : Int) < N := by omega
      go_wp2
      go_ret
      exact ⟨rfl, hB⟩
end Go.Proofs.Ytpbanjgjljdepaa
