/- The last times of a list of pairs: annexlaw16.last, by its contract. -/
import Derived.Test.YtbopghpfghaoeaaAB
namespace Go.Proofs.Ytbopghpfghaoeaa
open Go.RowKit Go.Maps
set_option maxRecDepth 100000
attribute [local go_sem ↓] Go.wp_at_zero Go.wp_at_succ

theorem Try.infoPair : (Try.prog.info? 28).map (fun i => (i.zero, i.size, i.bytes)) = some (some (.agg #[.int .i64 0, .int .i64 0]), 2, 16) := by kernel_rfl
/-- Each pair of p's key is p. -/
def repl (p x : Int × Int) : Int × Int := if x.1 = p.1 then p else x
def repN (p : Int × Int) (L : List (Int × Int)) (j : Nat) : List (Int × Int) := (L.take j).map (repl p) ++ L.drop j
theorem repN_len (p : Int × Int) (L : List (Int × Int)) (j : Nat) : (repN p L j).length = L.length := by simp [repN]; omega
theorem repN_at {p : Int × Int} {L : List (Int × Int)} {j : Nat} {x : Int × Int} (h : L[j]? = some x) : (repN p L j)[j]? = some x := by
  have hl := (List.getElem?_eq_some_iff.1 h).1
  unfold repN
  rw [List.getElem?_append_right (by simp; omega)]
  simp only [List.length_map, List.length_take, Nat.min_eq_left (Nat.le_of_lt hl), Nat.sub_self, List.getElem?_drop, Nat.add_zero]
  exact h
theorem repN_same {p : Int × Int} {L : List (Int × Int)} {j : Nat} {x : Int × Int} (h : L[j]? = some x) (hx : ¬ x.1 = p.1) : repN p L (j + 1) = repN p L j := by
  obtain ⟨hl, rfl⟩ := List.getElem?_eq_some_iff.1 h
  unfold repN
  rw [List.take_succ_eq_append_getElem hl, List.map_append, List.drop_eq_getElem_cons hl]
  simp [repl, hx]
theorem repN_set {p : Int × Int} {L : List (Int × Int)} {j : Nat} {x : Int × Int} (h : L[j]? = some x) (hx : x.1 = p.1) : repN p L (j + 1) = (repN p L j).set j (x.1, p.2) := by
  obtain ⟨hl, rfl⟩ := List.getElem?_eq_some_iff.1 h
  have e : (L[j].1, p.2) = p := by rw [hx]
  rw [e]
  unfold repN
  rw [List.take_succ_eq_append_getElem hl, List.map_append, List.set_append]
  simp [repl, hx, Nat.min_eq_left (Nat.le_of_lt hl)]
  rw [List.drop_eq_getElem_cons hl]
  rfl
theorem repN_all (p : Int × Int) (L : List (Int × Int)) : repN p L L.length = L.map (repl p) := by simp [repN]
theorem repl_none {p : Int × Int} {L : List (Int × Int)} (h : p.1 ∉ L.map Prod.fst) : L.map (repl p) = L := by
  rw [List.map_congr_left (g := id) (fun x hx => by unfold repl; rw [if_neg (fun e => h (List.mem_map.2 ⟨x, hx, e⟩))]; rfl)]
  simp
theorem there_step {p : Int × Int} {L : List (Int × Int)} {j : Nat} {x : Int × Int} (h : L[j]? = some x) : decide (p.1 ∈ (L.take (j + 1)).map Prod.fst) = (decide (p.1 ∈ (L.take j).map Prod.fst) || decide (x.1 = p.1)) := by
  obtain ⟨hl, rfl⟩ := List.getElem?_eq_some_iff.1 h
  rw [List.take_succ_eq_append_getElem hl, List.map_append]
  simp only [List.map_cons, List.map_nil, List.mem_append, List.mem_singleton, Bool.decide_or]
  congr 1
  exact decide_eq_decide.2 eq_comm
theorem list_set_self {α : Type} {l : List α} {i : Nat} {x : α} (h : l[i]? = some x) : l.set i x = l := by
  obtain ⟨h1, rfl⟩ := List.getElem?_eq_some_iff.1 h
  exact List.set_getElem_self h1
set_option maxHeartbeats 4000000 in
theorem last_any {w : World} {ao : Option Addr} {n cap : Nat} {es : List (Int × Int)} (h : PLies w ao n es) (hn : n ≤ 140737488355328) :
    Calls Try.prog 12 #[.slice ao n cap] w fun e w' => ∃ v, e = .returned v ∧ w'.ownsRow w.heap.size 28 2 v (lastL (es.take 300)).length ((lastL (es.take 300)).flatMap (tc KI)) ∧ Below w.heap.size w w' := by
  obtain ⟨i0, hi, hz0, hz1, hz2⟩ := info_parts Try.infoPair
  have HP : Hid (PLies w ao n es) := h
  have b0 : (n : Int) ≤ 140737488355328 := by omega
  clear h
  go_enter Try.func12, Try.ntmps12
  go_wp2_with fail
  go_loopw [3, 4] (fun v u wr => ∃ i : Nat, i ≤ n ∧ i ≤ 300 ∧ u = .int .i64 i ∧ wr.ownsRow w.heap.size 28 2 v (lastL (es.take i)).length ((lastL (es.take i)).flatMap (tc KI)) ∧ Below w.heap.size w wr) (fun _ u _ => 301 - (intOf u).toNat)
  case atStart => exact ⟨0, Nat.zero_le _, Nat.zero_le _, rfl, World.ownsRow_nil _ _ _ _, Below.refl _ _⟩
  case round =>
    obtain ⟨i, hin, hi3, rfl, hown, hB⟩ := hrel
    have hLl : (lastL (es.take i)).length ≤ 300 := Nat.le_trans (lastL_len _) (by simp; omega)
    obtain ⟨L, hL⟩ : ∃ L, lastL (es.take i) = L := ⟨_, rfl⟩
    rw [hL] at hown hLl
    have HL : Hid (lastL (es.take i) = L) := hL
    clear hL
    obtain ⟨la, lc, hv⟩ := own_slice hown
    subst hv
    obtain ⟨M, hM⟩ : ∃ M, L.length = M := ⟨_, rfl⟩
    rw [hM] at hown hLl
    have HM : Hid (L.length = M) := hM
    rw [hM]
    clear hM
    by_cases hlt : i < n ∧ i < 300
    · obtain ⟨hlt, hlt3⟩ := hlt
      have a1 : (i : Int) < n := by omega
      have a2 : (i : Int) < 300 := by omega
      have a3 : (0 : Int) ≤ i := by omega
      obtain ⟨g, p, e, rfl, he, hpin, x0, x1⟩ := HP.out.at i hlt
      have hgl := World.block_lt_of_cell? w _ x0
      have HE : Hid (es[i]? = some e) := he
      obtain ⟨W, hWW⟩ : ∃ W, W = wr := ⟨wr, rfl⟩
      subst hWW
      clear he
      go_wp2_with fail
      go_loopw [5, 6] (fun t u wr => ∃ j : Nat, j ≤ M ∧ u = .int .i64 j ∧ t = .bool (decide (e.1 ∈ (L.take j).map Prod.fst)) ∧ wr.ownsRow w.heap.size 28 2 (.slice la M lc) M ((repN e L j).flatMap (tc KI)) ∧ Below w.heap.size w wr) (fun _ u _ => M + 1 - (intOf u).toNat)
      case atStart => exact ⟨0, Nat.zero_le _, rfl, by simp, by simpa [repN] using hown, hB⟩
      case round =>
        clear hown hB
        obtain ⟨j, hjM, rfl, rfl, hown, hB⟩ := hrel
        have y0 := (hB.cell (p := ⟨g, p + i * 2, none⟩) hgl).trans x0
        have y1 := (hB.cell (p := ⟨g, p + i * 2 + 1, none⟩) hgl).trans x1
        by_cases hj : j < M
        · obtain ⟨x, hx⟩ : ∃ x, L[j]? = some x := ⟨_, List.getElem?_eq_getElem (by rw [HM.out]; exact hj)⟩
          obtain ⟨q0, q1⟩ := tc_at (K := KI) _ j x (repN_at (p := e) hx)
          obtain ⟨gl, rfl, hglc⟩ : ∃ gl, la = some ⟨gl, 0, none⟩ ∧ M ≤ lc := by
            rcases own_shape hown with ⟨_, q⟩ | ⟨gl, cap', q, r, _⟩
            · omega
            · cases q; exact ⟨gl, rfl, r⟩
          have z0 : wr.cell? ⟨gl, j * 2, none⟩ = some (.int .i64 x.1) := (hown.cellAt _ (by omega)).trans q0
          have z1 : wr.cell? ⟨gl, j * 2 + 1, none⟩ = some (.int .i64 x.2) := (hown.cellAt _ (by omega)).trans q1
          have zf := hown.frozenAt (j * 2 + 1)
          have hglb : w.heap.size ≤ gl := (hown.lt gl rfl).1
          have c1 : (j : Int) < M := by omega
          have c2 : (0 : Int) ≤ j := by omega
          have hth := there_step (p := e) hx
          have HTH : Hid (decide (e.1 ∈ (L.take (j + 1)).map Prod.fst) = (decide (e.1 ∈ (L.take j).map Prod.fst) || decide (x.1 = e.1))) := hth
          clear q0 q1 hth
          by_cases hk : x.1 = e.1
          · have o2 : (wr.drew.setCell ⟨gl, j * 2 + 1, none⟩ (.int .i64 e.2)).ownsRow w.heap.size 28 2 (.slice (some ⟨gl, 0, none⟩) M lc) M ((repN e L (j + 1)).flatMap (tc KI)) := by
              have o1 : wr.drew.ownsRow w.heap.size 28 2 (.slice (some ⟨gl, 0, none⟩) M lc) M ((repN e L j).flatMap (tc KI)) := hown
              have := (o1.stored (j * 2 + 1) (.int .i64 e.2)).1
              rw [repN_set hx hk, ← tc_set (K := KI) _ j (x.1, e.2) (by rw [repN_len, HM.out]; exact hj)]
              rw [list_set_self (l := (repN e L j).flatMap (tc KI)) (tc_at (K := KI) _ j x (repN_at (p := e) hx)).1]
              exact this
            have B2 : Below w.heap.size w (wr.drew.setCell ⟨gl, j * 2 + 1, none⟩ (.int .i64 e.2)) := hB.trans ((below_drewN wr 1).mono hB.size |>.setCell hglb _)
            have hkk : (x.1 == e.1) = true := by simpa using hk
            clear hown hB
            go_wp2_with fail
            go_region
            go_wp2_with fail
            go_roundw
            case rel => exact ⟨j + 1, by omega, by go_num, by rw [HTH.out, decide_eq_true hk, Bool.or_true], o2, B2⟩
            case measure => simp [intOf]; omega
          · have hkk : (x.1 == e.1) = false := by simpa using hk
            have o2 : wr.drew.ownsRow w.heap.size 28 2 (.slice (some ⟨gl, 0, none⟩) M lc) M ((repN e L (j + 1)).flatMap (tc KI)) := by
              rw [repN_same hx hk]; exact hown
            have B2 : Below w.heap.size w wr.drew := hB.trans ((below_drewN wr 1).mono hB.size)
            clear hown hB
            go_wp2_with fail
            go_region
            go_wp2_with fail
            go_roundw
            case rel => exact ⟨j + 1, by omega, by go_num, by rw [HTH.out, decide_eq_false hk, Bool.or_false], o2, B2⟩
            case measure => simp [intOf]; omega
        · obtain rfl : j = M := by omega
          have hall : repN e L j = L.map (repl e) := by rw [← HM.out]; exact repN_all e L
          have htk : L.take j = L := List.take_of_length_le (by rw [HM.out]; exact Nat.le_refl _)
          rw [hall] at hown
          rw [htk]
          have hst : lastL (es.take (i + 1)) = lay1 L e := by rw [take_snoc HE.out, lastL_snoc, HL.out]
          have HST : Hid (lastL (es.take (i + 1)) = lay1 L e) := hst
          clear hst hall htk
          by_cases hth : e.1 ∈ L.map Prod.fst
          · have hd : decide (e.1 ∈ L.map Prod.fst) = true := decide_eq_true hth
            have hl1 : lay1 L e = L.map (repl e) := if_pos hth
            rw [hd]
            have o2 : wr.ownsRow w.heap.size 28 2 (.slice la j lc) (lay1 L e).length ((lay1 L e).flatMap (tc KI)) := by
              rw [hl1, List.length_map, HM.out]; exact hown
            clear hown hd
            go_wp2_with fail
            go_roundw
            case rel => exact ⟨i + 1, by omega, by omega, by go_num, by rw [HST.out]; exact o2, hB⟩
            case measure => simp [intOf]; omega
          · have hd : decide (e.1 ∈ L.map Prod.fst) = false := decide_eq_false hth
            have hl1 : lay1 L e = L ++ [e] := if_neg hth
            rw [repl_none hth] at hown
            rw [hd]
            clear hd
            go_wp2_with (at_builtin; refine wpList_append_own _ rfl _ _ 22 rfl w.heap.size 28 i0 (.agg #[.int .i64 0, .int .i64 0]) 2 16 Try.underlying22 hi hz0 hz1 hz2 rfl (by decide) _ _ _ rfl (hown.alloc _) ⟨wr.heap.size, 0, none⟩ 1 1 [.int .i64 e.1, .int .i64 e.2] rfl rfl (World.news_of_block (heap_alloc_new _ _)) (by intro u hu; simp at hu; rcases hu with rfl | rfl <;> rfl) (by unfold maxLen; omega) (by omega) (by have := hB.size; simp; omega) ?_; intro v' w3 o3 gr3 nil3)
            go_roundw
            case rel =>
              refine ⟨i + 1, by omega, by omega, by go_num, ?_, ?_⟩
              · rw [HST.out, hl1, List.length_append, HM.out, List.flatMap_append]; exact o3
              · exact (hB.alloc hB.size _).grown gr3 (by have := hB.size; simp; omega) (fun k hk => (hown.lt k hk).1)
            case measure => simp [intOf]; omega
    · have he : lastL (es.take 300) = L := by
        have hlen := HP.out.hlen
        by_cases q : i = 300
        · rw [← HL.out, q]
        · rw [← HL.out, List.take_of_length_le (by omega), List.take_of_length_le (by omega)]
      have HE : Hid (lastL (es.take 300) = L) := he
      clear he
      by_cases q : i < n
      · have a1 : (i : Int) < n := by omega
        have a2 : ¬ (i : Int) < 300 := by omega
        go_wp2_with fail
        go_ret
        exact ⟨_, rfl, by rw [HE.out, HM.out]; exact hown, hB⟩
      · have a1 : ¬ (i : Int) < n := by omega
        go_wp2_with fail
        go_ret
        exact ⟨_, rfl, by rw [HE.out, HM.out]; exact hown, hB⟩
end Go.Proofs.Ytbopghpfghaoeaa
