/- without of the document's own alarm, its keys ints, by their contracts. -/
import Derived.Test.YtbopghpfghaoeaaD1i
namespace Go.Proofs.Ytbopghpfghaoeaa
open Go.RowKit Go.Maps
set_option maxRecDepth 100000
attribute [local go_sem ↓] Go.wp_at_zero Go.wp_at_succ

theorem Try.infoItemI : (Try.prog.info? 114).map (fun i => (i.zero, i.size, i.bytes)) = some (some (.agg #[.int .i64 0, .string ⟨#[]⟩, .int .i64 0]), 3, 32) := by kernel_rfl
theorem ers_sameI {l : List (Int × Int)} {n : Nat} (hn : n < l.length) : (l.take (n + 1)).eraseIdx n = (l.take n).eraseIdx n := by
  rw [List.take_succ_eq_append_getElem hn, List.eraseIdx_append_of_length_le (by rw [List.length_take]; omega), List.length_take, Nat.min_eq_left (Nat.le_of_lt hn), Nat.sub_self, List.eraseIdx_cons_zero, List.append_nil]
  rw [List.eraseIdx_of_length_le (by rw [List.length_take]; omega)]
theorem ers_moreI {l : List (Int × Int)} {n i : Nat} {x : Int × Int} (hx : l[i]? = some x) (hne : i ≠ n) : (l.take (i + 1)).eraseIdx n = (l.take i).eraseIdx n ++ [x] := by
  obtain ⟨hi, rfl⟩ := List.getElem?_eq_some_iff.1 hx
  rw [List.take_succ_eq_append_getElem hi]
  by_cases h : n < i
  · rw [List.eraseIdx_append_of_lt_length (by simp; omega)]
  · rw [List.eraseIdx_of_length_le (by simp; omega), List.eraseIdx_of_length_le (by simp; omega)]
theorem Sh.dropI {l S : List (Int × Int)} (h : Sh OI l S) {n : Nat} {x : Int × Int} (hx : l[n]? = some x) : Sh OI (l.eraseIdx n) (cutS S x.1) := by
  refine ⟨srt_cutS h.srt _, fun z => ?_, ?_⟩
  · rw [mem_cutS, List.mem_eraseIdx_iff_getElem?]
    constructor
    · rintro ⟨i, hi, hz⟩
      exact ⟨(h.mem z).1 (List.mem_of_getElem? hz), fun e => hi (key_inj h.nd hz hx e)⟩
    · rintro ⟨h1, h2⟩
      obtain ⟨i, hi⟩ := List.mem_iff_getElem?.1 ((h.mem z).2 h1)
      exact ⟨i, fun e => by subst e; rw [hx] at hi; cases hi; exact h2 rfl, hi⟩
  · exact h.nd.sublist ((List.eraseIdx_sublist l n).map Prod.fst)
/-- What without leaves. -/
def WthI (w w' : World) (lab : Nat → Nat) (k rb : Nat) (l : List (Int × Int)) : Prop := ∃ rv, RxI w' (rl lab w k) k rb rv l ∧ Turns (fun i => i = rb) w w'
set_option maxHeartbeats 2000000 in
theorem without_I {w : World} {lab : Nat → Nat} {k rb : Nat} {rv : Value} {l : List (Int × Int)} (h : RxI w lab k rb rv l) (n : Nat) (hn : n < l.length) :
    Calls Try.prog 53 #[.pointer (some ⟨rb, 0, none⟩), .int .i64 n] w fun e w' => e = .returned (.tuple #[]) ∧ WthI w w' lab k rb (l.eraseIdx n) := by
  obtain ⟨i0, hi0, hz0, hz1, hz2⟩ := info_parts Try.infoItemI
  obtain ⟨N, hN⟩ : ∃ N, l.length = N := ⟨_, rfl⟩
  have HN : Hid (l.length = N) := hN
  have hL := h.hl
  rw [hN] at hL hn
  have HR : Hid (RxI w lab k rb rv l) := h
  have hlb := heap_lt h.box
  obtain ⟨ao, cap, hrv⟩ := own_slice h.row
  have c0 := h.c0
  rw [hrv, hN] at c0
  have HV : Hid (rv = .slice ao N cap) := by show _ = _; rw [hrv, hN]
  have a0 : (N : Int) ≤ 4398046511104 := by omega
  clear h hN hrv
  go_enter Try.func53, Try.ntmps53
  go_wp2_with fail
  go_loopw [4, 5] (fun v u wr => ∃ i : Nat, i ≤ N ∧ u = .int .i64 i ∧ wr.ownsRow w.heap.size 114 3 v ((l.take i).eraseIdx n).length (((l.take i).eraseIdx n).flatMap dcI) ∧ Below w.heap.size w wr) (fun _ u _ => N + 1 - (intOf u).toNat)
  case atStart => exact ⟨0, Nat.zero_le _, rfl, World.ownsRow_nil _ _ _ _, Below.refl _ _⟩
  case round =>
    obtain ⟨i, hi, rfl, hown, hB⟩ := hrel
    have c1 : wr.cell? ⟨rb, 0, none⟩ = some (.slice ao N cap) := (hB.cell (p := ⟨rb, 0, none⟩) hlb).trans c0
    have hel : ((l.take i).eraseIdx n).length ≤ i := Nat.le_trans (List.length_eraseIdx_le _ _) (by simp; omega)
    by_cases hlt : i < N
    · obtain ⟨x, hx⟩ : ∃ x, l[i]? = some x := ⟨_, List.getElem?_eq_getElem (by rw [HN.out]; exact hlt)⟩
      obtain ⟨gr, cap', hrv', hcap, x0, x1, x2, _⟩ := HR.out.at hx
      rw [HV.out] at hrv'
      rw [HN.out] at hrv' hcap
      cases hrv'
      have hgl := World.block_lt_of_cell? w _ x0
      have y0 := (hB.cell (p := ⟨gr, i * 3, none⟩) hgl).trans x0
      have y1 := (hB.cell (p := ⟨gr, i * 3 + 1, none⟩) hgl).trans x1
      have y2 := (hB.cell (p := ⟨gr, i * 3 + 2, none⟩) hgl).trans x2
      have a1 : (i : Int) < N := by omega
      have a2 : (0 : Int) ≤ i := by omega
      by_cases hne : i = n
      · subst hne
        have HE : Hid ((l.take (i + 1)).eraseIdx i = (l.take i).eraseIdx i) := ers_sameI (by rw [HN.out]; exact hlt)
        clear hx
        go_wp2_with fail
        go_roundw
        case rel => exact ⟨i + 1, by omega, by go_num, by rw [HE.out]; exact hown, hB⟩
        case measure => simp [intOf]; omega
      · have HE : Hid ((l.take (i + 1)).eraseIdx n = (l.take i).eraseIdx n ++ [x]) := ers_moreI hx hne
        have hd : ((i : Int) != n) = true := by simp; omega
        obtain ⟨M, hM⟩ : ∃ M, ((l.take i).eraseIdx n).length = M := ⟨_, rfl⟩
        rw [hM] at hown hel
        have HM : Hid (((l.take i).eraseIdx n).length = M) := hM
        clear hx hM
        go_wp2_with (at_builtin; refine wpList_append_own _ rfl _ _ 106 rfl w.heap.size 114 i0 (.agg #[.int .i64 0, .string ⟨#[]⟩, .int .i64 0]) 3 32 Try.underlying106 hi0 hz0 hz1 hz2 rfl (by decide) _ _ _ rfl (hown.alloc _) ⟨wr.heap.size, 0, none⟩ 1 1 [.int .i64 x.1, .string ⟨#[]⟩, .int .i64 x.2] rfl rfl (World.news_of_block (heap_alloc_new _ _)) (by intro u hu; simp at hu; rcases hu with rfl | rfl | rfl <;> rfl) (by unfold maxLen; omega) (by omega) (by have := hB.size; simp; omega) ?_; intro v' w3 o3 gr3 nil3)
        go_roundw
        case rel =>
          refine ⟨i + 1, by omega, by go_num, ?_, ?_⟩
          · rw [HE.out, List.length_append, HM.out, List.flatMap_append]; exact o3
          · exact (hB.alloc hB.size _).grown gr3 (by have := hB.size; simp; omega) (fun k hk => (hown.lt k hk).1)
        case measure => simp [intOf]; omega
    · obtain rfl : i = N := by omega
      have hT : l.take i = l := List.take_of_length_le (by rw [HN.out]; exact Nat.le_refl _)
      rw [hT] at hown
      have hbx := (hB.block rb hlb).trans HR.out.box
      have f0 : wr.frozen? ⟨rb, 0, none⟩ = false := by simp [World.frozen?, hbx]
      have hL2 : (l.eraseIdx n).length ≤ 4398046511104 := Nat.le_trans (List.length_eraseIdx_le _ _) HR.out.hl
      obtain ⟨ao2, cap2, hv2⟩ := own_slice hown
      subst hv2
      clear hT
      go_wp2_with fail
      first | go_end0 | refine bodyPost_ret (results_none rfl _ _ _) rfl ?_
      have t2 := Turns.cell wr rb 0 (.slice ao2 (l.eraseIdx n).length cap2)
      refine ⟨rfl, _, ⟨heap_setCell_same _ _ _ _ _ _ hbx, own_turns (own_zeroI hown) t2 (fun b hb q => by have := (hown.lt b hb).1; omega), (rl_old hlb).trans HR.out.lb, fun b hb => rl_new (hown.lt b hb).1, hL2⟩, (Below.turns hB (fun i => i = rb)).trans t2 (fun _ _ q => q)⟩
end Go.Proofs.Ytbopghpfghaoeaa
