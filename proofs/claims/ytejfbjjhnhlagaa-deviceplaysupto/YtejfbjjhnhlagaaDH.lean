/- Read by its contract. -/
import Derived.Test.YtejfbjjhnhlagaaDG
namespace Go.Proofs.Ytejfbjjhnhlagaa
open Go.RowKit Go.Maps
open Go.MuLone
set_option maxRecDepth 100000

/-- Read's answer. -/
def rdE (S : DevS) (k : Nat) (b : Int) : Int := if ¬ (0 ≤ b ∧ b < k) then 52 else if S.off then 3 else 0
/-- What Read hands out. -/
def ReadR (w w' : World) (S : DevS) (k : Nat) (b : Int) (e : Ending) : Prop :=
  (rdE S k b ≠ 0 ∧ e = .returned (.tuple #[.slice none 0 0, .int .i64 (rdE S k b)])) ∨
  (rdE S k b = 0 ∧ ∃ g, e = .returned (.tuple #[.slice (some ⟨g, 0, none⟩) 512 512, .int .i64 0]) ∧ w.heap.size ≤ g ∧ w'.heap[g]? = some (bl (rdB S b.toNat)))
theorem newest_both : ∀ (ps : List (Nat × List Int)) (gs : List Nat) (b : Nat), gs.length = ps.length → (newestG ps gs b = none ∧ newest ps b = none) ∨ ∃ (i g : Nat) (p : Nat × List Int), newestG ps gs b = some g ∧ newest ps b = some p.2 ∧ ps[i]? = some p ∧ gs[i]? = some g := fun ps gs b h => by
  have hz : newest ps b = ((ps.zip gs).reverse.find? (fun t => t.1.1 == b)).map (·.1.2) := by
    unfold newest
    have e : ps.reverse = (ps.zip gs).reverse.map (·.1) := by
      rw [List.map_reverse, List.map_fst_zip (by omega)]
    rw [e, List.find?_map, Option.map_map]
    rfl
  unfold newestG
  rw [hz]
  cases hf : (ps.zip gs).reverse.find? (fun t => t.1.1 == b) with
  | none => exact Or.inl ⟨rfl, rfl⟩
  | some t =>
    right
    have hm := List.mem_of_find?_eq_some hf
    rw [List.mem_reverse] at hm
    obtain ⟨i, hi⟩ := List.mem_iff_getElem?.1 hm
    rw [List.getElem?_zip_eq_some] at hi
    exact ⟨i, t.2, t.1, rfl, rfl, hi.1, hi.2⟩
theorem zeroB (w : World) : (zeroValue 33).run Try.prog w = .ok (.slice none 0 0) w := by kernel_rfl

set_option maxHeartbeats 4000000 in
theorem read_any {w : World} {db : Nat} {S : DevS} {k N : Nat} {F : Nat → Prop} (h : Dev w db 0 S k N F) (b : Int) :
    Calls Try.prog 13 #[.pointer (some ⟨db, 0, none⟩), .int .i64 b] w fun e w' => ReadR w w' S k b e ∧ Same0 w w' db S k N F := by
  obtain ⟨gl, bm, q, pv, gs, Dm, h, f, hl⟩ := h
  have htop := h.good.top
  by_cases hb : 0 ≤ b ∧ b < k
  case neg =>
    have e1 : rdE S k b = 52 := by unfold rdE; rw [if_pos hb]
    have hbd := decide_eq_false hb
    go_enter_defers Try.func13, Try.ntmps13
    go_wp2_with fail
    refine (lock_dev h).mono ?_
    rintro e w1 ⟨rfl, h1, t1⟩
    have c2 := h1.cells.2.1
    go_wp2_with (go_at_call 44; refine (has_any db k _ _ _ htop c2).mono ?_; rintro e wn ⟨rfl, hwn⟩; subst wn; rw [hbd])
    refine leaves_cons (f := 43) (args := #[.pointer (some ⟨db, 0, none⟩)]) (by simp) (by simp [go_sem]) ?_
    refine (unlock_dev .returning h1).mono ?_
    rintro e u' w2 ⟨rfl, rfl, h2, t2⟩
    exact ⟨_, results_tmp2 rfl _ _ _, Or.inl ⟨by rw [e1]; decide, by rw [e1]; rfl⟩, Same0.of h2 f hl (t1.trans t2 (fun _ _ h => h))⟩
  have hbd := decide_eq_true hb
  by_cases ho : S.off = true
  · have e1 : rdE S k b = 3 := by unfold rdE; rw [if_neg (fun q => q hb), if_pos ho]
    go_enter_defers Try.func13, Try.ntmps13
    go_wp2_with fail
    refine (lock_dev h).mono ?_
    rintro e w1 ⟨rfl, h1, t1⟩
    have c2 := h1.cells.2.1
    have c6 := h1.cells.2.2.2.2.2.1
    rw [ho] at c6
    go_wp2_with (go_at_call 44; refine (has_any db k _ _ _ htop c2).mono ?_; rintro e wn ⟨rfl, hwn⟩; subst wn; rw [hbd])
    refine leaves_cons (f := 43) (args := #[.pointer (some ⟨db, 0, none⟩)]) (by simp) (by simp [go_sem]) ?_
    refine (unlock_dev .returning h1).mono ?_
    rintro e u' w2 ⟨rfl, rfl, h2, t2⟩
    exact ⟨_, results_tmp2 rfl _ _ _, Or.inl ⟨by rw [e1]; decide, by rw [e1]; rfl⟩, Same0.of h2 f hl (t1.trans t2 (fun _ _ h => h))⟩
  have ho' : S.off = false := by simpa using ho
  have e1 : rdE S k b = 0 := by unfold rdE; rw [if_neg (fun q => q hb), if_neg ho]
  have hbn : (b.toNat : Int) = b := by omega
  have hbk : b.toNat < k := by omega
  obtain ⟨bn, hbn2⟩ : ∃ bn, b.toNat = bn := ⟨_, rfl⟩
  have HR : Hid (∀ w' g, w.heap.size ≤ g → w'.heap[g]? = some (bl (rdB S bn)) → ReadR w w' S k b (.returned (.tuple #[.slice (some ⟨g, 0, none⟩) 512 512, .int .i64 0]))) := fun w' g h1 h2 => Or.inr ⟨e1, g, rfl, h1, by rw [hbn2]; exact h2⟩
  rw [hbn2] at hbn hbk
  subst hbn
  clear hbn2 e1
  have hkey := keyOf_int_mk (a := (bn : Int)) Try.underlying3 (q := .i64) (WalkArith.wf_i64 ⟨by omega, by omega⟩)
  go_enter_defers Try.func13, Try.ntmps13
  go_wp2_with fail
  refine (lock_dev h).mono ?_
  rintro e w1 ⟨rfl, h1, t1⟩
  obtain ⟨c0, c2, c3, c4, c5, c6, fz⟩ := h1.cells
  rw [ho'] at c6
  have hs1 := t1.size
  obtain ⟨hhas, hatk⟩ := h1.at_ bn (by omega)
  have hmap := h1.map
  clear c0 c3 c5 fz
  rcases newest_both S.pend gs bn h1.gsl with ⟨n1, n2⟩ | ⟨i, g0, p, n1, n2, hi, hgi⟩
  · rw [n1] at hhas hatk
    have hrd : rdB S bn = (S.last.drop (512 * bn)).take 512 := by unfold rdB; rw [n2]; rfl
    have hlo : (Instr.lookup 84 (.map (some bm)) (.int .i64 bn) true).run Try.prog w1 = .ok (.tuple #[.slice none 0 0, .bool false]) w1 := by
      obtain ⟨v, ps, hrun, hv⟩ := hmap.look_ok law3 Try.underlying84 (zeroB w1) (zd := .held (.slice none 0 0)) (zp := []) rfl hkey
      rw [hatk] at hv
      obtain ⟨rfl, _⟩ : v = .slice none 0 0 ∧ ps = [] := by simpa using hv
      rw [hrun, hhas]; rfl
    have hLp : Lies w1 (some ⟨gl, 512 * bn, none⟩) 512 (512 * k - 512 * bn) (rdB S bn) := by
      rw [hrd]; exact Lies.piece h1.lst (by rw [h1.good.len]; omega) (by omega)
    clear hatk hhas hmap
    go_wp2_with (first
      | (go_at_call 44; refine (has_any db k _ _ _ htop c2).mono ?_; rintro e wn ⟨rfl, hwn⟩; subst wn; rw [hbd])
      | (go_at_call 48; refine (block_any db k gl bn _ hbk htop c2).mono ?_; rintro e wn ⟨rfl, hwn⟩; subst wn))
    refine (copied_any _ 512 _ _ _ (by omega) hLp).mono ?_
    rintro e w2 ⟨g, rfl, hg, hgb, hb2⟩
    have h2 := h1.turns (Below.turns hb2 (fun _ => False)) id id id (fun _ _ => id) (fun _ _ => id)
    have hd2 := heap_lt h1.blk
    go_wp2_with fail
    refine leaves_cons (f := 43) (args := #[.pointer (some ⟨db, 0, none⟩)]) (by simp) (by simp [go_sem]) ?_
    refine (unlock_dev .returning h2).mono ?_
    rintro e u' w3 ⟨rfl, rfl, h3, t3⟩
    have hR3 := HR.out w3 g (by omega) ((t3.block g (heap_lt hgb) (fun e => by omega)).trans hgb)
    refine ⟨_, results_tmp2 rfl _ _ _, ?_⟩
    exact ⟨hR3, Same0.of h3 f hl ((t1.trans (Below.turns hb2 (fun i => i = db)) (fun _ _ h => h)).trans t3 (fun _ _ h => h))⟩
  · rw [n1] at hhas hatk
    have hrd : rdB S bn = p.2 := by unfold rdB; rw [n2]; rfl
    have hlo : (Instr.lookup 84 (.map (some bm)) (.int .i64 bn) true).run Try.prog w1 = .ok (.tuple #[hv g0, .bool true]) w1 := by
      obtain ⟨v, ps, hrun, hv⟩ := hmap.look_ok law3 Try.underlying84 (zeroB w1) (zd := .held (.slice none 0 0)) (zp := []) rfl hkey
      rw [hatk] at hv
      obtain ⟨rfl, _⟩ : v = .slice (some ⟨g0, 0, none⟩) 512 512 ∧ ps = [] := by simpa using hv
      rw [hrun, hhas]; rfl
    have hpm := h1.good.pend p (List.mem_of_getElem? hi)
    have hLp : Lies w1 (some ⟨g0, 0, none⟩) 512 512 (rdB S bn) := by
      rw [hrd]; exact Lies.full (h1.dat i p g0 hi hgi) hpm.2.1
    clear hatk hhas hmap
    go_wp2_with (first
      | (go_at_call 44; refine (has_any db k _ _ _ htop c2).mono ?_; rintro e wn ⟨rfl, hwn⟩; subst wn; rw [hbd]))
    refine (copied_any _ 512 _ _ _ (by omega) hLp).mono ?_
    rintro e w2 ⟨g, rfl, hg, hgb, hb2⟩
    have h2 := h1.turns (Below.turns hb2 (fun _ => False)) id id id (fun _ _ => id) (fun _ _ => id)
    have hd2 := heap_lt h1.blk
    go_wp2_with fail
    refine leaves_cons (f := 43) (args := #[.pointer (some ⟨db, 0, none⟩)]) (by simp) (by simp [go_sem]) ?_
    refine (unlock_dev .returning h2).mono ?_
    rintro e u' w3 ⟨rfl, rfl, h3, t3⟩
    have hR3 := HR.out w3 g (by omega) ((t3.block g (heap_lt hgb) (fun e => by omega)).trans hgb)
    refine ⟨_, results_tmp2 rfl _ _ _, ?_⟩
    exact ⟨hR3, Same0.of h3 f hl ((t1.trans (Below.turns hb2 (fun i => i = db)) (fun _ _ h => h)).trans t3 (fun _ _ h => h))⟩
end Go.Proofs.Ytejfbjjhnhlagaa
