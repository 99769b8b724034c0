/- AlarmSorts: what lies there, and the order of what comes out. -/
import Derived.Test.YtbopghpfghaoeaaTN
import Derived.Test.YtbopghpfghaoeaaSM
import Derived.Test.YtbopghpfghaoeaaAP
namespace Go.Proofs.Ytbopghpfghaoeaa
open Go.RowKit Go.Maps
set_option maxRecDepth 100000

theorem left_gt {now : Int} : ∀ {S : List (Int × Int)}, Srt OI S → ∀ x ∈ leftS S now, now < x.2
  | [], _, x, hx => by cases hx
  | y :: R, h, x, hx => by
    unfold leftS at hx
    rw [List.dropWhile_cons] at hx
    split at hx
    · exact left_gt (List.pairwise_cons.1 h).2 x hx
    · rename_i q
      have q : now < y.2 := by simpa using q
      rcases List.mem_cons.1 hx with rfl | r
      · exact q
      · have := (ah_iff OI y x).1 ((List.pairwise_cons.1 h).1 x r)
        omega
/-- Where the i-th lies. -/
theorem due_at {S : List (Int × Int)} (h : Srt OI S) (now : Int) {i : Nat} {m : Int × Int} (hm : S[i]? = some m) : (i < (dueS S now).length ∧ m.2 ≤ now ∧ (dueS S now)[i]? = some m) ∨ (¬ i < (dueS S now).length ∧ now < m.2 ∧ (leftS S now)[i - (dueS S now).length]? = some m) := by
  have e : dueS S now ++ leftS S now = S := List.takeWhile_append_dropWhile
  rw [← e] at hm
  by_cases q : i < (dueS S now).length
  · rw [List.getElem?_append_left q] at hm
    refine Or.inl ⟨q, ?_, hm⟩
    have h2 := List.mem_of_getElem? hm
    have h3 : (dueS S now).all (fun x => decide (x.2 ≤ now)) = true := List.all_takeWhile
    simpa using List.all_eq_true.1 h3 m h2
  · rw [List.getElem?_append_right (by omega)] at hm
    exact Or.inr ⟨q, left_gt h m (List.mem_of_getElem? hm), hm⟩
theorem due_max {S : List (Int × Int)} (h : ∀ x ∈ S, x.2 ≤ 9223372036854775807) : dueS S 9223372036854775807 = S ∧ leftS S 9223372036854775807 = [] := by
  have := due_split (A := S) (R := []) h (fun _ _ q => by cases q)
  simpa using this
theorem srt_before {S : List (Int × Int)} (h : Srt OI S) {i : Nat} {p m : Int × Int} (hp : S[i]? = some p) (hm : S[i + 1]? = some m) : p.2 < m.2 ∨ (p.2 = m.2 ∧ p.1 < m.1) := by
  obtain ⟨h1, rfl⟩ := List.getElem?_eq_some_iff.1 hp
  obtain ⟨h2, rfl⟩ := List.getElem?_eq_some_iff.1 hm
  have := (ah_iff OI _ _).1 (List.pairwise_iff_getElem.1 h i (i + 1) h1 h2 (by omega))
  rcases this with q | ⟨q, r⟩
  · exact Or.inl q
  · exact Or.inr ⟨q, by simpa [OI] using r⟩
theorem at_head {m : Int × Int} {R : List (Int × Int)} (h : ((m :: R).map Prod.fst).Nodup) : atS (m :: R) m.1 = some m.2 ∧ cutS (m :: R) m.1 = R ∧ atS R m.1 = none ∧ cutS R m.1 = R := by
  have hn := (List.nodup_cons.1 h).1
  have hc : cutS R m.1 = R := List.filter_eq_self.2 (fun x hx => by simp; exact fun e => hn (List.mem_map.2 ⟨x, hx, e⟩))
  refine ⟨atS_some h (List.mem_cons_self), ?_, atS_none hn, hc⟩
  have : cutS (m :: R) m.1 = cutS R m.1 := by simp [cutS]
  rw [this, hc]
/-- All that lies there: the alarms, the lists, the box of the one ahead. -/
structure So (w0 w : World) (lab : Nat → Nat) (a b : Nat) (Sa : List (Int × Int)) (wv ev lv : Value) (L E T : List (Int × Int)) (bx : Nat) (x y : Int) : Prop where
  tw : Tw w0 w lab a b Sa []
  want : w.ownsRow 0 28 2 wv L.length (L.flatMap (tc KI))
  lw : ∀ c, wv.ownBlock = some c → lab c = 3
  ear : w.ownsRow 0 3 1 ev E.length ((E.map Prod.fst).map (Value.int .i64))
  le : ∀ c, ev.ownBlock = some c → lab c = 3
  lat : w.ownsRow 0 3 1 lv T.length ((T.map Prod.fst).map (Value.int .i64))
  ll : ∀ c, lv.ownBlock = some c → lab c = 3
  box : w.heap[bx]? = some (.cells #[.int .i64 x, .int .i64 y] 28)
  lb : lab bx = 4
def SoR (w0 w : World) (a b : Nat) (Sa : List (Int × Int)) (wv ev lv : Value) (L E T : List (Int × Int)) (bx : Nat) (x y : Int) : Prop := ∃ lab, So w0 w lab a b Sa wv ev lv L E T bx x y
section
variable {w0 w : World} {a b : Nat} {Sa : List (Int × Int)} {wv ev lv : Value} {L E T : List (Int × Int)} {bx : Nat} {x y : Int}
theorem So.turns {F : Nat → Prop} {w' : World} {lab lab' : Nat → Nat} {S' : List (Int × Int)} (h : So w0 w lab a b Sa wv ev lv L E T bx x y) (tw : Tw w0 w' lab' a b S' []) (t : Turns F w w') (hF : ∀ i, i < w.heap.size → (lab i = 3 ∨ lab i = 4) → ¬ F i) (hl : ∀ i, i < w.heap.size → lab' i = lab i) : So w0 w' lab' a b S' wv ev lv L E T bx x y :=
  ⟨tw, own_turns h.want t (fun c e => hF c (own_lt h.want e) (Or.inl (h.lw c e))), fun c e => (hl c (own_lt h.want e)).trans (h.lw c e), own_turns h.ear t (fun c e => hF c (own_lt h.ear e) (Or.inl (h.le c e))), fun c e => (hl c (own_lt h.ear e)).trans (h.le c e), own_turns h.lat t (fun c e => hF c (own_lt h.lat e) (Or.inl (h.ll c e))), fun c e => (hl c (own_lt h.lat e)).trans (h.ll c e), (t.block bx (heap_lt h.box) (hF bx (heap_lt h.box) (Or.inr h.lb))).trans h.box, (hl bx (heap_lt h.box)).trans h.lb⟩
theorem SoR.bel (h : SoR w0 w a b Sa wv ev lv L E T bx x y) : Below w0.heap.size w0 w := by obtain ⟨l, h⟩ := h; exact h.tw.bk.b
theorem SoR.drew (h : SoR w0 w a b Sa wv ev lv L E T bx x y) (m : Nat) : SoR w0 (w.drewN m) a b Sa wv ev lv L E T bx x y := by
  obtain ⟨l, h⟩ := h
  exact ⟨l, h.turns (h.tw.drew m) (Turns.drewN (fun _ => False) w m) (fun _ _ _ q => q) (fun _ _ => rfl)⟩
theorem SoR.next {m : Int × Int} {R : List (Int × Int)} (h : SoR w0 w a b (m :: R) wv ev lv L E T bx x y) :
    Calls Try.prog 13 #[.pointer (some ⟨a, 0, none⟩)] w fun e w' => e = .returned (.tuple #[.int .i64 m.1, .int .i64 m.2, .bool true]) ∧ SoR w0 w' a b (m :: R) wv ev lv L E T bx x y := by
  obtain ⟨l, h⟩ := h
  refine (nextC_I h.tw.A).mono ?_
  rintro e w' ⟨rfl, q⟩
  exact ⟨rfl, _, h.turns (h.tw.below q 5) (Below.turns q (fun _ => False)) (fun _ _ _ q => q) (fun _ hi => rl_old hi)⟩
theorem SoR.at (h : SoR w0 w a b Sa wv ev lv L E T bx x y) (k : Int) (hk : -9223372036854775808 ≤ k ∧ k ≤ 9223372036854775807) {t : Int} (ht : atS Sa k = some t) :
    Calls Try.prog 15 #[.pointer (some ⟨a, 0, none⟩), .int .i64 k] w fun e w' => e = .returned (.tuple #[.int .i64 t, .bool true]) ∧ w' = w := by
  obtain ⟨l, h⟩ := h
  have := atA_I h.tw.A k (okI hk)
  rw [ht] at this
  exact this
theorem SoR.cancel (h : SoR w0 w a b Sa wv ev lv L E T bx x y) (k : Int) (hk : -9223372036854775808 ≤ k ∧ k ≤ 9223372036854775807) {f : Bool} (hf : (atS Sa k).isSome = f) {R : List (Int × Int)} (hR : cutS Sa k = R) :
    Calls Try.prog 11 #[.pointer (some ⟨a, 0, none⟩), .int .i64 k] w fun e w' => e = .returned (.bool f) ∧ SoR w0 w' a b R wv ev lv L E T bx x y := by
  obtain ⟨l, h⟩ := h
  have := h.tw.cancelA k hk
  rw [hf, hR] at this
  refine this.mono ?_
  rintro e w' ⟨rfl, l', T', hl, t⟩
  exact ⟨rfl, l', h.turns T' t (fun i _ q r => by have r : l i = 1 := r; omega) hl⟩
theorem SoR.cells (h : SoR w0 w a b Sa wv ev lv L E T bx x y) : w.cell? ⟨bx, 0, none⟩ = some (.int .i64 x) ∧ w.cell? ⟨bx, 1, none⟩ = some (.int .i64 y) ∧ ∀ j, w.frozen? ⟨bx, j, none⟩ = false := by
  obtain ⟨l, h⟩ := h
  refine ⟨by simp only [World.cell?]; rw [h.box]; rfl, by simp only [World.cell?]; rw [h.box]; rfl, fun j => ?_⟩
  simp only [World.frozen?]
  rw [h.box]
  simp
theorem SoR.box (h : SoR w0 w a b Sa wv ev lv L E T bx x y) (u v : Int) : SoR w0 ((w.setCell ⟨bx, 0, none⟩ (.int .i64 u)).setCell ⟨bx, 1, none⟩ (.int .i64 v)) a b Sa wv ev lv L E T bx u v := by
  obtain ⟨l, h⟩ := h
  have hb := heap_lt h.box
  have t := (Turns.cell w bx 0 (.int .i64 u)).trans (Turns.cell (w.setCell ⟨bx, 0, none⟩ (.int .i64 u)) bx 1 (.int .i64 v)) (fun _ _ q => q)
  have hx : ((w.setCell ⟨bx, 0, none⟩ (.int .i64 u)).setCell ⟨bx, 1, none⟩ (.int .i64 v)).heap[bx]? = some (.cells #[.int .i64 u, .int .i64 v] 28) := by
    have h1 : (w.setCell ⟨bx, 0, none⟩ (.int .i64 u)).heap[bx]? = some (.cells #[.int .i64 u, .int .i64 y] 28) := by
      rw [heap_setCell_same _ _ _ _ _ _ h.box]; rfl
    rw [heap_setCell_same _ _ _ _ _ _ h1]; rfl
  have hlb := h.lb
  have hF : ∀ i, i = bx → l i = 4 := fun i e => by rw [e]; exact hlb
  have tw2 : Tw w0 ((w.setCell ⟨bx, 0, none⟩ (.int .i64 u)).setCell ⟨bx, 1, none⟩ (.int .i64 v)) l a b Sa [] := ⟨h.tw.bk.to2 t (fun i q => by rw [hF i q]; decide) (fun _ _ _ => rfl), h.tw.A.turns t (fun i _ e q => by have := hF i q; omega) (fun _ _ => rfl), h.tw.B.turns t (fun i _ e q => by have := hF i q; omega) (fun _ _ => rfl)⟩
  exact ⟨l, tw2, own_turns h.want t (fun c e q => by have := hF c q; have := h.lw c e; omega), h.lw, own_turns h.ear t (fun c e q => by have := hF c q; have := h.le c e; omega), h.le, own_turns h.lat t (fun c e q => by have := hF c q; have := h.ll c e; omega), h.ll, hx, hlb⟩
theorem SoR.wantS {wa : Option Addr} {M wc : Nat} (h : SoR w0 w a b Sa (.slice wa M wc) ev lv L E T bx x y) (hM : L.length = M) (h0 : 0 < M) : ∃ g, wa = some ⟨g, 0, none⟩ ∧ M ≤ wc := by
  obtain ⟨l, h⟩ := h
  have o := h.want
  rw [hM] at o
  rcases own_shape o with ⟨q, r⟩ | ⟨g, cap, q, r, _⟩
  · omega
  · cases q; exact ⟨g, rfl, r⟩
theorem SoR.wantC {g M wc : Nat} (h : SoR w0 w a b Sa (.slice (some ⟨g, 0, none⟩) M wc) ev lv L E T bx x y) (hM : L.length = M) {j : Nat} {z : Int × Int} (hz : L[j]? = some z) : w.cell? ⟨g, j * 2, none⟩ = some (.int .i64 z.1) ∧ w.cell? ⟨g, j * 2 + 1, none⟩ = some (.int .i64 z.2) := by
  obtain ⟨l, h⟩ := h
  have o := h.want
  rw [hM] at o
  have hj := (List.getElem?_eq_some_iff.1 hz).1
  obtain ⟨q0, q1⟩ := tc_at (K := KI) _ j z hz
  exact ⟨(o.cellAt _ (by omega)).trans q0, (o.cellAt _ (by omega)).trans q1⟩
theorem SoR.earC {ea : Option Addr} {N ec : Nat} (h : SoR w0 w a b Sa wv (.slice ea N ec) lv L E T bx x y) (hN : E.length = N) {j : Nat} {z : Int × Int} (hz : E[j]? = some z) : ∃ g, ea = some ⟨g, 0, none⟩ ∧ N ≤ ec ∧ w.cell? ⟨g, j, none⟩ = some (.int .i64 z.1) := by
  obtain ⟨l, h⟩ := h
  have o := h.ear
  rw [hN] at o
  have hj := (List.getElem?_eq_some_iff.1 hz).1
  rcases own_shape o with ⟨q, r⟩ | ⟨g, cap, q, r, _⟩
  · omega
  · cases q
    refine ⟨g, rfl, r, (o.cellAt j (by omega)).trans ?_⟩
    simp [hz]
theorem SoR.latC {ea : Option Addr} {N ec : Nat} (h : SoR w0 w a b Sa wv ev (.slice ea N ec) L E T bx x y) (hN : T.length = N) {j : Nat} {z : Int × Int} (hz : T[j]? = some z) : ∃ g, ea = some ⟨g, 0, none⟩ ∧ N ≤ ec ∧ w.cell? ⟨g, j, none⟩ = some (.int .i64 z.1) := by
  obtain ⟨l, h⟩ := h
  have o := h.lat
  rw [hN] at o
  have hj := (List.getElem?_eq_some_iff.1 hz).1
  rcases own_shape o with ⟨q, r⟩ | ⟨g, cap, q, r, _⟩
  · omega
  · cases q
    refine ⟨g, rfl, r, (o.cellAt j (by omega)).trans ?_⟩
    simp [hz]
theorem SoR.earL {ea : Option Addr} {N ec : Nat} (h : SoR w0 w a b Sa wv (.slice ea N ec) lv L E T bx x y) (hN : E.length = N) : Li w ea N ec (E.map Prod.fst) := by
  obtain ⟨l, h⟩ := h
  have o := h.ear
  rw [hN] at o
  obtain ⟨a1, c1, e, L1⟩ := Li.row o
  cases e
  exact L1
end
theorem mem_take_succ {L : List (Int × Int)} {j : Nat} {z m : Int × Int} (h : L[j]? = some z) : decide (m ∈ L.take (j + 1)) = (decide (m ∈ L.take j) || decide (z = m)) := by
  obtain ⟨hl, rfl⟩ := List.getElem?_eq_some_iff.1 h
  rw [List.take_succ_eq_append_getElem hl]
  simp only [List.mem_append, List.mem_singleton, Bool.decide_or]
  congr 1
  exact decide_eq_decide.2 eq_comm
end Go.Proofs.Ytbopghpfghaoeaa
