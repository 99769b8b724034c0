/- Format by its contract. -/
import Derived.Test.YtlcjkbhcbiggcaaGreatDoorPk06
import Derived.Maps.Ext
import Derived.Maps.RangeWalk
namespace Go.Proofs.YtlcjkbhcbiggcaaGreatDoor
open Go.RowKit
set_option maxRecDepth 100000

def zB : List Int := List.replicate 512 0
/-- The first p places of a log are written with zeros. -/
def zrs (S : DevS) (st : Nat) : Nat → DevS
  | 0 => S
  | p + 1 => wrote (burnt (zrs S st p)) (st + 1 + p) zB
theorem zrs_lasts {S : DevS} {st m : Nat} : ∀ (p : Nat), Lasts S (p + m) → Lasts (zrs S st p) m
  | 0, h => by rw [Nat.zero_add] at h; exact h
  | p + 1, h => ((zrs_lasts (m := m + 1) p (by rw [show p + (m + 1) = p + 1 + m by omega]; exact h)).burnt).wrote _ _
/-- What a device holds behind Format. -/
def fmtS (S : DevS) (st sz : Nat) : DevS := flushed (burnt (wrote (burnt (flushed (burnt (zrs S st (sz - 1))))) st (jheadB 1 0)))
theorem jheadB_len (a b : Int) : (jheadB a b).length = 512 := fillB_len (by simp [hdB_len, be_length])
theorem jheadB_by (a b : Int) : ∀ x ∈ jheadB a b, 0 ≤ x ∧ x ≤ 255 := fillB_by (fun x hx => by
  rcases List.mem_append.1 hx with hx | hx
  · exact hdB_by a b x hx
  · exact be_by _ _ x hx)
theorem zB_by : ∀ x ∈ zB, 0 ≤ x ∧ x ≤ 255 := fun x hx => by have := List.eq_of_mem_replicate hx; omega
/-- What a call holds while it works: its device, its work, blocks X that are not the device's, what may have turned since it began. -/
structure Wg (w0 w : World) (F X : Nat → Prop) (wb d : Nat) (S : DevS) (k N : Nat) : Prop where
  wk : Wk w wb d .nilIface
  dv : ∃ G, Dev w d 0 S k N G ∧ (∀ i, G i → F i ∨ w0.heap.size ≤ i) ∧ ∀ i, X i → ¬ G i
  xl : ∀ i, X i → i < w.heap.size
  xw : X wb
  tr : Turns (fun i => F i ∨ i = wb) w0 w
  nw : w0.heap.size ≤ wb
theorem Wg.wrt {w0 w w' : World} {F X G : Nat → Prop} {wb d : Nat} {S S' : DevS} {k N N' : Nat} (h : Wg w0 w F X wb d S k N) (hG : ∀ i, G i → F i ∨ w0.heap.size ≤ i) (hX : ∀ i, X i → ¬ G i) (q : Wrt w w' wb d S' k N' G) : Wg w0 w' F X wb d S' k N' ∧ ∀ g o, X g → g ≠ wb → w.heap[g]? = some o → w'.heap[g]? = some o :=
  ⟨⟨q.wk, ⟨grow G w w', q.dv, fun i hi => hi.elim (hG i) (fun r => Or.inr (Nat.le_trans h.tr.size r.1)), fun i hi r => hX i hi (grow_old i (h.xl i hi) r)⟩, fun i hi => Nat.lt_of_lt_of_le (h.xl i hi) q.tr.size, h.xw, h.tr.trans q.tr (fun i hi r => r.elim (fun r => (hG i r).elim Or.inl (fun r => by omega)) Or.inr), h.nw⟩,
    fun g o hg hn ho => (q.tr.block g (h.xl g hg) (fun r => r.elim (hX g hg) hn)).trans ho⟩
theorem Wg.below {w0 w w' : World} {F X : Nat → Prop} {wb d : Nat} {S : DevS} {k N : Nat} (h : Wg w0 w F X wb d S k N) (b : Below w.heap.size w w') : Wg w0 w' F X wb d S k N := by
  obtain ⟨G, D, h1, h2⟩ := h.dv
  exact ⟨h.wk.turns (Below.turns b (fun _ => False)) id, ⟨G, D.below b, h1, h2⟩, fun i hi => Nat.lt_of_lt_of_le (h.xl i hi) b.size, h.xw, h.tr.trans (Below.turns b (fun _ => False)) (fun _ _ r => r.elim), h.nw⟩
/-- New blocks are not the device's. -/
theorem Wg.add {w0 w w' : World} {F X : Nat → Prop} {wb d : Nat} {S : DevS} {k N : Nat} (h : Wg w0 w F X wb d S k N) (b : Below w.heap.size w w') : Wg w0 w' F (fun i => X i ∨ (w.heap.size ≤ i ∧ i < w'.heap.size)) wb d S k N := by
  obtain ⟨G, D, h1, h2⟩ := h.dv
  have h' := h.below b
  exact { h' with
    dv := ⟨G, D.below b, h1, fun i hi r => hi.elim (fun hi => h2 i hi r) (fun hi => by have := D.lt i r; omega)⟩
    xl := fun i hi => hi.elim (h'.xl i) (fun hi => hi.2)
    xw := Or.inl h.xw }
theorem Wg.less {w0 w : World} {F X Y : Nat → Prop} {wb d : Nat} {S : DevS} {k N : Nat} (h : Wg w0 w F X wb d S k N) (hY : ∀ i, Y i → X i) (hw : Y wb) : Wg w0 w F Y wb d S k N := by
  obtain ⟨G, D, h1, h2⟩ := h.dv
  exact { h with dv := ⟨G, D, h1, fun i hi => h2 i (hY i hi)⟩, xl := fun i hi => h.xl i (hY i hi), xw := hw }
theorem Wg.start {w w' : World} {F : Nat → Prop} {d : Nat} {S : DevS} {k N : Nat} (hF : ∀ i, F i → i < w.heap.size) (k1 : Wk w' w.heap.size d .nilIface) (q : Same0 w w' d S k N F) : Wg w w' F (fun i => i = w.heap.size) w.heap.size d S k N :=
  ⟨k1, ⟨F, q.1, fun _ => Or.inl, fun i e h => by have := hF _ h; omega⟩, fun i e => by subst e; exact heap_lt k1, rfl, q.2.mono (fun _ _ => Or.inl), Nat.le_refl _⟩
theorem Wg.dev {w0 w : World} {F X : Nat → Prop} {wb d : Nat} {S : DevS} {k N : Nat} (h : Wg w0 w F X wb d S k N) (hF : ∀ i, F i → i < w0.heap.size) : Dev w d 0 S k N (grow F w0 w) ∧ Turns F w0 w := by
  obtain ⟨G, D, h1, _⟩ := h.dv
  refine ⟨D.foot (fun i hi => (h1 i hi).imp id (fun r => ⟨r, D.lt i hi⟩)) (fun i hi => hi.elim (fun r => Nat.lt_of_lt_of_le (hF i r) h.tr.size) (fun r => r.2)), h.tr.mono (fun i hi r => r.elim id (fun r => ?_))⟩
  have := h.nw
  omega
set_option maxHeartbeats 4000000 in
theorem format_ok {w : World} {d : Nat} {S : DevS} {k N : Nat} {F : Nat → Prop} (hD : Dev w d 0 S k N F) (st sz : Nat) (h1 : 27 ≤ sz) (h2 : st + sz ≤ k) (hS : Lasts S (sz + 2)) (hN : N ≤ 1000000000) :
    Calls Tryz.prog 33 #[.pointer (some ⟨d, 0, none⟩), .int .i64 st, .int .i64 sz] w fun e w' => e = .returned (.int .i64 0) ∧ Dev w' d 0 (fmtS S st sz) k (N + sz) (grow F w w') ∧ Turns F w w' := by
  obtain ⟨i0, hi, hz0, hz1, hz2⟩ := info_parts Tryz.info5
  have hF := hD.lt
  have hk := hD.good.top
  obtain ⟨W, hW⟩ : ∃ W, w.alloc (.cells #[.pointer (some ⟨d, 0, none⟩), .int .i64 st, .int .i64 sz] 118) = W := ⟨_, rfl⟩
  have hb : Below w.heap.size w W := by rw [← hW]; exact (Below.refl _ w).alloc (Nat.le_refl _) _
  have x0 : W.cell? ⟨w.heap.size, 0, none⟩ = some (.pointer (some ⟨d, 0, none⟩)) := by rw [← hW]; simp
  have x1 : W.cell? ⟨w.heap.size, 1, none⟩ = some (.int .i64 st) := by rw [← hW]; simp
  have x2 : W.cell? ⟨w.heap.size, 2, none⟩ = some (.int .i64 sz) := by rw [← hW]; simp
  have hs : W.heap.size = w.heap.size + 1 := by rw [← hW]; simp
  have hDW := hD.below hb
  have hfit : fitB k st sz = true := by simp [fitB]; omega
  have m1 := fits_any hDW st sz (by omega) (by omega) (by omega)
  rw [hfit] at m1
  go_enter Tryz.func33, Tryz.ntmps33
  go_wp2_with fail
  try rw [hW]
  refine m1.mono ?_
  rintro e w1 ⟨rfl, q1⟩
  have old : ∀ j v, W.cell? ⟨w.heap.size, j, none⟩ = some v → w1.cell? ⟨w.heap.size, j, none⟩ = some v := fun j v h => (World.cell?_of_block (q1.2.block w.heap.size (by omega) (fun r => by have := hF _ r; omega))).trans h
  have y0 := old 0 _ x0
  have y1 := old 1 _ x1
  have y2 := old 2 _ x2
  have s1 := q1.2.size
  clear x0 x1 x2 old m1
  go_wp2_with fail
  refine (begun_any q1.1).mono ?_
  rintro e w2 ⟨ev, rfl, hev, k2, q2⟩
  have he : begE S = 0 := by unfold begE; rw [if_neg (by simp [hS.on])]
  rw [he] at hev
  obtain ⟨_, rfl⟩ := hev.resolve_right (fun h => h.1 rfl)
  have hF1 : ∀ i, F i → i < w1.heap.size := fun i r => by have := hF i r; omega
  have g2 := Wg.start hF1 k2 q2
  obtain ⟨wb, hwb⟩ : ∃ wb, w1.heap.size = wb := ⟨_, rfl⟩
  rw [hwb] at g2
  have T1 : Turns F w w1 := (Below.turns hb F).trans q1.2 (fun _ _ h => h)
  have HT1 : Hid (Turns F w w1) := T1
  have rg : ∀ w', Turns (fun i => F i ∨ i = wb) w1 w' → ∀ j v, w1.cell? ⟨w.heap.size, j, none⟩ = some v → w'.cell? ⟨w.heap.size, j, none⟩ = some v := fun w' t j v h => (World.cell?_of_block (t.block w.heap.size (by omega) (fun r => r.elim (fun r => by have := hF _ r; omega) (fun r => by omega)))).trans h
  have z2 := g2.add ((Below.refl _ w2).alloc (Nat.le_refl _) (.cells (madeCells #[.int .u8 0] 512) 5))
  have hzb := zeros_bl w2 512
  obtain ⟨W3, hW3⟩ : ∃ W3, w2.alloc (.cells (madeCells #[.int .u8 0] 512) 5) = W3 := ⟨_, rfl⟩
  rw [hW3] at z2 hzb
  have hs3 : W3.heap.size = w2.heap.size + 1 := by rw [← hW3]; simp
  have u0 := rg W3 z2.tr 0 _ y0
  have u1 := rg W3 z2.tr 1 _ y1
  have u2 := rg W3 z2.tr 2 _ y2
  have s2 := q2.2.size
  have hwb2 := heap_lt k2
  clear k2 q2 g2 q1 hDW hD hb T1
  go_wp2_with (first
    | (at_make; (refine wpList_make_row _ rfl _ _ 39 rfl 5 i0 (.int .u8 0) Tryz.underlying39 hi hz0 hz1 rfl _ _ 512 rfl rfl (by rw [hz2]; omega) (by omega) ?_; try rw [hW3]))
    | fail)
  refine (places_any d st sz W3 (by omega)).mono ?_
  rintro e w4 ⟨rfl, b4⟩
  have z4 := z2.below b4
  have hz4 := (b4.block _ (by omega)).trans hzb
  have s4 := b4.size
  obtain ⟨gz, hgz⟩ : ∃ gz, w2.heap.size = gz := ⟨_, rfl⟩
  rw [hgz] at hz4
  try rw [hgz]
  clear z2 hzb b4 u0 u1 u2 hW3 hW
  have z5 := z4.less (Y := fun i => i = wb ∨ i = gz) (fun i hi => hi.elim Or.inl (fun r => Or.inr (by omega))) (Or.inl rfl)
  have hgw : gz ≠ wb := by omega
  clear z4
  have hszi : (27 : Int) ≤ sz := by omega
  have hszj : (sz : Int) ≤ 4096 := by omega
  go_wp2_with fail
  go_loopw [23] (fun i wr => ∃ p : Nat, p ≤ sz - 1 ∧ i = .int .i64 p ∧ Wg w1 wr F (fun i => i = wb ∨ i = gz) wb d (zrs S st p) k (N + p) ∧ wr.heap[gz]? = some (bl zB)) (fun i _ => sz - 1 - (intOf i).toNat)
  case atStart => exact ⟨0, Nat.zero_le _, rfl, z5, hz4⟩
  case round =>
    clear z5 hz4
    obtain ⟨p, hp, rfl, hg, hz⟩ := hrel
    have v0 := rg wr hg.tr 0 _ y0
    have v1 := rg wr hg.tr 1 _ y1
    have v2 := rg wr hg.tr 2 _ y2
    by_cases hlt : p < sz - 1
    · have hpi : (p : Int) < sz - 1 := by omega
      have hmod : p % (sz - 1) = p := Nat.mod_eq_of_lt hlt
      have hla : Lasts (zrs S st p) (sz + 2 - p - 1 + 1) := zrs_lasts p (hS.mono (by omega))
      go_wp2_with fail
      refine (at_any d st sz p _ (by omega) (by omega) (by omega)).mono ?_
      rintro e w5 ⟨rfl, b5⟩
      rw [hmod]
      have h5 := hg.below b5
      have hz5 := (b5.block gz (heap_lt hz)).trans hz
      clear hg hz b5 v0 v1 v2
      obtain ⟨G, D, hG, hX⟩ := h5.dv
      go_wp2_with fail
      refine (wkwrite_ok D h5.wk (hX wb (Or.inl rfl)) hla (st + 1 + p) (by omega) (some ⟨gz, 0, none⟩) 512 zB (Lies.full hz5 (by simp [zB])) zB_by (fun ad e => by cases e; exact hX gz (Or.inr rfl)) (by omega)).mono ?_
      rintro e w6 ⟨rfl, q6⟩
      obtain ⟨h6, k6⟩ := h5.wrt hG hX q6
      have hz6 := k6 gz _ (Or.inr rfl) hgw hz5
      clear h5 q6 k6 D hX hz5
      go_wp2_with fail
      go_roundw
      case rel => exact ⟨p + 1, by omega, by go_num, h6, hz6⟩
      case measure => simp [intOf]; omega
    · have hpe : p = sz - 1 := by omega
      subst hpe
      have hpi : ¬ (((sz - 1 : Nat) : Int) < sz - 1) := by omega
      have hla : Lasts (zrs S st (sz - 1)) 3 := zrs_lasts (sz - 1) (hS.mono (by omega))
      have HSZ : Hid (fmtS S st sz = flushed (burnt (wrote (burnt (flushed (burnt (zrs S st (sz - 1))))) st (jheadB 1 0)))) := rfl
      generalize zrs S st (sz - 1) = Z at *
      obtain ⟨G, D, hG, hX⟩ := hg.dv
      go_wp2_with fail
      refine (wkflush_ok D hg.wk (hX wb (Or.inl rfl)) hla (by omega)).mono ?_
      rintro e w6 ⟨rfl, q6⟩
      obtain ⟨h6, _⟩ := hg.wrt hG hX q6
      have hl6 : Lasts (flushed (burnt Z)) 2 := hla.burnt.flushed
      clear hg q6 D hX hG G v0 v1 v2 hz
      generalize flushed (burnt Z) = Z6 at *
      have v1 := rg w6 h6.tr 1 _ y1
      go_wp2_with fail
      go_region_held3 (fun w' => w'.cell? ⟨w.heap.size, 1, none⟩ = some (.int .i64 st))
        (first | exact v1 | exact v7 | exact v8)
        (first
          | (go_at_call 73; refine (headBlock_any 1 0 _).mono ?_; rintro e w7 ⟨g7, rfl, l7, b7, q7⟩; have q7 := Below.fromDrew q7; have h7 := (h6.add q7).less (Y := fun i => i = wb ∨ i = g7) (fun i hi => hi.elim (fun r => Or.inl (Or.inl r)) (fun r => Or.inr (by have := heap_lt b7; have l7' : w6.heap.size ≤ g7 := l7; omega))) (Or.inl rfl); obtain ⟨G, D, hG, hX⟩ := h7.dv; have v7 := rg w7 h7.tr 1 _ y1)
          | (go_at_call 70; refine (wkwrite_ok D h7.wk (hX wb (Or.inl rfl)) hl6 st (by omega) (some ⟨g7, 0, none⟩) 512 _ (Lies.full b7 (jheadB_len 1 0)) (jheadB_by 1 0) (fun ad e => by cases e; exact hX g7 (Or.inr rfl)) (by omega)).mono ?_; rintro e w8 ⟨rfl, q8⟩; obtain ⟨h8, _⟩ := h7.wrt hG hX q8; have v8 := rg w8 h8.tr 1 _ y1))
      have hl8 : Lasts (wrote (burnt Z6) st (jheadB 1 0)) 1 := hl6.burnt.wrote _ _
      clear h7 q8 D hX hG b7 h6 v7 v8
      generalize wrote (burnt Z6) st (jheadB 1 0) = Z8 at *
      obtain ⟨G, D, hG, hX⟩ := h8.dv
      go_wp2_with fail
      refine (wkflush_ok D h8.wk (hX wb (Or.inl rfl)) hl8 (by omega)).mono ?_
      rintro e w9 ⟨rfl, q9⟩
      obtain ⟨h9, _⟩ := h8.wrt hG hX q9
      have c0 := h9.wk.c0
      have c1 := h9.wk.c1
      clear h8 q9 D hX hG G
      go_wp2_with fail
      refine (codeOf_nil _).mono ?_
      rintro e wA ⟨rfl, bA⟩
      have hA := (h9.below bA).dev hF1
      clear h9 c0 c1 bA
      go_wp2
      go_ret
      refine ⟨rfl, ?_, HT1.out.trans hA.2 (fun _ _ h => h)⟩
      rw [HSZ.out]
      have hD2 := hA.1.more (M := N + sz) (by omega)
      exact hD2.foot (fun i hi => hi.imp id (fun r => ⟨by omega, r.2⟩)) (fun i hi => hi.elim (fun r => by have := hF i r; have := hA.2.size; omega) (fun r => r.2))
end Go.Proofs.YtlcjkbhcbiggcaaGreatDoor

/- A map from blocks to their bytes, as a rising list. -/
namespace Go.Proofs.YtlcjkbhcbiggcaaGreatDoor
open Go.RowKit Go.Maps
set_option maxRecDepth 100000

/-- The datum of a map. -/
def mD (m : List (Nat × Nat)) : DataW Value := .map (m.map fun p => (.int .i64 p.1, .held (hv p.2)))
def Rising (m : List (Nat × Nat)) : Prop := m.Pairwise (fun p q => p.1 < q.1)
/-- What the map has at a block. -/
def lk : List (Nat × Nat) → Nat → Option Nat
  | [], _ => none
  | p :: r, b => if p.1 = b then some p.2 else lk r b
theorem lk_cons (p : Nat × Nat) (r : List (Nat × Nat)) (b : Nat) : lk (p :: r) b = if p.1 = b then some p.2 else lk r b := rfl
/-- The map with one more entry. -/
def mput : List (Nat × Nat) → Nat → Nat → List (Nat × Nat)
  | [], b, g => [(b, g)]
  | p :: r, b, g => if b < p.1 then (b, g) :: p :: r else if b = p.1 then (b, g) :: r else p :: mput r b g
theorem mput_mem : ∀ {m : List (Nat × Nat)} {b g : Nat} {p : Nat × Nat}, p ∈ mput m b g → p = (b, g) ∨ p ∈ m
  | [], b, g, p, h => by simp [mput] at h; exact Or.inl h
  | q :: r, b, g, p, h => by
    unfold mput at h
    split at h
    · rcases List.mem_cons.1 h with h | h
      · exact Or.inl h
      · exact Or.inr h
    · split at h
      · rcases List.mem_cons.1 h with h | h
        · exact Or.inl h
        · exact Or.inr (List.mem_cons_of_mem _ h)
      · rcases List.mem_cons.1 h with h | h
        · exact Or.inr (by rw [h]; simp)
        · rcases mput_mem h with h | h
          · exact Or.inl h
          · exact Or.inr (List.mem_cons_of_mem _ h)
theorem mput_rising : ∀ {m : List (Nat × Nat)} (b g : Nat), Rising m → Rising (mput m b g)
  | [], b, g, _ => by simp [mput, Rising]
  | q :: r, b, g, h => by
    obtain ⟨h1, h2⟩ := List.pairwise_cons.1 h
    unfold mput
    split
    · refine List.pairwise_cons.2 ⟨fun p hp => ?_, h⟩
      rcases List.mem_cons.1 hp with rfl | hp
      · assumption
      · have := h1 p hp; omega
    · split
      · rename_i hb
        exact List.pairwise_cons.2 ⟨fun p hp => by have := h1 p hp; simp only; omega, h2⟩
      · refine List.pairwise_cons.2 ⟨fun p hp => ?_, mput_rising b g h2⟩
        rcases mput_mem hp with rfl | hp
        · simp only; omega
        · exact h1 p hp
theorem lk_mput : ∀ (m : List (Nat × Nat)) (b g x : Nat), Rising m → lk (mput m b g) x = if b = x then some g else lk m x
  | [], b, g, x, _ => by simp [mput, lk]
  | q :: r, b, g, x, h => by
    obtain ⟨h1, h2⟩ := List.pairwise_cons.1 h
    unfold mput
    split
    · simp [lk]
    · split
      · rename_i h3 h4
        subst h4
        by_cases e : q.1 = x
        · simp [lk, e]
        · simp [lk, e]
      · rename_i h3 h4
        have ih := lk_mput r b g x h2
        by_cases e : q.1 = x
        · have : ¬ b = x := by omega
          simp [lk, e, this]
        · simp [lk, e, ih]
theorem lk_none {m : List (Nat × Nat)} {b : Nat} (h : ∀ p ∈ m, p.1 ≠ b) : lk m b = none := by
  induction m with
  | nil => rfl
  | cons q r ih => unfold lk; rw [if_neg (h q (by simp))]; exact ih (fun p hp => h p (by simp [hp]))
theorem lk_mem {m : List (Nat × Nat)} (hr : Rising m) {p : Nat × Nat} (h : p ∈ m) : lk m p.1 = some p.2 := by
  induction m with
  | nil => cases h
  | cons q r ih =>
    obtain ⟨h1, h2⟩ := List.pairwise_cons.1 hr
    unfold lk
    rcases List.mem_cons.1 h with rfl | h
    · rw [if_pos rfl]
    · rw [if_neg (by have := h1 p h; omega)]; exact ih h2 h
theorem mem_lk {m : List (Nat × Nat)} {b g : Nat} (h : lk m b = some g) : (b, g) ∈ m := by
  induction m with
  | nil => cases h
  | cons q r ih =>
    unfold lk at h
    split at h
    · rename_i e; cases h; subst e; simp
    · exact List.mem_cons_of_mem _ (ih h)
theorem mD_canon {m : List (Nat × Nat)} (h : Rising m) : Canon (mD m) := by
  refine ⟨_, rfl, ?_, ?_⟩
  · rw [List.pairwise_map]
    exact h.imp (fun {p q} hpq => by simp [Lit.before]; omega)
  · intro p hp
    obtain ⟨q, _, rfl⟩ := List.mem_map.1 hp
    exact trivial
theorem mD_has (m : List (Nat × Nat)) (k : Lit) : has (mD m) k = m.any (fun p => (Lit.int .i64 p.1).sameKey k) := by
  simp [mD, has_eq, List.any_map, Function.comp_def]
theorem mD_has_int (m : List (Nat × Nat)) (b : Nat) : has (mD m) (.int .i64 b) = (lk m b).isSome := by
  rw [mD_has]
  induction m with
  | nil => rfl
  | cons q r ih =>
    rw [List.any_cons, ih, lk_cons]
    by_cases e : q.1 = b
    · rw [if_pos e]; simp [Lit.sameKey, e]
    · rw [if_neg e]
      have : ¬ (q.1 : Int) = b := by omega
      simp [Lit.sameKey, this]
theorem mD_at (m : List (Nat × Nat)) (b : Nat) (z : DataW Value) : (mD m).atKey (.int .i64 b) z = ((lk m b).map (fun g => DataW.held (hv g))).getD z := by
  induction m with
  | nil => rfl
  | cons q r ih =>
    rw [lk_cons]
    by_cases e : q.1 = b
    · rw [if_pos e]
      simp [mD, DataW.atKey, Lit.sameKey, e]
    · rw [if_neg e, ← ih]
      have : ¬ (q.1 : Int) = b := by omega
      simp [mD, DataW.atKey, Lit.sameKey, this]
theorem key_int (b : Nat) : WideAt.IsKeyLit (Lit.int .i64 (b : Int)) := trivial
theorem mD_put {m : List (Nat × Nat)} (hr : Rising m) (b g : Nat) (hc : Canon ((mD m).put (.int .i64 b) (.held (hv g)))) : (mD m).put (.int .i64 b) (.held (hv g)) = mD (mput m b g) := by
  have hM : IsMap (mD m) := ⟨_, rfl⟩
  have hr2 := mput_rising b g hr
  have other : ∀ k : Lit, k ≠ .int .i64 b → has (mD (mput m b g)) k = has (mD m) k := fun k hk => by
    rw [Bool.eq_iff_iff, mD_has, mD_has, List.any_eq_true, List.any_eq_true]
    constructor
    · rintro ⟨p, hp, hs⟩
      rcases mput_mem hp with rfl | hp
      · exact absurd hs (by rw [sameKey_ne (fun e => hk e.symm)]; decide)
      · exact ⟨p, hp, hs⟩
    · rintro ⟨p, hp, hs⟩
      have : lk (mput m b g) p.1 = some p.2 := by
        rw [lk_mput m b g p.1 hr, lk_mem hr hp]
        rw [if_neg (fun e => ?_)]
        subst e
        exact absurd hs (by rw [sameKey_ne (fun e => hk e.symm)]; decide)
      exact ⟨_, mem_lk this, hs⟩
  refine Maps.ext hc (mD_canon hr2) (fun k => ?_) (fun k z hk => ?_)
  · by_cases e : k = .int .i64 b
    · subst e
      rw [has_put_same hM (key_int b), mD_has_int, lk_mput m b g b hr, if_pos rfl]; rfl
    · rw [has_put_other e, other k e]
  · by_cases e : k = .int .i64 b
    · subst e
      rw [atKey_put_same hM (key_int b), mD_at, lk_mput m b g b hr, if_pos rfl]; rfl
    · rw [atKey_put_other e]
      rw [has_put_other e, mD_has, List.any_eq_true] at hk
      obtain ⟨p, hp, hs⟩ := hk
      have hkk : k = .int .i64 p.1 := by
        rcases k with _ | ⟨q, x⟩ | _ <;> simp [Lit.sameKey] at hs
        obtain ⟨rfl, rfl⟩ := hs; rfl
      subst hkk
      have hpb : ¬ b = p.1 := fun h => e (by rw [h])
      rw [mD_at, mD_at, lk_mput m b g p.1 hr, if_neg hpb]
/-- A map in memory. -/
structure Mp (w : World) (bm n : Nat) (m : List (Nat × Nat)) : Prop where
  own : w.ownsMap Tryz.prog 3 RV bm n (mD m)
  ris : Rising m
theorem Mp.turns {F : Nat → Prop} {w w' : World} {bm n : Nat} {m : List (Nat × Nat)} (h : Mp w bm n m) (t : Turns F w w') (hF : ¬ F bm) : Mp w' bm n m := ⟨map_turns h.own t hF, h.ris⟩
theorem Mp.len {w : World} {bm n : Nat} {m : List (Nat × Nat)} (h : Mp w bm n m) : m.length ≤ n := by
  have := h.own.size_le
  simpa [mD, Maps.size_eq] using this
theorem Mp.lt {w : World} {bm n : Nat} {m : List (Nat × Nat)} (h : Mp w bm n m) : bm < w.heap.size := h.own.lt
end Go.Proofs.YtlcjkbhcbiggcaaGreatDoor

/- A journal in memory; found by its contract. -/
namespace Go.Proofs.YtlcjkbhcbiggcaaGreatDoor
open Go.RowKit Go.Maps
set_option maxRecDepth 100000

/-- A journal's own block. -/
def Jb (w : World) (jb d st sz : Nat) (seq place free : Int) (bm : Nat) (op : Option Nat) : Prop :=
  w.heap[jb]? = some (.cells #[.pointer (some ⟨d, 0, none⟩), .int .i64 st, .int .i64 sz, .int .i64 seq, .int .i64 place, .int .i64 free, .map (some bm), .pointer (op.map fun t => ⟨t, 0, none⟩), .bool false] 169)
theorem wkread_ok {w : World} {d wb : Nat} {S : DevS} {k N : Nat} {G : Nat → Prop} (hD : Dev w d 0 S k N G) (hW : Wk w wb d .nilIface) (hwF : ¬ G wb) (ho : S.off = false) (b : Nat) (hb : b < k) :
    Calls Tryz.prog 167 #[.pointer (some ⟨wb, 0, none⟩), .int .i64 b] w fun e w' => ∃ g, e = .returned (hv g) ∧ w.heap.size ≤ g ∧ w'.heap[g]? = some (bl (rdB S b)) ∧ Wk w' wb d .nilIface ∧ Dev w' d 0 S k N G ∧ Turns (fun i => G i ∨ i = wb) w w' := by
  have hE : rkE 0 S k b = 0 := by unfold rkE rdE; rw [if_pos rfl, if_neg (fun q => q ⟨by omega, by omega⟩), if_neg (by simp [ho])]
  have hR : rkD 0 S k b = rdB S b := by unfold rkD; rw [if_pos hE]; rfl
  refine (wkread_any hD hW (Or.inl ⟨rfl, rfl⟩) hwF b).mono ?_
  rintro e w' ⟨g, rfl, hg, hb', ev, hev, k1, d1, t1⟩
  rw [hE] at hev
  rw [hR] at hb'
  obtain ⟨_, rfl⟩ := hev.resolve_right (fun h => h.1 rfl)
  exact ⟨g, rfl, hg, hb', k1, d1, t1⟩
theorem Wg.read {w0 w w' : World} {F X G : Nat → Prop} {wb d : Nat} {S : DevS} {k N : Nat} (h : Wg w0 w F X wb d S k N) (hG : ∀ i, G i → F i ∨ w0.heap.size ≤ i) (hX : ∀ i, X i → ¬ G i) (k1 : Wk w' wb d .nilIface) (d1 : Dev w' d 0 S k N G) (t1 : Turns (fun i => G i ∨ i = wb) w w') (d0 : Dev w d 0 S k N G) :
    Wg w0 w' F (fun i => X i ∨ (w.heap.size ≤ i ∧ i < w'.heap.size)) wb d S k N ∧ ∀ g o, X g → g ≠ wb → w.heap[g]? = some o → w'.heap[g]? = some o :=
  ⟨⟨k1, ⟨G, d1, hG, fun i hi r => hi.elim (fun hi => hX i hi r) (fun hi => by have := d0.lt i r; omega)⟩, fun i hi => hi.elim (fun hi => Nat.lt_of_lt_of_le (h.xl i hi) t1.size) (fun hi => hi.2), Or.inl h.xw, h.tr.trans t1 (fun i hi r => r.elim (fun r => (hG i r).elim Or.inl (fun r => by omega)) Or.inr), h.nw⟩,
    fun g o hg hn ho => (t1.block g (h.xl g hg) (fun r => r.elim (hX g hg) hn)).trans ho⟩
set_option maxHeartbeats 4000000 in
theorem found_ok {w0 w : World} {F X : Nat → Prop} {wb d : Nat} {S : DevS} {k N : Nat} {er : Nat → Addr} (h : Wg w0 w F X wb d S k N) (st sz : Nat) (h1 : 27 ≤ sz) (h2 : st + sz ≤ k) (hk : k ≤ 4096) (ho : S.off = false) (hEF : ∀ w', Turns (fun i => F i ∨ i = wb) w0 w' → Errs w' er) (hb : (rdB S st).length = 512) (hy : ∀ x ∈ rdB S st, 0 ≤ x ∧ x ≤ 255) (seq place : Int) (hh : (hdR (rdB S st) (sz - 1)).1.1 = seq ∧ (hdR (rdB S st) (sz - 1)).2.1.1 = place) (hok : hdOk (rdB S st) (sz - 1) = true) :
    Calls Tryz.prog 134 #[rgV d st sz, .pointer (some ⟨wb, 0, none⟩)] w fun e w' => ∃ jb bm, e = .returned (.pointer (some ⟨jb, 0, none⟩)) ∧ w.heap.size ≤ jb ∧ w.heap.size ≤ bm ∧ Jb w' jb d st sz seq place (sz - 1) bm none ∧ Mp w' bm 0 [] ∧ Wg w0 w' F (fun i => X i ∨ (w.heap.size ≤ i ∧ i < w'.heap.size)) wb d S k N ∧ ∀ g o, X g → g ≠ wb → w.heap[g]? = some o → w'.heap[g]? = some o := by
  obtain ⟨W, hW⟩ : ∃ W, w.alloc (.cells #[.pointer (some ⟨d, 0, none⟩), .int .i64 st, .int .i64 sz] 118) = W := ⟨_, rfl⟩
  have hbW : Below w.heap.size w W := by rw [← hW]; exact (Below.refl _ w).alloc (Nat.le_refl _) _
  have x0 : W.cell? ⟨w.heap.size, 0, none⟩ = some (.pointer (some ⟨d, 0, none⟩)) := by rw [← hW]; simp
  have x1 : W.cell? ⟨w.heap.size, 1, none⟩ = some (.int .i64 st) := by rw [← hW]; simp
  have x2 : W.cell? ⟨w.heap.size, 2, none⟩ = some (.int .i64 sz) := by rw [← hW]; simp
  have hs : W.heap.size = w.heap.size + 1 := by rw [← hW]; simp
  have g1 := h.add hbW
  obtain ⟨G, D, hG, hX⟩ := g1.dv
  go_enter Tryz.func134, Tryz.ntmps134
  go_wp2_with fail
  try rw [hW]
  have hnb : w.heap.size ≠ wb := fun e => by have := h.xl wb h.xw; omega
  have hXr : ¬ G w.heap.size := hX _ (Or.inr ⟨Nat.le_refl _, by omega⟩)
  go_region_held3 (fun w' => w'.cell? ⟨w.heap.size, 0, none⟩ = some (.pointer (some ⟨d, 0, none⟩)) ∧ w'.cell? ⟨w.heap.size, 1, none⟩ = some (.int .i64 st) ∧ w'.cell? ⟨w.heap.size, 2, none⟩ = some (.int .i64 sz))
    (first | exact ⟨x0, x1, x2⟩ | exact ⟨y0, y1, y2⟩ | exact ⟨u0, u1, u2⟩ | exact ⟨v0, v1, v2⟩)
    (first
      | (go_at_call 167; refine (wkread_ok D.drew g1.wk (hX wb g1.xw) ho st (by omega)).mono ?_; rintro e w1 ⟨gr, rfl, lr, br, k1, d1, t1⟩; have t1 := Turns.fromDrew t1; have old : ∀ j v, W.cell? ⟨w.heap.size, j, none⟩ = some v → w1.cell? ⟨w.heap.size, j, none⟩ = some v := fun j v h => (World.cell?_of_block (t1.block w.heap.size (by omega) (fun r => r.elim hXr hnb))).trans h; have y0 := old 0 _ x0; have y1 := old 1 _ x1; have y2 := old 2 _ x2; have lr : W.heap.size ≤ gr := lr)
      | (go_at_call 69; refine (places_any d st sz _ (by omega)).mono ?_; rintro e w2 ⟨rfl, b2⟩; have u0 := cell_later b2 y0; have u1 := cell_later b2 y1; have u2 := cell_later b2 y2; have br2 := (b2.block gr (heap_lt br)).trans br; have E2 : Errs w2 er := (hEF w1 ((g1.tr.trans t1 (fun i hi r => r.elim (fun r => (hG i r).elim Or.inl (fun r => by omega)) Or.inr)))).below b2 (Nat.le_refl _))
      | (go_at_call 185; refine (headOf_any gr _ (sz - 1) er _ br2 hb hy E2 (by omega)).mono ?_; rintro e w3 ⟨rfl, b3⟩; have v0 := cell_later b3 u0; have v1 := cell_later b3 u1; have v2 := cell_later b3 u2))
  obtain ⟨gA, kA⟩ := g1.read hG hX k1 d1 t1 D
  have gB := (gA.add b2).add b3
  have kB : ∀ g o, X g → g ≠ wb → w.heap[g]? = some o → w3.heap[g]? = some o := fun g o hg hn hgo => by
    have q1 := kA g o (Or.inl hg) hn ((hbW.block g (h.xl g hg)).trans hgo)
    have q2 := (b2.block g (heap_lt q1)).trans q1
    exact (b3.block g (heap_lt q2)).trans q2
  have sz3 : w.heap.size < w3.heap.size := by
    have := t1.size; have := b2.size; have := b3.size; omega
  have gC : Wg w0 w3 F (fun i => X i ∨ (w.heap.size ≤ i ∧ i < w3.heap.size)) wb d S k N := gB.less (fun i hi => by
    have := t1.size; have := b2.size; have := b3.size
    rcases hi with hi | hi
    · exact Or.inl (Or.inl (Or.inl (Or.inl hi)))
    · by_cases c1 : i < W.heap.size
      · exact Or.inl (Or.inl (Or.inl (Or.inr ⟨hi.1, c1⟩)))
      · by_cases c2 : i < w1.heap.size
        · exact Or.inl (Or.inl (Or.inr ⟨by omega, c2⟩))
        · by_cases c3 : i < w2.heap.size
          · exact Or.inl (Or.inr ⟨by omega, c3⟩)
          · exact Or.inr ⟨by omega, hi.2⟩) (Or.inl h.xw)
  have e0 := gC.wk.c0
  have e1 := gC.wk.c1
  clear gA kA gB b2 b3 t1 k1 d1 D hG hX g1 x0 x1 x2 y0 y1 y2 u0 u1 u2 old br br2 E2
  go_wp2_with fail
  have HF : Hid (∀ (w5 : World) (jb bm : Nat) {e : Ending}, e = .returned (.pointer (some ⟨jb, 0, none⟩)) → Below w3.heap.size w3 w5 → w3.heap.size ≤ jb → w3.heap.size ≤ bm → Jb w5 jb d st sz seq place (sz - 1) bm none → Mp w5 bm 0 [] → ∃ jb bm, e = .returned (.pointer (some ⟨jb, 0, none⟩)) ∧ w.heap.size ≤ jb ∧ w.heap.size ≤ bm ∧ Jb w5 jb d st sz seq place (sz - 1) bm none ∧ Mp w5 bm 0 [] ∧ Wg w0 w5 F (fun i => X i ∨ (w.heap.size ≤ i ∧ i < w5.heap.size)) wb d S k N ∧ ∀ g o, X g → g ≠ wb → w.heap[g]? = some o → w5.heap[g]? = some o) := fun w5 jb bm e he b hj hm hJ hM => by
    refine ⟨jb, bm, he, by omega, by omega, hJ, hM, (gC.add b).less (fun i hi => ?_) (Or.inl h.xw), fun g o hg hn hgo => ?_⟩
    · rcases hi with hi | hi
      · exact Or.inl (Or.inl hi)
      · by_cases c : i < w3.heap.size
        · exact Or.inl (Or.inr ⟨hi.1, c⟩)
        · exact Or.inr ⟨by omega, hi.2⟩
    · have q := kB g o hg hn hgo
      exact (b.block g (heap_lt q)).trans q
  have hmm := fun (w : World) => run_makeMap (P := Tryz.prog) 96 w
  have al : ∀ (U : World) (o : Obj) j v, U.cell? ⟨w.heap.size, j, none⟩ = some v → (U.alloc o).cell? ⟨w.heap.size, j, none⟩ = some v := fun U o j v q => (((Below.refl _ U).alloc (Nat.le_refl _) o).cell (World.block_lt_of_cell? U _ q)).trans q
  go_region_held3 (fun w' => w'.cell? ⟨w.heap.size, 0, none⟩ = some (.pointer (some ⟨d, 0, none⟩)) ∧ w'.cell? ⟨w.heap.size, 1, none⟩ = some (.int .i64 st) ∧ w'.cell? ⟨w.heap.size, 2, none⟩ = some (.int .i64 sz))
    (first | exact ⟨v0, v1, v2⟩ | exact ⟨y0, y1, y2⟩ | exact ⟨al _ _ _ _ v0, al _ _ _ _ v1, al _ _ _ _ v2⟩ | exact ⟨al _ _ _ _ y0, al _ _ _ _ y1, al _ _ _ _ y2⟩ | exact ⟨al _ _ _ _ (al _ _ _ _ y0), al _ _ _ _ (al _ _ _ _ y1), al _ _ _ _ (al _ _ _ _ y2)⟩)
    (first
      | (go_at_call 69; refine (places_any d st sz _ (by omega)).mono ?_; rintro e w4 ⟨rfl, b4⟩; have y0 := cell_later b4 (by first | exact v0 | exact al _ _ _ _ v0); have y1 := cell_later b4 (by first | exact v1 | exact al _ _ _ _ v1); have y2 := cell_later b4 (by first | exact v2 | exact al _ _ _ _ v2)))
  · have b4 := Below.fromDrew b4
    have hs4 := b4.size
    have hM := (World.ownsMap_made w4 Tryz.prog 3 RV).alloc (.cells #[.pointer (some ⟨d, 0, none⟩), .int .i64 st, .int .i64 sz, .int .i64 seq, .int .i64 place, .int .i64 (sz - 1), .map (some w4.heap.size), .pointer none, .bool false] 169)
    have bb : Below w3.heap.size w3 ((w4.alloc (.map #[] 0)).alloc (.cells #[.pointer (some ⟨d, 0, none⟩), .int .i64 st, .int .i64 sz, .int .i64 seq, .int .i64 place, .int .i64 (sz - 1), .map (some w4.heap.size), .pointer none, .bool false] 169)) := (b4.alloc hs4 _).alloc (by simp; omega) _
    have hJ := (MapKept.heap_alloc (w4.alloc (.map #[] 0)) (.cells #[.pointer (some ⟨d, 0, none⟩), .int .i64 st, .int .i64 sz, .int .i64 seq, .int .i64 place, .int .i64 (sz - 1), .map (some w4.heap.size), .pointer none, .bool false] 169)).1
    rw [show (w4.alloc (.map #[] 0)).heap.size = w4.heap.size + 1 by simp] at hJ
    go_wp2
    go_ret
    exact HF.out _ _ _ rfl bb (by omega) hs4 hJ ⟨hM, List.Pairwise.nil⟩
  · have b4 := Below.fromDrew b4
    have hs4 : w3.heap.size + 1 ≤ w4.heap.size := by have := b4.size; simpa using this
    have hM0 := World.ownsMap_made w3 Tryz.prog 3 RV
    have hM := (map_turns hM0 (Below.turns b4 (fun _ => False)) id).alloc (.cells #[.pointer (some ⟨d, 0, none⟩), .int .i64 st, .int .i64 sz, .int .i64 seq, .int .i64 place, .int .i64 (sz - 1), .map (some w3.heap.size), .pointer none, .bool false] 169)
    have bb : Below w3.heap.size w3 (w4.alloc (.cells #[.pointer (some ⟨d, 0, none⟩), .int .i64 st, .int .i64 sz, .int .i64 seq, .int .i64 place, .int .i64 (sz - 1), .map (some w3.heap.size), .pointer none, .bool false] 169)) := (((Below.refl _ w3).alloc (Nat.le_refl _) _).trans (b4.mono (by simp))).alloc (by omega) _
    have hJ := (MapKept.heap_alloc w4 (.cells #[.pointer (some ⟨d, 0, none⟩), .int .i64 st, .int .i64 sz, .int .i64 seq, .int .i64 place, .int .i64 (sz - 1), .map (some w3.heap.size), .pointer none, .bool false] 169)).1
    go_wp2
    go_ret
    exact HF.out _ _ _ rfl bb (by omega) (Nat.le_refl _) hJ ⟨hM, List.Pairwise.nil⟩
end Go.Proofs.YtlcjkbhcbiggcaaGreatDoor

/- What stands in an empty log: linesOf at a block that is no descriptor, next, takeUp; Open of a journal that was just formatted. -/
namespace Go.Proofs.YtlcjkbhcbiggcaaGreatDoor
open Go.RowKit Go.Maps
set_option maxRecDepth 100000

set_option maxHeartbeats 4000000 in
theorem linesOf_none (g : Nat) (bs : List Int) (seq : Int) (er : Nat → Addr) (w : World) (hg : w.heap[g]? = some (bl bs)) (hl : bs.length = 512) (hby : ∀ x ∈ bs, 0 ≤ x ∧ x ≤ 255) (hE : Errs w er) (hb : begs bs [65, 78, 88, 68] = false) :
    Calls Tryz.prog 238 #[hv g, .int .i64 seq] w fun e w' => e = .returned (.slice none 0 0) ∧ Below w.heap.size w w' := by
  have hL := Lies.cut (n := 508) hg hl 4 (by omega) 508 (by omega)
  have hq : ∀ x ∈ (bs.drop 4).take 508, 0 ≤ x ∧ x ≤ 255 := fun x hx => hby x (List.mem_of_mem_drop (List.mem_of_mem_take hx))
  go_enter Tryz.func238, Tryz.ntmps238
  go_wp2_with fail
  refine (newReader_any (some ⟨g, 4, none⟩) 508 508 _ w (by omega) hL).mono ?_
  rintro e w1 ⟨rb, rg, rfl, hR, hrb, hrg, b1⟩
  have E1 := hE.below b1 (Nat.le_refl _)
  go_wp2_with fail
  refine (u32_any rb rg 508 508 0 0 24 _ er w1 hR E1 (by omega) (by omega) hq (by omega)).mono ?_
  rintro e w2 ⟨rfl, W2⟩
  have b2 := W2.below b1 hrb b1.size
  have E2 := hE.below b2 (Nat.le_refl _)
  have le2 : (rdNum 4 508 ((bs.drop 4).take 508) 0 0 24).2.1 ≤ 508 := rdNum_le (by omega)
  generalize rdNum 4 508 ((bs.drop 4).take 508) 0 0 24 = A at *
  have R2 := W2.1
  go_wp2_with fail
  refine (u64_any rb rg 508 508 A.2.1 A.2.2 9223372036854775807 _ er w2 R2 E2 le2 (by omega) hq (by omega)).mono ?_
  rintro e w3 ⟨rfl, W3⟩
  have b3 := W3.below b2 hrb b2.size
  have g3 := (b3.block g (heap_lt hg)).trans hg
  generalize rdNum 8 508 ((bs.drop 4).take 508) A.2.1 A.2.2 9223372036854775807 = B at *
  have m1 := begins_any g 512 512 bs [65, 78, 88, 68] ⟨#[65, 78, 88, 68]⟩ w3 (Lies.full g3 hl) (by omega) (by omega) hby (by decide) (by rfl)
  rw [hb] at m1
  clear W2 W3 R2 E1 E2 hR
  go_wp2_with fail
  refine m1.mono ?_
  rintro e wn ⟨rfl, hwn⟩
  subst wn
  go_wp2
  go_ret
  exact ⟨rfl, b3⟩
end Go.Proofs.YtlcjkbhcbiggcaaGreatDoor

/- Open of a journal that was just formatted: at, next, checkpoint, takeUp, Open by their contracts there. -/
namespace Go.Proofs.YtlcjkbhcbiggcaaGreatDoor
open Go.RowKit Go.Maps
set_option maxRecDepth 100000

structure JbC (w : World) (jb d st sz : Nat) (seq place free : Int) (bm : Nat) (op : Option Nat) : Prop where
  c0 : w.cell? ⟨jb, 0, none⟩ = some (.pointer (some ⟨d, 0, none⟩))
  c1 : w.cell? ⟨jb, 1, none⟩ = some (.int .i64 st)
  c2 : w.cell? ⟨jb, 2, none⟩ = some (.int .i64 sz)
  c3 : w.cell? ⟨jb, 3, none⟩ = some (.int .i64 seq)
  c4 : w.cell? ⟨jb, 4, none⟩ = some (.int .i64 place)
  c5 : w.cell? ⟨jb, 5, none⟩ = some (.int .i64 free)
  c6 : w.cell? ⟨jb, 6, none⟩ = some (.map (some bm))
  c7 : w.cell? ⟨jb, 7, none⟩ = some (.pointer (op.map fun t => ⟨t, 0, none⟩))
  c8 : w.cell? ⟨jb, 8, none⟩ = some (.bool false)
  fz : ∀ j, w.frozen? ⟨jb, j, none⟩ = false
theorem Jb.cells {w : World} {jb d st sz : Nat} {seq place free : Int} {bm : Nat} {op : Option Nat} (h : Jb w jb d st sz seq place free bm op) : JbC w jb d st sz seq place free bm op := by
  unfold Jb at h
  constructor
  all_goals first | (intro j; simp [World.frozen?, h]) | simp [World.cell?, h]
theorem at_two (d : Nat) (st sz : Nat) (p q : Nat) (w : World) (h : 2 ≤ sz ∧ sz ≤ 4096) (hst : st ≤ 4096) (hp : p + q ≤ 1099511627776) : Calls Tryz.prog 71 #[rgV d st sz, .int .i64 (IntKind.i64.wrap ((p : Int) + (q : Int)))] w fun e w' => e = .returned (.int .i64 (st + 1 + (p + q) % (sz - 1) : Nat)) ∧ Below w.heap.size w w' := by
  have := at_any d st sz (p + q) w h hst hp
  rw [Go.IntWalk.i64_in _ ⟨by omega, by omega⟩]
  rwa [Int.natCast_add] at this
set_option maxHeartbeats 1000000 in
theorem jat_any {w : World} {jb d st sz : Nat} {seq free : Int} {place bm : Nat} {op : Option Nat} (h : Jb w jb d st sz seq place free bm op) (h1 : 2 ≤ sz ∧ sz ≤ 4096) (h2 : st ≤ 4096) (b : Nat) (hp : place ≤ 4096) (hb : b ≤ 4096) :
    Calls Tryz.prog 202 #[.pointer (some ⟨jb, 0, none⟩), .int .i64 b] w fun e w' => e = .returned (.int .i64 (st + 1 + (place + b) % (sz - 1) : Nat)) ∧ Below w.heap.size w w' := by
  obtain ⟨c0, c1, c2, c3, c4, c5, c6, c7, c8, fz⟩ := h.cells
  go_enter Tryz.func202, Tryz.ntmps202
  go_wp2_with fail
  go_region_held3 (fun w' => w'.cell? ⟨jb, 0, none⟩ = some (.pointer (some ⟨d, 0, none⟩)) ∧ w'.cell? ⟨jb, 1, none⟩ = some (.int .i64 st) ∧ w'.cell? ⟨jb, 2, none⟩ = some (.int .i64 sz) ∧ w'.cell? ⟨jb, 4, none⟩ = some (.int .i64 place))
    (first | exact ⟨c0, c1, c2, c4⟩ | exact ⟨y0, y1, y2, y4⟩)
    (first
      | (go_at_call 71; refine (at_two d st sz place b _ h1 h2 (by omega)).mono ?_; rintro e w1 ⟨rfl, b1⟩; have y0 := cell_later b1 c0; have y1 := cell_later b1 c1; have y2 := cell_later b1 c2; have y4 := cell_later b1 c4))
  go_wp2
  go_ret
  exact ⟨rfl, Below.fromDrew b1⟩
end Go.Proofs.YtlcjkbhcbiggcaaGreatDoor

/- next at a place where no transaction stands; checkpoint of nothing; takeUp of nothing. -/
namespace Go.Proofs.YtlcjkbhcbiggcaaGreatDoor
open Go.RowKit Go.Maps
set_option maxRecDepth 100000

/-- Blocks of X that are not the work's are as they were. -/
def Kept (w w' : World) (X : Nat → Prop) (wb : Nat) : Prop := ∀ g o, X g → g ≠ wb → w.heap[g]? = some o → w'.heap[g]? = some o
theorem Kept.trans {a b c : World} {X : Nat → Prop} {wb : Nat} (h : Kept a b X wb) (k : Kept b c X wb) : Kept a c X wb := fun g o hg hn ho => k g o hg hn (h g o hg hn ho)
theorem Kept.below {a b : World} (h : Below a.heap.size a b) (X : Nat → Prop) (wb : Nat) : Kept a b X wb := fun g _ _ _ ho => (h.block g (heap_lt ho)).trans ho
set_option maxHeartbeats 1000000 in
theorem next_none {w0 w : World} {F X : Nat → Prop} {wb d : Nat} {S : DevS} {k N : Nat} {er : Nat → Addr} (h : Wg w0 w F X wb d S k N) {jb st sz : Nat} {seq free : Int} {place bm : Nat} {op : Option Nat} (hJ : Jb w jb d st sz seq place free bm op) (hXj : X jb) (hjw : jb ≠ wb) (h1 : 2 ≤ sz ∧ sz ≤ 4096) (h2 : st + sz ≤ k) (hk : k ≤ 4096) (hp : place ≤ 4096) (ho : S.off = false) (hEF : ∀ w', Turns (fun i => F i ∨ i = wb) w0 w' → Errs w' er)
    (hb : (rdB S (st + 1 + place % (sz - 1))).length = 512) (hy : ∀ x ∈ rdB S (st + 1 + place % (sz - 1)), 0 ≤ x ∧ x ≤ 255) (hd : begs (rdB S (st + 1 + place % (sz - 1))) [65, 78, 88, 68] = false) :
    Calls Tryz.prog 186 #[.pointer (some ⟨jb, 0, none⟩), .pointer (some ⟨wb, 0, none⟩)] w fun e w' => e = .returned (.map none) ∧ Wg w0 w' F X wb d S k N ∧ Kept w w' X wb := by
  obtain ⟨c0, c1, c2, c3, c4, c5, c6, c7, c8, fz⟩ := hJ.cells
  obtain ⟨P, hP⟩ : ∃ P, st + 1 + place % (sz - 1) = P := ⟨_, rfl⟩
  have hPk : P < k := by
    have := Nat.mod_lt place (by omega : 0 < sz - 1)
    omega
  rw [hP] at hb hy hd
  have m0 : ∀ w', Jb w' jb d st sz seq place free bm op → Calls Tryz.prog 202 #[.pointer (some ⟨jb, 0, none⟩), .int .i64 0] w' fun e w'' => e = .returned (.int .i64 P) ∧ Below w'.heap.size w' w'' := fun w' hj => by
    refine Calls.mono (jat_any hj h1 (by omega) 0 hp (by omega)) ?_
    rintro e w'' ⟨rfl, hb⟩
    exact ⟨by rw [← hP]; rfl, hb⟩
  go_enter Tryz.func186, Tryz.ntmps186
  go_wp2_with fail
  go_region_held3 (fun w' => w'.cell? ⟨jb, 3, none⟩ = some (.int .i64 seq))
    (first | exact c3 | exact y3 | exact u3 | exact v3)
    (first
      | (go_at_call 202; refine (m0 w.drew hJ).mono ?_; rintro e w1 ⟨rfl, b1⟩; have b1 := Below.fromDrew b1; have y3 := cell_later b1 c3; have g1 := h.below b1; obtain ⟨G, D, hG, hX⟩ := g1.dv; have j1 := (b1.block jb (heap_lt hJ)).trans hJ)
      | (go_at_call 167; refine (wkread_ok D g1.wk (hX wb g1.xw) ho P hPk).mono ?_; rintro e w2 ⟨gr, rfl, lr, br, k2, d2, t2⟩; obtain ⟨g2, kp2⟩ := g1.read hG hX k2 d2 t2 D; have j2 := kp2 jb _ hXj hjw j1; have u3 := (Jb.cells j2).c3)
      | (go_at_call 238; refine (linesOf_none gr _ seq er _ br hb hy (hEF _ g2.tr) hd).mono ?_; rintro e w3 ⟨rfl, b3⟩; have v3 := cell_later b3 u3))
  have hfin : Wg w0 w3 F X wb d S k N := (g2.below b3).less (fun i hi => Or.inl hi) h.xw
  have hkp : Kept w w3 X wb := ((Kept.below b1 X wb).trans kp2).trans (Kept.below b3 X wb)
  clear g1 g2 kp2 j1 j2 b1 b3 D hG hX k2 d2 t2 br m0 c0 c1 c2 c3 c4 c5 c6 c7 c8 y3 u3
  go_wp2
  all_goals go_ret
  all_goals exact ⟨rfl, hfin, hkp⟩
theorem checkpoint_none {w : World} {jb d st sz n : Nat} {seq place free : Int} {bm wb : Nat} {op : Option Nat} (hJ : Jb w jb d st sz seq place free bm op) (hM : Mp w bm n []) :
    Calls Tryz.prog 188 #[.pointer (some ⟨jb, 0, none⟩), .pointer (some ⟨wb, 0, none⟩)] w fun e w' => e = .returned (.tuple #[]) ∧ w' = w := by
  obtain ⟨c0, c1, c2, c3, c4, c5, c6, c7, c8, fz⟩ := hJ.cells
  have hown := hM.own
  have hln := fun ty => hown.len Tryz.underlying96 ty
  have hs0 : (Maps.size (mD []) : Int) = 0 := rfl
  go_enter Tryz.func188, Tryz.ntmps188
  go_wp2_with (at_len; refine wpList_len_own _ rfl _ 96 rfl 3 39 Tryz.underlying96 _ bm n _ rfl hown ?_)
  first | go_end0 | refine bodyPost_ret (results_none rfl _ _ _) rfl ?_
  exact ⟨rfl, rfl⟩
end Go.Proofs.YtlcjkbhcbiggcaaGreatDoor

/- takeUp where nothing stands; Open of a journal with an empty log. -/
namespace Go.Proofs.YtlcjkbhcbiggcaaGreatDoor
open Go.RowKit Go.Maps
set_option maxRecDepth 100000

set_option maxHeartbeats 1000000 in
theorem takeUp_none {w0 w : World} {F X : Nat → Prop} {wb d : Nat} {S : DevS} {k N n : Nat} {er : Nat → Addr} (h : Wg w0 w F X wb d S k N) {jb st sz : Nat} {seq free : Int} {place bm : Nat} {op : Option Nat} (hJ : Jb w jb d st sz seq place free bm op) (hM : Mp w bm n []) (hXj : X jb) (hXm : X bm) (hjw : jb ≠ wb) (hmw : bm ≠ wb) (h1 : 2 ≤ sz ∧ sz ≤ 4096) (h2 : st + sz ≤ k) (hk : k ≤ 4096) (hp : place ≤ 4096) (hs : seq ≤ 4611686018427387904) (ho : S.off = false) (hEF : ∀ w', Turns (fun i => F i ∨ i = wb) w0 w' → Errs w' er)
    (hb : (rdB S (st + 1 + place % (sz - 1))).length = 512) (hy : ∀ x ∈ rdB S (st + 1 + place % (sz - 1)), 0 ≤ x ∧ x ≤ 255) (hd : begs (rdB S (st + 1 + place % (sz - 1))) [65, 78, 88, 68] = false) :
    Calls Tryz.prog 135 #[.pointer (some ⟨jb, 0, none⟩), .pointer (some ⟨wb, 0, none⟩)] w fun e w' => e = .returned (.int .i64 0) ∧ Wg w0 w' F X wb d S k N ∧ Kept w w' X wb := by
  have c3 := hJ.cells.c3
  have hln : ∀ (w : World) (ty : TypeId), (Builtin.len_ #[96] ty #[.map none]).run Tryz.prog w = .ok (.int .i64 0) w := fun w ty => Maps.len_nil Tryz.underlying96 ty
  go_enter Tryz.func135, Tryz.ntmps135
  go_wp2_with fail
  go_loopw [5] (fun t wr => t = .int .i64 0 ∧ wr = w) (fun _ _ => 0)
  case atStart => exact ⟨rfl, rfl⟩
  case round =>
    obtain ⟨rfl, rfl⟩ := hrel
    go_wp2_with fail
    refine (next_none h hJ hXj hjw h1 h2 hk hp ho hEF hb hy hd).mono ?_
    rintro e w1 ⟨rfl, g1, kp1⟩
    have j1 : Jb w1 jb d st sz seq place free bm op := kp1 jb _ hXj hjw hJ
    have m1 : Mp w1 bm n [] := by
      obtain ⟨⟨es, cl, hh, r⟩, hr⟩ := hM
      exact ⟨⟨es, cl, kp1 bm _ hXm hmw hh, r⟩, hr⟩
    clear c3
    go_wp2_with fail
    refine (checkpoint_none j1 m1).mono ?_
    rintro e wn ⟨rfl, hwn⟩
    subst wn
    go_wp2
    go_ret
    exact ⟨rfl, g1, kp1⟩
set_option maxHeartbeats 4000000 in
theorem open_empty {w : World} {d : Nat} {S : DevS} {k N : Nat} {F : Nat → Prop} {er : Nat → Addr} (hD : Dev w d 0 S k N F) (st sz : Nat) (h1 : 27 ≤ sz) (h2 : st + sz ≤ k) (ho : S.off = false) (hEF : ∀ w', Turns F w w' → Errs w' er)
    (seq place : Nat) (hh : (hdR (rdB S st) (sz - 1)).1.1 = seq ∧ (hdR (rdB S st) (sz - 1)).2.1.1 = place) (hok : hdOk (rdB S st) (sz - 1) = true) (hp : place ≤ 4096) (hs : seq ≤ 4611686018427387904) (hd : begs (rdB S (st + 1 + place % (sz - 1))) [65, 78, 88, 68] = false)
    (hgB : ∀ b, b < k → (rdB S b).length = 512 ∧ ∀ x ∈ rdB S b, 0 ≤ x ∧ x ≤ 255) :
    Calls Tryz.prog 80 #[.pointer (some ⟨d, 0, none⟩), .int .i64 st, .int .i64 sz] w fun e w' => ∃ jb bm, e = .returned (.tuple #[.pointer (some ⟨jb, 0, none⟩), .int .i64 0, .int .i64 0]) ∧ w.heap.size ≤ jb ∧ w.heap.size ≤ bm ∧ Jb w' jb d st sz seq place (sz - 1) bm none ∧ Mp w' bm 0 [] ∧ (∃ G, Dev w' d 0 S k N G ∧ (∀ i, G i → F i ∨ w.heap.size ≤ i) ∧ ¬ G jb ∧ ¬ G bm) ∧ Turns F w w' := by
  have hF := hD.lt
  have hk := hD.good.top
  obtain ⟨W, hW⟩ : ∃ W, w.alloc (.cells #[.pointer (some ⟨d, 0, none⟩), .int .i64 st, .int .i64 sz] 118) = W := ⟨_, rfl⟩
  have hb : Below w.heap.size w W := by rw [← hW]; exact (Below.refl _ w).alloc (Nat.le_refl _) _
  have x0 : W.cell? ⟨w.heap.size, 0, none⟩ = some (.pointer (some ⟨d, 0, none⟩)) := by rw [← hW]; simp
  have x1 : W.cell? ⟨w.heap.size, 1, none⟩ = some (.int .i64 st) := by rw [← hW]; simp
  have x2 : W.cell? ⟨w.heap.size, 2, none⟩ = some (.int .i64 sz) := by rw [← hW]; simp
  have hs0 : W.heap.size = w.heap.size + 1 := by rw [← hW]; simp
  have hDW := hD.below hb
  have hfit : fitB k st sz = true := by simp [fitB]; omega
  have m1 := fits_any hDW st sz (by omega) (by omega) (by omega)
  rw [hfit] at m1
  go_enter Tryz.func80, Tryz.ntmps80
  go_wp2_with fail
  try rw [hW]
  refine m1.mono ?_
  rintro e w1 ⟨rfl, q1⟩
  have old : ∀ j v, W.cell? ⟨w.heap.size, j, none⟩ = some v → w1.cell? ⟨w.heap.size, j, none⟩ = some v := fun j v h => (World.cell?_of_block (q1.2.block w.heap.size (by omega) (fun r => by have := hF _ r; omega))).trans h
  have y0 := old 0 _ x0
  have y1 := old 1 _ x1
  have y2 := old 2 _ x2
  have s1 := q1.2.size
  have T1 : Turns F w w1 := (Below.turns hb F).trans q1.2 (fun _ _ h => h)
  have HT1 : Hid (Turns F w w1) := T1
  clear x0 x1 x2 old m1
  go_wp2_with fail
  refine (begun_any q1.1).mono ?_
  rintro e w2 ⟨ev, rfl, hev, k2, q2⟩
  have he : begE S = 0 := by unfold begE; rw [if_neg (by simp [ho])]
  rw [he] at hev
  obtain ⟨_, rfl⟩ := hev.resolve_right (fun h => h.1 rfl)
  have hF1 : ∀ i, F i → i < w1.heap.size := fun i r => by have := hF i r; omega
  have g2 := Wg.start hF1 k2 q2
  obtain ⟨wb, hwb⟩ : ∃ wb, w1.heap.size = wb := ⟨_, rfl⟩
  rw [hwb] at g2
  have EF : ∀ w', Turns (fun i => F i ∨ i = wb) w1 w' → Errs w' er := fun w' t => hEF w' (T1.trans (t.mono (G := fun i => F i) (fun i hi r => r.elim id (fun r => by omega))) (fun _ _ h => h))
  have rg : ∀ w', Turns (fun i => F i ∨ i = wb) w1 w' → ∀ j v, w1.cell? ⟨w.heap.size, j, none⟩ = some v → w'.cell? ⟨w.heap.size, j, none⟩ = some v := fun w' t j v h => (World.cell?_of_block (t.block w.heap.size (by omega) (fun r => r.elim (fun r => by have := hF _ r; omega) (fun r => by omega)))).trans h
  have u0 := rg w2 g2.tr 0 _ y0
  have u1 := rg w2 g2.tr 1 _ y1
  have u2 := rg w2 g2.tr 2 _ y2
  have hwl := heap_lt g2.wk
  clear k2 q2 q1 hDW hD hb T1 hW
  go_wp2_with fail
  have hmodl := Nat.mod_lt place (by omega : 0 < sz - 1)
  have hB0 := hgB st (by omega)
  have hB1 := hgB (st + 1 + place % (sz - 1)) (by omega)
  refine (found_ok g2 st sz h1 h2 hk ho EF hB0.1 hB0.2 seq place hh hok).mono ?_
  rintro e w3 ⟨jb, bm, rfl, lj, lm, J3, M3, g3, kp3⟩
  have jw : jb ≠ wb := by omega
  have mw : bm ≠ wb := by omega
  have jl := heap_lt J3
  have ml := M3.lt
  clear u0 u1 u2 kp3 g2
  go_wp2_with fail
  refine (takeUp_none g3 J3 M3 (Or.inr ⟨lj, jl⟩) (Or.inr ⟨lm, ml⟩) jw mw (by omega) h2 hk hp (by omega) ho EF hB1.1 hB1.2 hd).mono ?_
  rintro e w4 ⟨rfl, g4, kp4⟩
  have J4 : Jb w4 jb d st sz seq place (sz - 1) bm none := kp4 jb _ (Or.inr ⟨lj, jl⟩) jw J3
  have M4 : Mp w4 bm 0 [] := by
    obtain ⟨⟨es, cl, hh, r⟩, hr⟩ := M3
    exact ⟨⟨es, cl, kp4 bm _ (Or.inr ⟨lm, ml⟩) mw hh, r⟩, hr⟩
  have e0 := g4.wk.c0
  have e1 := g4.wk.c1
  clear g3 J3 M3 kp4
  go_wp2
  refine bodyPost_ret (results_tmp3 rfl _ _ _) rfl ?_
  obtain ⟨G, D, hG, hX⟩ := g4.dv
  have T4 : Turns F w1 w4 := g4.tr.mono (fun i hi r => r.elim id (fun r => by omega))
  exact ⟨jb, bm, rfl, by omega, by omega, J4, M4, ⟨G, D, fun i hi => (hG i hi).imp id (fun r => by omega), hX jb (Or.inr ⟨lj, jl⟩), hX bm (Or.inr ⟨lm, ml⟩)⟩, HT1.out.trans T4 (fun _ _ h => h)⟩
end Go.Proofs.YtlcjkbhcbiggcaaGreatDoor
