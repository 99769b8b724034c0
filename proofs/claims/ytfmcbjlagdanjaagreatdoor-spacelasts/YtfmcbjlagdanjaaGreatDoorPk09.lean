/- A journal in memory; found by its contract. -/
import Derived.Test.YtfmcbjlagdanjaaGreatDoorPk08
import Derived.Test.YtfmcbjlagdanjaaGreatDoorPk04
import Derived.BigQuiet
namespace Go.Proofs.YtfmcbjlagdanjaaGreatDoor
open Go.RowKit Go.Maps
set_option maxRecDepth 100000

/-- A journal's own block. -/
def Jb (w : World) (jb d st sz : Nat) (seq place free : Int) (bm : Nat) (op : Option Nat) : Prop :=
  w.heap[jb]? = some (.cells #[.pointer (some ⟨d, 0, none⟩), .int .i64 st, .int .i64 sz, .int .i64 seq, .int .i64 place, .int .i64 free, .map (some bm), .pointer (op.map fun t => ⟨t, 0, none⟩), .bool false] 112)
theorem wkread_ok {w : World} {d wb : Nat} {S : DevS} {k N : Nat} {G : Nat → Prop} (hD : Dev w d 0 S k N G) (hW : Wk w wb d .nilIface) (hwF : ¬ G wb) (ho : S.off = false) (b : Nat) (hb : b < k) :
    Calls Tryz.prog 123 #[.pointer (some ⟨wb, 0, none⟩), .int .i64 b] w fun e w' => ∃ g, e = .returned (hv g) ∧ w.heap.size ≤ g ∧ w'.heap[g]? = some (bl (rdB S b)) ∧ Wk w' wb d .nilIface ∧ Dev w' d 0 S k N G ∧ Turns (fun i => G i ∨ i = wb) w w' := by
  have hE : rkE 0 S k b = 0 := by unfold rkE rdE; rw [if_pos rfl, if_neg (fun q => q ⟨by omega, by omega⟩), if_neg (by simp [ho])]
  have hR : rkD 0 S k b = rdB S b := by unfold rkD; rw [if_pos hE]; rfl
  refine (wkread_any hD hW (Or.inl ⟨rfl, rfl⟩) hwF b).mono ?_
  rintro e w' ⟨g, rfl, hg, hb', ev, hev, k1, d1, t1⟩
  rw [hE] at hev
  rw [hR] at hb'
  obtain ⟨_, rfl⟩ := hev.resolve_right (fun h => h.1 rfl)
  exact ⟨g, rfl, hg, hb', k1, d1, t1⟩
theorem Wg.read {w0 w w' : World} {F X G : Nat → Prop} {wb d : Nat} {S : DevS} {k N : Nat} (h : Wg w0 w F X wb d S k N) (hG : ∀ i, G i → F i ∨ w0.heap.size ≤ i) (hX : ∀ i, X i → ¬ G i) (k1 : Wk w' wb d .nilIface) (d1 : Dev w' d 0 S k N G) (t1 : Turns (fun i => G i ∨ i = wb) w w') (d0 : Dev w d 0 S k N G) :
    Wg w0 w' F (fun i => X i ∨ (w.heap.size ≤ i ∧ i < w'.heap.size)) wb d S k N ∧ ∀ g o, X g → g ≠ wb → w.heap[g]? = some o → w'.heap[g]? = some o :=
  ⟨⟨k1, ⟨G, d1, hG, fun i hi r => hi.elim (fun hi => hX i hi r) (fun hi => by have := d0.lt i r; omega)⟩, fun i hi => hi.elim (fun hi => Nat.lt_of_lt_of_le (h.xl i hi) t1.size) (fun hi => hi.2), Or.inl h.xw, h.tr.trans t1 (fun i hi r => r.elim (fun r => (hG i r).elim Or.inl (fun r => by omega)) Or.inr), h.nw⟩,
    fun g o hg hn ho => (t1.block g (h.xl g hg) (fun r => r.elim (hX g hg) hn)).trans ho⟩
set_option maxHeartbeats 4000000 in
theorem found_ok {w0 w : World} {F X : Nat → Prop} {wb d : Nat} {S : DevS} {k N : Nat} {er : Nat → Addr} (h : Wg w0 w F X wb d S k N) (st sz : Nat) (h1 : 27 ≤ sz) (h2 : st + sz ≤ k) (hk : k ≤ 4096) (ho : S.off = false) (hEF : ∀ w', Turns (fun i => F i ∨ i = wb) w0 w' → Errs w' er) (hb : (rdB S st).length = 512) (hy : ∀ x ∈ rdB S st, 0 ≤ x ∧ x ≤ 255) (seq place : Int) (hh : (hdR (rdB S st) (sz - 1)).1.1 = seq ∧ (hdR (rdB S st) (sz - 1)).2.1.1 = place) (hok : hdOk (rdB S st) (sz - 1) = true) :
    Calls Tryz.prog 74 #[rgV d st sz, .pointer (some ⟨wb, 0, none⟩)] w fun e w' => ∃ jb bm, e = .returned (.pointer (some ⟨jb, 0, none⟩)) ∧ w.heap.size ≤ jb ∧ w.heap.size ≤ bm ∧ Jb w' jb d st sz seq place (sz - 1) bm none ∧ Mp w' bm 0 [] ∧ Wg w0 w' F (fun i => X i ∨ (w.heap.size ≤ i ∧ i < w'.heap.size)) wb d S k N ∧ ∀ g o, X g → g ≠ wb → w.heap[g]? = some o → w'.heap[g]? = some o := by
  obtain ⟨W, hW⟩ : ∃ W, w.alloc (.cells #[.pointer (some ⟨d, 0, none⟩), .int .i64 st, .int .i64 sz] 110) = W := ⟨_, rfl⟩
  have hbW : Below w.heap.size w W := by rw [← hW]; exact (Below.refl _ w).alloc (Nat.le_refl _) _
  have x0 : W.cell? ⟨w.heap.size, 0, none⟩ = some (.pointer (some ⟨d, 0, none⟩)) := by rw [← hW]; simp
  have x1 : W.cell? ⟨w.heap.size, 1, none⟩ = some (.int .i64 st) := by rw [← hW]; simp
  have x2 : W.cell? ⟨w.heap.size, 2, none⟩ = some (.int .i64 sz) := by rw [← hW]; simp
  have hs : W.heap.size = w.heap.size + 1 := by rw [← hW]; simp
  have g1 := h.add hbW
  obtain ⟨G, D, hG, hX⟩ := g1.dv
  go_enter Tryz.func74, Tryz.ntmps74
  go_wp2_with fail
  try rw [hW]
  have hnb : w.heap.size ≠ wb := fun e => by have := h.xl wb h.xw; omega
  have hXr : ¬ G w.heap.size := hX _ (Or.inr ⟨Nat.le_refl _, by omega⟩)
  go_region_held3 (fun w' => w'.cell? ⟨w.heap.size, 0, none⟩ = some (.pointer (some ⟨d, 0, none⟩)) ∧ w'.cell? ⟨w.heap.size, 1, none⟩ = some (.int .i64 st) ∧ w'.cell? ⟨w.heap.size, 2, none⟩ = some (.int .i64 sz))
    (first | exact ⟨x0, x1, x2⟩ | exact ⟨y0, y1, y2⟩ | exact ⟨u0, u1, u2⟩ | exact ⟨v0, v1, v2⟩)
    (first
      | (go_at_call 123; refine (wkread_ok D.drew g1.wk (hX wb g1.xw) ho st (by omega)).mono ?_; rintro e w1 ⟨gr, rfl, lr, br, k1, d1, t1⟩; have t1 := Turns.fromDrew t1; have old : ∀ j v, W.cell? ⟨w.heap.size, j, none⟩ = some v → w1.cell? ⟨w.heap.size, j, none⟩ = some v := fun j v h => (World.cell?_of_block (t1.block w.heap.size (by omega) (fun r => r.elim hXr hnb))).trans h; have y0 := old 0 _ x0; have y1 := old 1 _ x1; have y2 := old 2 _ x2; have lr : W.heap.size ≤ gr := lr)
      | (go_at_call 95; refine (places_any d st sz _ (by omega)).mono ?_; rintro e w2 ⟨rfl, b2⟩; have u0 := cell_later b2 y0; have u1 := cell_later b2 y1; have u2 := cell_later b2 y2; have br2 := (b2.block gr (heap_lt br)).trans br; have E2 : Errs w2 er := (hEF w1 ((g1.tr.trans t1 (fun i hi r => r.elim (fun r => (hG i r).elim Or.inl (fun r => by omega)) Or.inr)))).below b2 (Nat.le_refl _))
      | (go_at_call 122; refine (headOf_any gr _ (sz - 1) er _ br2 hb hy E2 (by omega)).mono ?_; rintro e w3 ⟨rfl, b3⟩; have v0 := cell_later b3 u0; have v1 := cell_later b3 u1; have v2 := cell_later b3 u2))
  obtain ⟨gA, kA⟩ := g1.read hG hX k1 d1 t1 D
  have gB := (gA.add b2).add b3
  have kB : ∀ g o, X g → g ≠ wb → w.heap[g]? = some o → w3.heap[g]? = some o := fun g o hg hn hgo => by
    have q1 := kA g o (Or.inl hg) hn ((hbW.block g (h.xl g hg)).trans hgo)
    have q2 := (b2.block g (heap_lt q1)).trans q1
    exact (b3.block g (heap_lt q2)).trans q2
  have sz3 : w.heap.size < w3.heap.size := by
    have := t1.size; have := b2.size; have := b3.size; omega
  have gC : Wg w0 w3 F (fun i => X i ∨ (w.heap.size ≤ i ∧ i < w3.heap.size)) wb d S k N := gB.less (fun i hi => by
    have := t1.size; have := b2.size; have := b3.size
    rcases hi with hi | hi
    · exact Or.inl (Or.inl (Or.inl (Or.inl hi)))
    · by_cases c1 : i < W.heap.size
      · exact Or.inl (Or.inl (Or.inl (Or.inr ⟨hi.1, c1⟩)))
      · by_cases c2 : i < w1.heap.size
        · exact Or.inl (Or.inl (Or.inr ⟨by omega, c2⟩))
        · by_cases c3 : i < w2.heap.size
          · exact Or.inl (Or.inr ⟨by omega, c3⟩)
          · exact Or.inr ⟨by omega, hi.2⟩) (Or.inl h.xw)
  have e0 := gC.wk.c0
  have e1 := gC.wk.c1
  clear gA kA gB b2 b3 t1 k1 d1 D hG hX g1 x0 x1 x2 y0 y1 y2 u0 u1 u2 old br br2 E2
  go_wp2_with fail
  have HF : Hid (∀ (w5 : World) (jb bm : Nat) {e : Ending}, e = .returned (.pointer (some ⟨jb, 0, none⟩)) → Below w3.heap.size w3 w5 → w3.heap.size ≤ jb → w3.heap.size ≤ bm → Jb w5 jb d st sz seq place (sz - 1) bm none → Mp w5 bm 0 [] → ∃ jb bm, e = .returned (.pointer (some ⟨jb, 0, none⟩)) ∧ w.heap.size ≤ jb ∧ w.heap.size ≤ bm ∧ Jb w5 jb d st sz seq place (sz - 1) bm none ∧ Mp w5 bm 0 [] ∧ Wg w0 w5 F (fun i => X i ∨ (w.heap.size ≤ i ∧ i < w5.heap.size)) wb d S k N ∧ ∀ g o, X g → g ≠ wb → w.heap[g]? = some o → w5.heap[g]? = some o) := fun w5 jb bm e he b hj hm hJ hM => by
    refine ⟨jb, bm, he, by omega, by omega, hJ, hM, (gC.add b).less (fun i hi => ?_) (Or.inl h.xw), fun g o hg hn hgo => ?_⟩
    · rcases hi with hi | hi
      · exact Or.inl (Or.inl hi)
      · by_cases c : i < w3.heap.size
        · exact Or.inl (Or.inr ⟨hi.1, c⟩)
        · exact Or.inr ⟨by omega, hi.2⟩
    · have q := kB g o hg hn hgo
      exact (b.block g (heap_lt q)).trans q
  have hmm := fun (w : World) => run_makeMap (P := Tryz.prog) 105 w
  have al : ∀ (U : World) (o : Obj) j v, U.cell? ⟨w.heap.size, j, none⟩ = some v → (U.alloc o).cell? ⟨w.heap.size, j, none⟩ = some v := fun U o j v q => (((Below.refl _ U).alloc (Nat.le_refl _) o).cell (World.block_lt_of_cell? U _ q)).trans q
  go_region_held3 (fun w' => w'.cell? ⟨w.heap.size, 0, none⟩ = some (.pointer (some ⟨d, 0, none⟩)) ∧ w'.cell? ⟨w.heap.size, 1, none⟩ = some (.int .i64 st) ∧ w'.cell? ⟨w.heap.size, 2, none⟩ = some (.int .i64 sz))
    (first | exact ⟨v0, v1, v2⟩ | exact ⟨y0, y1, y2⟩ | exact ⟨al _ _ _ _ v0, al _ _ _ _ v1, al _ _ _ _ v2⟩ | exact ⟨al _ _ _ _ y0, al _ _ _ _ y1, al _ _ _ _ y2⟩ | exact ⟨al _ _ _ _ (al _ _ _ _ y0), al _ _ _ _ (al _ _ _ _ y1), al _ _ _ _ (al _ _ _ _ y2)⟩)
    (first
      | (go_at_call 95; refine (places_any d st sz _ (by omega)).mono ?_; rintro e w4 ⟨rfl, b4⟩; have y0 := cell_later b4 (by first | exact v0 | exact al _ _ _ _ v0); have y1 := cell_later b4 (by first | exact v1 | exact al _ _ _ _ v1); have y2 := cell_later b4 (by first | exact v2 | exact al _ _ _ _ v2)))
  · have b4 := Below.fromDrew b4
    have hs4 := b4.size
    have hM := (World.ownsMap_made w4 Tryz.prog 3 RV).alloc (.cells #[.pointer (some ⟨d, 0, none⟩), .int .i64 st, .int .i64 sz, .int .i64 seq, .int .i64 place, .int .i64 (sz - 1), .map (some w4.heap.size), .pointer none, .bool false] 112)
    have bb : Below w3.heap.size w3 ((w4.alloc (.map #[] 0)).alloc (.cells #[.pointer (some ⟨d, 0, none⟩), .int .i64 st, .int .i64 sz, .int .i64 seq, .int .i64 place, .int .i64 (sz - 1), .map (some w4.heap.size), .pointer none, .bool false] 112)) := (b4.alloc hs4 _).alloc (by simp; omega) _
    have hJ := (MapKept.heap_alloc (w4.alloc (.map #[] 0)) (.cells #[.pointer (some ⟨d, 0, none⟩), .int .i64 st, .int .i64 sz, .int .i64 seq, .int .i64 place, .int .i64 (sz - 1), .map (some w4.heap.size), .pointer none, .bool false] 112)).1
    rw [show (w4.alloc (.map #[] 0)).heap.size = w4.heap.size + 1 by simp] at hJ
    go_wp2
    go_ret
    exact HF.out _ _ _ rfl bb (by omega) hs4 hJ ⟨hM, List.Pairwise.nil⟩
  · have b4 := Below.fromDrew b4
    have hs4 : w3.heap.size + 1 ≤ w4.heap.size := by have := b4.size; simpa using this
    have hM0 := World.ownsMap_made w3 Tryz.prog 3 RV
    have hM := (map_turns hM0 (Below.turns b4 (fun _ => False)) id).alloc (.cells #[.pointer (some ⟨d, 0, none⟩), .int .i64 st, .int .i64 sz, .int .i64 seq, .int .i64 place, .int .i64 (sz - 1), .map (some w3.heap.size), .pointer none, .bool false] 112)
    have bb : Below w3.heap.size w3 (w4.alloc (.cells #[.pointer (some ⟨d, 0, none⟩), .int .i64 st, .int .i64 sz, .int .i64 seq, .int .i64 place, .int .i64 (sz - 1), .map (some w3.heap.size), .pointer none, .bool false] 112)) := (((Below.refl _ w3).alloc (Nat.le_refl _) _).trans (b4.mono (by simp))).alloc (by omega) _
    have hJ := (MapKept.heap_alloc w4 (.cells #[.pointer (some ⟨d, 0, none⟩), .int .i64 st, .int .i64 sz, .int .i64 seq, .int .i64 place, .int .i64 (sz - 1), .map (some w3.heap.size), .pointer none, .bool false] 112)).1
    go_wp2
    go_ret
    exact HF.out _ _ _ rfl bb (by omega) (Nat.le_refl _) hJ ⟨hM, List.Pairwise.nil⟩
end Go.Proofs.YtfmcbjlagdanjaaGreatDoor

/- What stands in an empty log: linesOf at a block that is no descriptor, next, takeUp; Open of a journal that was just formatted. -/
namespace Go.Proofs.YtfmcbjlagdanjaaGreatDoor
open Go.RowKit Go.Maps
set_option maxRecDepth 100000

set_option maxHeartbeats 4000000 in
theorem linesOf_none (g : Nat) (bs : List Int) (seq : Int) (er : Nat → Addr) (w : World) (hg : w.heap[g]? = some (bl bs)) (hl : bs.length = 512) (hby : ∀ x ∈ bs, 0 ≤ x ∧ x ≤ 255) (hE : Errs w er) (hb : begs bs [65, 78, 88, 68] = false) :
    Calls Tryz.prog 169 #[hv g, .int .i64 seq] w fun e w' => e = .returned (.slice none 0 0) ∧ Below w.heap.size w w' := by
  have hL := Lies.cut (n := 508) hg hl 4 (by omega) 508 (by omega)
  have hq : ∀ x ∈ (bs.drop 4).take 508, 0 ≤ x ∧ x ≤ 255 := fun x hx => hby x (List.mem_of_mem_drop (List.mem_of_mem_take hx))
  go_enter Tryz.func169, Tryz.ntmps169
  go_wp2_with fail
  refine (newReader_any (some ⟨g, 4, none⟩) 508 508 _ w (by omega) hL).mono ?_
  rintro e w1 ⟨rb, rg, rfl, hR, hrb, hrg, b1⟩
  have E1 := hE.below b1 (Nat.le_refl _)
  go_wp2_with fail
  refine (u32_any rb rg 508 508 0 0 24 _ er w1 hR E1 (by omega) (by omega) hq (by omega)).mono ?_
  rintro e w2 ⟨rfl, W2⟩
  have b2 := W2.below b1 hrb b1.size
  have E2 := hE.below b2 (Nat.le_refl _)
  have le2 : (rdNum 4 508 ((bs.drop 4).take 508) 0 0 24).2.1 ≤ 508 := rdNum_le (by omega)
  generalize rdNum 4 508 ((bs.drop 4).take 508) 0 0 24 = A at *
  have R2 := W2.1
  go_wp2_with fail
  refine (u64_any rb rg 508 508 A.2.1 A.2.2 9223372036854775807 _ er w2 R2 E2 le2 (by omega) hq (by omega)).mono ?_
  rintro e w3 ⟨rfl, W3⟩
  have b3 := W3.below b2 hrb b2.size
  have g3 := (b3.block g (heap_lt hg)).trans hg
  generalize rdNum 8 508 ((bs.drop 4).take 508) A.2.1 A.2.2 9223372036854775807 = B at *
  have m1 := begins_any g 512 512 bs [65, 78, 88, 68] ⟨#[65, 78, 88, 68]⟩ w3 (Lies.full g3 hl) (by omega) (by omega) hby (by decide) (by rfl)
  rw [hb] at m1
  clear W2 W3 R2 E1 E2 hR
  go_wp2_with fail
  refine m1.mono ?_
  rintro e wn ⟨rfl, hwn⟩
  subst wn
  go_wp2
  go_ret
  exact ⟨rfl, b3⟩
end Go.Proofs.YtfmcbjlagdanjaaGreatDoor

/- Open of a journal that was just formatted: at, next, checkpoint, takeUp, Open by their contracts there. -/
namespace Go.Proofs.YtfmcbjlagdanjaaGreatDoor
open Go.RowKit Go.Maps
set_option maxRecDepth 100000

structure JbC (w : World) (jb d st sz : Nat) (seq place free : Int) (bm : Nat) (op : Option Nat) : Prop where
  c0 : w.cell? ⟨jb, 0, none⟩ = some (.pointer (some ⟨d, 0, none⟩))
  c1 : w.cell? ⟨jb, 1, none⟩ = some (.int .i64 st)
  c2 : w.cell? ⟨jb, 2, none⟩ = some (.int .i64 sz)
  c3 : w.cell? ⟨jb, 3, none⟩ = some (.int .i64 seq)
  c4 : w.cell? ⟨jb, 4, none⟩ = some (.int .i64 place)
  c5 : w.cell? ⟨jb, 5, none⟩ = some (.int .i64 free)
  c6 : w.cell? ⟨jb, 6, none⟩ = some (.map (some bm))
  c7 : w.cell? ⟨jb, 7, none⟩ = some (.pointer (op.map fun t => ⟨t, 0, none⟩))
  c8 : w.cell? ⟨jb, 8, none⟩ = some (.bool false)
  fz : ∀ j, w.frozen? ⟨jb, j, none⟩ = false
theorem Jb.cells {w : World} {jb d st sz : Nat} {seq place free : Int} {bm : Nat} {op : Option Nat} (h : Jb w jb d st sz seq place free bm op) : JbC w jb d st sz seq place free bm op := by
  unfold Jb at h
  constructor
  all_goals first | (intro j; simp [World.frozen?, h]) | simp [World.cell?, h]
theorem at_two (d : Nat) (st sz : Nat) (p q : Nat) (w : World) (h : 2 ≤ sz ∧ sz ≤ 4096) (hst : st ≤ 4096) (hp : p + q ≤ 1099511627776) : Calls Tryz.prog 97 #[rgV d st sz, .int .i64 (IntKind.i64.wrap ((p : Int) + (q : Int)))] w fun e w' => e = .returned (.int .i64 (st + 1 + (p + q) % (sz - 1) : Nat)) ∧ Below w.heap.size w w' := by
  have := at_any d st sz (p + q) w h hst hp
  rw [Go.IntWalk.i64_in _ ⟨by omega, by omega⟩]
  rwa [Int.natCast_add] at this
set_option maxHeartbeats 1000000 in
theorem jat_any {w : World} {jb d st sz : Nat} {seq free : Int} {place bm : Nat} {op : Option Nat} (h : Jb w jb d st sz seq place free bm op) (h1 : 2 ≤ sz ∧ sz ≤ 4096) (h2 : st ≤ 4096) (b : Nat) (hp : place ≤ 4096) (hb : b ≤ 4096) :
    Calls Tryz.prog 110 #[.pointer (some ⟨jb, 0, none⟩), .int .i64 b] w fun e w' => e = .returned (.int .i64 (st + 1 + (place + b) % (sz - 1) : Nat)) ∧ Below w.heap.size w w' := by
  obtain ⟨c0, c1, c2, c3, c4, c5, c6, c7, c8, fz⟩ := h.cells
  go_enter Tryz.func110, Tryz.ntmps110
  go_wp2_with fail
  go_region_held3 (fun w' => w'.cell? ⟨jb, 0, none⟩ = some (.pointer (some ⟨d, 0, none⟩)) ∧ w'.cell? ⟨jb, 1, none⟩ = some (.int .i64 st) ∧ w'.cell? ⟨jb, 2, none⟩ = some (.int .i64 sz) ∧ w'.cell? ⟨jb, 4, none⟩ = some (.int .i64 place))
    (first | exact ⟨c0, c1, c2, c4⟩ | exact ⟨y0, y1, y2, y4⟩)
    (first
      | (go_at_call 97; refine (at_two d st sz place b _ h1 h2 (by omega)).mono ?_; rintro e w1 ⟨rfl, b1⟩; have y0 := cell_later b1 c0; have y1 := cell_later b1 c1; have y2 := cell_later b1 c2; have y4 := cell_later b1 c4))
  go_wp2
  go_ret
  exact ⟨rfl, Below.fromDrew b1⟩
end Go.Proofs.YtfmcbjlagdanjaaGreatDoor

/- next at a place where no transaction stands; checkpoint of nothing; takeUp of nothing. -/
namespace Go.Proofs.YtfmcbjlagdanjaaGreatDoor
open Go.RowKit Go.Maps
set_option maxRecDepth 100000

/-- Blocks of X that are not the work's are as they were. -/
def Kept (w w' : World) (X : Nat → Prop) (wb : Nat) : Prop := ∀ g o, X g → g ≠ wb → w.heap[g]? = some o → w'.heap[g]? = some o
theorem Kept.trans {a b c : World} {X : Nat → Prop} {wb : Nat} (h : Kept a b X wb) (k : Kept b c X wb) : Kept a c X wb := fun g o hg hn ho => k g o hg hn (h g o hg hn ho)
theorem Kept.below {a b : World} (h : Below a.heap.size a b) (X : Nat → Prop) (wb : Nat) : Kept a b X wb := fun g _ _ _ ho => (h.block g (heap_lt ho)).trans ho
set_option maxHeartbeats 1000000 in
theorem next_none {w0 w : World} {F X : Nat → Prop} {wb d : Nat} {S : DevS} {k N : Nat} {er : Nat → Addr} (h : Wg w0 w F X wb d S k N) {jb st sz : Nat} {seq free : Int} {place bm : Nat} {op : Option Nat} (hJ : Jb w jb d st sz seq place free bm op) (hXj : X jb) (hjw : jb ≠ wb) (h1 : 2 ≤ sz ∧ sz ≤ 4096) (h2 : st + sz ≤ k) (hk : k ≤ 4096) (hp : place ≤ 4096) (ho : S.off = false) (hEF : ∀ w', Turns (fun i => F i ∨ i = wb) w0 w' → Errs w' er)
    (hb : (rdB S (st + 1 + place % (sz - 1))).length = 512) (hy : ∀ x ∈ rdB S (st + 1 + place % (sz - 1)), 0 ≤ x ∧ x ≤ 255) (hd : begs (rdB S (st + 1 + place % (sz - 1))) [65, 78, 88, 68] = false) :
    Calls Tryz.prog 124 #[.pointer (some ⟨jb, 0, none⟩), .pointer (some ⟨wb, 0, none⟩)] w fun e w' => e = .returned (.map none) ∧ Wg w0 w' F X wb d S k N ∧ Kept w w' X wb := by
  obtain ⟨c0, c1, c2, c3, c4, c5, c6, c7, c8, fz⟩ := hJ.cells
  obtain ⟨P, hP⟩ : ∃ P, st + 1 + place % (sz - 1) = P := ⟨_, rfl⟩
  have hPk : P < k := by
    have := Nat.mod_lt place (by omega : 0 < sz - 1)
    omega
  rw [hP] at hb hy hd
  have m0 : ∀ w', Jb w' jb d st sz seq place free bm op → Calls Tryz.prog 110 #[.pointer (some ⟨jb, 0, none⟩), .int .i64 0] w' fun e w'' => e = .returned (.int .i64 P) ∧ Below w'.heap.size w' w'' := fun w' hj => by
    refine Calls.mono (jat_any hj h1 (by omega) 0 hp (by omega)) ?_
    rintro e w'' ⟨rfl, hb⟩
    exact ⟨by rw [← hP]; rfl, hb⟩
  go_enter Tryz.func124, Tryz.ntmps124
  go_wp2_with fail
  go_region_held3 (fun w' => w'.cell? ⟨jb, 3, none⟩ = some (.int .i64 seq))
    (first | exact c3 | exact y3 | exact u3 | exact v3)
    (first
      | (go_at_call 110; refine (m0 w.drew hJ).mono ?_; rintro e w1 ⟨rfl, b1⟩; have b1 := Below.fromDrew b1; have y3 := cell_later b1 c3; have g1 := h.below b1; obtain ⟨G, D, hG, hX⟩ := g1.dv; have j1 := (b1.block jb (heap_lt hJ)).trans hJ)
      | (go_at_call 123; refine (wkread_ok D g1.wk (hX wb g1.xw) ho P hPk).mono ?_; rintro e w2 ⟨gr, rfl, lr, br, k2, d2, t2⟩; obtain ⟨g2, kp2⟩ := g1.read hG hX k2 d2 t2 D; have j2 := kp2 jb _ hXj hjw j1; have u3 := (Jb.cells j2).c3)
      | (go_at_call 169; refine (linesOf_none gr _ seq er _ br hb hy (hEF _ g2.tr) hd).mono ?_; rintro e w3 ⟨rfl, b3⟩; have v3 := cell_later b3 u3))
  have hfin : Wg w0 w3 F X wb d S k N := (g2.below b3).less (fun i hi => Or.inl hi) h.xw
  have hkp : Kept w w3 X wb := ((Kept.below b1 X wb).trans kp2).trans (Kept.below b3 X wb)
  clear g1 g2 kp2 j1 j2 b1 b3 D hG hX k2 d2 t2 br m0 c0 c1 c2 c3 c4 c5 c6 c7 c8 y3 u3
  go_wp2
  all_goals go_ret
  all_goals exact ⟨rfl, hfin, hkp⟩
theorem checkpoint_none {w : World} {jb d st sz n : Nat} {seq place free : Int} {bm wb : Nat} {op : Option Nat} (hJ : Jb w jb d st sz seq place free bm op) (hM : Mp w bm n []) :
    Calls Tryz.prog 108 #[.pointer (some ⟨jb, 0, none⟩), .pointer (some ⟨wb, 0, none⟩)] w fun e w' => e = .returned (.tuple #[]) ∧ w' = w := by
  obtain ⟨c0, c1, c2, c3, c4, c5, c6, c7, c8, fz⟩ := hJ.cells
  have hown := hM.own
  have hln := fun ty => hown.len Tryz.underlying105 ty
  have hs0 : (Maps.size (mD []) : Int) = 0 := rfl
  go_enter Tryz.func108, Tryz.ntmps108
  go_wp2_with (at_len; refine wpList_len_own _ rfl _ 105 rfl 3 66 Tryz.underlying105 _ bm n _ rfl hown ?_)
  first | go_end0 | refine bodyPost_ret (results_none rfl _ _ _) rfl ?_
  exact ⟨rfl, rfl⟩
end Go.Proofs.YtfmcbjlagdanjaaGreatDoor

/- takeUp where nothing stands; Open of a journal with an empty log. -/
namespace Go.Proofs.YtfmcbjlagdanjaaGreatDoor
open Go.RowKit Go.Maps
set_option maxRecDepth 100000

set_option maxHeartbeats 1000000 in
theorem takeUp_none {w0 w : World} {F X : Nat → Prop} {wb d : Nat} {S : DevS} {k N n : Nat} {er : Nat → Addr} (h : Wg w0 w F X wb d S k N) {jb st sz : Nat} {seq free : Int} {place bm : Nat} {op : Option Nat} (hJ : Jb w jb d st sz seq place free bm op) (hM : Mp w bm n []) (hXj : X jb) (hXm : X bm) (hjw : jb ≠ wb) (hmw : bm ≠ wb) (h1 : 2 ≤ sz ∧ sz ≤ 4096) (h2 : st + sz ≤ k) (hk : k ≤ 4096) (hp : place ≤ 4096) (hs : seq ≤ 4611686018427387904) (ho : S.off = false) (hEF : ∀ w', Turns (fun i => F i ∨ i = wb) w0 w' → Errs w' er)
    (hb : (rdB S (st + 1 + place % (sz - 1))).length = 512) (hy : ∀ x ∈ rdB S (st + 1 + place % (sz - 1)), 0 ≤ x ∧ x ≤ 255) (hd : begs (rdB S (st + 1 + place % (sz - 1))) [65, 78, 88, 68] = false) :
    Calls Tryz.prog 75 #[.pointer (some ⟨jb, 0, none⟩), .pointer (some ⟨wb, 0, none⟩)] w fun e w' => e = .returned (.int .i64 0) ∧ Wg w0 w' F X wb d S k N ∧ Kept w w' X wb := by
  have c3 := hJ.cells.c3
  have hln : ∀ (w : World) (ty : TypeId), (Builtin.len_ #[105] ty #[.map none]).run Tryz.prog w = .ok (.int .i64 0) w := fun w ty => Maps.len_nil Tryz.underlying105 ty
  go_enter Tryz.func75, Tryz.ntmps75
  go_wp2_with fail
  go_loopw [5] (fun t wr => t = .int .i64 0 ∧ wr = w) (fun _ _ => 0)
  case atStart => exact ⟨rfl, rfl⟩
  case round =>
    obtain ⟨rfl, rfl⟩ := hrel
    go_wp2_with fail
    refine (next_none h hJ hXj hjw h1 h2 hk hp ho hEF hb hy hd).mono ?_
    rintro e w1 ⟨rfl, g1, kp1⟩
    have j1 : Jb w1 jb d st sz seq place free bm op := kp1 jb _ hXj hjw hJ
    have m1 : Mp w1 bm n [] := by
      obtain ⟨⟨es, cl, hh, r⟩, hr⟩ := hM
      exact ⟨⟨es, cl, kp1 bm _ hXm hmw hh, r⟩, hr⟩
    clear c3
    go_wp2_with fail
    refine (checkpoint_none j1 m1).mono ?_
    rintro e wn ⟨rfl, hwn⟩
    subst wn
    go_wp2
    go_ret
    exact ⟨rfl, g1, kp1⟩
set_option maxHeartbeats 4000000 in
theorem open_empty {w : World} {d : Nat} {S : DevS} {k N : Nat} {F : Nat → Prop} {er : Nat → Addr} (hD : Dev w d 0 S k N F) (st sz : Nat) (h1 : 27 ≤ sz) (h2 : st + sz ≤ k) (ho : S.off = false) (hEF : ∀ w', Turns F w w' → Errs w' er)
    (seq place : Nat) (hh : (hdR (rdB S st) (sz - 1)).1.1 = seq ∧ (hdR (rdB S st) (sz - 1)).2.1.1 = place) (hok : hdOk (rdB S st) (sz - 1) = true) (hp : place ≤ 4096) (hs : seq ≤ 4611686018427387904) (hd : begs (rdB S (st + 1 + place % (sz - 1))) [65, 78, 88, 68] = false)
    (hgB : ∀ b, b < k → (rdB S b).length = 512 ∧ ∀ x ∈ rdB S b, 0 ≤ x ∧ x ≤ 255) :
    Calls Tryz.prog 29 #[.pointer (some ⟨d, 0, none⟩), .int .i64 st, .int .i64 sz] w fun e w' => ∃ jb bm, e = .returned (.tuple #[.pointer (some ⟨jb, 0, none⟩), .int .i64 0, .int .i64 0]) ∧ w.heap.size ≤ jb ∧ w.heap.size ≤ bm ∧ Jb w' jb d st sz seq place (sz - 1) bm none ∧ Mp w' bm 0 [] ∧ (∃ G, Dev w' d 0 S k N G ∧ (∀ i, G i → F i ∨ w.heap.size ≤ i) ∧ ¬ G jb ∧ ¬ G bm) ∧ Turns F w w' := by
  have hF := hD.lt
  have hk := hD.good.top
  obtain ⟨W, hW⟩ : ∃ W, w.alloc (.cells #[.pointer (some ⟨d, 0, none⟩), .int .i64 st, .int .i64 sz] 110) = W := ⟨_, rfl⟩
  have hb : Below w.heap.size w W := by rw [← hW]; exact (Below.refl _ w).alloc (Nat.le_refl _) _
  have x0 : W.cell? ⟨w.heap.size, 0, none⟩ = some (.pointer (some ⟨d, 0, none⟩)) := by rw [← hW]; simp
  have x1 : W.cell? ⟨w.heap.size, 1, none⟩ = some (.int .i64 st) := by rw [← hW]; simp
  have x2 : W.cell? ⟨w.heap.size, 2, none⟩ = some (.int .i64 sz) := by rw [← hW]; simp
  have hs0 : W.heap.size = w.heap.size + 1 := by rw [← hW]; simp
  have hDW := hD.below hb
  have hfit : fitB k st sz = true := by simp [fitB]; omega
  have m1 := fits_any hDW st sz (by omega) (by omega) (by omega)
  rw [hfit] at m1
  go_enter Tryz.func29, Tryz.ntmps29
  go_wp2_with fail
  try rw [hW]
  refine m1.mono ?_
  rintro e w1 ⟨rfl, q1⟩
  have old : ∀ j v, W.cell? ⟨w.heap.size, j, none⟩ = some v → w1.cell? ⟨w.heap.size, j, none⟩ = some v := fun j v h => (World.cell?_of_block (q1.2.block w.heap.size (by omega) (fun r => by have := hF _ r; omega))).trans h
  have y0 := old 0 _ x0
  have y1 := old 1 _ x1
  have y2 := old 2 _ x2
  have s1 := q1.2.size
  have T1 : Turns F w w1 := (Below.turns hb F).trans q1.2 (fun _ _ h => h)
  have HT1 : Hid (Turns F w w1) := T1
  clear x0 x1 x2 old m1
  go_wp2_with fail
  refine (begun_any q1.1).mono ?_
  rintro e w2 ⟨ev, rfl, hev, k2, q2⟩
  have he : begE S = 0 := by unfold begE; rw [if_neg (by simp [ho])]
  rw [he] at hev
  obtain ⟨_, rfl⟩ := hev.resolve_right (fun h => h.1 rfl)
  have hF1 : ∀ i, F i → i < w1.heap.size := fun i r => by have := hF i r; omega
  have g2 := Wg.start hF1 k2 q2
  obtain ⟨wb, hwb⟩ : ∃ wb, w1.heap.size = wb := ⟨_, rfl⟩
  rw [hwb] at g2
  have EF : ∀ w', Turns (fun i => F i ∨ i = wb) w1 w' → Errs w' er := fun w' t => hEF w' (T1.trans (t.mono (G := fun i => F i) (fun i hi r => r.elim id (fun r => by omega))) (fun _ _ h => h))
  have rg : ∀ w', Turns (fun i => F i ∨ i = wb) w1 w' → ∀ j v, w1.cell? ⟨w.heap.size, j, none⟩ = some v → w'.cell? ⟨w.heap.size, j, none⟩ = some v := fun w' t j v h => (World.cell?_of_block (t.block w.heap.size (by omega) (fun r => r.elim (fun r => by have := hF _ r; omega) (fun r => by omega)))).trans h
  have u0 := rg w2 g2.tr 0 _ y0
  have u1 := rg w2 g2.tr 1 _ y1
  have u2 := rg w2 g2.tr 2 _ y2
  have hwl := heap_lt g2.wk
  clear k2 q2 q1 hDW hD hb T1 hW
  go_wp2_with fail
  have hmodl := Nat.mod_lt place (by omega : 0 < sz - 1)
  have hB0 := hgB st (by omega)
  have hB1 := hgB (st + 1 + place % (sz - 1)) (by omega)
  refine (found_ok g2 st sz h1 h2 hk ho EF hB0.1 hB0.2 seq place hh hok).mono ?_
  rintro e w3 ⟨jb, bm, rfl, lj, lm, J3, M3, g3, kp3⟩
  have jw : jb ≠ wb := by omega
  have mw : bm ≠ wb := by omega
  have jl := heap_lt J3
  have ml := M3.lt
  clear u0 u1 u2 kp3 g2
  go_wp2_with fail
  refine (takeUp_none g3 J3 M3 (Or.inr ⟨lj, jl⟩) (Or.inr ⟨lm, ml⟩) jw mw (by omega) h2 hk hp (by omega) ho EF hB1.1 hB1.2 hd).mono ?_
  rintro e w4 ⟨rfl, g4, kp4⟩
  have J4 : Jb w4 jb d st sz seq place (sz - 1) bm none := kp4 jb _ (Or.inr ⟨lj, jl⟩) jw J3
  have M4 : Mp w4 bm 0 [] := by
    obtain ⟨⟨es, cl, hh, r⟩, hr⟩ := M3
    exact ⟨⟨es, cl, kp4 bm _ (Or.inr ⟨lm, ml⟩) mw hh, r⟩, hr⟩
  have e0 := g4.wk.c0
  have e1 := g4.wk.c1
  clear g3 J3 M3 kp4
  go_wp2
  refine bodyPost_ret (results_tmp3 rfl _ _ _) rfl ?_
  obtain ⟨G, D, hG, hX⟩ := g4.dv
  have T4 : Turns F w1 w4 := g4.tr.mono (fun i hi r => r.elim id (fun r => by omega))
  exact ⟨jb, bm, rfl, by omega, by omega, J4, M4, ⟨G, D, fun i hi => (hG i hi).imp id (fun r => by omega), hX jb (Or.inr ⟨lj, jl⟩), hX bm (Or.inr ⟨lm, ml⟩)⟩, HT1.out.trans T4 (fun _ _ h => h)⟩
end Go.Proofs.YtfmcbjlagdanjaaGreatDoor

/- Whether the power is on, asked by a journal; Begin by its contract. -/
namespace Go.Proofs.YtfmcbjlagdanjaaGreatDoor
open Go.RowKit Go.Maps
set_option maxRecDepth 100000

theorem met_ok {w : World} {jb wb d : Nat} (hW : Wk w wb d .nilIface) : Calls Tryz.prog 55 #[.pointer (some ⟨jb, 0, none⟩), .pointer (some ⟨wb, 0, none⟩)] w fun e w' => e = .returned (.int .i64 0) ∧ Below w.heap.size w w' := by
  have c0 := hW.c0
  have c1 := hW.c1
  go_enter Tryz.func55, Tryz.ntmps55
  go_wp2_with (go_at_call 76; refine (codeOf_nil _).mono ?_; rintro e w1 ⟨rfl, b1⟩)
  go_ret
  exact ⟨rfl, b1⟩
set_option maxHeartbeats 1000000 in
theorem power_ok {w : World} {d : Nat} {S : DevS} {k N : Nat} {G : Nat → Prop} (hD : Dev w d 0 S k N G) {jb st sz : Nat} {seq place free : Int} {bm : Nat} {op : Option Nat} (hJ : Jb w jb d st sz seq place free bm op) (ho : S.off = false) :
    Calls Tryz.prog 52 #[.pointer (some ⟨jb, 0, none⟩)] w fun e w' => e = .returned (.int .i64 0) ∧ Same0 w w' d S k N G := by
  have c0 := hJ.cells.c0
  have he : begE S = 0 := by unfold begE; rw [if_neg (by simp [ho])]
  have hF := hD.lt
  go_enter Tryz.func52, Tryz.ntmps52
  go_wp2_with fail
  refine (begun_any hD).mono ?_
  rintro e w1 ⟨ev, rfl, hev, k1, q1⟩
  rw [he] at hev
  obtain ⟨_, rfl⟩ := hev.resolve_right (fun h => h.1 rfl)
  clear c0
  go_wp2_with fail
  refine (met_ok k1).mono ?_
  rintro e w2 ⟨rfl, b2⟩
  go_wp2
  go_ret
  exact ⟨rfl, q1.1.below b2, q1.2.trans (Below.turns b2 (fun _ => False)) (fun _ _ r => r.elim)⟩
/-- A transaction's own block. -/
def Tb (w : World) (tb jb wm : Nat) (sv : Value) (last : Int) : Prop := w.heap[tb]? = some (.cells #[.pointer (some ⟨jb, 0, none⟩), .map (some wm), sv, .int .i64 last] 108)
theorem Jb.opened {w : World} {jb d st sz : Nat} {seq place free : Int} {bm : Nat} {op : Option Nat} (h : Jb w jb d st sz seq place free bm op) (t : Option Nat) : Jb (w.setCell ⟨jb, 7, none⟩ (.pointer (t.map fun t => ⟨t, 0, none⟩))) jb d st sz seq place free bm t := heap_setCell_same _ _ _ _ _ _ h
set_option maxHeartbeats 1000000 in
theorem begin_ok {w : World} {d : Nat} {S : DevS} {k N : Nat} {G : Nat → Prop} (hD : Dev w d 0 S k N G) {jb st sz : Nat} {seq place free : Int} {bm : Nat} (hJ : Jb w jb d st sz seq place free bm none) (hjG : ¬ G jb) (ho : S.off = false) :
    Calls Tryz.prog 30 #[.pointer (some ⟨jb, 0, none⟩)] w fun e w' => ∃ tb wm, e = .returned (.pointer (some ⟨tb, 0, none⟩)) ∧ w.heap.size ≤ tb ∧ w.heap.size ≤ wm ∧ Jb w' jb d st sz seq place free bm (some tb) ∧ Tb w' tb jb wm (.slice none 0 0) 0 ∧ Mp w' wm 0 [] ∧ Dev w' d 0 S k N G ∧ Turns (fun i => G i ∨ i = jb) w w' := by
  obtain ⟨c0, c1, c2, c3, c4, c5, c6, c7, c8, fz⟩ := hJ.cells
  have hF := hD.lt
  go_enter Tryz.func30, Tryz.ntmps30
  go_wp2_with fail
  refine (power_ok hD hJ ho).mono ?_
  rintro e w1 ⟨rfl, q1⟩
  have J1 : Jb w1 jb d st sz seq place free bm none := (q1.2.block jb (heap_lt hJ) hjG).trans hJ
  clear c0 c1 c2 c3 c4 c5 c6 c7 c8 fz
  obtain ⟨c0, c1, c2, c3, c4, c5, c6, c7, c8, fz⟩ := J1.cells
  have f7 := fz 7
  have hmm := fun (w : World) => run_makeMap (P := Tryz.prog) 105 w
  obtain ⟨W, hW⟩ : ∃ W, (w1.alloc (.map #[] 0)).alloc (.cells #[.pointer (some ⟨jb, 0, none⟩), .map (some w1.heap.size), .slice none 0 0, .int .i64 0] 108) = W := ⟨_, rfl⟩
  have bW : Below w1.heap.size w1 W := by rw [← hW]; exact ((Below.refl _ w1).alloc (Nat.le_refl _) _).alloc (by simp) _
  have MW : Mp W w1.heap.size 0 [] := by
    rw [← hW]
    exact ⟨(World.ownsMap_made w1 Tryz.prog 3 RV).alloc _, List.Pairwise.nil⟩
  have TW : Tb W (w1.heap.size + 1) jb w1.heap.size (.slice none 0 0) 0 := by
    have := (MapKept.heap_alloc (w1.alloc (.map #[] 0)) (.cells #[.pointer (some ⟨jb, 0, none⟩), .map (some w1.heap.size), .slice none 0 0, .int .i64 0] 108)).1
    rw [show (w1.alloc (.map #[] 0)).heap.size = w1.heap.size + 1 by simp, hW] at this
    exact this
  have sW : W.heap.size = w1.heap.size + 2 := by rw [← hW]; simp
  have JW : Jb W jb d st sz seq place free bm none := (bW.block jb (heap_lt J1)).trans J1
  have w7 := JW.cells.c7
  have x7 := JW.cells.fz 7
  have JV := JW.opened (some (w1.heap.size + 1))
  have TV := Turns.cell W jb 7 (.pointer ((some (w1.heap.size + 1)).map fun t => ⟨t, 0, none⟩))
  obtain ⟨V, hV⟩ : ∃ V, W.setCell ⟨jb, 7, none⟩ (.pointer (some ⟨w1.heap.size + 1, 0, none⟩)) = V := ⟨_, rfl⟩
  have JV : Jb V jb d st sz seq place free bm (some (w1.heap.size + 1)) := by rw [← hV]; exact JV
  have TV : Turns (fun i => i = jb) W V := by rw [← hV]; exact TV
  have v7 := JV.cells.c7
  have hjl := heap_lt J1
  have hs1 := q1.2.size
  have D1 := q1.1.turns (Below.turns bW (fun _ => False)) (fun _ _ => id)
  have DV := D1.turns TV (fun i hi e => hjG (e ▸ hi))
  have tV : Turns (fun i => G i ∨ i = jb) w V := ((q1.2.mono (fun _ _ => Or.inl)).trans (Below.turns bW (fun _ => False)) (fun _ _ r => r.elim)).trans TV (fun i _ r => Or.inr r)
  have TT : Tb V (w1.heap.size + 1) jb w1.heap.size (.slice none 0 0) 0 := (TV.block _ (by omega) (by omega)).trans TW
  have MV : Mp V w1.heap.size 0 [] := MW.turns TV (by omega)
  clear bW MW TW JW D1 TV q1 J1
  go_wp2_with fail
  go_ret
  exact ⟨_, _, rfl, by omega, hs1, JV, TT, MV, DV, tV⟩
end Go.Proofs.YtfmcbjlagdanjaaGreatDoor

/- (*Tx).Write by its contract, where it is taken. -/
namespace Go.Proofs.YtfmcbjlagdanjaaGreatDoor
open Go.RowKit Go.Maps
set_option maxRecDepth 100000

structure TbC (w : World) (tb jb wm : Nat) (sv : Value) (last : Int) : Prop where
  c0 : w.cell? ⟨tb, 0, none⟩ = some (.pointer (some ⟨jb, 0, none⟩))
  c1 : w.cell? ⟨tb, 1, none⟩ = some (.map (some wm))
  c2 : w.cell? ⟨tb, 2, none⟩ = some sv
  c3 : w.cell? ⟨tb, 3, none⟩ = some (.int .i64 last)
  fz : ∀ j, w.frozen? ⟨tb, j, none⟩ = false
theorem Tb.cells {w : World} {tb jb wm : Nat} {sv : Value} {last : Int} (h : Tb w tb jb wm sv last) : TbC w tb jb wm sv last := by
  unfold Tb at h
  constructor
  all_goals first | (intro j; simp [World.frozen?, h]) | simp [World.cell?, h]
theorem int_key (b : Nat) (h : b < 4096) : keyOf Tryz.prog 3 (.int .i64 b) = some (.int .i64 b) := keyOf_int_mk Tryz.underlying3 (q := .i64) (WalkArith.wf_i64 ⟨by omega, by omega⟩)
/-- What a look at a map answers. -/
theorem Mp.look {w : World} {bm n : Nat} {m : List (Nat × Nat)} (h : Mp w bm n m) (b : Nat) (hb : b < 4096) : (Instr.lookup 105 (.map (some bm)) (.int .i64 b) true).run Tryz.prog w = .ok (.tuple #[((lk m b).map hv).getD (.slice none 0 0), .bool (lk m b).isSome]) w := by
  obtain ⟨v, ps, hrun, hv'⟩ := h.own.look_ok law3 Tryz.underlying105 (zeroB w) (zd := .held (.slice none 0 0)) (zp := []) rfl (int_key b hb)
  rw [hrun, mD_has_int]
  rw [mD_at] at hv'
  cases e : lk m b with
  | none => rw [e] at hv'; simp [RV] at hv'; rw [hv'.1]; rfl
  | some g => rw [e] at hv'; simp [RV] at hv'; rw [hv'.1]; rfl
/-- A store into a map, as one step of a region that draws its order. -/
theorem step_update_own {H : Type} {P : Program} {ops : Array Oper} {o : Oper} {a : Act} {w : World} {C : Act → World → Prop} {Q : Exit → Act → World → Prop} {E : Prop} (hgd : o.guard = none) (m x v : Operand) (t : TypeId) (hop : o.op = Op.mapUpdate t m x v)
    (k e : TypeId) (K : Keyed P k) (ht : P.underlying t = some (.map k e)) (R : Value → Option (DataW H × List MemPlace)) (b n : Nat) (D : DataW H)
    (hm : a.eval m = .map (some b)) (hown : w.ownsMap P k R b n D) (hn : n < maxLen) (key val : Value) (kl : Lit) (hx : a.eval x = key) (hv : a.eval v = val) (hkey : keyOf P k key = some kl)
    (d : DataW H) (ps : List MemPlace) (hval : R val = some (d, ps))
    (hK : ∀ w', w'.ownsMap P k R b (n + 1) (D.put kl d) → w.mapTurned w' b → C (a.put o.dst undef) w') :
    if Region.wanted o (yielded ops a.tmps) = true then Oper.wp P o a w C Q else E := by
  have hw : Region.wanted o (yielded ops a.tmps) = true := by simp [Region.wanted, hgd]
  rw [if_pos hw]
  obtain ⟨w', hrun, r1, r2⟩ := hown.store K ht hn hkey hval
  unfold Oper.wp
  simp [execOp, hop, hm, hx, hv, hrun, Result.andThen]
  exact hK w' r1 r2
set_option maxHeartbeats 2000000 in
theorem txWrite_ok {w : World} {d : Nat} {S : DevS} {k N n : Nat} {G : Nat → Prop} (hD : Dev w d 0 S k N G) {jb st sz tb wm : Nat} {seq place free last : Int} {bm : Nat} {sv : Value} {m : List (Nat × Nat)} (hJ : Jb w jb d st sz seq place free bm (some tb)) (hT : Tb w tb jb wm sv last) (hM : Mp w wm n m) (hjG : ¬ G jb) (htG : ¬ G tb) (hmG : ¬ G wm) (htm : tb ≠ wm) (ho : S.off = false) (hst : st + sz ≤ k)
    (b : Nat) (hb : b < k) (hout : b < st ∨ st + sz ≤ b) (ao : Option Addr) (c : Nat) (ds : List Int) (hL : Lies w ao 512 c ds) (haG : ∀ ad, ao = some ad → ¬ G ad.block) (hroom : (lk m b).isSome = true ∨ m.length < 24) (hn : n ≤ 1000000) :
    Calls Tryz.prog 104 #[.pointer (some ⟨tb, 0, none⟩), .int .i64 b, .slice ao 512 c] w fun e w' => ∃ g, e = .returned (.int .i64 0) ∧ w.heap.size ≤ g ∧ w'.heap[g]? = some (bl ds) ∧ Mp w' wm (n + 1) (mput m b g) ∧ Dev w' d 0 S k N G ∧ Turns (fun i => G i ∨ i = wm) w w' := by
  obtain ⟨c0, c1, c2, c3, c4, c5, c6, c7, c8, fz⟩ := hJ.cells
  obtain ⟨t0, t1, t2, t3, tz⟩ := hT.cells
  have hk := hD.good.top
  have hoB : outB k st sz b = true := by simp [outB]; omega
  go_enter Tryz.func104, Tryz.ntmps104
  go_wp2_with fail
  have m1 := outside_any hD st sz (by omega) (by omega) b
  rw [hoB] at m1
  refine m1.mono ?_
  rintro e w1 ⟨rfl, q1⟩
  have J1 : Jb w1 jb d st sz seq place free bm (some tb) := (q1.2.block jb (heap_lt hJ) hjG).trans hJ
  have T1 : Tb w1 tb jb wm sv last := (q1.2.block tb (heap_lt hT) htG).trans hT
  have M1 := hM.turns q1.2 hmG
  have L1 := hL.turns q1.2 haG
  clear c0 c1 c2 c3 c4 c5 c6 c7 c8 fz t0 t1 t2 t3 tz m1
  go_wp2_with fail
  refine (power_ok q1.1 J1 ho).mono ?_
  rintro e w2 ⟨rfl, q2⟩
  have T2 : Tb w2 tb jb wm sv last := (q2.2.block tb (heap_lt T1) htG).trans T1
  have M2 := M1.turns q2.2 hmG
  have L2 := L1.turns q2.2 haG
  obtain ⟨t0, t1, t2, t3, tz⟩ := T2.cells
  have hlo := M2.look b (by omega)
  have hown := M2.own
  have hsz : (Maps.size (mD m) : Int) = (m.length : Int) := by simp [mD, Maps.size_eq]
  have hln := fun ty => hown.len Tryz.underlying105 ty
  simp only [hsz] at hln
  cases hlk : lk m b with
  | some g0 =>
    rw [hlk] at hlo
    go_wp2_with fail
    go_region_held3 (fun w' => w'.cell? ⟨tb, 1, none⟩ = some (.map (some wm)))
      (first | exact t1 | exact t1' | exact t1'')
      (first
        | (go_at_call 139; refine (jcopied_any ao 512 c ds w2.drew (by omega) (L2.below (Below.drew (Below.refl _ w2)) (Nat.le_refl _))).mono ?_; rintro e w3 ⟨g, rfl, lg, bg, b3⟩; have b3 := Below.fromDrew b3; have lg : w2.heap.size ≤ g := lg; have T3 : Tb w3 tb jb wm sv last := (b3.block tb (heap_lt T2)).trans T2; have hm3 := (M2.turns (Below.turns b3 (fun _ => False)) id).own; have t1' := T3.cells.c1; obtain ⟨w4, hrun4, hown4, htr4⟩ := hm3.store (val := .slice (some ⟨g, 0, none⟩) 512 512) law3 Tryz.underlying105 (by unfold maxLen; omega) (int_key b (by omega)) (d := .held (hv g)) (ps := []) rfl; have t1'' : w4.cell? ⟨tb, 1, none⟩ = some (.map (some wm)) := htr4.grown.cell t1' (fun e => htm (Option.some.inj e))))
    have D3 := q2.1.below b3
    have s1 := q1.2.size
    have s2 := q2.2.size
    have tt : Turns (fun i => G i ∨ i = wm) w w3 := ((q1.2.trans q2.2 (fun _ _ h => h)).mono (fun _ _ => Or.inl)).trans (Below.turns b3 (fun _ => False)) (fun _ _ r => r.elim)
    have t4 : Turns (fun i => i = wm) w3 w4 := Turns.grown htr4.grown (fun x hx => (Option.some.inj hx).symm)
    have hgm : g ≠ wm := fun e => by have := M2.lt; omega
    have hM4 : Mp w4 wm (n + 1) (mput m b g) := ⟨by rw [← mD_put hM.ris b g (hown4.canon law3)]; exact hown4, mput_rising b g hM.ris⟩
    have hg4 := (t4.block g (heap_lt bg) hgm).trans bg
    have D4 := D3.turns t4 (fun i hi e => hmG (e ▸ hi))
    have tt4 := tt.trans t4 (fun i _ r => Or.inr r)
    clear hlo hown t0 t1 t2 t3 tz D3 tt T2 M2 T1 M1 L1 L2 J1 q1 q2 bg b3 hown4 htr4 t4 hm3 hrun4
    go_wp2
    go_ret
    exact ⟨g, rfl, by omega, hg4, hM4, D4, tt4⟩
  | none =>
    rw [hlk] at hlo
    have hm24 : m.length < 24 := hroom.resolve_left (by rw [hlk]; decide)
    have hmi : ¬ (m.length : Int) = 24 := by omega
    go_wp2_with fail
    go_region_held3 (fun w' => w'.cell? ⟨tb, 1, none⟩ = some (.map (some wm)))
      (first | exact t1 | exact t1' | exact t1'')
      (first
        | (go_at_call 139; refine (jcopied_any ao 512 c ds w2.drew (by omega) (L2.below (Below.drew (Below.refl _ w2)) (Nat.le_refl _))).mono ?_; rintro e w3 ⟨g, rfl, lg, bg, b3⟩; have b3 := Below.fromDrew b3; have lg : w2.heap.size ≤ g := lg; have T3 : Tb w3 tb jb wm sv last := (b3.block tb (heap_lt T2)).trans T2; have hm3 := (M2.turns (Below.turns b3 (fun _ => False)) id).own; have t1' := T3.cells.c1; obtain ⟨w4, hrun4, hown4, htr4⟩ := hm3.store (val := .slice (some ⟨g, 0, none⟩) 512 512) law3 Tryz.underlying105 (by unfold maxLen; omega) (int_key b (by omega)) (d := .held (hv g)) (ps := []) rfl; have t1'' : w4.cell? ⟨tb, 1, none⟩ = some (.map (some wm)) := htr4.grown.cell t1' (fun e => htm (Option.some.inj e))))
    have D3 := q2.1.below b3
    have s1 := q1.2.size
    have s2 := q2.2.size
    have tt : Turns (fun i => G i ∨ i = wm) w w3 := ((q1.2.trans q2.2 (fun _ _ h => h)).mono (fun _ _ => Or.inl)).trans (Below.turns b3 (fun _ => False)) (fun _ _ r => r.elim)
    have t4 : Turns (fun i => i = wm) w3 w4 := Turns.grown htr4.grown (fun x hx => (Option.some.inj hx).symm)
    have hgm : g ≠ wm := fun e => by have := M2.lt; omega
    have hM4 : Mp w4 wm (n + 1) (mput m b g) := ⟨by rw [← mD_put hM.ris b g (hown4.canon law3)]; exact hown4, mput_rising b g hM.ris⟩
    have hg4 := (t4.block g (heap_lt bg) hgm).trans bg
    have D4 := D3.turns t4 (fun i hi e => hmG (e ▸ hi))
    have tt4 := tt.trans t4 (fun i _ r => Or.inr r)
    clear hlo hown t0 t1 t2 t3 tz D3 tt T2 M2 T1 M1 L1 L2 J1 q1 q2 bg b3 hown4 htr4 t4 hm3 hrun4
    go_wp2
    go_ret
    exact ⟨g, rfl, by omega, hg4, hM4, D4, tt4⟩
end Go.Proofs.YtfmcbjlagdanjaaGreatDoor

/- What a transaction sees of a block: newest, (*Tx).Read by their contracts. -/
namespace Go.Proofs.YtfmcbjlagdanjaaGreatDoor
open Go.RowKit Go.Maps
set_option maxRecDepth 100000

/-- What a transaction sees: what it has written, what is not home, what the device tells. -/
def Sees (w : World) (S : DevS) (m a : List (Nat × Nat)) (b : Nat) (src : List Int) : Prop :=
  (∃ g, lk m b = some g ∧ w.heap[g]? = some (bl src)) ∨ (lk m b = none ∧ ((∃ g, lk a b = some g ∧ w.heap[g]? = some (bl src)) ∨ (lk a b = none ∧ src = rdB S b)))
theorem Sees.turns {F : Nat → Prop} {w w' : World} {S : DevS} {m a : List (Nat × Nat)} {b : Nat} {src : List Int} (h : Sees w S m a b src) (t : Turns F w w') (hm : ∀ g, lk m b = some g → ¬ F g) (ha : ∀ g, lk a b = some g → ¬ F g) : Sees w' S m a b src := by
  rcases h with ⟨g, h1, h2⟩ | ⟨h1, ⟨g, h2, h3⟩ | h2⟩
  · exact Or.inl ⟨g, h1, (t.block g (heap_lt h2) (hm g h1)).trans h2⟩
  · exact Or.inr ⟨h1, Or.inl ⟨g, h2, (t.block g (heap_lt h3) (ha g h2)).trans h3⟩⟩
  · exact Or.inr ⟨h1, Or.inr h2⟩
set_option maxHeartbeats 2000000 in
theorem newest_ok {w : World} {d : Nat} {S : DevS} {k N n n2 : Nat} {G : Nat → Prop} (hD : Dev w d 0 S k N G) {jb st sz tb wm wb : Nat} {seq place free last : Int} {bm : Nat} {sv : Value} {m a : List (Nat × Nat)} (hW : Wk w wb d .nilIface) (hwG : ¬ G wb) (hJ : Jb w jb d st sz seq place free bm (some tb)) (hT : Tb w tb jb wm sv last) (hM : Mp w wm n m) (hA : Mp w bm n2 a) (ho : S.off = false) (b : Nat) (hb : b < k) (src : List Int) (hs : Sees w S m a b src) (hl : src.length = 512) :
    Calls Tryz.prog 86 #[.pointer (some ⟨tb, 0, none⟩), .int .i64 b, .pointer (some ⟨wb, 0, none⟩)] w fun e w' => ∃ g, e = .returned (hv g) ∧ w.heap.size ≤ g ∧ w'.heap[g]? = some (bl src) ∧ Wk w' wb d .nilIface ∧ Dev w' d 0 S k N G ∧ Turns (fun i => G i ∨ i = wb) w w' := by
  obtain ⟨c0, c1, c2, c3, c4, c5, c6, c7, c8, fz⟩ := hJ.cells
  obtain ⟨t0, t1, t2, t3, tz⟩ := hT.cells
  have hk := hD.good.top
  have lm := hM.look b (by omega)
  have la := hA.look b (by omega)
  rcases hs with ⟨g0, h1, h2⟩ | ⟨h1, ⟨g0, h2, h3⟩ | ⟨h2, rfl⟩⟩
  · rw [h1] at lm
    have hL := Lies.full h2 hl
    clear la
    go_enter Tryz.func86, Tryz.ntmps86
    go_wp2_with fail
    refine (jcopied_any _ _ _ _ _ (by omega) hL).mono ?_
    rintro e w1 ⟨g1, rfl, l1, b1, q1⟩
    go_wp2
    go_ret
    exact ⟨g1, rfl, l1, b1, hW.turns (Below.turns q1 (fun _ => False)) id, hD.below q1, Below.turns q1 _⟩
  · rw [h1] at lm
    rw [h2] at la
    have hL := Lies.full h3 hl
    go_enter Tryz.func86, Tryz.ntmps86
    go_wp2_with fail
    refine (jcopied_any _ _ _ _ _ (by omega) hL).mono ?_
    rintro e w1 ⟨g1, rfl, l1, b1, q1⟩
    go_wp2
    go_ret
    exact ⟨g1, rfl, l1, b1, hW.turns (Below.turns q1 (fun _ => False)) id, hD.below q1, Below.turns q1 _⟩
  · rw [h1] at lm
    rw [h2] at la
    go_enter Tryz.func86, Tryz.ntmps86
    go_wp2_with fail
    refine (wkread_ok hD hW hwG ho b hb).mono ?_
    rintro e w1 ⟨g1, rfl, l1, b1, k1, d1, t1⟩
    go_wp2
    go_ret
    exact ⟨g1, rfl, l1, b1, k1, d1, t1⟩
set_option maxHeartbeats 2000000 in
theorem txRead_ok {w : World} {d : Nat} {S : DevS} {k N n n2 : Nat} {G : Nat → Prop} (hD : Dev w d 0 S k N G) {jb st sz tb wm : Nat} {seq place free last : Int} {bm : Nat} {sv : Value} {m a : List (Nat × Nat)} (hJ : Jb w jb d st sz seq place free bm (some tb)) (hT : Tb w tb jb wm sv last) (hM : Mp w wm n m) (hA : Mp w bm n2 a) (hjG : ¬ G jb) (htG : ¬ G tb) (hmG : ¬ G wm) (haG : ¬ G bm) (b : Nat) (hmd : ∀ g, lk m b = some g → ¬ G g) (had : ∀ g, lk a b = some g → ¬ G g) (ho : S.off = false) (hst : st + sz ≤ k) (hb : b < k) (hout : b < st ∨ st + sz ≤ b) (src : List Int) (hs : Sees w S m a b src) (hl : src.length = 512) :
    Calls Tryz.prog 36 #[.pointer (some ⟨tb, 0, none⟩), .int .i64 (b : Nat)] w fun e w' => ∃ g, e = .returned (.tuple #[hv g, .int .i64 0]) ∧ w.heap.size ≤ g ∧ w'.heap[g]? = some (bl src) ∧ Dev w' d 0 S k N G ∧ Turns G w w' := by
  obtain ⟨c0, c1, c2, c3, c4, c5, c6, c7, c8, fz⟩ := hJ.cells
  obtain ⟨t0, t1, t2, t3, tz⟩ := hT.cells
  have hk := hD.good.top
  have hF := hD.lt
  have hoB : outB k st sz b = true := by simp [outB]; omega
  have he : begE S = 0 := by unfold begE; rw [if_neg (by simp [ho])]
  have m1 := outside_any hD st sz (by omega) (by omega) b
  rw [hoB] at m1
  go_enter Tryz.func36, Tryz.ntmps36
  go_wp2_with fail
  refine m1.mono ?_
  rintro e w1 ⟨rfl, q1⟩
  have J1 : Jb w1 jb d st sz seq place free bm (some tb) := (q1.2.block jb (heap_lt hJ) hjG).trans hJ
  have T1 : Tb w1 tb jb wm sv last := (q1.2.block tb (heap_lt hT) htG).trans hT
  have M1 := hM.turns q1.2 hmG
  have A1 := hA.turns q1.2 haG
  have S1 := hs.turns q1.2 hmd had
  have s1 := q1.2.size
  clear c0 c1 c2 c3 c4 c5 c6 c7 c8 fz t0 t1 t2 t3 tz m1
  have c0 := J1.cells.c0
  go_wp2_with fail
  refine (begun_any q1.1).mono ?_
  rintro e w2 ⟨ev, rfl, hev, k2, q2⟩
  rw [he] at hev
  obtain ⟨_, rfl⟩ := hev.resolve_right (fun h => h.1 rfl)
  have J2 : Jb w2 jb d st sz seq place free bm (some tb) := (q2.2.block jb (heap_lt J1) hjG).trans J1
  have T2 : Tb w2 tb jb wm sv last := (q2.2.block tb (heap_lt T1) htG).trans T1
  have M2 := M1.turns q2.2 hmG
  have A2 := A1.turns q2.2 haG
  have S2 := S1.turns q2.2 hmd had
  have s2 := q2.2.size
  have hwG : ¬ G w1.heap.size := fun h => by have := q1.1.lt _ h; omega
  clear c0
  go_wp2_with fail
  refine (newest_ok q2.1 k2 hwG J2 T2 M2 A2 ho b hb src S2 hl).mono ?_
  rintro e w3 ⟨g3, rfl, l3, b3, k3, d3, t3⟩
  go_wp2_with fail
  refine (met_ok k3).mono ?_
  rintro e w4 ⟨rfl, b4⟩
  have hg4 := (b4.block g3 (heap_lt b3)).trans b3
  have d4 := d3.below b4
  have tt : Turns G w w4 := ((q1.2.trans q2.2 (fun _ _ h => h)).trans (t3.mono (G := fun i => G i ∨ i = w1.heap.size) (fun _ _ h => h)) (fun i hi r => r.elim id (fun r => by omega))).trans (Below.turns b4 (fun _ => False)) (fun _ _ r => r.elim)
  clear k3 b4 d3 t3 J2 T2 M2 A2 S2 J1 T1 M1 A1 S1 q1 q2 k2 b3
  go_wp2
  refine bodyPost_ret (results_tmp2 rfl _ _ _) rfl ?_
  exact ⟨g3, rfl, by omega, hg4, d4, tt⟩
end Go.Proofs.YtfmcbjlagdanjaaGreatDoor

/- The bits of bytes; has, length, bitsAt by their contracts. -/
namespace Go.Proofs.YtfmcbjlagdanjaaGreatDoor
open Go.RowKit Go.Maps
set_option maxRecDepth 100000

/-- Bytes, and what lies behind them in the same block. -/
abbrev bt (bs : List Int) (tl : List Value) : Obj := .cells (bs.map (Value.int .u8) ++ tl).toArray 5 (0, 0)
theorem Lies.bt {w : World} {g n c : Nat} {bs : List Int} {tl : List Value} (h : w.heap[g]? = some (bt bs tl)) (hn : bs.length = n) (hc : n ≤ c) : Lies w (some ⟨g, 0, none⟩) n c bs := by
  refine ⟨hn, hc, (fun h => by cases h), fun ad had t u hu => ?_⟩
  obtain rfl := Option.some.inj had
  rw [Addr.add_lit, Nat.zero_add]
  have ht : t < (bs.map (Value.int .u8)).length := (List.getElem?_eq_some_iff.1 hu).1
  simp only [World.cell?, h]
  rw [List.getElem?_toArray, List.getElem?_append_left ht]
  exact hu
theorem own_bt {w : World} {base n : Nat} {v : Value} {bs : List Int} (h : w.ownsRow base 5 1 v n (bs.map (Value.int .u8))) (h0 : 0 < n) : ∃ g tl, v = .slice (some ⟨g, 0, none⟩) n (n + tl.length) ∧ base ≤ g ∧ w.heap[g]? = some (bt bs tl) := by
  rcases h.2 with ⟨_, rfl⟩ | ⟨g, cap, cur, rfl, hg, hh, hnc, _, hcs, htk⟩
  · omega
  · refine ⟨g, cur.toList.drop n, ?_, hg, ?_⟩
    · simp [hcs, Nat.add_sub_cancel' hnc]
    · rw [hh]
      have e : cur.toList = bs.map (Value.int .u8) ++ cur.toList.drop n := by
        conv => lhs; rw [← List.take_append_drop n cur.toList]
        rw [Nat.mul_one] at htk
        rw [htk]
      show some (Obj.cells cur _ _) = some (Obj.cells _ _ _)
      rw [← e]
theorem bt_cell {w : World} {g : Nat} {bs : List Int} {tl : List Value} (h : w.heap[g]? = some (bt bs tl)) (j : Nat) (hj : j < bs.length) : w.cell? ⟨g, j, none⟩ = some (.int .u8 (bs.getD j 0)) := by
  simp only [World.cell?, h]
  rw [List.getElem?_toArray, List.getElem?_append_left (by simpa using hj), List.getElem?_map, List.getElem?_eq_getElem hj]
  simp [List.getD_eq_getElem?_getD, List.getElem?_eq_getElem hj]
/-- The bit of a data block. -/
def bitB (bs : List Int) (i : Nat) : Bool := (bs.getD (i / 8) 0).toNat.testBit (i % 8)
theorem and_bit : ∀ x : Fin 256, ∀ k : Fin 8, (bits BinOp.and IntKind.u8 ((x.val : Nat) : Int) (((2 ^ k.val : Nat) : Int)) != 0) = x.val.testBit k.val := by decide +kernel
theorem xor_bit : ∀ x : Fin 256, ∀ k : Fin 8, bits BinOp.xor IntKind.u8 ((x.val : Nat) : Int) (((2 ^ k.val : Nat) : Int)) = ((x.val ^^^ 2 ^ k.val : Nat) : Int) := by decide +kernel

set_option maxHeartbeats 2000000 in
theorem bhas_any (tx : Option Addr) (l : Lay) (g n c : Nat) (bs : List Int) (tl : List Value) (w : World) (hb : w.heap[g]? = some (bt bs tl)) (hn : bs.length = n) (hy : ∀ x ∈ bs, 0 ≤ x ∧ x ≤ 255) (i : Nat) (hi : i / 8 < n) (hi2 : i ≤ 100000) :
    Calls Tryz.prog 46 #[bmV tx l (some ⟨g, 0, none⟩) n c, .int .i64 i] w fun e w' => e = .returned (.bool (bitB bs i)) ∧ Below w.heap.size w w' := by
  obtain ⟨q, hq⟩ : ∃ q, i / 8 = q := ⟨_, rfl⟩
  obtain ⟨r, hr⟩ : ∃ r, i % 8 = r := ⟨_, rfl⟩
  have hr8 : r < 8 := by omega
  have hx := bt_cell hb q (by omega)
  have hxm : bs.getD q 0 ∈ bs := by
    rw [List.getD_eq_getElem?_getD, List.getElem?_eq_getElem (by omega)]
    exact List.getElem_mem _
  obtain ⟨y, hy1, hy2⟩ : ∃ y : Nat, bs.getD q 0 = y ∧ y < 256 := ⟨(bs.getD q 0).toNat, by have := hy _ hxm; omega, by have := hy _ hxm; omega⟩
  obtain ⟨bb, hbb⟩ : ∃ bb, y.testBit r = bb := ⟨_, rfl⟩
  have HE : Hid (bitB bs i = bb) := by show _ = _; unfold bitB; rw [hq, hr, hy1, ← hbb]; simp
  have hA := and_bit ⟨y, hy2⟩ ⟨r, hr8⟩
  simp only at hA
  rw [hbb] at hA
  clear hbb
  have hqi : (i : Int) / 8 = q := by omega
  have hri : (i : Int) % 8 = r := by omega
  rw [hy1] at hx
  obtain ⟨W, hW⟩ : ∃ W, w.alloc (.cells (bmA tx l (some ⟨g, 0, none⟩) n c) 96) = W := ⟨_, rfl⟩
  have hbW : Below w.heap.size w W := by rw [← hW]; exact (Below.refl _ w).alloc (Nat.le_refl _) _
  have cB : W.cell? ⟨w.heap.size, 21, none⟩ = some (.slice (some ⟨g, 0, none⟩) n c) := by rw [← hW]; simp
  have cX : W.cell? ⟨g, q, none⟩ = some (.int .u8 (y : Int)) := (hbW.cell (World.block_lt_of_cell? w _ hx)).trans hx
  have hqn : (q : Int) < n := by omega
  have hW' : w.alloc (.cells #[.pointer tx, .int .i64 l.bo, .int .i64 l.jr, .int .i64 l.jl, .int .i64 l.le, .int .i64 l.ll, .int .i64 l.bi, .int .i64 l.bl, .int .i64 l.ta, .int .i64 l.tl, .int .i64 l.dt, .int .i64 l.dl, .int .i64 l.to, .int .i64 l.sh.cl, .int .i64 l.sh.wi, .int .i64 l.sh.pl, .int .i64 l.sh.ca, .int .i64 l.sh.ino, .int .i64 l.sh.qu, .int .i64 l.sh.da, .int .i64 l.sh.jo, .slice (some ⟨g, 0, none⟩) n c] 96) = W := hW
  clear hW hx hb hy hxm hy1 hq hr hi
  rcases (show r = 0 ∨ r = 1 ∨ r = 2 ∨ r = 3 ∨ r = 4 ∨ r = 5 ∨ r = 6 ∨ r = 7 by omega) with rfl | rfl | rfl | rfl | rfl | rfl | rfl | rfl
  · have hA' : (bits BinOp.and IntKind.u8 (y : Int) 1 != 0) = bb := hA
    clear hA
    go_enter Tryz.func46, Tryz.ntmps46
    go_wp2_with fail
    try rw [hW']
    go_quiet (fail)
    go_wp2_with fail
    go_ret
    exact ⟨by rw [HE.out]; rfl, below_drewN hbW _⟩
  · have hA' : (bits BinOp.and IntKind.u8 (y : Int) 2 != 0) = bb := hA
    clear hA
    go_enter Tryz.func46, Tryz.ntmps46
    go_wp2_with fail
    try rw [hW']
    go_quiet (fail)
    go_wp2_with fail
    go_ret
    exact ⟨by rw [HE.out]; rfl, below_drewN hbW _⟩
  · have hA' : (bits BinOp.and IntKind.u8 (y : Int) 4 != 0) = bb := hA
    clear hA
    go_enter Tryz.func46, Tryz.ntmps46
    go_wp2_with fail
    try rw [hW']
    go_quiet (fail)
    go_wp2_with fail
    go_ret
    exact ⟨by rw [HE.out]; rfl, below_drewN hbW _⟩
  · have hA' : (bits BinOp.and IntKind.u8 (y : Int) 8 != 0) = bb := hA
    clear hA
    go_enter Tryz.func46, Tryz.ntmps46
    go_wp2_with fail
    try rw [hW']
    go_quiet (fail)
    go_wp2_with fail
    go_ret
    exact ⟨by rw [HE.out]; rfl, below_drewN hbW _⟩
  · have hA' : (bits BinOp.and IntKind.u8 (y : Int) 16 != 0) = bb := hA
    clear hA
    go_enter Tryz.func46, Tryz.ntmps46
    go_wp2_with fail
    try rw [hW']
    go_quiet (fail)
    go_wp2_with fail
    go_ret
    exact ⟨by rw [HE.out]; rfl, below_drewN hbW _⟩
  · have hA' : (bits BinOp.and IntKind.u8 (y : Int) 32 != 0) = bb := hA
    clear hA
    go_enter Tryz.func46, Tryz.ntmps46
    go_wp2_with fail
    try rw [hW']
    go_quiet (fail)
    go_wp2_with fail
    go_ret
    exact ⟨by rw [HE.out]; rfl, below_drewN hbW _⟩
  · have hA' : (bits BinOp.and IntKind.u8 (y : Int) 64 != 0) = bb := hA
    clear hA
    go_enter Tryz.func46, Tryz.ntmps46
    go_wp2_with fail
    try rw [hW']
    go_quiet (fail)
    go_wp2_with fail
    go_ret
    exact ⟨by rw [HE.out]; rfl, below_drewN hbW _⟩
  · have hA' : (bits BinOp.and IntKind.u8 (y : Int) 128 != 0) = bb := hA
    clear hA
    go_enter Tryz.func46, Tryz.ntmps46
    go_wp2_with fail
    try rw [hW']
    go_quiet (fail)
    go_wp2_with fail
    go_ret
    exact ⟨by rw [HE.out]; rfl, below_drewN hbW _⟩
theorem blength_any (tx : Option Addr) (l : Lay) (bo : Option Addr) (n c : Nat) (w : World) (D : Nat) (hD : l.dl = D) (hD2 : D ≤ 4096) :
    Calls Tryz.prog 102 #[bmV tx l bo n c] w fun e w' => e = .returned (.int .i64 ((D + 7) / 8 : Nat)) ∧ Below w.heap.size w w' := by
  have hDi : (D : Int) ≤ 4096 := by omega
  go_enter Tryz.func102, Tryz.ntmps102
  go_wp2
  go_ret
  refine ⟨?_, (Below.refl _ w).alloc (Nat.le_refl _) _⟩
  show Ending.returned (Value.int .i64 _) = Ending.returned (Value.int .i64 _)
  congr 2
  omega
theorem bitsAt_any (tx : Option Addr) (l : Lay) (bo : Option Addr) (n c : Nat) (w : World) (D at_ : Nat) (hD : l.dl = D) (hD2 : D ≤ 4096) (ha : at_ * 8 ≤ D) :
    Calls Tryz.prog 103 #[bmV tx l bo n c, .int .i64 at_] w fun e w' => e = .returned (.int .i64 (min 8 (D - at_ * 8) : Nat)) ∧ Below w.heap.size w w' := by
  have hDi : (D : Int) ≤ 4096 := by omega
  have hai : (at_ : Int) * 8 ≤ D := by omega
  go_enter Tryz.func103, Tryz.ntmps103
  go_wp2
  all_goals (
    go_ret
    refine ⟨?_, (Below.refl _ w).alloc (Nat.le_refl _) _⟩
    show Ending.returned (Value.int .i64 _) = Ending.returned (Value.int .i64 _)
    congr 2
    omega)
end Go.Proofs.YtfmcbjlagdanjaaGreatDoor
