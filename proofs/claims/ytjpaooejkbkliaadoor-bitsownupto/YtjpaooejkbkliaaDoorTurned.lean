/- annexlaw1.turned by its contract. -/
import Derived.Test.YtjpaooejkbkliaaDoorWant
import Derived.Deep.RegionWith
import Derived.Deep.RegionHeld
namespace Go.Proofs.YtjpaooejkbkliaaDoor
open Go.RowKit
set_option maxRecDepth 100000

/-- A row of bytes of one's own, whatever they are. -/
def Row (w : World) (base g n c : Nat) : Prop := ∃ zs : List Int, (∀ z ∈ zs, 0 ≤ z ∧ z ≤ 255) ∧ w.ownsRow base 5 1 (.slice (some ⟨g, 0, none⟩) n c) n (zs.map (Value.int .u8))
theorem bits_u8 (op : BinOp) (a b : Int) : 0 ≤ bits op .u8 a b ∧ bits op .u8 a b ≤ 255 := by
  unfold bits
  cases op <;> simp only [IntKind.wrap_u8] <;> omega
theorem Row.set {w : World} {base g n c : Nat} (h : Row w base g n c) (k : Nat) (z : Int) (hz : 0 ≤ z ∧ z ≤ 255) : Row (w.setCell ⟨g, k, none⟩ (.int .u8 z)) base g n c := by
  obtain ⟨zs, hzs, hr⟩ := h
  refine ⟨zs.set k z, fun y hy => ?_, ?_⟩
  · rcases List.mem_or_eq_of_mem_set hy with h | h
    · exact hzs y h
    · rw [h]; exact hz
  · have := (hr.stored k (.int .u8 z)).1
    rwa [List.map_set]
theorem Row.far {w : World} {base g h n c : Nat} (r : Row w base h n c) (hne : g ≠ h) (k : Nat) (u : Value) : Row (w.setCell ⟨g, k, none⟩ u) base h n c := by
  obtain ⟨zs, hzs, hr⟩ := r
  exact ⟨zs, hzs, ownsRow_setCell_other hr (by simp [Value.ownBlock]; omega) u⟩
theorem Row.lt {w : World} {base g n c : Nat} (h : Row w base g n c) : base ≤ g ∧ g < w.heap.size := by
  obtain ⟨zs, _, hr⟩ := h
  exact hr.lt g rfl
theorem Row.lies {w : World} {base g n c : Nat} (h : Row w base g (n + 3) c) : ∃ ys : List Int, (∀ z ∈ ys, 0 ≤ z ∧ z ≤ 255) ∧ Lies w (some ⟨g, 0, none⟩) n c ys := by
  obtain ⟨zs, hzs, hr⟩ := h
  have hl := Lies.own hr
  have hlen := hl.hlen
  refine ⟨zs.take n, fun z hz => hzs z (List.mem_of_mem_take hz), ⟨by simp; omega, by have := hl.hle; omega, (fun h => by cases h), fun ad had t u hu => ?_⟩⟩
  refine hl.hcells ad had t u ?_
  rw [List.map_take, List.getElem?_take] at hu
  split at hu
  · exact hu
  · cases hu

/-- A field in a box of its own. -/
structure Box4 (w : World) (a : Nat) (K X S : Int) (v : Value) : Prop where
  c0 : w.cell? ⟨a, 0, none⟩ = some (.int .i64 K)
  c1 : w.cell? ⟨a, 1, none⟩ = some (.int .i64 X)
  c2 : w.cell? ⟨a, 2, none⟩ = some (.int .u64 S)
  c3 : w.cell? ⟨a, 3, none⟩ = some v
theorem Box4.below {w w' : World} {a : Nat} {K X S : Int} {v : Value} (h : Box4 w a K X S v) (hb : Below w.heap.size w w') : Box4 w' a K X S v := ⟨cell_later hb h.c0, cell_later hb h.c1, cell_later hb h.c2, cell_later hb h.c3⟩
theorem Box4.far {w : World} {a g : Nat} {K X S : Int} {v : Value} (h : Box4 w a K X S v) (hne : g ≠ a) (k : Nat) (u : Value) : Box4 (w.setCell ⟨g, k, none⟩ u) a K X S v :=
  ⟨by rw [World.cell?_setCell_far _ _ _ _ (by simpa using hne)]; exact h.c0, by rw [World.cell?_setCell_far _ _ _ _ (by simpa using hne)]; exact h.c1, by rw [World.cell?_setCell_far _ _ _ _ (by simpa using hne)]; exact h.c2, by rw [World.cell?_setCell_far _ _ _ _ (by simpa using hne)]; exact h.c3⟩
theorem Box4.new (w : World) (K X S : Int) (v : Value) : Box4 (w.alloc (.cells #[.int .i64 K, .int .i64 X, .int .u64 S, v] 32)) w.heap.size K X S v :=
  ⟨by rw [World.cell?_alloc_at _ _ _ _ rfl]; rfl, by rw [World.cell?_alloc_at _ _ _ _ rfl]; rfl, by rw [World.cell?_alloc_at _ _ _ _ rfl]; rfl, by rw [World.cell?_alloc_at _ _ _ _ rfl]; rfl⟩

theorem Row.alloc {w : World} {base g n c : Nat} (h : Row w base g n c) (o : Obj) : Row (w.alloc o) base g n c := by
  obtain ⟨zs, hzs, hr⟩ := h
  exact ⟨zs, hzs, hr.alloc o⟩

theorem Lies.far {w : World} {ao : Option Addr} {n c g k : Nat} {bs : List Int} (h : Lies w ao n c bs) (hne : ∀ ad, ao = some ad → g ≠ ad.block) (u : Value) : Lies (w.setCell ⟨g, k, none⟩ u) ao n c bs :=
  ⟨h.hlen, h.hle, h.hnone, fun ad had t v hv => by
    rw [World.cell?_setCell_far _ _ _ _ (by rw [add_block]; exact hne ad had)]
    exact h.hcells ad had t v hv⟩
theorem Lies.drew {w : World} {ao : Option Addr} {n c : Nat} {bs : List Int} (h : Lies w ao n c bs) : Lies w.drew ao n c bs := ⟨h.hlen, h.hle, h.hnone, h.hcells⟩
theorem Box4.drew {w : World} {a : Nat} {K X S : Int} {v : Value} (h : Box4 w a K X S v) : Box4 w.drew a K X S v := ⟨h.c0, h.c1, h.c2, h.c3⟩
theorem own_far {w : World} {base n c : Nat} {ao : Option Addr} {xs : List Value} (h : w.ownsRow base 5 1 (.slice ao n c) n xs) (g : Nat) (hg : g < base) : ∀ ad, ao = some ad → g ≠ ad.block := by
  rintro ad rfl
  rcases h.2 with ⟨hv, _⟩ | ⟨b, cap, cur, hv, hb, _⟩
  · cases hv
  · cases hv
    simp only
    omega
theorem Box4.put {w : World} {a : Nat} {K X S : Int} {v : Value} (h : Box4 w a K X S v) (u : Value) : Box4 (w.setCell ⟨a, 3, none⟩ u) a K X S u :=
  ⟨by rw [World.cell?_setCell_other _ _ _ _ (by simp)]; exact h.c0, by rw [World.cell?_setCell_other _ _ _ _ (by simp)]; exact h.c1, by rw [World.cell?_setCell_other _ _ _ _ (by simp)]; exact h.c2, World.cell?_setCell_same _ _ _ h.c3⟩

/-- Of the old memory the blocks g and h alone may have turned. -/
structure Turn (g h : Nat) (w w' : World) : Prop where
  os : w'.os = w.os
  tape : w'.tape = w.tape
  output : w'.output = w.output
  size : w.heap.size ≤ w'.heap.size
  block : ∀ k, k < w.heap.size → k ≠ g → k ≠ h → w'.heap[k]? = w.heap[k]?
theorem Turn.refl (g h : Nat) (w : World) : Turn g h w w := ⟨rfl, rfl, rfl, Nat.le_refl _, fun _ _ _ _ => rfl⟩
theorem Turn.then {g h : Nat} {w w1 w2 : World} (t : Turn g h w w1) (hb : Below w1.heap.size w1 w2) : Turn g h w w2 :=
  ⟨hb.os.trans t.os, hb.tape.trans t.tape, hb.output.trans t.output, Nat.le_trans t.size hb.size, fun k hk h1 h2 => (hb.block k (Nat.lt_of_lt_of_le hk t.size)).trans (t.block k hk h1 h2)⟩
theorem Turn.set {g h : Nat} {w w1 : World} (t : Turn g h w w1) (b k : Nat) (u : Value) (hb : b = g ∨ b = h ∨ w.heap.size ≤ b) : Turn g h w (w1.setCell ⟨b, k, none⟩ u) :=
  ⟨t.os, t.tape, t.output, by simpa using t.size, fun j hj h1 h2 => by
    rw [heap_setCell_other _ _ _ _ (by simp only; omega)]
    exact t.block j hj h1 h2⟩
theorem Turn.drew {g h : Nat} {w w1 : World} (t : Turn g h w w1) : Turn g h w w1.drew := ⟨t.os, t.tape, t.output, t.size, t.block⟩
theorem Turn.alloc {g h : Nat} {w w1 : World} (t : Turn g h w w1) (o : Obj) : Turn g h w (w1.alloc o) := t.then ((Below.refl _ _).alloc (Nat.le_refl _) o)
theorem Turn.below {g h base : Nat} {w w1 : World} (t : Turn g h w w1) (h1 : base ≤ w.heap.size) (h2 : base ≤ g) (h3 : base ≤ h) : Below base w w1 :=
  ⟨t.os, t.tape, t.output, t.size, fun k hk => t.block k (by omega) (by omega) (by omega)⟩

set_option maxHeartbeats 1000000 in
theorem turned_any (base g n c h dl c1 : Nat) (K X S : Int) (w : World) (hn : n + dl + 8 ≤ 268435456) (hs0 : 0 ≤ S) (hs1 : S ≤ 18446744073709551615)
    (hg : Row w base g (n + 3) c) (hh : Row w base h (dl + 3) c1) (hne : g ≠ h) :
    Calls Tryd.prog 32 #[.slice (some ⟨g, 0, none⟩) n c, itemV K X S (some ⟨h, 0, none⟩) dl c1, .slice (some ⟨h, 0, none⟩) (dl + 3) c1] w fun e w' => e = .returned (.bool true) ∧ Turn g h w w' := by
  have hni : (n : Int) ≤ 268435456 := by omega
  have hdi : (dl : Int) ≤ 268435456 := by omega
  have hgl := hg.lt
  have hhl := hh.lt
  go_enter Tryd.func32, Tryd.ntmps32
  go_wp2
  go_loopw [7] (fun i wr => ∃ k : Nat, k ≤ n ∧ i = .int .i64 k ∧ Row wr base g (n + 3) c ∧ Row wr base h (dl + 3) c1 ∧ Turn g h w wr ∧ Box4 wr w.heap.size K X S (.slice (some ⟨h, 0, none⟩) dl c1)) (fun i _ => n - (intOf i).toNat)
  case atStart => exact ⟨0, by omega, rfl, hg.alloc _, hh.alloc _, (Turn.refl _ _ _).alloc _, Box4.new _ _ _ _ _⟩
  case round =>
    obtain ⟨k, hk, rfl, hgr, hhr, hb, hbox⟩ := hrel
    by_cases hlt : k < n
    · obtain ⟨zs, hzs, hgr'⟩ := id hgr
      obtain ⟨Z, hZ⟩ : ∃ Z, zs[k]? = some Z := by
        have := hgr'.1
        simp at this
        exact ⟨_, List.getElem?_eq_getElem (by omega)⟩
      have hcell : wr.cell? ⟨g, k, none⟩ = some (.int .u8 Z) := by
        rw [hgr'.cellAt k (by omega)]; simp [hZ]
      have hfz := hgr'.frozenAt k
      clear hgr' hzs hZ
      go_wp2
      go_roundw
      case rel => exact ⟨k + 1, by omega, by go_num, hgr.set _ _ (bits_u8 _ _ _), hhr.far hne _ _, hb.set _ _ _ (.inl rfl), hbox.far (by omega) _ _⟩
      case measure => simp [intOf]; omega
    · go_wp2
      clear hlt hk
      go_loopw [8] (fun i wr => ∃ k : Nat, k ≤ dl + 3 ∧ i = .int .i64 k ∧ Row wr base g (n + 3) c ∧ Row wr base h (dl + 3) c1 ∧ Turn g h w wr ∧ Box4 wr w.heap.size K X S (.slice (some ⟨h, 0, none⟩) dl c1)) (fun i _ => dl + 3 - (intOf i).toNat)
      case atStart => exact ⟨0, by omega, rfl, hgr, hhr, hb, hbox⟩
      case round =>
        clear hgr hhr hb hbox
        obtain ⟨k, hk, rfl, hgr, hhr, hb, hbox⟩ := hrel
        by_cases hlt : k < dl + 3
        · obtain ⟨zs, hzs, hgr'⟩ := id hhr
          obtain ⟨Z, hZ⟩ : ∃ Z, zs[k]? = some Z := by
            have := hgr'.1
            simp at this
            exact ⟨_, List.getElem?_eq_getElem (by omega)⟩
          have hcell : wr.cell? ⟨h, k, none⟩ = some (.int .u8 Z) := by
            rw [hgr'.cellAt k (by omega)]; simp [hZ]
          have hfz := hgr'.frozenAt k
          clear hgr' hzs hZ
          go_wp2
          go_roundw
          case rel => exact ⟨k + 1, by omega, by go_num, hgr.far hne.symm _ _, hhr.set _ _ (bits_u8 _ _ _), hb.set _ _ _ (.inr (.inl rfl)), hbox.far (by omega) _ _⟩
          case measure => simp [intOf]; omega
        · have hbl : w.heap.size < wr.heap.size := World.block_lt_of_cell? _ _ hbox.c0
          have hbox' := fun o => hbox.below ((Below.refl _ _).alloc (Nat.le_refl _) o)
          have hp3 : ∀ o, (wr.alloc o).cell? ⟨w.heap.size, 3, none⟩ = some (.slice (some ⟨h, 0, none⟩) dl c1) := fun o => (hbox' o).c3
          obtain ⟨p0, p1, p2, p3⟩ := id hbox
          go_wp2_with fail
          have hgn := (hgr.alloc (.cells #[.int .i64 K, .int .i64 X, .int .u64 S, .slice (some ⟨h, 0, none⟩) dl c1] 32)).lies
          have hhn := (hhr.alloc (.cells #[.int .i64 K, .int .i64 X, .int .u64 S, .slice (some ⟨h, 0, none⟩) dl c1] 32)).lies
          obtain ⟨ys, _, hLg⟩ := hgn
          obtain ⟨zs, hzs, hLh⟩ := hhn
          have hB9 := Box4.new wr K X S (.slice (some ⟨h, 0, none⟩) dl c1)
          have hB4 := hbox' (.cells #[.int .i64 K, .int .i64 X, .int .u64 S, .slice (some ⟨h, 0, none⟩) dl c1] 32)
          have hbN := hb.alloc (.cells #[.int .i64 K, .int .i64 X, .int .u64 S, .slice (some ⟨h, 0, none⟩) dl c1] 32)
          have hfN : (wr.alloc (.cells #[.int .i64 K, .int .i64 X, .int .u64 S, .slice (some ⟨h, 0, none⟩) dl c1] 32)).frozen? ⟨wr.heap.size, 3, none⟩ = false := by simp
          have hszN : (wr.alloc (.cells #[.int .i64 K, .int .i64 X, .int .u64 S, .slice (some ⟨h, 0, none⟩) dl c1] 32)).heap.size = wr.heap.size + 1 := by simp
          clear hp3 hbox' p0 p1 p2 p3 hbox hgr hhr
          generalize wr.alloc (.cells #[.int .i64 K, .int .i64 X, .int .u64 S, .slice (some ⟨h, 0, none⟩) dl c1] 32) = wn at *
          refine (bytes29_any (some ⟨h, 0, none⟩) dl c1 zs wn (by omega) hLh).mono ?_
          rintro e w2 ⟨a2, c2, rfl, ho2, hb2⟩
          have hf2 : w2.frozen? ⟨wr.heap.size, 3, none⟩ = false := by rw [hb2.frozen (by simp only; omega)]; exact hfN
          have q3 := (hB9.below hb2).c3
          have hB9' := (((hB9.below hb2).put (.slice a2 dl c2))).drew
          have hB4' := ((hB4.below hb2).far (g := wr.heap.size) (by omega) 3 (.slice a2 dl c2)).drew
          have hLg' := ((hLg.below hb2 (Nat.le_refl _)).far (g := wr.heap.size) (k := 3) (fun ad had => by cases had; simp only; omega) (.slice a2 dl c2)).drew
          have hLh' := ((hLh.below hb2 (Nat.le_refl _)).far (g := wr.heap.size) (k := 3) (fun ad had => by cases had; simp only; omega) (.slice a2 dl c2)).drew
          have hL2' := ((Lies.owned ho2).far (g := wr.heap.size) (k := 3) (own_far ho2 _ (by omega)) (.slice a2 dl c2)).drew
          have hb3 : Turn g h w (w2.setCell ⟨wr.heap.size, 3, none⟩ (.slice a2 dl c2)).drew := ((hbN.then hb2).set _ _ _ (.inr (.inr (by omega)))).drew
          go_wp2
          clear q3 hf2 hb2 ho2 hLh hLg hB9 hB4 hbN hfN hszN hb hg hh
          generalize w2.setCell ⟨wr.heap.size, 3, none⟩ (.slice a2 dl c2) = W3 at *
          obtain ⟨s0, s1, s2, s3⟩ := id hB4'
          obtain ⟨t0, t1, t2, t3⟩ := id hB9'
          have hpl := putN_le K dl
          go_region_with (first
            | (go_at_call 22; refine (put_any (some ⟨g, 0, none⟩) n c ys K X S (some ⟨h, 0, none⟩) dl c1 zs _ hs0 hs1 (by omega) hLg' hLh' hzs).mono ?_; rintro e w4 ⟨a4, c4, rfl, ho4, hb4⟩; have hB9x := hB9'.below hb4; have hLgx := hLg'.below hb4 (Nat.le_refl _); have hL2x := hL2'.below hb4 (Nat.le_refl _); have hb04 := hb3.then hb4; obtain ⟨x0, x1, x2, x3⟩ := id hB9x)
            | (go_at_call 29; refine (bytes29_any (some ⟨g, 0, none⟩) n c ys _ (by omega) hLgx).mono ?_; rintro e w5 ⟨a5, c5, rfl, ho5, hb5⟩; have hB9y := hB9x.below hb5; have hL2y := hL2x.below hb5 (Nat.le_refl _); have hb05 := hb04.then hb5; have hL4y := (Lies.owned ho4).below hb5 (Nat.le_refl _); obtain ⟨y0, y1, y2, y3⟩ := id hB9y)
            | (go_at_call 31; refine (want_any a5 n c5 ys K X S a2 dl c2 zs _ hs0 hs1 (by omega) (Lies.owned ho5) hL2y hzs).mono ?_; rintro e w6 ⟨a6, c6, rfl, ho6, hb6⟩; have hb06 := hb05.then hb6; have hL4z := hL4y.below hb6 (Nat.le_refl _))
            | (go_at_call 23; refine (same_true a4 a6 _ c4 c6 (ys ++ putL K X S zs) _ (by omega) hL4z (Lies.owned ho6)).mono ?_; rintro e w7 ⟨rfl, hb7⟩; have hb07 := hb06.then hb7))
          all_goals (try go_wp2)
          all_goals (go_ret; exact ⟨rfl, hb07⟩)
end Go.Proofs.YtjpaooejkbkliaaDoor
