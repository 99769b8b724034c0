/- BitsPuts: the walk. -/
import Derived.Test.YtjpaooejkbkliaaDoorPutsMid
import Derived.Test.YtjpaooejkbkliaaDoorBack
import Derived.Deep.RegionHeld3
namespace Go.Proofs.YtjpaooejkbkliaaDoor
open Go.RowKit
set_option maxRecDepth 100000

theorem own_far' {w : World} {base n c : Nat} {ao : Option Addr} {xs : List Value} (h : w.ownsRow base 5 1 (.slice ao n c) n xs) (g : Nat) (hg : w.heap.size ≤ g) : ∀ ad, ao = some ad → g ≠ ad.block := by
  rintro ad rfl
  rcases h.2 with ⟨hv, _⟩ | ⟨b, cap, cur, hv, hb, hh, _⟩
  · cases hv
  · cases hv
    have := lt_of_block hh
    simp only
    omega
theorem Lies.farIf {w : World} {ao : Option Addr} {n c g k : Nat} {bs : List Int} (h : Lies w ao n c bs) (hne : ∀ ad, ao = some ad → 0 < n → g ≠ ad.block) (u : Value) : Lies (w.setCell ⟨g, k, none⟩ u) ao n c bs :=
  ⟨h.hlen, h.hle, h.hnone, fun ad had t v hv => by
    have h0 : 0 < n := by
      have := (List.getElem?_eq_some_iff.1 hv).1
      have hl := h.hlen
      simp at this
      omega
    rw [World.cell?_setCell_far _ _ _ _ (by rw [add_block]; exact hne ad had h0)]
    exact h.hcells ad had t v hv⟩

theorem Box4.turn {w W : World} {a g h : Nat} {K X S : Int} {v : Value} (b : Box4 w a K X S v) (t : Turn g h w W) (h1 : a ≠ g) (h2 : a ≠ h) : Box4 W a K X S v := by
  have hl : a < w.heap.size := World.block_lt_of_cell? _ _ b.c0
  have hk : ∀ o, W.cell? ⟨a, o, none⟩ = w.cell? ⟨a, o, none⟩ := fun o => World.cell?_of_block (w := w) (t.block a hl h1 h2)
  exact ⟨(hk 0).trans b.c0, (hk 1).trans b.c1, (hk 2).trans b.c2, (hk 3).trans b.c3⟩

set_option maxHeartbeats 2000000 in
theorem puts_pos (a0 : Option Addr) (lb cb : Nat) (B : List Int) (ib io len cap : Nat) (xs : List Itm) (er : Nat → Addr) (w : World) (hE : Errs w er) (hLB : Lies w a0 lb cb B) (hsB : ∀ y ∈ B, 0 ≤ y ∧ y ≤ 255) (hl : xs.length = len)
    (hc : ∀ i (h : i < len) j v, (xs[i]'(by omega)).cells[j]? = some v → w.cell? ⟨ib, io + i * 4 + j, none⟩ = some v) (hcame : ∀ x ∈ xs, Came w x) (htot : lb + total xs ≤ 134217728) :
    Calls Tryd.prog 7 #[.slice a0 lb cb, .slice (some ⟨ib, io, none⟩) len cap] w fun e w' => e = .returned (.bool true) ∧ Below w.heap.size w w' := by
  have hlen8 := len_total xs
  have hleni : (len : Int) ≤ 134217728 := by omega
  go_enter Tryd.func7, Tryd.ntmps7
  go_wp2_with fail
  refine (head_any er w hE).mono ?_
  rintro e w1 ⟨rfl, hb1⟩
  go_wp2_with fail
  refine (bytes29_any a0 lb cb B _ (by omega) (hLB.below hb1 (Nat.le_refl _))).mono ?_
  rintro e w2 ⟨al, cl, rfl, hol, hb2⟩
  go_wp2_with fail
  refine (bytes29_any a0 lb cb B _ (by omega) ((hLB.below hb1 (Nat.le_refl _)).below hb2 (Nat.le_refl _))).mono ?_
  rintro e w3 ⟨am, cm, rfl, hom, hb3⟩
  have hb03 : Below w.heap.size w w3 := (hb1.trans (hb2.mono hb1.size)).trans (hb3.mono (Nat.le_trans hb1.size hb2.size))
  have hol3 := ownsRow_mono (own_later hol hb3) hb1.size
  have hom3 := ownsRow_mono hom (Nat.le_trans hb1.size hb2.size)
  clear hol hom hb1 hb2 hb3 hE
  go_wp2_with fail
  go_loopw [6, 7, 8] (fun vl vm i wr => ∃ (k : Nat) (al am : Option Addr) (cl cm : Nat), k ≤ len ∧ i = .int .i64 k ∧ vl = .slice al (lb + lenTo xs k) cl ∧ vm = .slice am (lb + lenTo xs k) cm ∧
      wr.ownsRow w.heap.size 5 1 (.slice al (lb + lenTo xs k) cl) (lb + lenTo xs k) ((B ++ putsL (xs.take k)).map (Value.int .u8)) ∧ wr.ownsRow w.heap.size 5 1 (.slice am (lb + lenTo xs k) cm) (lb + lenTo xs k) ((B ++ putsL (xs.take k)).map (Value.int .u8)) ∧ Below w.heap.size w wr) (fun _ _ i _ => len - (intOf i).toNat)
  case atStart => exact ⟨0, al, am, cl, cm, Nat.zero_le _, rfl, rfl, rfl, by simpa [lenTo, putsL] using hol3, by simpa [lenTo, putsL] using hom3, hb03⟩
  case round =>
    obtain ⟨k, al, am, cl, cm, hk, rfl, rfl, rfl, hol, hom, hb⟩ := hrel
    clear hol3 hom3 hb03
    by_cases hlk : k < len
    · obtain ⟨x, hx⟩ : ∃ x, x = xs[k]'(by omega) := ⟨_, rfl⟩
      have hxin : x ∈ xs := by rw [hx]; exact List.getElem_mem _
      have hcx := (hcame x hxin).below hb (Nat.le_refl _)
      have hit : ∀ j v, x.cells[j]? = some v → wr.cell? ⟨ib, io + k * 4 + j, none⟩ = some v := fun j v hv => cell_later hb (hc k hlk j v (by rw [← hx]; exact hv))
      have hds : x.ds.length = x.dl := hcx.lies.hlen
      have hT := lenTo_total xs (fun y hy => (hcame y hy).lies.hlen) k (by omega)
      rw [← hx] at hT
      have hS := lenTo_succ xs k (by omega)
      rw [← hx, hds] at hS
      have hP : putsL (xs.take (k + 1)) = putsL (xs.take k) ++ putL x.K x.X x.S x.ds := by rw [take_snoc' xs k (by omega), putsL_snoc, ← hx]
      have hsL : ∀ y ∈ B ++ putsL (xs.take k), 0 ≤ y ∧ y ≤ 255 := fun y hy => by
        rcases List.mem_append.1 hy with h | h
        · exact hsB y h
        · exact puts_small _ w (fun z hz => hcame z (List.mem_of_mem_take hz)) y h
      have HS : Hid (lenTo xs (k + 1) = lenTo xs k + putN x.K x.dl ∧ putsL (xs.take (k + 1)) = putsL (xs.take k) ++ putL x.K x.X x.S x.ds) := ⟨hS, hP⟩
      have hLl := Lies.owned hol
      have hLm := Lies.owned hom
      have hLen : (B ++ putsL (xs.take k)).length = lb + lenTo xs k := hLl.hlen
      have hki : (k : Int) ≤ 134217728 := by omega
      clear hS hP hx hc
      generalize hLL : B ++ putsL (xs.take k) = L at *
      generalize hNN : lb + lenTo xs k = N at *
      have hNi : (N : Int) ≤ 134217728 := by omega
      have hdi : (x.dl : Int) ≤ 134217728 := by omega
      go_wp2_with fail
      refine (room30 al N cl L wr (by omega) hLl).mono ?_
      rintro e w1 ⟨g1, c1, rfl, ho1, hb1⟩
      have i0 := cell_later hb1 (hit 0 _ rfl)
      have i1 := cell_later hb1 (hit 1 _ rfl)
      have i2 := cell_later hb1 (hit 2 _ rfl)
      have i3 := cell_later hb1 (hit 3 _ rfl)
      simp only [Nat.add_zero] at i0
      go_wp2_with fail
      have hbn : Below wr.heap.size wr (w1.alloc (.cells #[.int .i64 x.K, .int .i64 x.X, .int .u64 x.S, .slice x.bo x.dl x.dc] 32)) := hb1.alloc hb1.size _
      have hBx := Box4.new w1 x.K x.X x.S (.slice x.bo x.dl x.dc)
      have hf := ho1.alloc (.cells #[.int .i64 x.K, .int .i64 x.X, .int .u64 x.S, .slice x.bo x.dl x.dc] 32)
      have hfN : (w1.alloc (.cells #[.int .i64 x.K, .int .i64 x.X, .int .u64 x.S, .slice x.bo x.dl x.dc] 32)).frozen? ⟨w1.heap.size, 3, none⟩ = false := by simp
      have hszN : (w1.alloc (.cells #[.int .i64 x.K, .int .i64 x.X, .int .u64 x.S, .slice x.bo x.dl x.dc] 32)).heap.size = w1.heap.size + 1 := by simp
      have hg1 := ho1.lt g1 rfl
      clear i0 i1 i2 i3 ho1
      generalize w1.alloc (.cells #[.int .i64 x.K, .int .i64 x.X, .int .u64 x.S, .slice x.bo x.dl x.dc] 32) = wn at *
      refine (room30 x.bo x.dl x.dc x.ds wn (by omega) (hcx.lies.below hbn (Nat.le_refl _))).mono ?_
      rintro e w2 ⟨g2, c2, rfl, ho2, hb2⟩
      have hb02 : Below wr.heap.size wr w2 := hbn.trans (hb2.mono hbn.size)
      have i0 := cell_later hb02 (hit 0 _ rfl)
      have i1 := cell_later hb02 (hit 1 _ rfl)
      have i2 := cell_later hb02 (hit 2 _ rfl)
      have i3 := cell_later hb02 (hit 3 _ rfl)
      simp only [Nat.add_zero] at i0
      have hf2 : w2.frozen? ⟨w1.heap.size, 3, none⟩ = false := by rw [hb2.frozen (by simp only; omega)]; exact hfN
      have q3 := (hBx.below hb2).c3
      have hg2 := ho2.lt g2 rfl
      have hdc : x.dl ≤ c2 := by have := (Lies.own ho2).hle; omega
      have hNc : N ≤ c1 := by have := (Lies.own hf).hle; omega
      have hdci : (x.dl : Int) ≤ c2 := by omega
      have hNci : (N : Int) ≤ c1 := by omega
      have hM : PMid wr.heap.size (w2.setCell ⟨w1.heap.size, 3, none⟩ (.slice (some ⟨g2, 0, none⟩) x.dl c2)).drew al am N cl cm L g1 c1 g2 c2 w1.heap.size ib (io + k * 4) x := by
        have hs1 := hb1.size
        refine ⟨?_, ?_, ?_, ?_, ?_, ?_, ?_⟩
        · exact ((hLl.below hb02 (Nat.le_refl _)).far (own_far' hol _ (by omega)) _).drew
        · exact ((hLm.below hb02 (Nat.le_refl _)).far (own_far' hom _ (by omega)) _).drew
        · intro j v hv
          have h1 := World.block_lt_of_cell? _ _ (hit j v hv)
          simp only at h1
          show (w2.setCell _ _).cell? _ = _
          rw [World.cell?_setCell_far _ _ _ _ (by simp only; omega)]
          exact cell_later hb02 (hit j v hv)
        · exact ((hcx.lies.below hb02 (Nat.le_refl _)).farIf (fun ad had h0 => by have := hcx.lies.blk ad had h0; omega) _).drew
        · exact ownsRow_setCell_other (own_later hf hb2) (by simp [Value.ownBlock]; omega) _
        · exact ownsRow_setCell_other (ownsRow_mono ho2 hbn.size) (by simp [Value.ownBlock]; omega) _
        · exact ((hBx.below hb2).put _).drew
      have hb3 : Below wr.heap.size wr (w2.setCell ⟨w1.heap.size, 3, none⟩ (.slice (some ⟨g2, 0, none⟩) x.dl c2)).drew := (hb02.setCell (by simp only; exact hb1.size) _).drew
      have hg1' : g1 < (w2.setCell ⟨w1.heap.size, 3, none⟩ (.slice (some ⟨g2, 0, none⟩) x.dl c2)).drew.heap.size := by have := hM.f.lt g1 rfl; exact this.2
      have hg2' : g2 < (w2.setCell ⟨w1.heap.size, 3, none⟩ (.slice (some ⟨g2, 0, none⟩) x.dl c2)).drew.heap.size := by have := hM.e.lt g2 rfl; exact this.2
      have hne : g1 ≠ g2 := by omega
      have hbx1 : w1.heap.size ≠ g1 := by omega
      have hbx2 : w1.heap.size ≠ g2 := by omega
      go_wp2_with fail
      clear q3 hf2 hb2 ho2 hBx hfN hszN hb1 i0 i1 i2 i3 hf hbn hb02 hcame hlen8
      generalize w2.setCell ⟨w1.heap.size, 3, none⟩ (.slice (some ⟨g2, 0, none⟩) x.dl c2) = W3 at *
      obtain ⟨s0, s1, s2, s3⟩ := id hM.b
      have hLf := own_front hLen hM.f
      have hLe := own_front hds hM.e
      have hpl := putN_le x.K x.dl
      go_region_with (go_at_call 22; refine (put_any (some ⟨g1, 0, none⟩) N c1 L x.K x.X x.S (some ⟨g2, 0, none⟩) x.dl c2 x.ds _ hcx.s0 hcx.s1 (by omega) hLf hLe hcx.small).mono ?_; rintro e w4 ⟨a4, c4, rfl, ho4, hb4⟩)
      have hM4 := hM.below hb4
      have i0 := hM4.it 0 _ rfl
      have i1 := hM4.it 1 _ rfl
      have i2 := hM4.it 2 _ rfl
      have i3 := hM4.it 3 _ rfl
      simp only [Nat.add_zero] at i0
      clear s0 s1 s2 s3 hLf hLe hit
      go_wp2_with fail
      refine (want_any am N cm L x.K x.X x.S x.bo x.dl x.dc x.ds w4 hcx.s0 hcx.s1 (by omega) hM4.m hM4.d hcx.small).mono ?_
      rintro e w5 ⟨a5, c5, rfl, ho5, hb5⟩
      have hM5 := hM4.below hb5
      have hb35 := hb4.trans (hb5.mono hb4.size)
      clear i0 i1 i2 i3
      go_wp2_with fail
      refine (same_true a4 a5 _ c4 c5 (L ++ putL x.K x.X x.S x.ds) _ (by omega) ((Lies.owned ho4).below hb5 (Nat.le_refl _)) (Lies.owned ho5)).mono ?_
      rintro e w6 ⟨rfl, hb6⟩
      have hM6 := hM5.below hb6
      have hb36 := hb35.trans (hb6.mono hb35.size)
      have ho46 := own_later (own_later ho4 hb5) hb6
      have ho56 := ownsRow_mono (own_later ho5 hb6) hb4.size
      clear ho4 ho5 hM4 hM5 hb5 hb6 hb35
      go_wp2_with fail
      refine (room30 al N cl L w6 (by omega) hM6.l).mono ?_
      rintro e w7 ⟨g7, c7, rfl, ho7, hb7⟩
      have hM7 := hM6.below hb7
      have hb37 := hb36.trans (hb7.mono hb36.size)
      go_wp2_with fail
      refine (same_true _ _ _ c1 c7 (L ++ three) _ (by omega) (Lies.own hM7.f) (Lies.own ho7)).mono ?_
      rintro e w8 ⟨rfl, hb8⟩
      have hM8 := hM7.below hb8
      have hb38 := hb37.trans (hb8.mono hb37.size)
      have i0 := hM8.it 0 _ rfl
      have i1 := hM8.it 1 _ rfl
      have i2 := hM8.it 2 _ rfl
      have i3 := hM8.it 3 _ rfl
      simp only [Nat.add_zero] at i0
      go_wp2_with fail
      refine (room30 x.bo x.dl x.dc x.ds w8 (by omega) hM8.d).mono ?_
      rintro e w9 ⟨g9, c9, rfl, ho9, hb9⟩
      have hM9 := hM8.below hb9
      have hb39 := hb38.trans (hb9.mono hb38.size)
      clear i0 i1 i2 i3
      go_wp2_with fail
      refine (same_true _ _ _ c2 c9 (x.ds ++ three) _ (by omega) (Lies.own hM9.e) (Lies.own ho9)).mono ?_
      rintro e w10 ⟨rfl, hb10⟩
      have hM10 := hM9.below hb10
      have hb310 := hb39.trans (hb10.mono hb39.size)
      have hm10 := own_later (own_later (own_later (own_later ho46 hb7) hb8) hb9) hb10
      have hn10 := own_later (own_later (own_later (own_later ho56 hb7) hb8) hb9) hb10
      clear hM6 hM7 hM8 hM9 ho7 ho9 ho46 ho56 hb7 hb8 hb9 hb10 hb36 hb37 hb38 hb39 hb4
      go_wp2_with fail
      have hBd := hM10.b.drew
      obtain ⟨s0, s1, s2, s3⟩ := id hBd
      have r1 : Row w10.drew wr.heap.size g1 (N + 3) c1 := hM10.row1 hsL
      have r2 : Row w10.drew wr.heap.size g2 (x.dl + 3) c2 := hM10.row2 hcx.small
      have hb0d : Below wr.heap.size wr w10.drew := (hb3.trans (hb310.mono hb3.size)).drew
      have hm10' : w10.drew.ownsRow W3.drew.heap.size 5 1 (.slice a4 (N + putN x.K x.dl) c4) (N + putN x.K x.dl) ((L ++ putL x.K x.X x.S x.ds).map (Value.int .u8)) := hm10
      have hn10' : w10.drew.ownsRow W3.drew.heap.size 5 1 (.slice a5 (N + putN x.K x.dl) c5) (N + putN x.K x.dl) ((L ++ putL x.K x.X x.S x.ds).map (Value.int .u8)) := hn10
      clear hM10 hb310 hm10 hn10 hM
      go_region_held3 (fun w' => w'.cell? ⟨w1.heap.size, 0, none⟩ = some (.int .i64 x.K) ∧ w'.cell? ⟨w1.heap.size, 1, none⟩ = some (.int .i64 x.X) ∧ w'.cell? ⟨w1.heap.size, 2, none⟩ = some (.int .u64 x.S) ∧ w'.cell? ⟨w1.heap.size, 3, none⟩ = some (.slice (some ⟨g2, 0, none⟩) x.dl c2))
        (first | exact ⟨s0, s1, s2, s3⟩ | exact ⟨z0, z1, z2, z3⟩)
        (first | (go_at_call 32; refine (turned_any wr.heap.size g1 N c1 g2 x.dl c2 x.K x.X x.S _ (by omega) hcx.s0 hcx.s1 r1 r2 hne).mono ?_; rintro e w11 ⟨rfl, ht⟩; obtain ⟨z0, z1, z2, z3⟩ := hBd.turn ht hbx1 hbx2))
      go_wp2
      have hb11 : Below wr.heap.size w10.drew w11 := ht.below hb0d.size r1.lt.1 r2.lt.1
      have hb011 := hb.trans ((hb0d.trans hb11).mono hb.size)
      have hl11 := ownsRow_mono (own_turn hm10' ht (Nat.le_refl _) hg1' hg2') (Nat.le_trans hb.size hb3.size)
      have hm11 := ownsRow_mono (own_turn hn10' ht (Nat.le_refl _) hg1' hg2') (Nat.le_trans hb.size hb3.size)
      go_roundw
      case rel =>
        have e1 : lb + lenTo xs (k + 1) = N + putN x.K x.dl := by rw [HS.out.1]; omega
        have e2 : B ++ putsL (xs.take (k + 1)) = L ++ putL x.K x.X x.S x.ds := by rw [HS.out.2, ← List.append_assoc, hLL]
        refine ⟨k + 1, a4, a5, c4, c5, by omega, by go_num, by rw [e1], by rw [e1], ?_, ?_, hb011⟩
        · rw [e1, e2]; exact hl11
        · rw [e1, e2]; exact hm11
      case measure => simp [intOf]; omega
    · go_wp2
      go_ret
      exact ⟨rfl, hb⟩
end Go.Proofs.YtjpaooejkbkliaaDoor
