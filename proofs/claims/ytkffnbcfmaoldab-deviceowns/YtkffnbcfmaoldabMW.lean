/- annexlaw5.writes by its contract: a step on a device by the caller's one buffer. -/
import Derived.Test.YtkffnbcfmaoldabMC
import Derived.Test.YtkffnbcfmaoldabDView
namespace Go.Proofs.Ytkffnbcfmaoldab
open Go.RowKit Go.Maps
set_option maxRecDepth 100000

/-- The buffer beside the device. -/
structure Bf (w : World) (gb : Nat) (F : Nat → Prop) : Prop where
  dat : ∃ bs : List Int, w.heap[gb]? = some (bl bs) ∧ bs.length = 512
  out : ¬ F gb
set_option maxHeartbeats 4000000 in
theorem writes_any {w : World} {db gb : Nat} {S : DevS} {k N : Nat} {F : Nat → Prop} (hD : Dev w db 0 S k N F) (hB : Bf w gb F) (hSf : S.fuse = 0) (hSo : S.off = false) (hk1 : 1 ≤ k) (hk2 : k ≤ 64) (hN : N ≤ 1099511627775) (sb sx : Int) (sf : Bool) (hsx : 0 ≤ sx ∧ sx ≤ 255) :
    Calls Try.prog 22 #[.pointer (some ⟨db, 0, none⟩), .int .i64 k, .agg #[.int .i64 sb, .int .u8 sx, .bool sf], .slice (some ⟨gb, 0, none⟩) 512 512] w fun e w' => e = .returned (.bool true) ∧ ∃ N', N' ≤ N + 1 ∧ Dev w' db 0 (stpS k S ⟨sb, sx, sf⟩) k N' (grow F w w') ∧ Bf w' gb (grow F w w') ∧ Turns (fun i => F i ∨ i = gb) w w' := by
  obtain ⟨⟨bs, hgb, hbl⟩, hout⟩ := hB
  have hgl := heap_lt hgb
  have hki : (k : Int) ≤ 64 := by omega
  have hki1 : (1 : Int) ≤ k := by omega
  have hpl := (placeN_bd sb k hk1).1
  obtain ⟨W, hW⟩ : ∃ W, w.alloc (.cells #[.int .i64 sb, .int .u8 sx, .bool sf] 34) = W := ⟨_, rfl⟩
  have hbW : Below w.heap.size w W := by rw [← hW]; exact (Below.refl _ w).alloc (Nat.le_refl _) _
  have y0 : W.cell? ⟨w.heap.size, 0, none⟩ = some (.int .i64 sb) := by rw [← hW]; simp
  have y1 : W.cell? ⟨w.heap.size, 1, none⟩ = some (.int .u8 sx) := by rw [← hW]; simp
  have y2 : W.cell? ⟨w.heap.size, 2, none⟩ = some (.bool sf) := by rw [← hW]; simp
  have hsW : w.heap.size < W.heap.size := by rw [← hW]; simp
  have DW := hD.below hbW
  have gW := (hbW.block gb hgl).trans hgb
  have hlt := hD.lt
  have hgr : ∀ w', W.heap.size ≤ w'.heap.size → ∀ i, grow F W w' i → grow F w w' i := fun w' h i q => q.elim Or.inl (fun q => Or.inr ⟨by omega, q.2⟩)
  have hgx : ∀ w', w.heap.size ≤ w'.heap.size → ∀ i, grow F w w' i → i < w'.heap.size := fun w' h i q => q.elim (fun q => Nat.lt_of_lt_of_le (hlt i q) h) (fun q => q.2)
  have hgo : ∀ w', ¬ grow F w w' gb := fun w' q => hout (grow_old gb hgl q)
  clear hD hgb
  cases sf with
  | true =>
    go_enter Try.func22, Try.ntmps22
    go_wp2_with fail
    try rw [hW]
    refine (flush_on DW hSf hSo (by omega)).mono ?_
    rintro e w5 ⟨rfl, D5, t5⟩
    have hg5 := (t5.block gb (heap_lt gW) hout).trans gW
    have hs5 := t5.size
    have tt := ((Below.turns hbW (fun i => F i ∨ i = gb)).trans t5 (fun i _ h => Or.inl h))
    have DD := D5.foot (hgr w5 hs5) (hgx w5 (by omega))
    clear D5 t5
    go_wp2_with (go_at_call 13; refine (num_id _ _).mono ?_; rintro e wn ⟨rfl, hwn⟩; subst wn)
    go_ret
    exact ⟨by simp, _, by omega, DD, ⟨⟨bs, hg5, hbl⟩, hgo w5⟩, tt⟩
  | false =>
    go_enter Try.func22, Try.ntmps22
    go_wp2_with fail
    try rw [hW]
    go_loopw [10] (fun i wr => ∃ (t : Nat) (bs : List Int), t ≤ 512 ∧ i = .int .i64 t ∧ wr.heap[gb]? = some (bl bs) ∧ bs.length = 512 ∧ (∀ u, u < t → bs[u]? = some sx) ∧ Turns (fun i => i = gb) W wr) (fun i _ => 512 - (intOf i).toNat)
    case atStart => exact ⟨0, bs, Nat.zero_le _, rfl, gW, hbl, (fun u hu => by omega), Turns.refl _ _⟩
    case round =>
      clear gW hbl bs
      obtain ⟨t, bs, ht, rfl, hgb, hbl, hbs, hT⟩ := hrel
      have hbe : ∀ i, wr.cell? ⟨w.heap.size, i, none⟩ = W.cell? ⟨w.heap.size, i, none⟩ := fun i => World.cell?_of_block (hT.block w.heap.size hsW (by omega))
      have z0 := (hbe 0).trans y0
      have z1 := (hbe 1).trans y1
      by_cases hlt2 : t < 512
      · have hti : (t : Int) < 512 := by omega
        obtain ⟨v, hv⟩ : ∃ v, (bs.map (Value.int .u8)).toArray[t]? = some v := ⟨_, Array.getElem?_eq_getElem (by simp [hbl]; omega)⟩
        have k0 : wr.cell? ⟨gb, t, none⟩ = some v := by simp only [World.cell?, hgb]; exact hv
        have f0 : wr.frozen? ⟨gb, t, none⟩ = false := by simp [World.frozen?, hgb]
        have HG2 : Hid ((wr.setCell ⟨gb, t, none⟩ (.int .u8 sx)).heap[gb]? = some (bl (bs.set t sx))) := by
          have q := heap_setCell_same _ gb t _ _ (.int .u8 sx) hgb
          refine Eq.trans q ?_
          simp
        have HT2 : Hid (Turns (fun i => i = gb) W (wr.setCell ⟨gb, t, none⟩ (.int .u8 sx))) := hT.trans (Turns.cell wr gb t _) (fun _ _ h => h)
        have HBS : Hid (∀ u, u < t + 1 → (bs.set t sx)[u]? = some sx) := fun u hu => by
          rw [List.getElem?_set]
          by_cases e : t = u
          · rw [if_pos e, if_pos (by omega)]
          · rw [if_neg e]; exact hbs u (by omega)
        clear hgb hv hT hbs
        go_wp2_with fail
        go_roundw
        case rel => exact ⟨t + 1, bs.set t sx, by omega, by go_num, HG2.out, by simp [hbl], HBS.out, HT2.out⟩
        case measure => simp [intOf]; omega
      · obtain rfl : t = 512 := by omega
        obtain rfl : bs = List.replicate 512 sx := by
          refine List.ext_getElem? (fun u => ?_)
          by_cases hu : u < 512
          · rw [hbs u hu, List.getElem?_replicate, if_pos hu]
          · rw [List.getElem?_eq_none (by omega), List.getElem?_eq_none (by simp; omega)]
        clear hbs hbl
        have DR := DW.turns hT (fun i hi e => hout (by rw [← e]; exact hi))
        have hsr := hT.size
        go_wp2_with (go_at_call 11; refine (place_law _ k hk1 (by omega) _).mono ?_; rintro e wn ⟨rfl, hwn⟩; subst wn)
        refine (write_on DR hSf hSo (placeN sb k) hpl gb _ ⟨hgb, hout⟩ (by simp) (fullD sx hsx) (by omega)).mono ?_
        rintro e w5 ⟨rfl, D5, t5⟩
        have hg5 := (t5.block gb (heap_lt hgb) hout).trans hgb
        have hs5 := t5.size
        have tt := (((Below.turns hbW (fun i => F i ∨ i = gb)).trans hT (fun i _ h => Or.inr h)).trans t5 (fun i _ h => Or.inl h))
        have DD := D5.foot (G := grow F w w5) (fun i q => q.elim Or.inl (fun q => Or.inr ⟨by omega, q.2⟩)) (hgx w5 (by omega))
        clear D5 t5 z0 z1
        go_wp2_with (go_at_call 13; refine (num_id _ _).mono ?_; rintro e wn ⟨rfl, hwn⟩; subst wn)
        go_ret
        exact ⟨by simp, _, Nat.le_refl _, DD, ⟨⟨_, hg5, by simp⟩, hgo w5⟩, tt⟩
end Go.Proofs.Ytkffnbcfmaoldab
