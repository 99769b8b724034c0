/- Book.requests by its contract. -/
import Derived.Test.YtdkcplndplhblaaGreatDoorPk20
import Derived.Deep.RegionHeld3
import Derived.Test.YtdkcplndplhblaaGreatDoorRows
import Derived.Test.YtdkcplndplhblaaGreatDoorPk01
import Derived.Stop.LaidTwo
import Derived.LaidMore
import Derived.ProofKit
namespace Go.Proofs.YtdkcplndplhblaaGreatDoor
open Go.RowKit
set_option maxRecDepth 100000

theorem Tryz.infoRequest : (Tryz.prog.info? 24).map (fun i => (i.zero, i.size, i.bytes)) = some (some (.agg #[.int .i64 0, .int .i64 0, .int .i64 0, .int .i64 0, .int .i64 0, .int .i64 0, .int .i64 0, .int .i64 0, .int .i64 0, .string ⟨#[]⟩, .string ⟨#[]⟩, .string ⟨#[]⟩, .slice none 0 0]), 13, 144) := by kernel_rfl

/-- Lists of bytes stay where a row of another type grows. -/
theorem Dts.grown {w w' : World} {base base' t s n : Nat} {B : Nat → Prop} {data : List Int} {ds : List Bl} {v : Value} {xs : List Value} (h : Dts w base B data ds) (hg : w.grownBy w' v.ownBlock) (hr : w.ownsRow base' t s v n xs) (ht : t ≠ 5) : Dts w' base B data ds := by
  refine ⟨fun d hd => own_keepS (h.own d hd) (fun b hb hv => hg.block b hb (fun e => ?_)), h.apart, h.free⟩
  rcases hr.2 with ⟨h1, _⟩ | ⟨g, cap, cur, h1, _, hh, _⟩
  · subst h1; cases e
  · subst h1; cases e
    rcases (h.own d hd).2 with ⟨h2, _⟩ | ⟨g2, cap2, cur2, h2, _, hh2, _⟩
    · rw [h2] at hv; cases hv
    · rw [h2] at hv; cases hv
      rw [hh] at hh2
      simp at hh2
      exact ht hh2.2

attribute [local go_sem ↓ 100000] rqex_load
set_option maxHeartbeats 4000000 in
theorem requests_any (base bk i : Nat) (vE : Value) (B C : Nat → Prop) (es fs : List Bl) (r : Req) (ao : Option Addr) (n c : Nat) (er : Nat → Addr) (w : World) (hE : Errs w er) (hbase : base ≤ w.heap.size) (hB : Bk w base bk vE B es) (hK : Ek w base vE C fs) (hBl : ∀ k, B k → base ≤ k ∧ k < w.heap.size) (hBC : ∀ k, C k → k < w.heap.size ∧ ¬ B k) (hes : es.length = 3 * i) (hi : i + 6 ≤ 100000000)
    (hD : Lies w ao n c r.data) (hDb : ∀ ad, ao = some ad → 0 < n → ad.block < base) (hn : n ≤ 1048576) (hp : r.path.size ≤ 281474976710656) (hby : Bys r.data) :
    Calls Tryz.prog 23 #[.pointer (some ⟨bk, 0, none⟩), rqV r ao n c] w fun e w' => e = .returned (.bool true) ∧ ∃ B' es', Bk w' base bk vE B' (es ++ es') ∧ ∃ j, es'.length = 3 * j ∧ j ≤ 6 ∧ (∀ e ∈ es', e.len ≤ 2000000) ∧ Ek w' base vE C fs ∧ (∀ k, B' k → B k ∨ w.heap.size ≤ k ∧ k < w'.heap.size) ∧ Below base w w' := by
  have hX0 := RqH.new w r ao n c
  go_enter Tryz.func23, Tryz.ntmps23
  have x0 := hX0.run
  go_wp2_with fail
  refine (encRqO r ao n c _ (hD.below (newBox _ _) (Nat.le_refl _)) hp hby).mono ?_
  rintro e w1 ⟨b1, k1, l1, rfl, hb1, ho1, hz1⟩
  have hq1 : Below w.heap.size w w1 := (newBox w _).trans (hb1.mono (by simp))
  have hX1 := hX0.later hb1
  clear x0 hX0
  have hs1 := hq1.size
  replace ho1 := fun h => own_base (ho1 h) (show w.heap.size ≤ _ by simp)
  have x0 := hX1.run
  go_wp2_with fail
  refine (encRqO r ao n c _ (hD.below hq1 (Nat.le_refl _)) hp hby).mono ?_
  rintro e w2 ⟨b2, k2, l2, rfl, hb2, ho2, hz2⟩
  have hq2 : Below w.heap.size w w2 := hq1.trans (hb2.mono hs1)
  have hs2 := hb2.size
  have hX2 := hX1.later hb2
  clear x0 hX1
  by_cases h0 : rqE r = 0
  · have o1 := own_later (ho1 h0) hb2
    have o2 := ho2 h0
    have lt1 := fun b hb => (ho1 h0).lt b hb
    have lt2 := fun b hb => o2.lt b hb
    clear ho1 ho2 hz1 hz2 hb1 hb2
    rw [h0]
    go_wp2_with (first
      | (go_at_call 13; refine (num_id _ _).mono ?_; rintro e wn ⟨rfl, hwn⟩; subst wn)
      | (go_at_call 35; refine (bytes29_any b1 k1 l1 (rqB r) _ (by have := (Lies.owned o1).hlen; have := (rq_back h0).2.2; omega) (Lies.owned o1)).mono ?_; rintro e w3 ⟨b3, l3, rfl, o3, hb3⟩))
    have hq3 : Below w.heap.size w w3 := hq2.trans (hb3.mono hq2.size)
    have p1 := own_later o1 hb3
    have p2 := own_later o2 hb3
    have hE3 := hE.below hq3 (Nat.le_refl _)
    have hs3 := hb3.size
    have hX3 := hX2.later hb3
    clear o1 o2 hX2
    obtain ⟨i0, hi0, hz0, hz1, hz2⟩ := info_parts Tryz.infoRequest
    go_loopw [10, 11] (fun v j wr => ∃ ds : List Bl, ds.length ≤ 4 ∧ j = .int .i64 (ds.length : Nat) ∧ wr.ownsRow w3.heap.size 24 13 v ds.length (rqRow r ds) ∧ Dts wr w3.heap.size (fun _ => False) r.data ds ∧ Below w3.heap.size w3 wr) (fun _ j _ => 4 - (intOf j).toNat)
    case atStart => exact ⟨[], by simp, rfl, ⟨rfl, Or.inl ⟨rfl, rfl⟩⟩, Dts.nil _ _ _ _, Below.refl _ _⟩
    case round =>
      obtain ⟨ds, hds, rfl, hrow, hdt, hbw⟩ := hrel
      have hE4 := hE3.below hbw (Nat.le_refl _)
      have hsw := hbw.size
      by_cases hlt : ds.length < 4
      · generalize hk : ds.length = k at *
        have hki : (k : Int) < 4 := by omega
        by_cases h1 : 1 < k
        · have h1i : (1 : Int) < (k : Int) := by omega
          go_wp2_with (first
            | (go_at_call 27; refine (decRqO h0 hby _ _ _ er _ (Lies.owned (own_later p2 hbw)) hE4).mono ?_; rintro e w4 ⟨bo, m, d, rfl, ho4, hb4⟩; have hs4 := hb4.size; have x4 := (RqH.new w4 r bo m d).run)
            | (go_at_call 13; refine (num_id _ _).mono ?_; rintro e wn ⟨rfl, hwn⟩; subst wn)
            | (at_builtin; refine wpList_append_own _ rfl _ _ 52 rfl w3.heap.size 24 i0 (.agg #[.int .i64 0, .int .i64 0, .int .i64 0, .int .i64 0, .int .i64 0, .int .i64 0, .int .i64 0, .int .i64 0, .int .i64 0, .string ⟨#[]⟩, .string ⟨#[]⟩, .string ⟨#[]⟩, .slice none 0 0]) 13 144 Tryz.underlying52 hi0 hz0 hz1 hz2 rfl (by decide) _ _ _ rfl (((own_later hrow hb4).alloc _).alloc _) ⟨w4.heap.size + 1, 0, none⟩ 1 1 (rqL r ⟨bo, m, d⟩) rfl rfl (cells_new _ _ 24 _ (by simp)) (by intro u hu; simp [rqL] at hu; rcases hu with rfl | rfl | rfl | rfl | rfl | rfl | rfl | rfl | rfl | rfl | rfl | rfl | rfl <;> rfl) (by unfold maxLen; omega) (by omega) (by simp; omega) ?_; intro v' w5 hown5 hgrow5 hnil5))
          have hd4 := hdt.snoc (d := ⟨bo, m, d⟩) hb4 hsw (fun _ h => h.elim) ho4
          have hd5 := ((hd4.below (newBox _ _)).below (newBox _ _)).grown hgrow5 (((own_later hrow hb4).alloc _).alloc _) (by decide)
          have hbw5 : Below w3.heap.size w3 w5 := (((hbw.trans (hb4.mono hsw)).alloc (by have := hb4.size; omega) _).alloc (by have := hb4.size; simp; omega) _).grown hgrow5 (by have := hb4.size; simp; omega) (fun b hb => (hrow.lt b hb).1)
          rw [← rqRow_snoc] at hown5
          subst hk
          go_roundw
          case rel => exact ⟨ds ++ [⟨bo, m, d⟩], by simp; omega, by simp, by simpa using hown5, hd5, hbw5⟩
          case measure => simp [intOf]; omega
        · have h1i : ¬ (1 : Int) < (k : Int) := by omega
          go_wp2_with (first
            | (go_at_call 27; refine (decRqO h0 hby _ _ _ er _ (Lies.owned (own_later p1 hbw)) hE4).mono ?_; rintro e w4 ⟨bo, m, d, rfl, ho4, hb4⟩; have hs4 := hb4.size; have x4 := (RqH.new w4 r bo m d).run)
            | (go_at_call 13; refine (num_id _ _).mono ?_; rintro e wn ⟨rfl, hwn⟩; subst wn)
            | (at_builtin; refine wpList_append_own _ rfl _ _ 52 rfl w3.heap.size 24 i0 (.agg #[.int .i64 0, .int .i64 0, .int .i64 0, .int .i64 0, .int .i64 0, .int .i64 0, .int .i64 0, .int .i64 0, .int .i64 0, .string ⟨#[]⟩, .string ⟨#[]⟩, .string ⟨#[]⟩, .slice none 0 0]) 13 144 Tryz.underlying52 hi0 hz0 hz1 hz2 rfl (by decide) _ _ _ rfl (((own_later hrow hb4).alloc _).alloc _) ⟨w4.heap.size + 1, 0, none⟩ 1 1 (rqL r ⟨bo, m, d⟩) rfl rfl (cells_new _ _ 24 _ (by simp)) (by intro u hu; simp [rqL] at hu; rcases hu with rfl | rfl | rfl | rfl | rfl | rfl | rfl | rfl | rfl | rfl | rfl | rfl | rfl <;> rfl) (by unfold maxLen; omega) (by omega) (by simp; omega) ?_; intro v' w5 hown5 hgrow5 hnil5))
          have hd4 := hdt.snoc (d := ⟨bo, m, d⟩) hb4 hsw (fun _ h => h.elim) ho4
          have hd5 := ((hd4.below (newBox _ _)).below (newBox _ _)).grown hgrow5 (((own_later hrow hb4).alloc _).alloc _) (by decide)
          have hbw5 : Below w3.heap.size w3 w5 := (((hbw.trans (hb4.mono hsw)).alloc (by have := hb4.size; omega) _).alloc (by have := hb4.size; simp; omega) _).grown hgrow5 (by have := hb4.size; simp; omega) (fun b hb => (hrow.lt b hb).1)
          rw [← rqRow_snoc] at hown5
          subst hk
          go_roundw
          case rel => exact ⟨ds ++ [⟨bo, m, d⟩], by simp; omega, by simp, by simpa using hown5, hd5, hbw5⟩
          case measure => simp [intOf]; omega
      · have hk4 : ds.length = 4 := by omega
        have hkk : k2 = k1 := by have h1 := (Lies.owned p1).hlen; have h2 := (Lies.owned p2).hlen; omega
        subst hkk
        have hkb : k2 ≤ 1400 := by have h1 := (Lies.owned p1).hlen; have h2 := (rq_back h0).2.2; omega
        have lt3 := fun b hb => o3.lt b hb
        have hq4 : Below w.heap.size w wr := hq3.trans (hbw.mono hq3.size)
        have hki : ¬ ((ds.length : Nat) : Int) < 4 := by omega
        have hX4 := hX3.later (hbw.mono (Nat.le_refl _))
        obtain ⟨_, g, cap, cur, hv, _⟩ := (show _ ∧ _ from ⟨trivial, hrow.2.resolve_left (fun h => by omega)⟩)
        subst hv
        rw [hk4] at hrow
        have hgl := hrow.lt g rfl
        have ty1 := own_type8 (own_later p1 hbw) hX4 (by decide)
        have ty2 := own_type8 (own_later p2 hbw) hX4 (by decide)
        go_wp2_with fail
        refine (all_2 vE base bk i k2 l1 l2 l3 wr.heap.size B es b1 b2 b3 (rqB r) _ (by simp; omega) ((hB.below hq4).below (newBox _ _)) hes (by omega) (by omega) (own_base ((own_later p1 hbw).alloc _) hbase) (own_base ((own_later p2 hbw).alloc _) (by omega)) (own_base ((own_later o3 hbw).alloc _) (by omega)) (heap_alloc_new wr _) (fun h => by have := (hBl _ h).2; omega) (fun b hb h => by have := (hBl _ h).2; have := (lt1 b hb).1; omega) (fun b hb => ⟨fun h => by have := (hBl _ h).2; have := (lt2 b hb).1; omega, fun h => by have := (lt2 b hb).1; have := (lt1 b h).2; omega⟩) (fun b hb => ⟨fun h => by have := (hBl _ h).2; have := (lt3 b hb).1; omega, fun h => by have := (lt3 b hb).1; have := (lt1 b h).2; omega, fun h => by have := (lt3 b hb).1; have := (lt2 b h).2; omega⟩)).mono ?_
        rintro e w6 ⟨rfl, es1, hl1, hle1, hB6, hF6⟩
        have hds0 : ∀ d ∈ ds, ∀ b, d.val.ownBlock = some b → w3.heap.size ≤ b ∧ b < wr.heap.size := fun d hd b hb => (hdt.own d hd).lt b hb
        have hW6 := hF6.size
        have hal : (wr.alloc (.cells #[.slice b1 k2 l1, .slice b2 k2 l2] 22)).heap.size = wr.heap.size + 1 := by simp
        rw [hal] at hW6
        have hL6 : RqLp w base bk vE B es r ao n c g cap ds 0 (fun k => B k ∨ (Value.slice b1 k2 l1).ownBlock = some k ∨ (Value.slice b2 k2 l2).ownBlock = some k ∨ (wr.alloc (.cells #[.slice b1 k2 l1, .slice b2 k2 l2] 22)).heap.size ≤ k) es1 w6 := by
          refine ⟨hB6, by omega, fun e he => by have := hle1 e he; omega, ?_, own_keepS (w := wr.alloc (.cells #[.slice b1 k2 l1, .slice b2 k2 l2] 22)) (own_base (hrow.alloc _) (by omega)) (fun b hb hv => ?_), fun hk => ?_, ?_, fun hk => ?_, fun k hk => ?_, ?_⟩
          · refine Dts.apartFrom (w := wr.alloc (.cells #[.slice b1 k2 l1, .slice b2 k2 l2] 22)) (B := fun _ => False) ⟨fun d hd => own_base ((hdt.own d hd).alloc _) (by omega), hdt.apart, hdt.free⟩ (fun b hb hn => hF6.block b hb (fun h => hn (.inl h)) (fun h => ?_)) (fun b hb hb' d hd he => ?_)
            · simp at h
              exact hn (h.elim (fun h => .inr (.inl h.symm)) (fun h => .inr (.inr (.inl h.symm))))
            · have h1 := hds0 d hd b he
              rcases hb' with h | h | h | h
              · have := (hBl _ h).2; omega
              · have := (lt1 b h).2; omega
              · have := (lt2 b h).2; omega
              · omega
          · cases hv
            refine hF6.block g hb (fun h => by have := (hBl _ h).2; omega) (fun h => ?_)
            simp at h
            rcases h with h | h
            · have := (lt1 g h.symm).2; omega
            · have := (lt2 g h.symm).2; omega
          · rcases hk with h | h | h | h
            · have := (hBl _ h).2; omega
            · have := (lt1 g h).2; omega
            · have := (lt2 g h).2; omega
            · omega
          · refine (hF6.block _ (by omega) (fun h => by have := (hBl _ h).2; omega) (fun h => ?_)).trans (hX4.later (newBox _ _))
            simp at h
            rcases h with h | h
            · exact ty1 h.symm
            · exact ty2 h.symm
          · rcases hk with h | h | h | h
            · have := (hBl _ h).2; omega
            · exact ty1 h
            · exact ty2 h
            · omega
          · rcases hk with h | h | h | h
            · exact .inl h
            · exact .inr (lt1 k h).1
            · exact .inr (by have := (lt2 k h).1; omega)
            · exact .inr (by omega)
          · refine ⟨hF6.os.trans hq4.os, hF6.tape.trans hq4.tape, hF6.output.trans hq4.output, by omega, fun k hk hb => (hF6.block k (by omega) hb (fun h => ?_)).trans ((Below.heap_alloc wr _ k (by omega)).trans (hq4.block k hk))⟩
            simp at h
            rcases h with h | h
            · have := (lt1 k h.symm).1; omega
            · have := (lt2 k h.symm).1; omega
        clear hB6 hF6 ty1 ty2 hX4 p1 p2 hdt hrow o3
        go_wp2_with fail
        go_loopw [15, 16] (fun ok j w7 => ok = .bool true ∧ ∃ t B' es', t ≤ 4 ∧ j = .int .i64 (t : Nat) ∧ RqLp w base bk vE B es r ao n c g cap ds t B' es' w7) (fun _ j _ => 4 - (intOf j).toNat)
        case atStart => exact ⟨rfl, 0, _, _, by omega, rfl, hL6⟩
        case round =>
          obtain ⟨rfl, t, B7, es7, ht4, rfl, hL⟩ := hrel
          obtain ⟨w7, hw7⟩ : ∃ w7, w7 = wr := ⟨wr, rfl⟩
          subst hw7
          by_cases hlt : t < 4
          · have hti : (t : Int) < 4 := by omega
            have hLd : RqLp w base bk vE B es r ao n c g cap ds t B7 es7 w7.drew := hL.below ⟨rfl, rfl, rfl, Nat.le_refl _, fun _ _ => rfl⟩
            have hbL : Below base w w7.drew := ⟨hLd.fr.os, hLd.fr.tape, hLd.fr.output, hLd.fr.size, fun k hk => hLd.fr.block k (by omega) (fun q => by have := (hBl k q).1; omega)⟩
            have hDd := lies_low hD hbL hDb
            have htl : t < ds.length := by omega
            have hmem : ds[t] ∈ ds.drop t := by rw [List.drop_eq_getElem_cons htl]; exact List.mem_cons_self
            have hod := hLd.dts.own ds[t] hmem
            have hrun1 := rqex_run (rqRow_range hLd.row (j := t) htl)
            obtain ⟨⟨da, dn, dc⟩, hdd⟩ : ∃ d, ds[t] = d := ⟨_, rfl⟩
            rw [hdd] at hod hrun1
            have HDD : Hid (ds[t] = ⟨da, dn, dc⟩) := hdd
            clear hdd
            have hdl : dn = n := by
              have h1 := hod.1
              have h2 := hD.hlen
              rw [List.length_map] at h1
              simp only at h1
              omega
            have hLied : Lies w7.drew da dn dc r.data := Lies.owned hod
            have q7 := And.intro hrun1 hLd.box.run
            simp only at q7
            have HDL : Hid (dn = n) := hdl
            have hdn : dn ≤ 1048576 := by omega
            clear hdl hrun1
            go_wp2_with fail
            go_region_held3 (fun w' => (RqEx (.pointer (some ⟨g, t * 13, none⟩))).run Tryz.prog w' = .ok (.value (rqV r da dn dc)) w' ∧ (RqEx (.pointer (some ⟨w.heap.size, 0, none⟩))).run Tryz.prog w' = .ok (.value (rqV r ao n c)) w')
              (first | with_reducible exact q7 | with_reducible exact q8)
              (first
                | (go_at_call 29; refine (sameRq_any r r da dn dc ao n c w7.drew (by omega) hLied hDd).mono ?_; rintro e w8 ⟨tt, rfl, htt, hb8⟩; obtain rfl := htt.2 rfl; have hL8 := hLd.below hb8; have hrun8 := rqex_run (rqRow_range hL8.row (j := t) htl); rw [HDD.out] at hrun8; have q8 := And.intro hrun8 hL8.box.run))
            have hc8 : w8.cell? ⟨g, t * 13 + 12, none⟩ = some (.slice da dn dc) := by
              have := rqRow_range hL8.row htl 12 (.slice ds[t].ao ds[t].len ds[t].cap) rfl
              rwa [HDD.out] at this
            have hod8 := hL8.dts.own ds[t] hmem
            have hfr8 := hL8.dts.free ds[t] hmem
            rw [HDD.out] at hod8 hfr8
            have hlen7 := hL8.len
            go_wp2_with fail
            refine (keep_fr vE base bk (i + 2 + t) dn dc B7 (es ++ es7) da r.data w8 (Nat.le_trans hbase hL8.fr.size) hL8.book (by rw [List.length_append]; omega) (by omega) (by omega) hod8 hfr8).mono ?_
            rintro e w9 ⟨rfl, e1, e2, hB9, h1, h2, hF9⟩
            have hL9 := RqLp.step (e1 := e1) (e2 := e2) (w' := w9) htl (by rw [HDD.out]; simp only; omega) hL8 (by rw [HDD.out]; exact hB9) (by rw [HDD.out]; exact h1) (by rw [HDD.out]; exact h2) (by rw [HDD.out]; exact hF9) (fun d hd b hb => by have := (hds0 d hd b hb).1; omega)
            clear q7 q8 hc8 hod8 hfr8 hB9 hF9 hL8 hLd hL hod hLied hDd hbL
            go_wp2_with fail
            go_roundw
            case rel => exact ⟨rfl, t + 1, _, _, by omega, by simp, hL9⟩
            case measure => simp [intOf]; omega
          · have hti : ¬ (t : Int) < 4 := by omega
            obtain rfl : t = 4 := by omega
            go_wp2_with fail
            go_ret
            have hbL : Below base w w7 := ⟨hL.fr.os, hL.fr.tape, hL.fr.output, hL.fr.size, fun k hk => hL.fr.block k (by omega) (fun q => by have := (hBl k q).1; omega)⟩
            exact ⟨rfl, fun k => B7 k ∧ k < w7.heap.size, es7, hL.book.weaken (fun k hk q => ⟨q, hk⟩), 6, by have := hL.len; omega, by omega, hL.small, hK.keep (fun k hk q => hL.fr.block k hk (hBC k q).2), fun k q => (hL.new k q.1).imp id (fun h => ⟨h, q.2⟩), hbL⟩
  · have e1 := hz1 h0
    have e2 := hz2 h0
    subst e1 e2
    clear ho1 ho2 hz1 hz2
    have hne : decide (rqE r = 0) = false := by simpa using h0
    go_wp2_with (go_at_call 13; refine (num_id _ _).mono ?_; rintro e wn ⟨rfl, hwn⟩; subst wn)
    go_ret
    exact ⟨rfl, B, [], by simpa using hB.below hq2, 0, rfl, by omega, by simp, hK.below hq2, fun k hk => .inl hk, hq2.mono hbase⟩
end Go.Proofs.YtdkcplndplhblaaGreatDoor

/- Book.replies by its contract. -/
namespace Go.Proofs.YtdkcplndplhblaaGreatDoor
open Go.RowKit
set_option maxRecDepth 100000

theorem Tryz.infoReply : (Tryz.prog.info? 30).map (fun i => (i.zero, i.size, i.bytes)) = some (some (.agg #[.int .i64 0, .int .i64 0, .int .i64 0, .int .i64 0, .int .i64 0, .int .i64 0, .int .i64 0, .int .i64 0, .int .i64 0, .slice none 0 0, .slice none 0 0, .bool false]), 12, 128) := by kernel_rfl

/-- Lists of entries stay where a row of another type grows. -/
theorem Dte.grown {w w' : World} {base base' t s n : Nat} {B : Nat → Prop} {data : List Value} {ds : List Bl} {v : Value} {xs : List Value} (h : Dte w base B data ds) (hg : w.grownBy w' v.ownBlock) (hr : w.ownsRow base' t s v n xs) (ht : t ≠ 86) : Dte w' base B data ds := by
  refine ⟨fun d hd => own_keepS (h.own d hd) (fun b hb hv => hg.block b hb (fun e => ?_)), h.apart, h.free⟩
  rcases hr.2 with ⟨h1, _⟩ | ⟨g, cap, cur, h1, _, hh, _⟩
  · subst h1; cases e
  · subst h1; cases e
    rcases (h.own d hd).2 with ⟨h2, _⟩ | ⟨g2, cap2, cur2, h2, _, hh2, _⟩
    · rw [h2] at hv; cases hv
    · rw [h2] at hv; cases hv
      rw [hh] at hh2
      simp at hh2
      exact ht hh2.2

theorem clies_low {base : Nat} {w w' : World} {ao : Option Addr} {n cap k : Nat} {cs : List Value} (h : CLies w ao n cap k cs) (hb : Below base w w') (hB : ∀ ad, ao = some ad → 0 < n → ad.block < base) : CLies w' ao n cap k cs :=
  ⟨h.hlen, h.hle, h.hnone, fun ad had t u hu => by
    have hc := h.hcells ad had t u hu
    have ht := (List.getElem?_eq_some_iff.1 hu).1
    rw [h.hlen] at ht
    exact (hb.cell (by rw [add_block]; exact hB ad had (Nat.pos_of_ne_zero (fun e => by rw [e, Nat.zero_mul] at ht; omega)))).trans hc⟩
theorem zip_snoc {ds gs : List Bl} (d g : Bl) (h : gs.length = ds.length) : ds.zip gs ++ [(d, g)] = (ds ++ [d]).zip (gs ++ [g]) := by
  rw [List.zip_append h.symm]; rfl
theorem all_snoc {gs : List Bl} {g : Bl} {n : Nat} (h : ∀ x ∈ gs, x.len = n) (hg : g.len = n) : ∀ x ∈ gs ++ [g], x.len = n := by
  intro x hx
  rcases List.mem_append.1 hx with hx | hx
  · exact h x hx
  · simp at hx; rw [hx]; exact hg
theorem len_snoc {ds gs : List Bl} (d g : Bl) (h : gs.length = ds.length) : (gs ++ [g]).length = (ds ++ [d]).length := by simp [h]
/-- What the book holds behind the lists of a reply. -/
structure RpEnd (w : World) (base bk : Nat) (B C : Nat → Prop) (es fs : List Bl) (w' : World) : Prop where
  ex : ∃ vE' B' C' es' fs' j k, Bk w' base bk vE' B' (es ++ es') ∧ Ek w' base vE' C' (fs ++ fs') ∧ es'.length = 3 * j ∧ j ≤ 6 ∧ fs'.length = 3 * k ∧ k ≤ 4 ∧ (∀ e ∈ es', e.len ≤ 2000000) ∧ (∀ e ∈ fs', e.len ≤ 2000000) ∧ (∀ k, B' k → base ≤ k ∧ k < w'.heap.size) ∧ (∀ k, C' k → base ≤ k ∧ k < w'.heap.size ∧ ¬ B' k) ∧ Below base w w'

attribute [local go_sem ↓ 100000] rpex_load
set_option maxHeartbeats 4000000 in
theorem replies_any (base bk i i' : Nat) (vE : Value) (B C : Nat → Prop) (es fs : List Bl) (r : Rep) (ao : Option Addr) (n c : Nat) (lo : Option Addr) (ln lc : Nat) (er : Nat → Addr) (w : World) (hE : Errs w er) (hbase : base ≤ w.heap.size) (hB : Bk w base bk vE B es) (hK : Ek w base vE C fs) (hBl : ∀ k, B k → base ≤ k ∧ k < w.heap.size) (hBC : ∀ k, C k → base ≤ k ∧ k < w.heap.size ∧ ¬ B k) (hes : es.length = 3 * i) (hfs : fs.length = 3 * i') (hi : i + 6 ≤ 100000000) (hi' : i' + 4 ≤ 100000000)
    (hD : Lies w ao n c r.data) (hDb : ∀ ad, ao = some ad → 0 < n → ad.block < base) (hn : n ≤ 1048576) (hby : Bys r.data) (hN : CLies w lo ln lc 3 (entCells r.list)) (hNb : ∀ ad, lo = some ad → 0 < ln → ad.block < base) (hln : ln ≤ 1048576) (hel0 : r.list.length = ln) :
    Calls Tryz.prog 24 #[.pointer (some ⟨bk, 0, none⟩), rpV r ao n c lo ln lc] w fun e w' => e = .returned (.bool true) ∧ RpEnd w base bk B C es fs w' := by
  have HEL : Hid (r.list.length = ln) := hel0
  clear hel0
  have hX0 := RpH.new w r ao n c lo ln lc
  go_enter Tryz.func24, Tryz.ntmps24
  have x0 := hX0.run
  go_wp2_with fail
  refine (encRpO r ao n c lo ln lc _ (hD.below (newBox _ _) (Nat.le_refl _)) (hN.below (newBox _ _) (Nat.le_refl _)) HEL.out hby).mono ?_
  rintro e w1 ⟨b1, k1, l1, rfl, hb1, ho1, hz1⟩
  have hq1 : Below w.heap.size w w1 := (newBox w _).trans (hb1.mono (by simp))
  have hX1 := hX0.later hb1
  clear x0 hX0
  have hs1 := hq1.size
  replace ho1 := fun h => own_base (ho1 h) (show w.heap.size ≤ _ by simp)
  have x0 := hX1.run
  go_wp2_with fail
  refine (encRpO r ao n c lo ln lc _ (hD.below hq1 (Nat.le_refl _)) (hN.below hq1 (Nat.le_refl _)) HEL.out hby).mono ?_
  rintro e w2 ⟨b2, k2, l2, rfl, hb2, ho2, hz2⟩
  have hq2 : Below w.heap.size w w2 := hq1.trans (hb2.mono hs1)
  have hs2 := hb2.size
  have hX2 := hX1.later hb2
  clear x0 hX1
  by_cases h0 : rpE r = 0
  · have o1 := own_later (ho1 h0) hb2
    have o2 := ho2 h0
    have lt1 := fun b hb => (ho1 h0).lt b hb
    have lt2 := fun b hb => o2.lt b hb
    clear ho1 ho2 hz1 hz2 hb1 hb2
    rw [h0]
    go_wp2_with (first
      | (go_at_call 13; refine (num_id _ _).mono ?_; rintro e wn ⟨rfl, hwn⟩; subst wn)
      | (go_at_call 35; refine (bytes29_any b1 k1 l1 (rpB r) _ (by have := (Lies.owned o1).hlen; have := (rp_back h0).2.2; omega) (Lies.owned o1)).mono ?_; rintro e w3 ⟨b3, l3, rfl, o3, hb3⟩))
    have hq3 : Below w.heap.size w w3 := hq2.trans (hb3.mono hq2.size)
    have p1 := own_later o1 hb3
    have p2 := own_later o2 hb3
    have hE3 := hE.below hq3 (Nat.le_refl _)
    have hs3 := hb3.size
    have hX3 := hX2.later hb3
    clear o1 o2 hX2
    obtain ⟨i0, hi0, hz0, hz1, hz2⟩ := info_parts Tryz.infoReply
    go_loopw [10, 11] (fun v j wr => ∃ ds gs : List Bl, ds.length ≤ 4 ∧ gs.length = ds.length ∧ j = .int .i64 (ds.length : Nat) ∧ wr.ownsRow w3.heap.size 30 12 v ds.length (rpRow r (ds.zip gs)) ∧ (∀ x ∈ gs, x.len = ln) ∧ Dts wr w3.heap.size (fun _ => False) r.data ds ∧ Dte wr w3.heap.size (fun _ => False) (entCells r.list) gs ∧ Below w3.heap.size w3 wr) (fun _ j _ => 4 - (intOf j).toNat)
    case atStart => exact ⟨[], [], by simp, rfl, rfl, ⟨rfl, Or.inl ⟨rfl, rfl⟩⟩, by simp, Dts.nil _ _ _ _, Dte.nil _ _ _ _, Below.refl _ _⟩
    case round =>
      obtain ⟨ds, gs, hds, hgl, rfl, hrow, hgn, hdt, hde, hbw⟩ := hrel
      have HGL : Hid (gs.length = ds.length) := hgl
      clear hgl
      have hE4 := hE3.below hbw (Nat.le_refl _)
      have hsw := hbw.size
      by_cases hlt : ds.length < 4
      · generalize hk : ds.length = k at *
        have hki : (k : Int) < 4 := by omega
        by_cases h1 : 1 < k
        · have h1i : (1 : Int) < (k : Int) := by omega
          go_wp2_with (first
            | (go_at_call 30; refine (decRpO h0 hby _ _ _ er _ (Lies.owned (own_later p2 hbw)) hE4 ln HEL.out).mono ?_; rintro e w4 ⟨bo, m, d, mo, mc, rfl, ho4, he4, hb4⟩; have hs4 := hb4.size; have x4 := (RpH.new w4 r bo m d mo ln mc).run)
            | (go_at_call 13; refine (num_id _ _).mono ?_; rintro e wn ⟨rfl, hwn⟩; subst wn)
            | (at_builtin; refine wpList_append_own _ rfl _ _ 53 rfl w3.heap.size 30 i0 (.agg #[.int .i64 0, .int .i64 0, .int .i64 0, .int .i64 0, .int .i64 0, .int .i64 0, .int .i64 0, .int .i64 0, .int .i64 0, .slice none 0 0, .slice none 0 0, .bool false]) 12 128 Tryz.underlying53 hi0 hz0 hz1 hz2 rfl (by decide) _ _ _ rfl (((own_later hrow hb4).alloc _).alloc _) ⟨w4.heap.size + 1, 0, none⟩ 1 1 (rpL r (⟨bo, m, d⟩, ⟨mo, ln, mc⟩)) rfl rfl (cells_new _ _ 30 _ (by simp)) (by intro u hu; simp [rpL] at hu; rcases hu with rfl | rfl | rfl | rfl | rfl | rfl | rfl | rfl | rfl | rfl | rfl | rfl <;> rfl) (by unfold maxLen; omega) (by omega) (by simp; omega) ?_; intro v' w5 hown5 hgrow5 hnil5))
          have hd4 := hdt.snoc (d := ⟨bo, m, d⟩) hb4 hsw (fun _ h => h.elim) ho4
          have hg4 := hde.snoc (d := ⟨mo, ln, mc⟩) hb4 hsw (fun _ h => h.elim) he4
          have hg5 := ((hg4.below (newBox _ _)).below (newBox _ _)).grown hgrow5 (((own_later hrow hb4).alloc _).alloc _) (by decide)
          have hd5 := ((hd4.below (newBox _ _)).below (newBox _ _)).grown hgrow5 (((own_later hrow hb4).alloc _).alloc _) (by decide)
          have hbw5 : Below w3.heap.size w3 w5 := (((hbw.trans (hb4.mono hsw)).alloc (by have := hb4.size; omega) _).alloc (by have := hb4.size; simp; omega) _).grown hgrow5 (by have := hb4.size; simp; omega) (fun b hb => (hrow.lt b hb).1)
          subst hk
          rw [← rpRow_snoc] at hown5
          rw [zip_snoc _ _ HGL.out] at hown5
          have hgn5 := all_snoc (g := ⟨mo, ln, mc⟩) hgn rfl
          have hgl5 := len_snoc ⟨bo, m, d⟩ ⟨mo, ln, mc⟩ HGL.out
          go_roundw
          case rel => exact ⟨ds ++ [⟨bo, m, d⟩], gs ++ [⟨mo, ln, mc⟩], by simp; omega, hgl5, by simp, by simpa using hown5, hgn5, hd5, hg5, hbw5⟩
          case measure => simp [intOf]; omega
        · have h1i : ¬ (1 : Int) < (k : Int) := by omega
          go_wp2_with (first
            | (go_at_call 30; refine (decRpO h0 hby _ _ _ er _ (Lies.owned (own_later p1 hbw)) hE4 ln HEL.out).mono ?_; rintro e w4 ⟨bo, m, d, mo, mc, rfl, ho4, he4, hb4⟩; have hs4 := hb4.size; have x4 := (RpH.new w4 r bo m d mo ln mc).run)
            | (go_at_call 13; refine (num_id _ _).mono ?_; rintro e wn ⟨rfl, hwn⟩; subst wn)
            | (at_builtin; refine wpList_append_own _ rfl _ _ 53 rfl w3.heap.size 30 i0 (.agg #[.int .i64 0, .int .i64 0, .int .i64 0, .int .i64 0, .int .i64 0, .int .i64 0, .int .i64 0, .int .i64 0, .int .i64 0, .slice none 0 0, .slice none 0 0, .bool false]) 12 128 Tryz.underlying53 hi0 hz0 hz1 hz2 rfl (by decide) _ _ _ rfl (((own_later hrow hb4).alloc _).alloc _) ⟨w4.heap.size + 1, 0, none⟩ 1 1 (rpL r (⟨bo, m, d⟩, ⟨mo, ln, mc⟩)) rfl rfl (cells_new _ _ 30 _ (by simp)) (by intro u hu; simp [rpL] at hu; rcases hu with rfl | rfl | rfl | rfl | rfl | rfl | rfl | rfl | rfl | rfl | rfl | rfl <;> rfl) (by unfold maxLen; omega) (by omega) (by simp; omega) ?_; intro v' w5 hown5 hgrow5 hnil5))
          have hd4 := hdt.snoc (d := ⟨bo, m, d⟩) hb4 hsw (fun _ h => h.elim) ho4
          have hg4 := hde.snoc (d := ⟨mo, ln, mc⟩) hb4 hsw (fun _ h => h.elim) he4
          have hg5 := ((hg4.below (newBox _ _)).below (newBox _ _)).grown hgrow5 (((own_later hrow hb4).alloc _).alloc _) (by decide)
          have hd5 := ((hd4.below (newBox _ _)).below (newBox _ _)).grown hgrow5 (((own_later hrow hb4).alloc _).alloc _) (by decide)
          have hbw5 : Below w3.heap.size w3 w5 := (((hbw.trans (hb4.mono hsw)).alloc (by have := hb4.size; omega) _).alloc (by have := hb4.size; simp; omega) _).grown hgrow5 (by have := hb4.size; simp; omega) (fun b hb => (hrow.lt b hb).1)
          subst hk
          rw [← rpRow_snoc] at hown5
          rw [zip_snoc _ _ HGL.out] at hown5
          have hgn5 := all_snoc (g := ⟨mo, ln, mc⟩) hgn rfl
          have hgl5 := len_snoc ⟨bo, m, d⟩ ⟨mo, ln, mc⟩ HGL.out
          go_roundw
          case rel => exact ⟨ds ++ [⟨bo, m, d⟩], gs ++ [⟨mo, ln, mc⟩], by simp; omega, hgl5, by simp, by simpa using hown5, hgn5, hd5, hg5, hbw5⟩
          case measure => simp [intOf]; omega
      · have hk4 : ds.length = 4 := by omega
        have hkk : k2 = k1 := by have h1 := (Lies.owned p1).hlen; have h2 := (Lies.owned p2).hlen; omega
        subst hkk
        have hkb : k2 ≤ 1400 := by have h1 := (Lies.owned p1).hlen; have h2 := (rp_back h0).2.2; omega
        have lt3 := fun b hb => o3.lt b hb
        have hq4 : Below w.heap.size w wr := hq3.trans (hbw.mono hq3.size)
        have hki : ¬ ((ds.length : Nat) : Int) < 4 := by omega
        have hX4 := hX3.later (hbw.mono (Nat.le_refl _))
        obtain ⟨_, g, cap, cur, hv, _⟩ := (show _ ∧ _ from ⟨trivial, hrow.2.resolve_left (fun h => by omega)⟩)
        subst hv
        rw [hk4] at hrow
        have hgl := hrow.lt g rfl
        have ty1 := own_type8 (own_later p1 hbw) hX4 (by decide)
        have ty2 := own_type8 (own_later p2 hbw) hX4 (by decide)
        go_wp2_with fail
        refine (all_2 vE base bk i k2 l1 l2 l3 wr.heap.size B es b1 b2 b3 (rpB r) _ (by simp; omega) ((hB.below hq4).below (newBox _ _)) hes (by omega) (by omega) (own_base ((own_later p1 hbw).alloc _) hbase) (own_base ((own_later p2 hbw).alloc _) (by omega)) (own_base ((own_later o3 hbw).alloc _) (by omega)) (heap_alloc_new wr _) (fun h => by have := (hBl _ h).2; omega) (fun b hb h => by have := (hBl _ h).2; have := (lt1 b hb).1; omega) (fun b hb => ⟨fun h => by have := (hBl _ h).2; have := (lt2 b hb).1; omega, fun h => by have := (lt2 b hb).1; have := (lt1 b h).2; omega⟩) (fun b hb => ⟨fun h => by have := (hBl _ h).2; have := (lt3 b hb).1; omega, fun h => by have := (lt3 b hb).1; have := (lt1 b h).2; omega, fun h => by have := (lt3 b hb).1; have := (lt2 b h).2; omega⟩)).mono ?_
        rintro e w6 ⟨rfl, es1, hl1, hle1, hB6, hF6⟩
        have hds0 : ∀ d ∈ ds, ∀ b, d.val.ownBlock = some b → w3.heap.size ≤ b ∧ b < wr.heap.size := fun d hd b hb => (hdt.own d hd).lt b hb
        have hW6 := hF6.size
        have hal : (wr.alloc (.cells #[.slice b1 k2 l1, .slice b2 k2 l2] 22)).heap.size = wr.heap.size + 1 := by simp
        rw [hal] at hW6
        have hgs0 : ∀ d ∈ gs, ∀ b, d.val.ownBlock = some b → w3.heap.size ≤ b ∧ b < wr.heap.size := fun d hd b hb => (hde.own d hd).lt b hb
        have hL6 : RpLp w base bk B C es fs r ao n c lo ln lc g cap ds gs 0 0 (fun k => (B k ∨ (Value.slice b1 k2 l1).ownBlock = some k ∨ (Value.slice b2 k2 l2).ownBlock = some k ∨ (wr.alloc (.cells #[.slice b1 k2 l1, .slice b2 k2 l2] 22)).heap.size ≤ k) ∧ k < w6.heap.size) C vE es1 [] w6 := by
          have hnB : ∀ b, w3.heap.size ≤ b → b < wr.heap.size → ¬ (B b ∨ (Value.slice b1 k2 l1).ownBlock = some b ∨ (Value.slice b2 k2 l2).ownBlock = some b ∨ (wr.alloc (.cells #[.slice b1 k2 l1, .slice b2 k2 l2] 22)).heap.size ≤ b) := fun b h1 h2 h => by
            rcases h with h | h | h | h
            · have := (hBl _ h).2; omega
            · have := (lt1 b h).2; omega
            · have := (lt2 b h).2; omega
            · omega
          have hnF : ∀ b, w3.heap.size ≤ b → b < wr.heap.size → w6.heap[b]? = (wr.alloc (.cells #[.slice b1 k2 l1, .slice b2 k2 l2] 22)).heap[b]? := fun b h1 h2 => by
            refine hF6.block b (by omega) (fun h => hnB b h1 h2 (.inl h)) (fun h => ?_)
            simp at h
            exact hnB b h1 h2 (h.elim (fun h => .inr (.inl h.symm)) (fun h => .inr (.inr (.inl h.symm))))
          have hnC : ∀ b, w.heap.size ≤ b → ¬ C b := fun b h1 h => by have := (hBC b h).2.1; omega
          refine ⟨hB6.weaken (fun k hk q => ⟨q, hk⟩), ?_, by omega, rfl, fun e he => by have := hle1 e he; omega, (fun e he => by cases he), fun k hc q => ?_, fun k q => q.2, fun k q => by have := (hBC k q).2.1; omega, ?_, ?_, own_keepS (w := wr.alloc (.cells #[.slice b1 k2 l1, .slice b2 k2 l2] 22)) (own_base (hrow.alloc _) (by omega)) (fun b hb hv => ?_), fun hk => ?_, ?_, fun hk => ?_, fun k hk => ?_, fun k hk => .inl hk, ?_⟩
          · rw [List.append_nil]
            refine hK.keep (fun k hk q => ?_)
            refine (hF6.block k (by omega) (hBC k q).2.2 (fun h => ?_)).trans ((Below.heap_alloc wr _ k (by omega)).trans (hq4.block k hk))
            simp at h
            rcases h with h | h
            · have := (lt1 k h.symm).1; omega
            · have := (lt2 k h.symm).1; omega
          · have h1 := (hBC k hc).2.1
            rcases q.1 with h | h | h | h
            · exact (hBC k hc).2.2 h
            · have := (lt1 k h).1; omega
            · have := (lt2 k h).1; omega
            · omega
          · refine Dts.apartFrom (w := wr.alloc (.cells #[.slice b1 k2 l1, .slice b2 k2 l2] 22)) (B := fun _ => False) ⟨fun d hd => own_base ((hdt.own d hd).alloc _) (by omega), hdt.apart, hdt.free⟩ (fun b hb hn => hF6.block b hb (fun h => hn (.inl ⟨.inl h, by omega⟩)) (fun h => ?_)) (fun b hb hb' d hd he => ?_)
            · simp at h
              exact hn (.inl ⟨h.elim (fun h => .inr (.inl h.symm)) (fun h => .inr (.inr (.inl h.symm))), by omega⟩)
            · have h1 := hds0 d hd b he
              rcases hb' with h | h
              · exact hnB b h1.1 h1.2 h.1
              · exact hnC b (by omega) h
          · refine Dte.apartFrom (w := wr.alloc (.cells #[.slice b1 k2 l1, .slice b2 k2 l2] 22)) (B := fun _ => False) ⟨fun d hd => own_base ((hde.own d hd).alloc _) (by omega), hde.apart, hde.free⟩ (fun b hb hn => hF6.block b hb (fun h => hn (.inl ⟨.inl h, by omega⟩)) (fun h => ?_)) (fun b hb hb' d hd he => ?_)
            · simp at h
              exact hn (.inl ⟨h.elim (fun h => .inr (.inl h.symm)) (fun h => .inr (.inr (.inl h.symm))), by omega⟩)
            · have h1 := hgs0 d hd b he
              rcases hb' with h | h
              · exact hnB b h1.1 h1.2 h.1
              · exact hnC b (by omega) h
          · cases hv
            exact hnF g hgl.1 hgl.2
          · rcases hk with h | h
            · exact hnB g hgl.1 hgl.2 h.1
            · exact hnC g (by omega) h
          · refine (hF6.block _ (by omega) (fun h => by have := (hBl _ h).2; omega) (fun h => ?_)).trans (hX4.later (newBox _ _))
            simp at h
            rcases h with h | h
            · exact ty1 h.symm
            · exact ty2 h.symm
          · rcases hk with h | h
            · rcases h.1 with h | h | h | h
              · have := (hBl _ h).2; omega
              · exact ty1 h
              · exact ty2 h
              · omega
            · exact hnC _ (Nat.le_refl _) h
          · rcases hk.1 with h | h | h | h
            · exact .inl h
            · exact .inr (lt1 k h).1
            · exact .inr (by have := (lt2 k h).1; omega)
            · exact .inr (by omega)
          · refine ⟨hF6.os.trans hq4.os, hF6.tape.trans hq4.tape, hF6.output.trans hq4.output, by omega, fun k hk hb => (hF6.block k (by omega) (fun q => hb (.inl q)) (fun h => ?_)).trans ((Below.heap_alloc wr _ k (by omega)).trans (hq4.block k hk))⟩
            simp at h
            rcases h with h | h
            · have := (lt1 k h.symm).1; omega
            · have := (lt2 k h.symm).1; omega
        clear hB6 hF6 ty1 ty2 hX4 p1 p2 hdt hde hrow o3
        go_wp2_with fail
        go_loopw [15, 16] (fun ok j w7 => ok = .bool true ∧ ∃ t B' C' vE' es' fs', t ≤ 4 ∧ j = .int .i64 (t : Nat) ∧ RpLp w base bk B C es fs r ao n c lo ln lc g cap ds gs t t B' C' vE' es' fs' w7) (fun _ j _ => 4 - (intOf j).toNat)
        case atStart => exact ⟨rfl, 0, _, _, _, _, _, by omega, rfl, hL6⟩
        case round =>
          obtain ⟨rfl, t, B7, C7, vE7, es7, fs7, ht4, rfl, hL⟩ := hrel
          obtain ⟨w7, hw7⟩ : ∃ w7, w7 = wr := ⟨wr, rfl⟩
          subst hw7
          by_cases hlt : t < 4
          · have hti : (t : Int) < 4 := by omega
            have hLd : RpLp w base bk B C es fs r ao n c lo ln lc g cap ds gs t t B7 C7 vE7 es7 fs7 w7.drew := hL.below ⟨rfl, rfl, rfl, Nat.le_refl _, fun _ _ => rfl⟩
            have hbL : Below base w w7.drew := ⟨hLd.fr.os, hLd.fr.tape, hLd.fr.output, hLd.fr.size, fun k hk => hLd.fr.block k (by omega) (fun q => q.elim (fun q => by have := (hBl k q).1; omega) (fun q => by have := (hBC k q).1; omega))⟩
            have hDd := lies_low hD hbL hDb
            have hNd := clies_low hN hbL hNb
            have htl : t < ds.length := by omega
            have hgtl : t < gs.length := by rw [HGL.out]; exact htl
            have hzl : t < (ds.zip gs).length := by rw [List.length_zip]; omega
            have hze : (ds.zip gs)[t] = (ds[t], gs[t]) := List.getElem_zip
            have hmem : ds[t] ∈ ds.drop t := by rw [List.drop_eq_getElem_cons htl]; exact List.mem_cons_self
            have hgmem : gs[t] ∈ gs.drop t := by rw [List.drop_eq_getElem_cons hgtl]; exact List.mem_cons_self
            have hod := hLd.dts.own ds[t] hmem
            have hoe := hLd.dte.own gs[t] hgmem
            have hrun1 := rpex_run (rpRow_range hLd.row (j := t) hzl)
            have hgt := hgn gs[t] (List.getElem_mem hgtl)
            rw [hze] at hrun1
            obtain ⟨⟨da, dn, dc⟩, hdd⟩ : ∃ d, ds[t] = d := ⟨_, rfl⟩
            obtain ⟨⟨ga, gn, gc⟩, hgg⟩ : ∃ d, gs[t] = d := ⟨_, rfl⟩
            rw [hdd] at hod hrun1
            rw [hgg] at hoe hrun1 hgt
            have HDD : Hid (ds[t] = ⟨da, dn, dc⟩) := hdd
            have HGG : Hid (gs[t] = ⟨ga, gn, gc⟩) := hgg
            have HZE : Hid ((ds.zip gs)[t] = (ds[t], gs[t])) := hze
            simp only at hgt
            subst hgt
            clear hdd hgg hze
            have hdl : dn = n := by
              have h1 := hod.1
              have h2 := hD.hlen
              rw [List.length_map] at h1
              simp only at h1
              omega
            have hLied : Lies w7.drew da dn dc r.data := Lies.owned hod
            have hCied : CLies w7.drew ga gn gc 3 (entCells r.list) := CLies.owned hoe
            have q7 := And.intro hrun1 hLd.box.run
            simp only at q7
            have HDL : Hid (dn = n) := hdl
            have hdn : dn ≤ 1048576 := by omega
            clear hdl hrun1
            go_wp2_with fail
            go_region_held3 (fun w' => (RpEx (.pointer (some ⟨g, t * 12, none⟩))).run Tryz.prog w' = .ok (.value (rpV r da dn dc ga gn gc)) w' ∧ (RpEx (.pointer (some ⟨w.heap.size, 0, none⟩))).run Tryz.prog w' = .ok (.value (rpV r ao n c lo gn lc)) w')
              (first | with_reducible exact q7 | with_reducible exact q8)
              (first
                | (go_at_call 32; refine (sameRp_any r r da dn dc ga gn gc ao n c lo gn lc w7.drew (by omega) (by omega) hLied hDd hCied hNd HEL.out HEL.out).mono ?_; rintro e w8 ⟨tt, rfl, htt, hb8⟩; obtain rfl := htt.2 rfl; have hL8 := hLd.below hb8; have hrun8 := rpex_run (rpRow_range hL8.row (j := t) hzl); rw [HZE.out, HDD.out, HGG.out] at hrun8; have q8 := And.intro hrun8 hL8.box.run))
            have hc8 : w8.cell? ⟨g, t * 12 + 9, none⟩ = some (.slice da dn dc) := by
              have := rpRow_range hL8.row hzl 9 (.slice (ds.zip gs)[t].1.ao (ds.zip gs)[t].1.len (ds.zip gs)[t].1.cap) rfl
              rwa [HZE.out, HDD.out] at this
            have hod8 := hL8.dts.own ds[t] hmem
            have hfr8 := hL8.dts.free ds[t] hmem
            rw [HDD.out] at hod8 hfr8
            have hlen7 := hL8.lenB
            go_wp2_with fail
            refine (keep_fr vE7 base bk (i + 2 + t) dn dc B7 (es ++ es7) da r.data w8 (Nat.le_trans hbase hL8.fr.size) hL8.book (by rw [List.length_append]; omega) (by omega) (by omega) hod8 (fun b hb q => hfr8 b hb (.inl q))).mono ?_
            rintro e w9 ⟨rfl, e1, e2, hB9, h1, h2, hF9⟩
            have hL9 := RpLp.stepD (e1 := e1) (e2 := e2) (w' := w9) htl (by rw [HDD.out]; simp only; omega) hL8 (by rw [HDD.out]; exact hB9) (by rw [HDD.out]; exact h1) (by rw [HDD.out]; exact h2) (by rw [HDD.out]; exact hF9) (fun d hd b hb => by have := (hds0 d hd b hb).1; omega)
            clear q7 q8 hc8 hod8 hfr8 hB9 hF9 hL8 hLd hL hod hLied hDd hbL
            have hc9 : w9.cell? ⟨g, t * 12 + 10, none⟩ = some (.slice ga gn gc) := by
              have := rpRow_range hL9.row hzl 10 (.slice (ds.zip gs)[t].2.ao (ds.zip gs)[t].2.len (ds.zip gs)[t].2.cap) rfl
              rwa [HZE.out, HGG.out] at this
            have hoe9 := hL9.dte.own gs[t] hgmem
            have hfr9 := hL9.dte.free gs[t] hgmem
            rw [HGG.out] at hoe9 hfr9
            have hlen9 := hL9.lenE
            go_wp2_with fail
            refine (entries_any base bk (i' + t) gn gc vE7 _ C7 _ (fs ++ fs7) ga (entCells r.list) w9 (Nat.le_trans hbase hL9.fr.size) hL9.book hL9.ents hL9.bc (by rw [List.length_append]; omega) (by omega) (by omega) hoe9 (fun b hb => not_or.1 (hfr9 b hb))).mono ?_
            rintro e w10 ⟨rfl, vE10, e3, e4, hB10, hE10, h3, h4, hF10⟩
            have hL10 := RpLp.stepE (e1 := e3) (e2 := e4) (w' := w10) (vE' := vE10) hgtl (by rw [HGG.out]; simp only; omega) hL9 hB10 (by rw [HGG.out]; exact hE10) (by rw [HGG.out]; exact h3) (by rw [HGG.out]; exact h4) (by rw [HGG.out]; exact hF10) (fun d hd b hb => by have := (hgs0 d hd b hb).1; omega)
            clear hc9 hoe9 hfr9 hB10 hE10 hF10 hL9
            go_wp2_with fail
            go_roundw
            case rel => exact ⟨rfl, t + 1, _, _, _, _, _, by omega, by simp, hL10⟩
            case measure => simp [intOf]; omega
          · have hti : ¬ (t : Int) < 4 := by omega
            obtain rfl : t = 4 := by omega
            go_wp2_with fail
            go_ret
            have hbL : Below base w w7 := ⟨hL.fr.os, hL.fr.tape, hL.fr.output, hL.fr.size, fun k hk => hL.fr.block k (by omega) (fun q => q.elim (fun q => by have := (hBl k q).1; omega) (fun q => by have := (hBC k q).1; omega))⟩
            exact ⟨rfl, ⟨vE7, B7, C7, es7, fs7, 6, 4, hL.book, hL.ents, by have := hL.lenB; omega, by omega, by have := hL.lenE; omega, by omega, hL.smallB, hL.smallE, fun k q => ⟨(hL.newB k q).elim (fun q => (hBl k q).1) (fun q => by omega), hL.ltB k q⟩, fun k q => ⟨(hL.newC k q).elim (fun q => (hBC k q).1) (fun q => by omega), hL.ltC k q, hL.bc k q⟩, hbL⟩⟩
  · have e1 := hz1 h0
    have e2 := hz2 h0
    subst e1 e2
    clear ho1 ho2 hz1 hz2
    have hne : decide (rpE r = 0) = false := by simpa using h0
    go_wp2_with (go_at_call 13; refine (num_id _ _).mono ?_; rintro e wn ⟨rfl, hwn⟩; subst wn)
    go_ret
    exact ⟨rfl, ⟨vE, B, C, [], [], 0, 0, by simpa using hB.below hq2, by simpa using hK.below hq2, rfl, by omega, rfl, by omega, by simp, by simp, fun k q => ⟨(hBl k q).1, Nat.lt_of_lt_of_le (hBl k q).2 hq2.size⟩, fun k q => ⟨(hBC k q).1, Nat.lt_of_lt_of_le (hBC k q).2.1 hq2.size, (hBC k q).2.2⟩, hq2.mono hbase⟩⟩
end Go.Proofs.YtdkcplndplhblaaGreatDoor

/- What the listed variables give the walks: the package's five errors, each a pointer of its own. -/
namespace Go.Proofs.YtdkcplndplhblaaGreatDoor
open Go.ChangeShapes Go.WideShapes Go.ChangeAt Go.RowKit
set_option maxRecDepth 100000

abbrev laid5 {H : Type} : List (String × DataW H) := [("annex/bits.errShort", Rows.laid_annex_bits_errShort), ("annex/bits.errWide", Rows.laid_annex_bits_errWide), ("annex/bits.errFlag", Rows.laid_annex_bits_errFlag), ("annex/bits.errLong", Rows.laid_annex_bits_errLong), ("annex/bits.errPad", Rows.laid_annex_bits_errPad)]

theorem star : "*" ++ "errors.errorString" = "*errors.errorString" := by decide
theorem row96 (u : TypeId) (h : Tryz.prog.typeName? 3 u = some "*errors.errorString") : u = 223 :=
  typeName_ptr_named (nm := "errors.errorString") (by rw [star]; kernel_rfl) (by kernel_rfl) (by decide) u (by rw [star]; exact h)
theorem cells122 : Tryz.prog.cellsOf 247 = 1 := by kernel_rfl
theorem cells9 : Tryz.prog.cellsOf 9 = 1 := by kernel_rfl
theorem gN0 : Tryz.prog.globalNamed "annex/bits.errShort" = some 0 := by kernel_rfl
theorem gT0 : (Tryz.prog.globals[0]?).map (·.type) = some 193 := by kernel_rfl
theorem gN1 : Tryz.prog.globalNamed "annex/bits.errWide" = some 1 := by kernel_rfl
theorem gT1 : (Tryz.prog.globals[1]?).map (·.type) = some 193 := by kernel_rfl
theorem gN2 : Tryz.prog.globalNamed "annex/bits.errFlag" = some 2 := by kernel_rfl
theorem gT2 : (Tryz.prog.globals[2]?).map (·.type) = some 193 := by kernel_rfl
theorem gN3 : Tryz.prog.globalNamed "annex/bits.errLong" = some 3 := by kernel_rfl
theorem gT3 : (Tryz.prog.globals[3]?).map (·.type) = some 193 := by kernel_rfl
theorem gN4 : Tryz.prog.globalNamed "annex/bits.errPad" = some 4 := by kernel_rfl
theorem gT4 : (Tryz.prog.globals[4]?).map (·.type) = some 193 := by kernel_rfl

/-- The five errors' addresses, by the variables' numbers. -/
def erOf (a0 a1 a2 a3 a4 : Addr) : Nat → Addr
  | 4 => a0 | 1 => a1 | 0 => a2 | 2 => a3 | _ => a4

theorem errs_of_laid {W : World} (h : laidMetH Tryz.prog laid5 W) : ∃ er, Errs W er := by
  rw [MakeChecks.laidMetH_plain _ _ _ (by kernel_rfl)] at h
  obtain ⟨ps, ⟨g0, t0, cs0, f0, p0, q0, hg0, ht0, hv0, hd0, ⟨g1, t1, cs1, f1, p1, q1, hg1, ht1, hv1, hd1, ⟨g2, t2, cs2, f2, p2, q2, hg2, ht2, hv2, hd2, ⟨g3, t3, cs3, f3, p3, q3, hg3, ht3, hv3, hd3, ⟨g4, t4, cs4, f4, p4, q4, hg4, ht4, hv4, hd4, _, e4⟩, e3⟩, e2⟩, e1⟩, e0⟩, hnd, hrows⟩ := h
  obtain rfl := Option.some.inj (gN0.symm.trans hg0)
  obtain rfl := Option.some.inj (gT0.symm.trans ht0)
  obtain rfl := Option.some.inj (gN1.symm.trans hg1)
  obtain rfl := Option.some.inj (gT1.symm.trans ht1)
  obtain rfl := Option.some.inj (gN2.symm.trans hg2)
  obtain rfl := Option.some.inj (gT2.symm.trans ht2)
  obtain rfl := Option.some.inj (gN3.symm.trans hg3)
  obtain rfl := Option.some.inj (gT3.symm.trans ht3)
  obtain rfl := Option.some.inj (gN4.symm.trans hg4)
  obtain rfl := Option.some.inj (gT4.symm.trans ht4)
  subst e4; subst e3; subst e2; subst e1; subst e0
  obtain ⟨l0⟩ := cs0
  obtain ⟨l1⟩ := cs1
  obtain ⟨l2⟩ := cs2
  obtain ⟨l3⟩ := cs3
  obtain ⟨l4⟩ := cs4
  have ok0 : ∀ u v, l0 = [.iface u v] → Value.okWide Tryz.prog W .any 0 u v := fun u v e => by
    subst e
    exact (hrows 0 0 (by simp [MemPlace.row])).2 u v (by simpa using World.var?_cell hg0 hv0 0)
  have ok1 : ∀ u v, l1 = [.iface u v] → Value.okWide Tryz.prog W .any 0 u v := fun u v e => by
    subst e
    exact (hrows 1 0 (by simp [MemPlace.row])).2 u v (by simpa using World.var?_cell hg1 hv1 0)
  have ok2 : ∀ u v, l2 = [.iface u v] → Value.okWide Tryz.prog W .any 0 u v := fun u v e => by
    subst e
    exact (hrows 2 0 (by simp [MemPlace.row])).2 u v (by simpa using World.var?_cell hg2 hv2 0)
  have ok3 : ∀ u v, l3 = [.iface u v] → Value.okWide Tryz.prog W .any 0 u v := fun u v e => by
    subst e
    exact (hrows 3 0 (by simp [MemPlace.row])).2 u v (by simpa using World.var?_cell hg3 hv3 0)
  have ok4 : ∀ u v, l4 = [.iface u v] → Value.okWide Tryz.prog W .any 0 u v := fun u v e => by
    subst e
    exact (hrows 4 0 (by simp [MemPlace.row])).2 u v (by simpa using World.var?_cell hg4 hv4 0)
  obtain ⟨a0, s0, rfl, hc0, _, _, rfl⟩ := errorString_of_trod Tryz.underlying193 row96 Tryz.underlying223 Tryz.underlying247 rfl rfl Tryz.underlying9 cells122 cells9 hd0 ok0
  obtain ⟨a1, s1, rfl, hc1, _, _, rfl⟩ := errorString_of_trod Tryz.underlying193 row96 Tryz.underlying223 Tryz.underlying247 rfl rfl Tryz.underlying9 cells122 cells9 hd1 ok1
  obtain ⟨a2, s2, rfl, hc2, _, _, rfl⟩ := errorString_of_trod Tryz.underlying193 row96 Tryz.underlying223 Tryz.underlying247 rfl rfl Tryz.underlying9 cells122 cells9 hd2 ok2
  obtain ⟨a3, s3, rfl, hc3, _, _, rfl⟩ := errorString_of_trod Tryz.underlying193 row96 Tryz.underlying223 Tryz.underlying247 rfl rfl Tryz.underlying9 cells122 cells9 hd3 ok3
  obtain ⟨a4, s4, rfl, hc4, _, _, rfl⟩ := errorString_of_trod Tryz.underlying193 row96 Tryz.underlying223 Tryz.underlying247 rfl rfl Tryz.underlying9 cells122 cells9 hd4 ok4
  obtain ⟨c0, u0, hb0⟩ := (hrows a0.block a0.off (by simp [MemPlace.row])).1
  obtain ⟨c1, u1, hb1⟩ := (hrows a1.block a1.off (by simp [MemPlace.row])).1
  obtain ⟨c2, u2, hb2⟩ := (hrows a2.block a2.off (by simp [MemPlace.row])).1
  obtain ⟨c3, u3, hb3⟩ := (hrows a3.block a3.off (by simp [MemPlace.row])).1
  obtain ⟨c4, u4, hb4⟩ := (hrows a4.block a4.off (by simp [MemPlace.row])).1
  have w0 := by simpa using World.var?_cell hg0 hv0 0
  have w1 := by simpa using World.var?_cell hg1 hv1 0
  have w2 := by simpa using World.var?_cell hg2 hv2 0
  have w3 := by simpa using World.var?_cell hg3 hv3 0
  have w4 := by simpa using World.var?_cell hg4 hv4 0
  have n01 : a0 ≠ a1 := by rintro rfl; simp [MemPlace.row] at hnd
  have n02 : a0 ≠ a2 := by rintro rfl; simp [MemPlace.row] at hnd
  have n03 : a0 ≠ a3 := by rintro rfl; simp [MemPlace.row] at hnd
  have n04 : a0 ≠ a4 := by rintro rfl; simp [MemPlace.row] at hnd
  have n12 : a1 ≠ a2 := by rintro rfl; simp [MemPlace.row] at hnd
  have n13 : a1 ≠ a3 := by rintro rfl; simp [MemPlace.row] at hnd
  have n14 : a1 ≠ a4 := by rintro rfl; simp [MemPlace.row] at hnd
  have n23 : a2 ≠ a3 := by rintro rfl; simp [MemPlace.row] at hnd
  have n24 : a2 ≠ a4 := by rintro rfl; simp [MemPlace.row] at hnd
  have n34 : a3 ≠ a4 := by rintro rfl; simp [MemPlace.row] at hnd
  refine ⟨erOf a0 a1 a2 a3 a4, ?_, ?_, ?_⟩
  · intro i hi
    match i, hi with
    | 0, _ => exact w2
    | 1, _ => exact w1
    | 2, _ => exact w3
    | 3, _ => exact w4
    | 4, _ => exact w0
  · intro i hi
    match i, hi with
    | 0, _ => exact ⟨_, _, hb2⟩
    | 1, _ => exact ⟨_, _, hb1⟩
    | 2, _ => exact ⟨_, _, hb3⟩
    | 3, _ => exact ⟨_, _, hb4⟩
    | 4, _ => exact ⟨_, _, hb0⟩
  · intro i j hi hj hne
    match i, hi, j, hj with
    | 0, _, 0, _ => exact absurd rfl hne
    | 0, _, 1, _ => exact n12.symm
    | 0, _, 2, _ => exact n23
    | 0, _, 3, _ => exact n24
    | 0, _, 4, _ => exact n02.symm
    | 1, _, 0, _ => exact n12
    | 1, _, 1, _ => exact absurd rfl hne
    | 1, _, 2, _ => exact n13
    | 1, _, 3, _ => exact n14
    | 1, _, 4, _ => exact n01.symm
    | 2, _, 0, _ => exact n23.symm
    | 2, _, 1, _ => exact n13.symm
    | 2, _, 2, _ => exact absurd rfl hne
    | 2, _, 3, _ => exact n34
    | 2, _, 4, _ => exact n03.symm
    | 3, _, 0, _ => exact n24.symm
    | 3, _, 1, _ => exact n14.symm
    | 3, _, 2, _ => exact n34.symm
    | 3, _, 3, _ => exact absurd rfl hne
    | 3, _, 4, _ => exact n04.symm
    | 4, _, 0, _ => exact n02
    | 4, _, 1, _ => exact n01
    | 4, _, 2, _ => exact n03
    | 4, _, 3, _ => exact n04
    | 4, _, 4, _ => exact absurd rfl hne
end Go.Proofs.YtdkcplndplhblaaGreatDoor
