/- annexlaw1.BitsReads by its walk: a step of any kind, the other reader, and the loop over the calls. -/
import Derived.Test.YtjpaooejkbkliabDoorSteps2
namespace Go.Proofs.YtjpaooejkbkliabDoor
open Go.RowKit
set_option maxRecDepth 100000

theorem step_any (K M : Int) (sec : Bool) (rb g n cap db : Nat) (ao : Option Addr) (dc base bk : Nat) (B : Nat → Prop) (es : List Ent) (i pl : Nat) (code : Int) (bs : List Int) (er : Nat → Addr) (w : World) (hS : St w rb g n cap db ao dc base bk B es i pl code bs) (hE : Errs w er) (hn : n ≤ 1900000) (hc : cap ≤ 2000000) (hby : ∀ x ∈ bs, 0 ≤ x ∧ x ≤ 255) (hi : i ≤ 1000000) (hbase : base ≤ w.heap.size) (hM1 : M ≤ 9223372036854775807) :
    Calls Tryd.prog 9 #[.agg #[.int .i64 K, .bool sec, .int .i64 M], .pointer (some ⟨rb, 0, none⟩), .pointer (some ⟨db, 0, none⟩), .pointer (some ⟨bk, 0, none⟩)] w fun e w' => Stepped w rb g n cap db ao dc base bk B i bs e w' := by
  by_cases h1 : K = 1
  · subst h1; exact step_u32 M sec rb g n cap db ao dc base bk B es i pl code bs er w hS hE (by omega) hc hby hM1
  by_cases h2 : K = 2
  · subst h2; exact step_u64 M sec rb g n cap db ao dc base bk B es i pl code bs er w hS hE (by omega) hc hby hM1
  by_cases h3 : K = 3
  · subst h3; exact step_sum M sec rb g n cap db ao dc base bk B es i pl code bs er w hS hE (by omega) hc hby hM1
  by_cases h4 : K = 4
  · subst h4; exact step_flag M sec rb g n cap db ao dc base bk B es i pl code bs er w hS hE (by omega) hc hby hM1
  by_cases h5 : K = 5
  · subst h5; exact step_text M sec rb g n cap db ao dc base bk B es i pl code bs er w hS hE (by omega) hc hby hM1
  by_cases h6 : K = 6
  · subst h6; exact step_bytes M sec rb g n cap db ao dc base bk B es i pl code bs er w hS hE hn hc hby hi hbase hM1
  by_cases h7 : K = 7
  · subst h7; exact step_err M sec rb g n cap db ao dc base bk B es i pl code bs er w hS hE (by omega) hc hby hM1
  by_cases h8 : K = 8
  · subst h8; exact step_close M sec rb g n cap db ao dc base bk B es i pl code bs er w hS hE (by omega) hc hby hM1
  exact step_other K ⟨h1, h2, h3, h4, h5, h6, h7, h8⟩ M sec rb g n cap db ao dc base bk B es i pl code bs er w hS hE (by omega) hc hby hM1

/-- One reader stays, where the other one steps. -/
theorem St.other {w w' : World} {rb g n cap db : Nat} {ao : Option Addr} {dc base bk : Nat} {B B' : Nat → Prop} {es es' : List Ent} {i i' pl : Nat} {code : Int} {bs : List Int} {rb2 g2 n2 cap2 db2 : Nat} {ao2 : Option Addr} {dc2 pl2 : Nat} {code2 : Int} {bs2 : List Int}
    (h : St w rb g n cap db ao dc base bk B es i pl code bs) (h2 : St w' rb2 g2 n2 cap2 db2 ao2 dc2 base bk B' es' i' pl2 code2 bs2) (hF : Fr (fun k => B k ∨ k = rb2 ∨ k = db2) w w') (hBB : ∀ b, B' b → B b ∨ w.heap.size ≤ b)
    (d1 : rb ≠ rb2 ∧ rb ≠ db2) (d2 : g ≠ rb2 ∧ g ≠ db2) (d3 : db ≠ rb2 ∧ db ≠ db2) (d4 : ∀ ad, ao = some ad → ad.block ≠ rb2 ∧ ad.block ≠ db2) : St w' rb g n cap db ao dc base bk B' es' i' pl code bs := by
  have keep : ∀ k, k < w.heap.size → ¬ B k → k ≠ rb2 ∧ k ≠ db2 → w'.heap[k]? = w.heap[k]? := fun k hk h1 h2 => hF.block k hk (fun h => by
    rcases h with h | h | h
    · exact h1 h
    · exact h2.1 h
    · exact h2.2 h)
  have out : ∀ k, k < w.heap.size → ¬ B k → ¬ B' k := fun k hk h1 h2 => by
    rcases hBB k h2 with h | h
    · exact h1 h
    · omega
  have l1 := h.rd.lt
  have l2 := h.rd.glt
  have l3 := lt_of_block h.dd.blk
  exact ⟨h.rd.same (keep rb l1 h.nr d1) (keep g l2 h.ng d2) hF.size, h.dd.same (keep db l3 h.nd d3) (fun ad had => keep _ (h.alt ad had) (h.na ad had) (d4 ad had)), h2.book, h2.hes, h2.hen, h2.hB,
    out rb l1 h.nr, out g l2 h.ng, out db l3 h.nd, fun ad had => out _ (h.alt ad had) (h.na ad had), h.rne, h.gne, h.ane, h.hp, fun ad had => Nat.lt_of_lt_of_le (h.alt ad had) hF.size⟩

theorem dNew2 (ao : Option Addr) (n cap : Nat) (bs : List Int) (w : World) (hn : n ≤ 140737488355328) (hL : Lies w ao n cap bs) :
    Calls Tryd.prog 8 #[.slice ao n cap] w fun e w' => ∃ rb a' c', e = .returned (.pointer (some ⟨rb, 0, none⟩)) ∧ RdD w' rb a' n c' 0 0 bs ∧ w.heap.size ≤ rb ∧ (∀ ad, a' = some ad → w.heap.size ≤ ad.block ∧ ad.block < w'.heap.size) ∧ Below w.heap.size w w' := by
  go_enter Tryd.func8, Tryd.ntmps8
  go_wp2_with (go_at_call 16; refine (bytes29_any ao n cap bs _ hn hL).mono ?_; rintro e w1 ⟨a1, c1, rfl, hown, hb⟩)
  go_ret
  have hlo : ∀ ad, a1 = some ad → w.heap.size ≤ ad.block ∧ ad.block < w1.heap.size := fun ad had => by
    subst had
    rcases hown.2 with ⟨hv, _⟩ | ⟨g, cap', cur, hv, hg, hh, _⟩
    · cases hv
    · cases hv
      exact ⟨hg, lt_of_block hh⟩
  refine ⟨w1.heap.size, a1, c1, rfl, ⟨heap_alloc_new _ _, (Lies.owned hown).boxed _, fun ad had e => ?_⟩, hb.size, fun ad had => ⟨(hlo ad had).1, by have := (hlo ad had).2; simp; omega⟩, hb.alloc hb.size _⟩
  have := (hlo ad had).2
  omega

theorem own_front {w : World} {base g n c : Nat} {L : List Int} (hl : L.length = n) (h : w.ownsRow base 5 1 (.slice (some ⟨g, 0, none⟩) (n + 3) c) (n + 3) ((L ++ three).map (Value.int .u8))) : Lies w (some ⟨g, 0, none⟩) n c L := by
  have hL := Lies.own h
  refine ⟨hl, by have := hL.hle; omega, (fun h => by cases h), fun ad had t u hu => hL.hcells ad had t u ?_⟩
  rw [List.map_append, List.getElem?_append_left (by
    have := (List.getElem?_eq_some_iff.1 hu).1
    simpa using this)]
  exact hu
theorem Bk.new (w : World) : Bk (w.alloc (.cells #[.slice none 0 0, .slice none 0 0] 35)) w.heap.size w.heap.size (fun k => k = w.heap.size) [] := by
  refine ⟨⟨_, _, heap_alloc_new w _, ⟨rfl, Or.inl ⟨rfl, rfl⟩⟩, ⟨rfl, Or.inl ⟨rfl, rfl⟩⟩, fun k hk => (by cases hk), fun k hk => (by cases hk)⟩, ⟨Nat.le_refl _, rfl⟩, fun i hi => (by simp at hi), fun e he => (by cases he)⟩

theorem fr_below {K : Nat → Prop} {w w' : World} (h : Fr K w w') {b0 : Nat} (hK : ∀ k, K k → b0 ≤ k) (hsz : b0 ≤ w.heap.size) : Below b0 w w' :=
  ⟨h.os, h.tape, h.output, h.size, fun k hk => h.block k (by omega) (fun hh => by have := hK k hh; omega)⟩

/-- An operation as it lies in memory. -/
structure Op where
  K : Int
  sec : Bool
  M : Int

set_option maxHeartbeats 2000000 in
theorem reads_any (a0 : Option Addr) (la ca : Nat) (A : List Int) (b0 : Option Addr) (lb cb : Nat) (Bl : List Int) (oo : Option Addr) (lo co : Nat) (xs : List Op) (er : Nat → Addr) (w : World) (hE : Errs w er) (hA : Lies w a0 la ca A) (hBl : Lies w b0 lb cb Bl) (hAb : ∀ x ∈ A, 0 ≤ x ∧ x ≤ 255) (hBb : ∀ x ∈ Bl, 0 ≤ x ∧ x ≤ 255)
    (hla : la ≤ 1048576) (hlb : lb ≤ 1048576) (hxl : xs.length = lo) (hlo : lo ≤ 262144) (hop : ∀ i (h : i < xs.length), ∃ b o, oo = some ⟨b, o, none⟩ ∧ w.cell? ⟨b, o + i * 3, none⟩ = some (.int .i64 xs[i].K) ∧ w.cell? ⟨b, o + i * 3 + 1, none⟩ = some (.bool xs[i].sec) ∧ w.cell? ⟨b, o + i * 3 + 2, none⟩ = some (.int .i64 xs[i].M))
    (hM : ∀ x ∈ xs, x.M ≤ 9223372036854775807) :
    Calls Tryd.prog 3 #[.slice a0 la ca, .slice b0 lb cb, .slice oo lo co] w fun e w' => e = .returned (.bool true) ∧ Below w.heap.size w w' := by
  have hnil : ∀ (a : Addr) (w : World), (binOp BinOp.eql 26 (.pointer (some a)) (.pointer none)).run Tryd.prog w = .ok (.bool false) w := fun _ _ => by kernel_rfl
  have HOP : Hid (∀ i (h : i < xs.length), ∃ b o, oo = some ⟨b, o, none⟩ ∧ w.cell? ⟨b, o + i * 3, none⟩ = some (.int .i64 xs[i].K) ∧ w.cell? ⟨b, o + i * 3 + 1, none⟩ = some (.bool xs[i].sec) ∧ w.cell? ⟨b, o + i * 3 + 2, none⟩ = some (.int .i64 xs[i].M)) := hop
  have HM : Hid (∀ x ∈ xs, x.M ≤ 9223372036854775807) := hM
  have HAb : Hid (∀ x ∈ A, 0 ≤ x ∧ x ≤ 255) := hAb
  have HBb : Hid (∀ x ∈ Bl, 0 ≤ x ∧ x ≤ 255) := hBb
  clear hop hM hAb hBb
  go_enter Tryd.func3, Tryd.ntmps3
  go_wp2_with fail
  refine (head_any er w hE).mono ?_
  rintro e w1 ⟨rfl, hb1⟩
  have hA1 := hA.below hb1 (Nat.le_refl _)
  have hB1 := hBl.below hb1 (Nat.le_refl _)
  go_wp2_with fail
  refine (room30 _ _ _ _ _ (by omega) hA1).mono ?_
  rintro e w2 ⟨gx, cx, rfl, ox2, hb2⟩
  have hA2 := hA1.below hb2 (Nat.le_refl _)
  have hB2 := hB1.below hb2 (Nat.le_refl _)
  go_wp2_with fail
  refine (room30 _ _ _ _ _ (by omega) hB2).mono ?_
  rintro e w3 ⟨gy, cy, rfl, oy3, hb3⟩
  have hgx2' := own_lt5 ox2 (b := gx) rfl
  have hA3 := hA2.below hb3 (Nat.le_refl _)
  have hB3 := hB2.below hb3 (Nat.le_refl _)
  have ox3 := own_same ox2 (fun b hb => hb3.block b (own_lt5 ox2 hb))
  have hfx := own_front hA.hlen ox3
  have hcx : (la : Int) ≤ cx := by have := hfx.hle; omega
  go_wp2_with fail
  refine (newReader_any _ _ _ _ _ (by omega) hfx).mono ?_
  rintro e w4 ⟨rb1, g1, rfl, hR4, hrb1, hg1, hb4⟩
  have oy4 := own_same oy3 (fun b hb => hb4.block b (own_lt5 oy3 hb))
  have ox4 := own_same ox3 (fun b hb => hb4.block b (own_lt5 ox3 hb))
  have hfy := own_front hBl.hlen oy4
  have hcy : (lb : Int) ≤ cy := by have := hfy.hle; omega
  have hgy3' := own_lt5 oy3 (b := gy) rfl
  have hA4 := hA3.below hb4 (Nat.le_refl _)
  have hB4 := hB3.below hb4 (Nat.le_refl _)
  go_wp2_with fail
  refine (newReader_any _ _ _ _ _ (by omega) hfy).mono ?_
  rintro e w5 ⟨rb2, g2, rfl, hR5, hrb2, hg2, hb5⟩
  have oy5 := own_same oy4 (fun b hb => hb5.block b (own_lt5 oy4 hb))
  have ox5 := own_same ox4 (fun b hb => hb5.block b (own_lt5 ox4 hb))
  have hA5 := hA4.below hb5 (Nat.le_refl _)
  have hB5 := hB4.below hb5 (Nat.le_refl _)
  have hr5 := hR4.kept (below_grown hb5 none) (by simp) (by simp)
  clear hfx hfy hA1 hA2 hA3 hA4 hB1 hB2 hB3 hB4 ox2 ox3 ox4 oy3 oy4
  have hw5 : Below w.heap.size w w5 := by
    have h12 := hb1.trans (hb2.mono hb1.size)
    have h13 := h12.trans (hb3.mono h12.size)
    have h14 := h13.trans (hb4.mono h13.size)
    exact h14.trans (hb5.mono h14.size)
  have ixb := own_block5 ox5 gx rfl
  have ixt := own_lt5 ox5 rfl
  have iyb := own_block5 oy5 gy rfl
  have hs1 := hb1.size
  have hs2 := hb2.size
  have hs3 := hb3.size
  have hs4 := hb4.size
  have hs5 := hb5.size
  have hgx2 : gx < w2.heap.size := hgx2'
  have hgy3 : gy < w3.heap.size := hgy3'
  have lr14 := hR4.lt
  have lg14 := hR4.glt
  clear hb1 hb2 hb3 hb4 hb5 hR4
  go_wp2_with fail
  refine (room30 _ _ _ _ _ (by omega) hA5).mono ?_
  rintro e w6 ⟨gz, cz, rfl, oz6, hb6⟩
  have ox6 := own_same ox5 (fun b hb => hb6.block b (own_lt5 ox5 hb))
  go_wp2_with fail
  refine (same_any _ _ _ _ _ _ _ _ _ (by omega) (Lies.own ox6) (Lies.own oz6)).mono ?_
  rintro e w7 ⟨rfl, q7, hq7⟩
  subst w7
  rw [decide_eq_true rfl]
  have hb7 : Below w5.heap.size w5 (w6.drewN q7) := below_drewM hb6 q7
  have hB7 := hB5.below hb7 (Nat.le_refl _)
  clear oz6 ox6 hb6
  go_wp2_with fail
  refine (room30 _ _ _ _ _ (by omega) hB7).mono ?_
  rintro e w8 ⟨gu, cu, rfl, ou8, hb8⟩
  have hb58 := hb7.trans (hb8.mono hb7.size)
  have oy8 := own_same oy5 (fun b hb => hb58.block b (own_lt5 oy5 hb))
  go_wp2_with fail
  refine (same_any _ _ _ _ _ _ _ _ _ (by omega) (Lies.own oy8) (Lies.own ou8)).mono ?_
  rintro e w9 ⟨rfl, q9, hq9⟩
  subst w9
  rw [decide_eq_true rfl]
  have hbV : Below w5.heap.size w5 (w8.drewN q9) := below_drewM hb58 q9
  have hwV := hw5.trans (hbV.mono hw5.size)
  have oxV := own_same ox5 (fun b hb => hbV.block b (own_lt5 ox5 hb))
  have oyV := own_same oy5 (fun b hb => hbV.block b (own_lt5 oy5 hb))
  have hrV := hr5.kept (below_grown hbV none) (by simp) (by simp)
  have hsV := hR5.kept (below_grown hbV none) (by simp) (by simp)
  have hszV := hbV.size
  have lr1 := hr5.lt
  have lg1 := hr5.glt
  have lr2 := hR5.lt
  have lg2 := hR5.glt
  clear ou8 oy8 hb58 hb8 hB7 hb7 hbV hw5 ox5 oy5 hr5 hR5 hA5 hB5
  generalize w8.drewN q9 = V at hwV oxV oyV hrV hsV hszV
  go_wp2_with fail
  go_loopw [12] (fun i wr => ∃ (k : Nat) (ys : List Int), k ≤ la + 3 ∧ i = .int .i64 k ∧ ys.length = la + 3 ∧ wr.ownsRow w1.heap.size 5 1 (.slice (some ⟨gx, 0, none⟩) (la + 3) cx) (la + 3) (ys.map (Value.int .u8)) ∧ V.grownBy wr (some gx)) (fun i _ => la + 3 - (intOf i).toNat)
  case atStart => exact ⟨0, A ++ three, Nat.zero_le _, rfl, by simpa using oxV.1, oxV, World.grownBy.refl _ _⟩
  case round =>
    clear oxV
    obtain ⟨k, ys, hk, rfl, hyl, ho, hg⟩ := hrel
    by_cases hlt : k < la + 3
    · have hcell : ∃ z, wr.cell? ⟨gx, k, none⟩ = some z := by
        rw [ho.cellAt k (by omega)]
        exact ⟨_, List.getElem?_eq_getElem (by rw [ho.1]; omega)⟩
      obtain ⟨z, hcell⟩ := hcell
      have hfz := ho.frozenAt k
      have hlti : (k : Int) < (la : Int) + 3 := by omega
      have hst := ho.stored k (.int .u8 85)
      rw [← List.map_set] at hst
      have HST : Hid _ := hst
      clear hst
      go_wp2
      go_roundw
      case rel => exact ⟨k + 1, ys.set k 85, by omega, by go_num, by rw [List.length_set]; exact hyl, HST.out.1, grown_trans hg HST.out.2⟩
      case measure => simp [intOf]; omega
    · have hlti : ¬ (k : Int) < (la : Int) + 3 := by omega
      have hgyx : gy ≠ gx := by omega
      have oyR := own_same oyV (fun b hb => hg.block b (own_lt5 oyV hb) (by cases hb; simpa using hgyx))
      have hrR := hrV.kept hg (by simp; omega) (by simp; omega)
      have hsR := hsV.kept hg (by simp; omega) (by simp; omega)
      have hwR : Below w.heap.size w wr := hwV.grown hg hwV.size (fun k hk => by cases hk; omega)
      have hszR := hg.size
      clear ho hg oyV hrV hsV hwV
      go_wp2_with fail
      go_loopw [13] (fun i wr2 => ∃ (k : Nat) (ys : List Int), k ≤ lb + 3 ∧ i = .int .i64 k ∧ ys.length = lb + 3 ∧ wr2.ownsRow w2.heap.size 5 1 (.slice (some ⟨gy, 0, none⟩) (lb + 3) cy) (lb + 3) (ys.map (Value.int .u8)) ∧ wr.grownBy wr2 (some gy)) (fun i _ => lb + 3 - (intOf i).toNat)
      case atStart => exact ⟨0, Bl ++ three, Nat.zero_le _, rfl, by simpa using oyR.1, oyR, World.grownBy.refl _ _⟩
      case round =>
        clear oyR
        obtain ⟨k2, ys2, hk2, rfl, hyl2, ho, hg⟩ := hrel
        by_cases hlt2 : k2 < lb + 3
        · have hcell : ∃ z, wr.cell? ⟨gy, k2, none⟩ = some z := by
            rw [ho.cellAt k2 (by omega)]
            exact ⟨_, List.getElem?_eq_getElem (by rw [ho.1]; omega)⟩
          obtain ⟨z, hcell⟩ := hcell
          have hfz := ho.frozenAt k2
          have hlti2 : (k2 : Int) < (lb : Int) + 3 := by omega
          have hst := ho.stored k2 (.int .u8 102)
          rw [← List.map_set] at hst
          have HST : Hid _ := hst
          clear hst
          go_wp2
          go_roundw
          case rel => exact ⟨k2 + 1, ys2.set k2 102, by omega, by go_num, by rw [List.length_set]; exact hyl2, HST.out.1, grown_trans hg HST.out.2⟩
          case measure => simp [intOf]; omega
        · have hlti2 : ¬ (k2 : Int) < (lb : Int) + 3 := by omega
          have hr2 := hrR.kept hg (by simp; omega) (by simp; omega)
          have hs2' := hsR.kept hg (by simp; omega) (by simp; omega)
          have hw2 : Below w.heap.size w wr := hwR.grown hg hwR.size (fun k hk => by cases hk; omega)
          have hsz2 := hg.size
          clear ho hg hrR hsR hwR
          have hAw := hA.below hw2 (Nat.le_refl _)
          go_wp2_with fail
          refine (dNew2 _ _ _ _ _ (by omega) hAw).mono ?_
          rintro e w20 ⟨db1, da1, dc1, rfl, hD20, hdb1, hda1, hb20⟩
          have hw20 := hw2.trans (hb20.mono hw2.size)
          have hBw := hBl.below hw20 (Nat.le_refl _)
          go_wp2_with fail
          refine (dNew2 _ _ _ _ _ (by omega) hBw).mono ?_
          rintro e w21 ⟨db2, da2, dc2, rfl, hD21, hdb2, hda2, hb21⟩
          have hw21 := hw20.trans (hb21.mono hw20.size)
          have hs20 := hb20.size
          have hs21 := hb21.size
          have ld1 := lt_of_block hD20.blk
          have ld2 := lt_of_block hD21.blk
          have r1 := ((hr2.kept (below_grown hb20 none) (by simp) (by simp)).kept (below_grown hb21 none) (by simp) (by simp)).alloc (.cells #[.slice none 0 0, .slice none 0 0] 35)
          have r2 := ((hs2'.kept (below_grown hb20 none) (by simp) (by simp)).kept (below_grown hb21 none) (by simp) (by simp)).alloc (.cells #[.slice none 0 0, .slice none 0 0] 35)
          have e1 := (hD20.below hb21).alloc (.cells #[.slice none 0 0, .slice none 0 0] 35)
          have e2 := hD21.alloc (.cells #[.slice none 0 0, .slice none 0 0] 35)
          have hsz22 : (w21.alloc (.cells #[.slice none 0 0, .slice none 0 0] 35)).heap.size = w21.heap.size + 1 := by simp
          have S1 : St (w21.alloc (.cells #[.slice none 0 0, .slice none 0 0] 35)) rb1 g1 la la db1 da1 dc1 w21.heap.size w21.heap.size (fun k => k = w21.heap.size) [] 0 0 0 A :=
            ⟨r1, e1, Bk.new w21, rfl, (fun e he => by cases he), fun b hb => ⟨by omega, by omega⟩, by omega, by omega, by omega, fun ad had => (by have := hda1 ad had; omega), by omega, by omega, fun ad had => (by have := hda1 ad had; omega), Nat.zero_le _, fun ad had => (by have := hda1 ad had; omega)⟩
          have S2 : St (w21.alloc (.cells #[.slice none 0 0, .slice none 0 0] 35)) rb2 g2 lb lb db2 da2 dc2 w21.heap.size w21.heap.size (fun k => k = w21.heap.size) [] 0 0 0 Bl :=
            ⟨r2, e2, Bk.new w21, rfl, (fun e he => by cases he), fun b hb => ⟨by omega, by omega⟩, by omega, by omega, by omega, fun ad had => (by have := hda2 ad had; omega), by omega, by omega, fun ad had => (by have := hda2 ad had; omega), Nat.zero_le _, fun ad had => (by have := hda2 ad had; omega)⟩
          have hw22 : Below w.heap.size w (w21.alloc (.cells #[.slice none 0 0, .slice none 0 0] 35)) := hw21.alloc hw21.size _
          have hws := hw21.size
          have HS1 : Hid _ := S1
          have HS2 : Hid _ := S2
          clear S1 S2 r1 r2 e1 e2 hD20 hD21 hb20 hb21 hr2 hs2' hAw hBw hw20 hw21 hw2
          go_wp2_with fail
          go_loopw [7, 17] (fun okv i wr => ∃ (k : Nat) (B : Nat → Prop) (es : List Ent) (i' p1 p2 : Nat) (c1 c2 : Int), k ≤ lo ∧ okv = .bool true ∧ i = .int .i64 k ∧ i' ≤ k ∧ St wr rb1 g1 la la db1 da1 dc1 w21.heap.size w21.heap.size B es i' p1 c1 A ∧ St wr rb2 g2 lb lb db2 da2 dc2 w21.heap.size w21.heap.size B es i' p2 c2 Bl ∧ Below w.heap.size w wr ∧ w21.heap.size ≤ wr.heap.size) (fun _ i _ => lo - (intOf i).toNat)
          case atStart => exact ⟨0, _, [], 0, 0, 0, 0, 0, Nat.zero_le _, rfl, rfl, Nat.le_refl _, HS1.out, HS2.out, hw22, by omega⟩
          case round =>
            clear HS1 HS2 hw22 hsz22
            obtain ⟨k3, B, es, i3, p1, p2, c1, c2, hk3, rfl, rfl, hi3, hT1, hT2, hbl, hszl⟩ := hrel
            by_cases hlt3 : k3 < lo
            · have hlt3i : (k3 : Int) < lo := by omega
              obtain ⟨ob, of, hoo, q0, q1, q2⟩ := HOP.out k3 (by omega)
              have hxM := HM.out _ (List.getElem_mem (h := (by omega : k3 < xs.length)))
              subst hoo
              have hobw := World.block_lt_of_cell? w _ q0
              have o0 := (hbl.cell (p := ⟨ob, of + k3 * 3, none⟩) hobw).trans q0
              have o1 := (hbl.cell (p := ⟨ob, of + k3 * 3 + 1, none⟩) hobw).trans q1
              have o2 := (hbl.cell (p := ⟨ob, of + k3 * 3 + 2, none⟩) hobw).trans q2
              clear q0 q1 q2
              generalize xs[k3]'(by omega) = x at o0 o1 o2 hxM
              have hEw := hE.below hbl (Nat.le_refl _)
              obtain ⟨xK, xs1, xM⟩ := x
              simp only at o0 o1 o2 hxM
              cases xs1 with
              | true =>
                have hstep := step_any xK xM true rb2 g2 lb lb db2 da2 dc2 w21.heap.size w21.heap.size B es i3 p2 c2 Bl er wr hT2 hEw (by omega) (by omega) HBb.out (by omega) (by omega) hxM
                go_wp2_with fail
                refine hstep.mono ?_
                rintro e w30 ⟨rfl, B', es', i4, q, d, hN, hi4, hBB, hF⟩
                have hO := hT1.other hN hF hBB ⟨by omega, by omega⟩ ⟨by omega, by omega⟩ ⟨by omega, by omega⟩ (fun ad had => by have := hda1 ad had; exact ⟨by omega, by omega⟩)
                have hb30 : Below w.heap.size w w30 := hbl.trans (fr_below hF (fun k hk => by
                  rcases hk with hk | hk | hk
                  · have := hT2.hB k hk; omega
                  · omega
                  · omega) hbl.size)
                have hs30 := hF.size
                have HN : Hid _ := hN
                have HOO : Hid _ := hO
                clear hN hO hF hT2 hT1 hstep
                have hwh := whole_any w21.heap.size w21.heap.size B' es' w30 HN.out.book (by have := HN.out.hes; omega) (fun e he => by have := HN.out.hen e he; omega)
                go_wp2_with fail
                refine hwh.mono ?_
                rintro e w31 ⟨rfl, hb31⟩
                have HT := HN.out.kept hb31
                have HO := HOO.out.kept hb31
                have hb32 := hb30.trans (hb31.mono hb30.size)
                have hs31 := hb31.size
                have HT2 : Hid _ := HT
                have HO2 : Hid _ := HO
                clear HT HO HN HOO hb31 hwh
                go_wp2
                go_roundw
                case rel => exact ⟨k3 + 1, B', es', i4, p1, q, c1, d, by omega, rfl, by go_num, by omega, HO2.out, HT2.out, hb32, by omega⟩
                case measure => simp [intOf]; omega

              | false =>
                have hstep := step_any xK xM false rb1 g1 la la db1 da1 dc1 w21.heap.size w21.heap.size B es i3 p1 c1 A er wr hT1 hEw (by omega) (by omega) HAb.out (by omega) (by omega) hxM
                go_wp2_with fail
                refine hstep.mono ?_
                rintro e w30 ⟨rfl, B', es', i4, q, d, hN, hi4, hBB, hF⟩
                have hO := hT2.other hN hF hBB ⟨by omega, by omega⟩ ⟨by omega, by omega⟩ ⟨by omega, by omega⟩ (fun ad had => by have := hda2 ad had; exact ⟨by omega, by omega⟩)
                have hb30 : Below w.heap.size w w30 := hbl.trans (fr_below hF (fun k hk => by
                  rcases hk with hk | hk | hk
                  · have := hT1.hB k hk; omega
                  · omega
                  · omega) hbl.size)
                have hs30 := hF.size
                have HN : Hid _ := hN
                have HOO : Hid _ := hO
                clear hN hO hF hT1 hT2 hstep
                have hwh := whole_any w21.heap.size w21.heap.size B' es' w30 HN.out.book (by have := HN.out.hes; omega) (fun e he => by have := HN.out.hen e he; omega)
                go_wp2_with fail
                refine hwh.mono ?_
                rintro e w31 ⟨rfl, hb31⟩
                have HT := HN.out.kept hb31
                have HO := HOO.out.kept hb31
                have hb32 := hb30.trans (hb31.mono hb30.size)
                have hs31 := hb31.size
                have HT2 : Hid _ := HT
                have HO2 : Hid _ := HO
                clear HT HO HN HOO hb31 hwh
                go_wp2
                go_roundw
                case rel => exact ⟨k3 + 1, B', es', i4, q, p2, d, c2, by omega, rfl, by go_num, by omega, HT2.out, HO2.out, hb32, by omega⟩
                case measure => simp [intOf]; omega

            · have hlt3i : ¬ (k3 : Int) < lo := by omega
              clear hT1 hT2
              go_wp2
              go_ret
              exact ⟨rfl, hbl⟩
end Go.Proofs.YtjpaooejkbkliabDoor
