/- BitsOwn: Book.readers by its contract. -/
import Derived.Test.YtjpaooejkbkliaaDoorOwnNew
import Derived.Test.YtjpaooejkbkliaaDoorOwnStep
import Derived.Test.YtjpaooejkbkliaaDoorOwnLoop
import Derived.Deep.RegionWith
import Derived.Deep.Cut
import Derived.Deep.CutRange
namespace Go.Proofs.YtjpaooejkbkliaaDoor
open Go.RowKit
set_option maxRecDepth 100000

theorem Tryd.info29 : (Tryd.prog.info? 29).map (fun i => (i.zero, i.size, i.bytes)) = some (some (.pointer none), 1, 8) := by kernel_rfl

theorem Lies.front {w : World} {ao : Option Addr} {n m cap : Nat} {xs ys : List Int} (h : Lies w ao (n + m) cap (xs ++ ys)) (hx : xs.length = n) (hm : 0 < m) : Lies w ao n cap xs := by
  refine ⟨hx, Nat.le_trans (Nat.le_add_right _ _) h.hle, fun he => ?_, fun ad had t u hu => h.hcells ad had t u ?_⟩
  · have := (h.hnone he).1
    omega
  · have ht : t < (xs.map (Value.int .u8)).length := (List.getElem?_eq_some_iff.1 hu).1
    rw [List.map_append, List.getElem?_append_left ht]
    exact hu
theorem own_cell5 {w : World} {base g n c : Nat} {L : List Int} (h : w.ownsRow base 5 1 (.slice (some ⟨g, 0, none⟩) n c) n (L.map (Value.int .u8))) (j : Nat) (hj : j < n) : w.cell? ⟨g, j, none⟩ = some (.int .u8 (L.getD j 0)) := by
  have hL : L.length = n := by simpa using h.1
  rw [h.cellAt j (by omega)]
  have : j < L.length := by omega
  simp [List.getD, this]

theorem below_undrew {B : Nat} {w w' : World} (h : Below B w.drew w') : Below B w w' := ⟨h.os, h.tape, h.output, h.size, h.block⟩

set_option maxHeartbeats 4000000 in
theorem readers_pos (ib io len cap : Nat) (xs : List Itm) (er : Nat → Addr) (w : World) (hE : Errs w er) (hl : xs.length = len) (h0 : 0 < len) (hlen : len ≤ 1048576)
    (hc : ∀ i (h : i < len) j v, (xs[i]'(by omega)).cells[j]? = some v → w.cell? ⟨ib, io + i * 4 + j, none⟩ = some v) (hcame : ∀ x ∈ xs, Came w x) (hdl : ∀ x ∈ xs, x.dl ≤ 1048576) :
    Rds w w.heap.size (.slice (some ⟨ib, io, none⟩) len cap) := by
  intro W bk i0 B es hWb hBk hBb hes hi0 hen
  obtain ⟨t0, ht, tz0, tz1, tz2⟩ := info_parts Tryd.info24
  obtain ⟨p0, hp, pz0, pz1, pz2⟩ := info_parts Tryd.info29
  have hleni : (len : Int) ≤ 1048576 := by omega
  have hWs := hWb.size
  go_enter Tryd.func34, Tryd.ntmps34
  go_wp2_with fail
  go_loopw [5, 6, 7, 8] (fun vr vg vw i wr => ∃ (k : Nat) (R : List RR) (Vg Vw : List Value), k ≤ len ∧ i = .int .i64 k ∧ R.length = 2 * k ∧ In1 W.heap.size (2 * k) k k xs wr vr vg vw R Vg Vw ∧ Below W.heap.size W wr) (fun _ _ _ i _ => len - (intOf i).toNat)
  case atStart =>
    exact ⟨0, [], [], [], Nat.zero_le _, rfl, rfl, ⟨World.ownsRow_nil _ _ _ _, World.ownsRow_nil _ _ _ _, World.ownsRow_nil _ _ _ _, (fun b hb => by cases hb), (fun i j r s hr => by simp at hr), (fun r hr => by cases hr), (fun j r hr => by simp at hr), (fun r hr => by cases hr), (fun j x y hx => by simp at hx)⟩, Below.refl _ _⟩
  case round =>
    obtain ⟨k, R, Vg, Vw, hk, rfl, hRl, hI, hbr⟩ := hrel
    by_cases hlk : k < len
    · have hlki : (k : Int) < len := by omega
      obtain ⟨x, hx⟩ : ∃ x, x = xs[k]'(by omega) := ⟨_, rfl⟩
      have hxg : xs[k]? = some x := by rw [hx]; exact List.getElem?_eq_getElem _
      have hxin : x ∈ xs := by rw [hx]; exact List.getElem_mem _
      have hwr : Below w.heap.size w wr := hWb.trans (hbr.mono hWs)
      have hcx := (hcame x hxin).below hwr (Nat.le_refl _)
      have hxd := hdl x hxin
      have i3 := cell_later hwr (hc k hlk 3 (.slice x.bo x.dl x.dc) (by rw [← hx]; rfl))
      have hpad : padN x.dl ≤ 3 := by unfold padN; omega
      clear hx hc hcame hdl
      go_wp2_with fail
      go_cut [9] from 22 to 79 (fun v wx => ∃ gb cb, v = .slice (some ⟨gb, 0, none⟩) (4 + (4 + x.dl + padN x.dl)) cb ∧ wx.ownsRow wr.heap.size 5 1 v (4 + (4 + x.dl + padN x.dl)) ((be (k : Int) 4 ++ tailOf x.dl x.ds).map (Value.int .u8)) ∧ Below wr.heap.size wr wx)
      case first =>
        go_region_with (first
          | (go_at_call 10; refine (put32_any none 0 0 k [] _ (by omega) (Lies.nil _)).mono ?_; rintro e u1 ⟨g1, c1, rfl, ho1, hb1⟩; have i3' := cell_later (below_undrew hb1) i3; have hD1 := hcx.lies.below (below_undrew hb1) (Nat.le_refl _))
          | (go_at_call 49; refine (putBytes_any (some ⟨g1, 0, none⟩) (0 + 4) c1 _ x.bo x.dl x.dc x.ds _ (by omega) (Lies.own ho1) hD1).mono ?_; rintro e u2 ⟨g2, c2, rfl, ho2, hb2⟩))
        all_goals
          go_wp2_with fail
          go_meet
          case rel =>
            have e1 : IntKind.u64.wrap (k : Int) = k := wrap_nat k (by omega)
            have e2 : 0 + 4 + 4 + x.dl + padN x.dl = 4 + (4 + x.dl + padN x.dl) := by omega
            rw [e2] at ho2
            have e3 : [] ++ be (IntKind.u64.wrap (k : Int)) 4 ++ be (x.dl : Int) 4 ++ x.ds ++ List.replicate (padN x.dl) 0 = be (k : Int) 4 ++ tailOf x.dl x.ds := by
              rw [e1]; simp [tailOf]
            rw [e3] at ho2
            first
              | rw [show 4 + 4 + x.dl + padN x.dl = 4 + (4 + x.dl + padN x.dl) by omega]
              | rw [show 8 + x.dl + padN x.dl = 4 + (4 + x.dl + padN x.dl) by omega]
              | rw [e2]
            exact ⟨g2, c2, rfl, ownsRow_mono ho2 hb1.size, below_undrew (hb1.trans (hb2.mono hb1.size))⟩
      case rest =>
        obtain ⟨gb, cb, rfl, hob, hbc⟩ := hcut
        have hTl := tail_len hcx.lies.hlen
        have hTs := tail_small (dl := x.dl) hcx.small
        have hLl : (be (k : Int) 4 ++ tailOf x.dl x.ds).length = 4 + (4 + x.dl + padN x.dl) := by rw [List.length_append, be_length, hTl]
        have hLl2 : (be ((k ^^^ 1 : Nat) : Int) 4 ++ tailOf x.dl x.ds).length = 4 + (4 + x.dl + padN x.dl) := by rw [List.length_append, be_length, hTl]
        have hNb : 4 + (4 + x.dl + padN x.dl) ≤ 1048600 := by omega
        have hN8 : 8 ≤ 4 + (4 + x.dl + padN x.dl) := by omega
        clear hTl i3 hcx hTs
        generalize 4 + (4 + x.dl + padN x.dl) = N at *
        generalize hTT : tailOf x.dl x.ds = T at *
        go_wp2_with fail
        refine (room30 _ N cb (be (k : Int) 4 ++ T) _ (by omega) (Lies.own hob)).mono ?_
        rintro e u1 ⟨gg, cg, rfl, hog, hb1⟩
        have hgl := hog.lt gg rfl
        have hlg := Lies.own hog
        have hNc : N ≤ cg := Nat.le_trans (Nat.le_add_right _ _) hlg.hle
        have hNci : (N : Int) ≤ cg := by omega
        go_wp2_with fail
        refine (newReader_typed _ N cg (be (k : Int) 4 ++ T) _ (by omega) (hlg.front hLl (by omega))).mono ?_
        rintro e u2 ⟨r, rfl, hr, hrbs, hrn, hr1, hr2, hb2⟩
        have hog2 := own_later hog hb2
        rw [List.append_assoc] at hog2
        have hc3 := own_cell5 hog2 3 (by omega)
        rw [flip_get] at hc3
        have hf3 := hog2.frozenAt 3
        have hst := hog2.stored 3 (.int .u8 (bits .xor .u8 ((k : Int) % 256) 1))
        rw [← List.map_set, show (be (k : Int) 4 ++ (T ++ three)).set 3 (bits .xor .u8 ((k : Int) % 256) 1) = be ((k ^^^ 1 : Nat) : Int) 4 ++ (T ++ three) by rw [flip_byte, flip_set]] at hst
        have HST : Hid _ := hst
        have hbu2 := hb1.trans (hb2.mono hb1.size)
        clear hst hlg hog
        go_wp2_with fail
        have hog3 := HST.out.1
        have hF3 := Fk.of_grown HST.out.2
        have hgu2 := (hog2.lt gg rfl).2
        have hr3 := hr.fk hF3 (by omega) (by omega)
        have hbu3 := Fk.below hbu2 hbu2.size hF3 (fun b hb => by subst hb; exact hgl.1)
        clear HST hF3 hog2 hr hc3 hf3 hbu2
        generalize u2.setCell ⟨gg, 3, none⟩ (.int .u8 (bits .xor .u8 ((k : Int) % 256) 1)) = u3 at *
        rw [← List.append_assoc] at hog3
        refine (newReader_typed _ N cg (be ((k ^^^ 1 : Nat) : Int) 4 ++ T) _ (by omega) ((Lies.own hog3).front hLl2 (by omega))).mono ?_
        rintro e u4 ⟨s, rfl, hs, hsbs, hsn, hs1, hs2, hb4⟩
        have hog4 := own_later hog3 hb4
        rw [List.append_assoc] at hog4
        have hr4 := hr3.fk (Fk.of_below hb4) (fun h => h.elim) (fun h => h.elim)
        have hc3 := own_cell5 hog4 3 (by omega)
        rw [flip_get] at hc3
        have hf3 := hog4.frozenAt 3
        have hst := hog4.stored 3 (.int .u8 (bits .xor .u8 (((k ^^^ 1 : Nat) : Int) % 256) 1))
        rw [← List.map_set, show (be ((k ^^^ 1 : Nat) : Int) 4 ++ (T ++ three)).set 3 (bits .xor .u8 (((k ^^^ 1 : Nat) : Int) % 256) 1) = be (k : Int) 4 ++ (T ++ three) by rw [flip_byte, flip_set, xor_one_twice]] at hst
        have HST : Hid _ := hst
        have hbu4 := hbu3.trans (hb4.mono hbu3.size)
        have hr3lt := hr3.1.lt
        clear hst hog3 hr3 hbu3
        generalize hkx : ((k ^^^ 1 : Nat) : Int) = kx at *
        have hgu4 := (hog4.lt gg rfl).2
        have hF5 := Fk.of_grown HST.out.2
        have hog5 := HST.out.1
        have hr5 := hr4.fk hF5 (by omega) (by omega)
        have hs5 := hs.fk hF5 (by omega) (by omega)
        have hbv5 := Fk.below hbu4 hbu4.size hF5 (fun b hb => by subst hb; exact hgl.1)
        have hbu5 := hbc.trans (hbv5.mono hbc.size)
        have hI5 := hI.later hbu5
        have hnewR : ∀ q ∈ R, q.rb < r.rb := fun q hq => by
          have h1 := (hI.rd q hq).1.lt
          have h2 := hbc.size
          have h3 := hb1.size
          omega
        have hrs : r.rb < s.rb := by
          have h1 := hr3lt
          omega
        have hal5 := (Below.refl (u4.setCell ⟨gg, 3, none⟩ (.int .u8 (bits .xor .u8 (kx % 256) 1))).heap.size (u4.setCell ⟨gg, 3, none⟩ (.int .u8 (bits .xor .u8 (kx % 256) 1)))).alloc (Nat.le_refl _) (.cells #[.pointer (some ⟨r.rb, 0, none⟩), .pointer (some ⟨s.rb, 0, none⟩)] 29)
        have hI5a := hI5.later hal5
        have hW5 : W.heap.size ≤ (u4.setCell ⟨gg, 3, none⟩ (.int .u8 (bits .xor .u8 (kx % 256) 1))).heap.size := Nat.le_trans hbr.size hbu5.size
        have hnew5 : ∀ (j : Nat) (u : Value), [r.val, s.val][j]? = some u → ((u4.setCell ⟨gg, 3, none⟩ (.int .u8 (bits .xor .u8 (kx % 256) 1))).alloc (.cells #[.pointer (some ⟨r.rb, 0, none⟩), .pointer (some ⟨s.rb, 0, none⟩)] 29)).cell? ((⟨(u4.setCell ⟨gg, 3, none⟩ (.int .u8 (bits .xor .u8 (kx % 256) 1))).heap.size, 0, none⟩ : Addr).add j) = some u := cells_new _ _ _ _ rfl
        have hsz5 : (u4.setCell ⟨gg, 3, none⟩ (.int .u8 (bits .xor .u8 (kx % 256) 1))).heap.size = u4.heap.size := by simp
        rw [hsz5] at hnew5
        have hone5 : ∀ u ∈ [r.val, s.val], u.oneCell' = true := by intro u hu; simp at hu; rcases hu with rfl | rfl <;> rfl
        have hW5a : W.heap.size ≤ ((u4.setCell ⟨gg, 3, none⟩ (.int .u8 (bits .xor .u8 (kx % 256) 1))).alloc (.cells #[.pointer (some ⟨r.rb, 0, none⟩), .pointer (some ⟨s.rb, 0, none⟩)] 29)).heap.size := Nat.le_trans hW5 hal5.size
        have h63 : 2 * k + 2 ≤ maxLen := by unfold maxLen; omega
        have hby5 : (2 * k + 2) * 8 ≤ 140737488355328 := by omega
        have hr5a := hr5.fk (Fk.of_below hal5) (fun h => h.elim) (fun h => h.elim)
        have hs5a := hs5.fk (Fk.of_below hal5) (fun h => h.elim) (fun h => h.elim)
        have q1 := hbr.size
        have q2 := hbc.size
        have q3 := hb1.size
        have q4 := hb2.size
        have hI6of := fun (vr' : Value) (u6 : World) hor6 hlr6 => hI5a.readers (vr' := vr') (w' := u6) hRl hxg hor6 hlr6 hr5a hs5a ⟨by omega, by omega⟩ ⟨by omega, by omega⟩ hnewR hrs (by rw [hrbs, hTT]) (by rw [hsbs, hTT, hkx]) (by rw [hrbs, hLl, hrn]) (by rw [hsbs, hLl2, hsn])
        have hbw5 := (hbr.trans (hbu5.mono q1)).trans (hal5.mono hW5)
        have hog5a := own_later hog5 hal5
        have hob5 : (((u4.setCell ⟨gg, 3, none⟩ (.int .u8 (bits .xor .u8 (kx % 256) 1))).alloc (.cells #[.pointer (some ⟨r.rb, 0, none⟩), .pointer (some ⟨s.rb, 0, none⟩)] 29))).ownsRow wr.heap.size 5 1 (.slice (some ⟨gb, 0, none⟩) N cb) N ((be (k : Int) 4 ++ T).map (Value.int .u8)) := by
          exact own_later (own_later hob hbv5) hal5
        have HSTEP : Hid (∀ (vr' : Value) (u6 : World), _) := hI6of
        clear hI6of
        go_wp2_with (first
          | (at_builtin; refine wpList_append_own_split _ rfl (.tmp 66) (.tmp 69) 72 rfl W.heap.size 29 p0 (.pointer none) 1 8 Tryd.underlying72 hp pz0 pz1 pz2 rfl (by decide) _ (2 * k) (R.map RR.val) rfl hI5a.row ⟨u4.heap.size, 0, none⟩ 2 2 [r.val, s.val] (by decide) rfl rfl hnew5 hone5 h63 hby5 hW5a ?_; intro vr' u6 hor6 hlr6
             have hI6 := HSTEP.out vr' u6 hor6 hlr6
             have hal6 := (Below.refl u6.heap.size u6).alloc (Nat.le_refl _) (.cells #[.slice (some ⟨gg, 0, none⟩) (N + 3) cg] 24)
             have hI6a := hI6.later hal6
             have hW6a : W.heap.size ≤ (u6.alloc (.cells #[.slice (some ⟨gg, 0, none⟩) (N + 3) cg] 24)).heap.size := Nat.le_trans (Nat.le_trans hW5a (Fk.of_laid hlr6).size) hal6.size
             have hone6 : ∀ u ∈ [Value.slice (some ⟨gg, 0, none⟩) (N + 3) cg], u.oneCell' = true := (by intro u hu; simp at hu; subst hu; rfl)
             have h64 : k + 1 ≤ maxLen := (by unfold maxLen; omega)
             have hby6 : (k + 1) * 24 ≤ 140737488355328 := (by omega))
          | (at_builtin; refine wpList_append_own_split _ rfl (.tmp 71) (.tmp 73) 57 rfl W.heap.size 24 t0 (.slice none 0 0) 1 24 Tryd.underlying57 ht tz0 tz1 tz2 rfl (by decide) _ k Vg rfl hI6a.rowg ⟨u6.heap.size, 0, none⟩ 1 1 [.slice (some ⟨gg, 0, none⟩) (N + 3) cg] (by decide) rfl rfl (cell_one_new _ _ _) hone6 h64 hby6 hW6a ?_; intro vg' u7 hog7 hlg7))
        have hI7 := hI6a.given hog7 hlg7
        have hbw6 := Fk.below hbw5 hW5a (Fk.of_laid hlr6) (fun b hb => (hI5a.row.lt b hb).1)
        have hbw6a := hbw6.trans (hal6.mono hbw6.size)
        have hbw7 := Fk.below hbw6a hW6a (Fk.of_laid hlg7) (fun b hb => (hI6a.rowg.lt b hb).1)
        have past : ∀ {n : Nat} {v : Value} {ys : List Value} {Bq : Nat}, ((u4.setCell ⟨gg, 3, none⟩ (.int .u8 (bits .xor .u8 (kx % 256) 1))).alloc (.cells #[.pointer (some ⟨r.rb, 0, none⟩), .pointer (some ⟨s.rb, 0, none⟩)] 29)).ownsRow Bq 5 1 v n ys → u7.ownsRow Bq 5 1 v n ys := fun ho => by
          have h1 := own_fk ho (Fk.of_laid hlr6) (fun b hb hk => (own_kind ho hb).ne (own_kind hI5a.row hk) (by decide) rfl)
          have h2 := own_later h1 hal6
          exact own_fk h2 (Fk.of_laid hlg7) (fun b hb hk => (own_kind h2 hb).ne (own_kind hI6a.rowg hk) (by decide) rfl)
        have hob7 := past hob5
        have hgg7 := past hog5a
        clear past hI6 hI6a hog7 hlg7 hor6 hlr6 hal6 hI5a hal5 hbw5 hbw6 hbw6a hob5 hog5a HSTEP hr5a hs5a hI5 hr5 hs5 hog5 hF5 HST hbu5 hbv5 hbu4 hnew5 hone5 hone6
        refine (room30 _ N cb (be (k : Int) 4 ++ T) _ (by omega) (Lies.own hob7)).mono ?_
        rintro e u8 ⟨gy, cy, rfl, hoy, hb8⟩
        have hal8 := (Below.refl u8.heap.size u8).alloc (Nat.le_refl _) (.cells #[.slice (some ⟨gy, 0, none⟩) (N + 3) cy] 24)
        have hI8a := (hI7.later hb8).later hal8
        have hbw8 := hbw7.trans (hb8.mono hbw7.size)
        have hbw8a := hbw8.trans (hal8.mono hbw8.size)
        rw [← List.append_assoc] at hgg7
        have hPr : Pr W.heap.size (u8.alloc (.cells #[.slice (some ⟨gy, 0, none⟩) (N + 3) cy] 24)) (.slice (some ⟨gg, 0, none⟩) (N + 3) cg) (.slice (some ⟨gy, 0, none⟩) (N + 3) cy) :=
          ⟨N + 3, be (k : Int) 4 ++ T ++ three, by omega, ownsRow_mono (own_later (own_later hgg7 hb8) hal8) (by omega), ownsRow_mono (own_later hoy hal8) hbw7.size⟩
        have hlgk : Vg.length = k := by
          have := hI7.rowg.1
          simpa using this
        clear hI7 hb8 hoy hgg7 hob7 hbw8
        have hone8 : ∀ u ∈ [Value.slice (some ⟨gy, 0, none⟩) (N + 3) cy], u.oneCell' = true := by intro u hu; simp at hu; subst hu; rfl
        have hW8a := hbw8a.size
        go_wp2_with (at_builtin; refine wpList_append_own_split _ rfl (.tmp 75) (.tmp 78) 57 rfl W.heap.size 24 t0 (.slice none 0 0) 1 24 Tryd.underlying57 ht tz0 tz1 tz2 rfl (by decide) _ k Vw rfl hI8a.roww ⟨u8.heap.size, 0, none⟩ 1 1 [.slice (some ⟨gy, 0, none⟩) (N + 3) cy] (by decide) rfl rfl (cell_one_new _ _ _) hone8 h64 hby6 hW8a ?_; intro vw' u9 how9 hlw9)
        have hI9 := hI8a.was how9 hlw9 (fun q hq => by
          rw [List.getElem?_append_right (by omega)] at hq
          simp [hlgk] at hq
          subst hq
          exact hPr)
        have hbw9 := Fk.below hbw8a hW8a (Fk.of_laid hlw9) (fun b hb => (hI8a.roww.lt b hb).1)
        go_roundw
        case rel =>
          refine ⟨k + 1, R ++ [r, s], Vg ++ [.slice (some ⟨gg, 0, none⟩) (N + 3) cg], Vw ++ [.slice (some ⟨gy, 0, none⟩) (N + 3) cy], by omega, by go_num, ?_, ?_, hbw9⟩
          · simp [hRl]; omega
          · rw [show 2 * (k + 1) = 2 * k + 2 by omega]; exact hI9
        case measure => simp [intOf]; omega
    · have hlki : (len : Int) ≤ k := by omega
      obtain rfl : k = len := by omega
      obtain ⟨gr, cr, rfl⟩ : ∃ g cc, u5 = .slice (some ⟨g, 0, none⟩) (2 * k) cc := by
        rcases hI.row.2 with ⟨hv, hn0⟩ | ⟨g, cap, cur, hv, r⟩
        · omega
        · exact ⟨g, cap, hv⟩
      obtain ⟨gv, cv, rfl⟩ : ∃ g cc, u6 = .slice (some ⟨g, 0, none⟩) k cc := by
        rcases hI.rowg.2 with ⟨hv, hn0⟩ | ⟨g, cap, cur, hv, r⟩
        · omega
        · exact ⟨g, cap, hv⟩
      obtain ⟨gw, cw, rfl⟩ : ∃ g cc, u7 = .slice (some ⟨g, 0, none⟩) k cc := by
        rcases hI.roww.2 with ⟨hv, hn0⟩ | ⟨g, cap, cur, hv, r⟩
        · omega
        · exact ⟨g, cap, hv⟩
      obtain ⟨W1, hW1⟩ : ∃ W1, W1 = wr := ⟨_, rfl⟩
      subst hW1
      have hw1 : Below w.heap.size w W1 := hWb.trans (hbr.mono hWs)
      have hRlo : ∀ b, RB R b → W.heap.size ≤ b := fun b hb => by
        obtain ⟨r, hr, rfl⟩ := hb
        exact (hI.lo r hr).1
      have hRk : ∀ b, RB R b → Kind W1 b 65 := fun b hb => by
        obtain ⟨r, hr, rfl⟩ := hb
        exact (hI.rd r hr).kind
      have hsmall : ∀ (j : Nat) (r : RR), R[j]? = some r → j < 2 * k ∧ (∀ x ∈ r.bs, 0 ≤ x ∧ x ≤ 255) ∧ r.n ≤ 1048600 ∧ 4 ≤ r.n ∧ rdNum 4 r.n r.bs 0 0 4294967296 = ((flipN j : Int), 4, 0) ∧ ∃ x, xs[j / 2]? = some x ∧ rdText r.n r.bs 4 0 4294967296 = (x.ds, r.n, 0) := fun j r hr => by
        have hj : j < 2 * k := by
          have := (List.getElem?_eq_some_iff.1 hr).1
          omega
        obtain ⟨x, hx, hb, hn⟩ := hI.body j r hr
        have hxin : x ∈ xs := List.mem_of_getElem? hx
        have hcx := hcame x hxin
        have hd := hdl x hxin
        have hTl := tail_len hcx.lies.hlen
        have hpad : padN x.dl ≤ 3 := by unfold padN; omega
        have hnn : r.n = 4 + (4 + x.dl + padN x.dl) := by rw [← hn, hb, List.length_append, be_length, hTl]
        have hfl := flipN_lt j (by omega)
        refine ⟨hj, fun y hy => ?_, by omega, by omega, ?_, x, hx, ?_⟩
        · rw [hb] at hy
          rcases List.mem_append.1 hy with h | h
          · exact be_small _ _ y h
          · exact tail_small hcx.small y h
        · rw [hb]
          exact rd_first (flipN j) _ r.n (by omega) (by rw [← hb]; exact hn)
        · rw [hb]
          exact rd_second (flipN j) x.dl x.ds r.n hcx.lies.hlen hd (by rw [← hb]; exact hn)
      have hSm : Hid _ := hsmall
      clear hsmall
      have hI1 : Hid (In1 W.heap.size (2 * k) k k xs W1 (.slice (some ⟨gr, 0, none⟩) (2 * k) cr) (.slice (some ⟨gv, 0, none⟩) k cv) (.slice (some ⟨gw, 0, none⟩) k cw) R Vg Vw) := hI
      have hrow : ∀ (wq : World), Fk (RB R) W1 wq → ∀ (j : Nat) (r : RR), R[j]? = some r → wq.cell? ⟨gr, j, none⟩ = some (.pointer (some ⟨r.rb, 0, none⟩)) := fun wq hF j r hr => by
        have ho := own_fk hI.row hF (fun b hb hk => (own_kind hI.row hb).ne (hRk b hk) (by decide) rfl)
        have hj : j < 2 * k := by
          have := (List.getElem?_eq_some_iff.1 hr).1
          omega
        rw [ho.cellAt j (by omega), List.getElem?_map, hr]
        rfl
      have hErr : ∀ (wq : World), Fk (RB R) W1 wq → Errs wq er := fun wq hF => hE.below (Fk.below hw1 hw1.size hF (fun b hb => Nat.le_trans hWs (hRlo b hb))) (Nat.le_refl _)
      have hR0 : ROk W1 R (fun _ _ => 0) 0 := fun j r _ hr => hI.rd r (List.mem_of_getElem? hr)
      have HRlo : Hid (∀ b, RB R b → W.heap.size ≤ b) := hRlo
      have HRk : Hid (∀ b, RB R b → Kind W1 b 65) := hRk
      have Hrow : Hid (∀ (wq : World), Fk (RB R) W1 wq → ∀ (j : Nat) (r : RR), R[j]? = some r → wq.cell? ⟨gr, j, none⟩ = some (.pointer (some ⟨r.rb, 0, none⟩))) := hrow
      have HErr : Hid (∀ (wq : World), Fk (RB R) W1 wq → Errs wq er) := hErr
      have HC : Hid _ := hc
      have HCame : Hid (∀ x ∈ xs, Came w x) := hcame
      have HDl : Hid (∀ x ∈ xs, x.dl ≤ 1048576) := hdl
      have HBb : Hid (∀ b, B b → w.heap.size ≤ b) := hBb
      have HEn : Hid (∀ e ∈ es, e.len ≤ 1000000100) := hen
      clear hI hRlo hRk hrow hErr hc hcame hdl hBb hen
      go_wp2_with fail
      go_loopw [14] (fun i wx => ∃ j : Nat, j ≤ 2 * k ∧ i = .int .i64 j ∧ ROk wx R (fun t _ => if t < j then 4 else 0) 0 ∧ Fk (RB R) W1 wx) (fun i _ => 2 * k - (intOf i).toNat)
      case atStart => exact ⟨0, Nat.zero_le _, rfl, fun j r h hr => by simpa using hR0 j r h hr, Fk.refl _ _⟩
      case round =>
        obtain ⟨j, hj, rfl, hRo, hF⟩ := hrel
        clear hR0
        have hjk2 : (j : Int) ≤ 2 * k := by omega
        by_cases hlt : j < 2 * k
        · have hlti : (j : Int) < 2 * k := by omega
          have hr : R[j]? = some R[j] := List.getElem?_eq_getElem (by omega)
          generalize R[j] = r at hr
          obtain ⟨_, hby, hrn, hr4, hnum, _⟩ := hSm.out j r hr
          have hcr := Hrow.out wr hF j r hr
          have hrd := hRo j r (Nat.zero_le _) hr
          simp only [Nat.lt_irrefl, if_false] at hrd
          have hu := u32_any r.rb r.g r.n r.n 0 0 4294967296 r.bs er wr hrd.1 (HErr.out wr hF) (Nat.zero_le _) (by omega) hby (by omega)
          rw [hnum] at hu
          have hxx0 : bits .xor .i64 ((j : Int) / 2) ((j : Int) % 2) = (flipN j : Int) := by
            have e1 : (j : Int) / 2 = ((j / 2 : Nat) : Int) := by omega
            have e2 : (j : Int) % 2 = ((j % 2 : Nat) : Int) := by omega
            rw [e1, e2]
            unfold flipN
            rcases Nat.mod_two_eq_zero_or_one j with h | h
            · rw [h, if_pos rfl]; exact xor_zero_i64 _ (by omega)
            · rw [h, if_neg (by decide)]; exact xor_one_i64 _ (by omega)
          clear hnum hby hrd
          have hxx : ((flipN j : Int) != bits .xor .i64 ((j : Int) / 2) ((j : Int) % 2)) = false := by rw [hxx0]; simp
          clear hxx0
          generalize (flipN j : Int) = fj at *
          go_wp2_with fail
          refine hu.mono ?_
          rintro e wn ⟨rfl, hwent⟩
          go_wp2_with fail
          go_roundw
          case rel =>
            refine ⟨j + 1, by omega, by go_num, hRo.went (p := 4) hI1.out.dist (Nat.zero_le _) hr hwent (by simp) (fun t q ht => ?_), hF.andThen (went_fk hr hwent) (fun _ _ h => h)⟩
            by_cases h : t < j
            · simp [h, show t < j + 1 by omega]
            · simp [h, show ¬ t < j + 1 by omega]
          case measure => simp [intOf]; omega
        · have hlti : 2 * (k : Int) ≤ j := by omega
          obtain rfl : j = 2 * k := by omega
          have hR4 : ROk wr R (fun _ _ => 4) 0 := fun t r ht hr => by
            have h := hRo t r ht hr
            have h2 := (List.getElem?_eq_some_iff.1 hr).1
            simpa [show t < 2 * k by omega] using h
          clear hRo
          obtain ⟨W2, hW2⟩ : ∃ W2, W2 = wr := ⟨_, rfl⟩
          subst hW2
          rw [show ((2 * k : Nat) : Int) = 2 * (k : Int) by omega]
          go_wp2_with fail
          go_loopw [13, 15] (fun v i wx => ∃ (j : Nat) (Ls : List Value), j ≤ 2 * k ∧ i = .int .i64 ((j : Int) - 1) ∧ wx.ownsRow W1.heap.size 24 1 v (2 * k - j) Ls ∧ LsOk W1.heap.size (2 * k) xs wx Ls ∧ ROk wx R (fun t r => if j ≤ t then r.n else 4) 0 ∧ Fk (RB R) W1 wx) (fun _ i _ => (intOf i + 1).toNat)
          case atStart =>
            refine ⟨2 * k, [], Nat.le_refl _, by simp, by simpa using World.ownsRow_nil _ _ _ _, ⟨fun t l hl => by simp at hl, fun s t a b c ha => by simp at ha⟩, fun t r ht hr => ?_, hF⟩
            have h2 := (List.getElem?_eq_some_iff.1 hr).1
            simpa [show ¬ 2 * k ≤ t by omega] using hR4 t r ht hr
          case round =>
            clear hR4 hF
            obtain ⟨j, Ls, hj, rfl, hols, hLs, hRo, hF⟩ := hrel
            by_cases hlt : 0 < j
            · obtain ⟨j, rfl⟩ : ∃ t, j = t + 1 := ⟨j - 1, by omega⟩
              have hi1 : (((j + 1 : Nat) : Int) - 1) = (j : Int) := by omega
              rw [hi1]
              clear hi1
              have hj2 : (j : Int) < 2 * k := by omega
              have hjN : j < 2 * k := by omega
              have hr : R[j]? = some R[j] := List.getElem?_eq_getElem (by omega)
              generalize R[j] = r at hr
              obtain ⟨_, hby, hrn, hr4, _, x, hx, htext⟩ := hSm.out j r hr
              have hxl : x.ds.length = x.dl := (HCame.out x (List.mem_of_getElem? hx)).lies.hlen
              have hcr := Hrow.out wr hF j r hr
              have hrd := hRo j r (Nat.zero_le _) hr
              simp only [show ¬ j + 1 ≤ j by omega, if_false] at hrd
              have hu := bytes_any r.rb r.g r.n r.n 4 0 4294967296 r.bs er wr hrd.1 (HErr.out wr hF) (by omega) (by omega) hby (by omega)
              rw [htext] at hu
              have hLsl : Ls.length = 2 * k - (j + 1) := by simpa using hols.1
              clear htext hby
              go_wp2_with fail
              refine hu.mono ?_
              rintro e wn ⟨⟨al, cl, rfl, hol⟩, hwent⟩
              rw [hxl] at hol
              simp only [hxl]
              have hFw := Fk.of_grown hwent.2
              have hkr : ∀ b, b = r.rb → Kind wr b 65 := fun b hb => by rw [hb]; exact hrd.kind
              have hols1 := own_fk hols hFw (fun b hb hk => (own_kind hols hb).ne (hkr b hk) (by decide) rfl)
              have hLs1 := hLs.fk hFw (fun b _ _ hk5 hk => hk5.ne (hkr b hk) (by decide) rfl)
              have hRo1 := hRo.went (p := r.n) (pl' := fun t q => if j ≤ t then q.n else 4) hI1.out.dist (Nat.zero_le _) hr hwent (by simp) (fun t q ht => by
                by_cases h : j ≤ t
                · simp [h, show j + 1 ≤ t by omega]
                · simp [h, show ¬ j + 1 ≤ t by omega])
              have hF1 := hF.andThen (went_fk hr hwent) (fun _ _ h => h)
              have hltw : ∀ (t : Nat) (a : Value) (b : Nat), Ls[t]? = some a → a.ownBlock = some b → b < wr.heap.size := fun t a b ha hb => by
                obtain ⟨_, _, ho⟩ := hLs.own t a ha
                exact (ho.lt b hb).2
              have hLs2 := hLs1.more hltw (by rw [hLsl, show (2 * k - 1 - (2 * k - (j + 1))) = j by omega]; exact hx) hol hF.size
              have haln := (Below.refl wn.heap.size wn).alloc (Nat.le_refl _) (.cells #[.slice al x.dl cl] 24)
              have hols2 := own_later hols1 haln
              have HLs2 : Hid _ := hLs2
              have HRo1 : Hid _ := hRo1
              have hWn : W1.heap.size ≤ (wn.alloc (.cells #[.slice al x.dl cl] 24)).heap.size := Nat.le_trans hF1.size haln.size
              have honel : ∀ u ∈ [Value.slice al x.dl cl], u.oneCell' = true := by intro u hu; simp at hu; subst hu; rfl
              have h63 : 2 * k - (j + 1) + 1 ≤ maxLen := by unfold maxLen; omega
              have hbyl : (2 * k - (j + 1) + 1) * 24 ≤ 140737488355328 := by omega
              clear hLs hLs1 hols hols1 hRo hltw hkr hLs2 hRo1 hcr hu hol
              go_wp2_with (at_builtin; refine wpList_append_own_split _ rfl (.tmp 104) (.tmp 110) 57 rfl W1.heap.size 24 t0 (.slice none 0 0) 1 24 Tryd.underlying57 ht tz0 tz1 tz2 rfl (by decide) _ _ Ls rfl hols2 ⟨wn.heap.size, 0, none⟩ 1 1 [.slice al x.dl cl] (by decide) rfl rfl (cell_one_new _ _ _) honel h63 hbyl hWn ?_; intro vl' wm holm hlm)
              have hFl := Fk.of_laid hlm
              have hk24 : ∀ b, u13.ownBlock = some b → Kind (wn.alloc (.cells #[.slice al x.dl cl] 24)) b 24 := fun b hb => own_kind hols2 hb
              have hLsA := (HLs2.out : LsOk _ _ _ _ _).fk (Fk.of_below haln) (fun _ _ _ _ h => h)
              have hLsM := hLsA.fk hFl (fun b _ _ hk5 hk => hk5.ne (hk24 b hk) (by decide) rfl)
              have hRoA : ROk (wn.alloc (.cells #[.slice al x.dl cl] 24)) R (fun t q => if j ≤ t then q.n else 4) 0 := ROk.fk HRo1.out (Fk.of_below haln) (fun _ _ h => h) (fun _ _ h => h)
              have hRoM : ROk wm R (fun t q => if j ≤ t then q.n else 4) 0 := fun t q ht hq => by
                have hd := hRoA t q ht hq
                exact hd.fk hFl (fun hk => hd.kind.ne (hk24 _ hk) (by decide) rfl) (fun hk => hd.2.ne (hk24 _ hk) (by decide) rfl)
              have hFm : Fk (RB R) W1 wm := (hF1.andThen (Fk.of_below haln) (fun _ _ h => h.elim)).andThen hFl (fun b hb hk => by have := (hols2.lt b hk).1; omega)
              go_roundw
              case rel =>
                have hol9 : wm.ownsRow W1.heap.size 24 1 vl' (2 * k - j) (Ls ++ [.slice al x.dl cl]) := by
                  rw [show 2 * k - j = 2 * k - (j + 1) + 1 by omega]; exact holm
                exact ⟨j, Ls ++ [.slice al x.dl cl], by omega, by go_num, hol9, hLsM, hRoM, hFm⟩
              case measure => simp [intOf]; try omega
            · have hj0 : (j : Int) ≤ 0 := by omega
              obtain rfl : j = 0 := by omega
              have hRn : ROk wr R (fun _ r => r.n) 0 := fun t r ht hr => by simpa using hRo t r ht hr
              have hols0 : wr.ownsRow W1.heap.size 24 1 u13 (2 * k) Ls := by simpa using hols
              clear hRo hols
              obtain ⟨gl, cl3, rfl⟩ : ∃ g cc, u13 = .slice (some ⟨g, 0, none⟩) (2 * k) cc := by
                rcases hols0.2 with ⟨hv, hn0⟩ | ⟨g, cap, cur, hv, r⟩
                · omega
                · exact ⟨g, cap, hv⟩
              obtain ⟨W3, hW3⟩ : ∃ W3, W3 = wr := ⟨_, rfl⟩
              subst hW3
              have hWW1 : W.heap.size ≤ W1.heap.size := hbr.size
              have hW13 : W1.heap.size ≤ W3.heap.size := hF.size
              have hw3 : Below w.heap.size w W3 := Fk.below hw1 hw1.size hF (fun b hb => Nat.le_trans hWs (HRlo.out b hb))
              have hBk3 : Bk W3 w.heap.size bk (fun b => B b ∧ b < W.heap.size) es := (hBk.weaken (B' := fun b => B b ∧ b < W.heap.size) (fun b hb h => ⟨h, hb⟩)).keep (fun b hb h => by
                rw [hF.at (by omega) (fun hr => by have := HRlo.out b hr; omega)]
                exact hbr.block b hb)
              have hLlen : Ls.length = 2 * k := by simpa using hols0.1
              obtain ⟨Kz, hKz⟩ : ∃ Kz : Nat → Nat → Prop, Kz = fun j b => (B b ∧ b < W.heap.size) ∨ ∃ (t : Nat) (l : Value), t < j ∧ Ls[t]? = some l ∧ l.ownBlock = some b := ⟨_, rfl⟩
              have HKz : Hid (∀ j b, Kz j b ↔ ((B b ∧ b < W.heap.size) ∨ ∃ (t : Nat) (l : Value), t < j ∧ Ls[t]? = some l ∧ l.ownBlock = some b)) := fun j b => by rw [hKz]
              clear hKz
              have hLsb : ∀ (t : Nat) (l : Value) (b : Nat), Ls[t]? = some l → l.ownBlock = some b → W1.heap.size ≤ b ∧ b < W3.heap.size := fun t l b hl hb => by
                obtain ⟨_, _, ho⟩ := hLs.own t l hl
                exact ho.lt b hb
              have HKlo : Hid (∀ j b, Kz j b → w.heap.size ≤ b) := fun j b h => by
                rcases (HKz.out j b).1 h with ⟨h1, _⟩ | ⟨t, l, _, hl, hb⟩
                · exact HBb.out b h1
                · have := (hLsb t l b hl hb).1; omega
              have HKmid : Hid (∀ j b, Kz j b → ¬ (W.heap.size ≤ b ∧ b < W1.heap.size)) := fun j b h hm => by
                rcases (HKz.out j b).1 h with ⟨_, h1⟩ | ⟨t, l, _, hl, hb⟩
                · omega
                · have := (hLsb t l b hl hb).1; omega
              have HLs : Hid (LsOk W1.heap.size (2 * k) xs W3 Ls) := hLs
              have HLsb : Hid (∀ (t : Nat) (l : Value) (b : Nat), Ls[t]? = some l → l.ownBlock = some b → W1.heap.size ≤ b ∧ b < W3.heap.size) := hLsb
              have HOls : Hid (W3.ownsRow W1.heap.size 24 1 (.slice (some ⟨gl, 0, none⟩) (2 * k) cl3) (2 * k) Ls) := hols0
              clear hLs hLsb hols0
              simp only [Int.natCast_zero, Int.zero_sub]
              go_wp2_with fail
              go_loopw [16] (fun i wx => ∃ (j : Nat) (es' : List Ent), j ≤ 2 * k ∧ i = .int .i64 j ∧ es'.length = 3 * (i0 + j) ∧ (∀ e ∈ es', e.len ≤ 1000000100) ∧ Bk wx w.heap.size bk (fun b => Kz j b ∨ W3.heap.size ≤ b) es' ∧ Fk (Kz j) W3 wx) (fun i _ => 2 * k - (intOf i).toNat)
              case atStart =>
                refine ⟨0, es, Nat.zero_le _, rfl, by omega, HEn.out, hBk3.weaken (fun b _ h => Or.inl ((HKz.out 0 b).2 (Or.inl h))), Fk.refl _ _⟩
              case round =>
                obtain ⟨j, es', hj, rfl, hesl, hesn, hBj, hFz⟩ := hrel
                clear hBk3
                have HEs' : Hid (∀ e ∈ es', e.len ≤ 1000000100) := hesn
                clear hesn
                by_cases hlt : j < 2 * k
                · have hj2 : (j : Int) < 2 * k := by omega
                  have hl : Ls[j]? = some Ls[j] := List.getElem?_eq_getElem (by omega)
                  generalize Ls[j] = l at hl
                  obtain ⟨x, hx, hol3⟩ := HLs.out.own j l hl
                  have hlnK : ∀ b, l.ownBlock = some b → ¬ Kz j b := fun b hb hk => by
                    have h1 := HLsb.out j l b hl hb
                    rcases (HKz.out j b).1 hk with ⟨_, h2⟩ | ⟨t, q, htj, hq, hqb⟩
                    · omega
                    · have := HLs.out.dist t j q l b hq hl hqb hb
                      omega
                  have hol := own_fk hol3 hFz hlnK
                  have hcl : wr.cell? ⟨gl, j, none⟩ = some l := by
                    have ho := own_fk HOls.out hFz (fun b hb hk => by
                      have h24 := own_kind HOls.out hb
                      rcases (HKz.out j b).1 hk with ⟨_, h2⟩ | ⟨t, q, htj, hq, hqb⟩
                      · have := (HOls.out.lt b hb).1; omega
                      · obtain ⟨_, _, hoq⟩ := HLs.out.own t q hq
                        exact h24.ne (own_kind hoq hqb) (by decide) rfl)
                    rw [ho.cellAt j (by omega), hl]
                  have hwr := Fk.below hw3 hw3.size hFz (HKlo.out j)
                  obtain ⟨q, hq⟩ : ∃ q, q = (2 * k - 1 - j) / 2 := ⟨_, rfl⟩
                  have hqk : q < k := by omega
                  have hqi : (2 * (k : Int) - 1 - j) / 2 = (q : Int) := by omega
                  rw [← hq] at hx
                  have hxq : xs[q]'(by omega) = x := by
                    have := List.getElem?_eq_some_iff.1 hx
                    exact this.2
                  have i3 := cell_later hwr (HC.out q hqk 3 (.slice x.bo x.dl x.dc) (by rw [hxq]; rfl))
                  have hcx := (HCame.out x (List.mem_of_getElem? hx)).below hwr (Nat.le_refl _)
                  have hxd := HDl.out x (List.mem_of_getElem? hx)
                  have hqki : (q : Int) < k := by omega
                  clear hxq hq hol3
                  obtain ⟨al, cl, rfl⟩ := own_val hol
                  have hS := same_any al x.bo x.dl x.dl cl x.dc x.ds x.ds wr (by omega) (Lies.owned hol) hcx.lies
                  rw [decide_eq_true rfl] at hS
                  go_wp2_with fail
                  refine hS.mono ?_
                  rintro e wd ⟨rfl, m, rfl⟩
                  have hdr := Fk.of_below (below_drewM (Below.refl wr.heap.size wr) m)
                  have hold := own_fk hol hdr (fun _ _ h => h)
                  have hBd : Bk (wr.drewN m) w.heap.size bk (fun b => Kz j b ∨ W3.heap.size ≤ b) es' := hBj.keep (fun b hb _ => hdr.at hb (fun h => h))
                  have hbd : w.heap.size ≤ (wr.drewN m).heap.size := hwr.size
                  have hK := keep_fr w.heap.size bk (i0 + j) x.dl cl (fun b => Kz j b ∨ W3.heap.size ≤ b) es' al x.ds (wr.drewN m) hbd hBd hesl (by omega) (by omega) (ownsRow_mono hold (by omega)) (fun b hb h => by
                    rcases h with h | h
                    · exact hlnK b hb h
                    · have := (HLsb.out j _ b hl hb).2; omega)
                  have HFz : Hid (Fk (Kz j) W3 wr) := hFz
                  have HDr : Hid (Fk (fun _ => False) wr (wr.drewN m)) := hdr
                  clear hBj hBd hold hol hlnK hS hcx i3 hFz hdr hqi
                  go_wp2_with fail
                  refine hK.mono ?_
                  rintro e wk ⟨rfl, e1, e2, hBk', he1, he2, hFr⟩
                  have hKup : ∀ b, Kz j b → Kz (j + 1) b := fun b h => by
                    rcases (HKz.out j b).1 h with h1 | ⟨t, q, htj, hq, hqb⟩
                    · exact (HKz.out (j + 1) b).2 (Or.inl h1)
                    · exact (HKz.out (j + 1) b).2 (Or.inr ⟨t, q, by omega, hq, hqb⟩)
                  have hKl : ∀ b, (Value.slice al x.dl cl).ownBlock = some b → Kz (j + 1) b := fun b h => (HKz.out (j + 1) b).2 (Or.inr ⟨j, _, by omega, hl, h⟩)
                  have hBn : Bk wk w.heap.size bk (fun b => Kz (j + 1) b ∨ W3.heap.size ≤ b) (es' ++ [⟨al, x.dl, cl⟩, e1, e2]) := hBk'.weaken (fun b _ h => by
                    rcases h with (h | h) | h | h
                    · exact Or.inl (hKup b h)
                    · exact Or.inr h
                    · exact Or.inl (hKl b h)
                    · exact Or.inr (Nat.le_trans HFz.out.size h))
                  have hFn : Fk (Kz (j + 1)) W3 wk := ⟨hFr.os.trans (HDr.out.os.trans HFz.out.os), hFr.tape.trans (HDr.out.tape.trans HFz.out.tape), hFr.output.trans (HDr.out.output.trans HFz.out.output), Nat.le_trans HFz.out.size (Nat.le_trans HDr.out.size hFr.size), fun b hb hne _ => by
                    have h1 : ¬ Kz j b := fun h => hne (hKup b h)
                    have hbw : b < wr.heap.size := Nat.lt_of_lt_of_le hb HFz.out.size
                    rw [hFr.block b (Nat.lt_of_lt_of_le hbw HDr.out.size) (fun h => by
                      rcases h with h | h
                      · exact h1 h
                      · omega) (fun h => by
                      simp at h
                      exact hne (hKl b h.symm)), HDr.out.at hbw (fun h => h), HFz.out.at hb h1]⟩
                  have hen' : ∀ e ∈ es' ++ [⟨al, x.dl, cl⟩, e1, e2], e.len ≤ 1000000100 := fun e he => by
                    rcases List.mem_append.1 he with h | h
                    · exact HEs'.out e h
                    · simp at h
                      rcases h with rfl | rfl | rfl
                      · simp; omega
                      · omega
                      · omega
                  have HG : Hid (_ ∧ _ ∧ _) := ⟨hBn, hFn, hen'⟩
                  clear hBn hFn hen' hKup hKl hBk' hFr hK
                  go_wp2_with fail
                  go_roundw
                  case rel =>
                    first
                      | exact ⟨j + 1, by omega, by go_num, es' ++ [⟨al, x.dl, cl⟩, e1, e2], by simp; omega, HG.out.2.2, HG.out.1, HG.out.2.1⟩
                      | exact ⟨j + 1, es' ++ [⟨al, x.dl, cl⟩, e1, e2], by omega, by go_num, by simp; omega, HG.out.2.2, HG.out.1, HG.out.2.1⟩
                  case measure => simp [intOf]; omega
                · have hj2 : 2 * (k : Int) ≤ j := by omega
                  obtain rfl : j = 2 * k := by omega
                  obtain ⟨W4, hW4⟩ : ∃ W4, W4 = wr := ⟨_, rfl⟩
                  subst hW4
                  have hRmid : ∀ r ∈ R, (W.heap.size ≤ r.rb ∧ r.rb < W1.heap.size) ∧ (W.heap.size ≤ r.g ∧ r.g < W1.heap.size) := fun r hr =>
                    ⟨⟨(hI1.out.lo r hr).1, (hI1.out.rd r hr).1.lt⟩, ⟨(hI1.out.lo r hr).2, (hI1.out.rd r hr).1.glt⟩⟩
                  have hR4 : ROk W4 R (fun _ r => r.n) 0 := hRn.fk hFz (fun r hr hk => HKmid.out _ _ hk (hRmid r hr).1) (fun r hr hk => HKmid.out _ _ hk (hRmid r hr).2)
                  have HF4 : Hid (∀ (wq : World), Fk (RB R) W4 wq → Fk (fun b => RB R b ∨ ¬ (W.heap.size ≤ b ∧ b < W1.heap.size)) W1 wq) := fun wq hq =>
                    ((hF.mono (fun b _ h => Or.inl h)).andThen hFz (fun b _ h => Or.inr (HKmid.out _ _ h))).andThen hq (fun b _ h => Or.inl h)
                  have HRow4 : Hid (∀ (wq : World), Fk (RB R) W4 wq → ∀ (t : Nat) (r : RR), R[t]? = some r → wq.cell? ⟨gr, t, none⟩ = some (.pointer (some ⟨r.rb, 0, none⟩))) := fun wq hq t r hr => by
                    have ho := own_fk hI1.out.row (HF4.out wq hq) (fun b hb hk => by
                      rcases hk with hk | hk
                      · exact (own_kind hI1.out.row hb).ne (HRk.out b hk) (by decide) rfl
                      · exact hk (hI1.out.row.lt b hb))
                    have ht2 : t < 2 * k := by
                      have := (List.getElem?_eq_some_iff.1 hr).1
                      omega
                    rw [ho.cellAt t (by omega), List.getElem?_map, hr]
                    rfl
                  have HPr4 : Hid (∀ (wq : World), Fk (RB R) W4 wq → ∀ q, q < k → ∃ a b, wq.cell? ⟨gv, q, none⟩ = some a ∧ wq.cell? ⟨gw, q, none⟩ = some b ∧ Pr W.heap.size wq a b) := fun wq hq q hqk => by
                    have hFq := HF4.out wq hq
                    have keep : ∀ {t n : Nat} {v : Value} {ys : List Value}, W1.ownsRow W.heap.size t 1 v n ys → t ≠ 65 → wq.ownsRow W.heap.size t 1 v n ys := fun ho ht => own_fk ho hFq (fun b hb hk => by
                      rcases hk with hk | hk
                      · exact (own_kind ho hb).ne (HRk.out b hk) ht rfl
                      · exact hk (ho.lt b hb))
                    have h1 := keep hI1.out.rowg (by decide)
                    have h2 := keep hI1.out.roww (by decide)
                    have hl1 : Vg.length = k := by simpa using h1.1
                    have hl2 : Vw.length = k := by simpa using h2.1
                    have hg1 : Vg[q]? = some Vg[q] := List.getElem?_eq_getElem (by omega)
                    have hg2 : Vw[q]? = some Vw[q] := List.getElem?_eq_getElem (by omega)
                    obtain ⟨m, zs, hm, pa, pb⟩ := hI1.out.pr q _ _ hg1 hg2
                    exact ⟨Vg[q], Vw[q], by rw [h1.cellAt q (by omega), hg1], by rw [h2.cellAt q (by omega), hg2], m, zs, hm, keep pa (by decide), keep pb (by decide)⟩
                  have hw4 : Below w.heap.size w W4 := Fk.below hw3 hw3.size hFz (HKlo.out _)
                  have HErr4 : Hid (∀ (wq : World), Fk (RB R) W4 wq → Errs wq er) := fun wq hq => hE.below (Fk.below hw4 hw4.size hq (fun b hb => Nat.le_trans hWs (HRlo.out b hb))) (Nat.le_refl _)
                  have HEnd : Hid (∀ (wq : World), Fk (RB R) W4 wq → Bk wq w.heap.size bk (fun b => Kz (2 * k) b ∨ W3.heap.size ≤ b) es' ∧ Below w.heap.size W wq) := fun wq hq => by
                    refine ⟨hBj.keep (fun b hb h => hq.at hb (fun hr => ?_)), ?_⟩
                    · obtain ⟨r, hr', rfl⟩ := hr
                      have hm := hRmid r hr'
                      rcases h with h | h
                      · exact HKmid.out _ _ h hm.1
                      · omega
                    · have b1 : Below w.heap.size W W1 := hbr.mono hWs
                      have b3 := Fk.below b1 (by omega) hF (fun b hb => Nat.le_trans hWs (HRlo.out b hb))
                      have b4 := Fk.below b3 (by omega) hFz (HKlo.out _)
                      exact Fk.below b4 hw4.size hq (fun b hb => Nat.le_trans hWs (HRlo.out b hb))
                  clear hBj hRn hFz hF hBk hRmid
                  rw [show ((2 * k : Nat) : Int) = 2 * (k : Int) by omega]
                  go_wp2_with fail
                  go_loopw [19] (fun i wx => ∃ j : Nat, j ≤ 2 * k ∧ i = .int .i64 j ∧ ROk wx R (fun _ r => r.n) j ∧ Fk (RB R) W4 wx) (fun i _ => 2 * k - (intOf i).toNat)
                  case atStart => exact ⟨0, Nat.zero_le _, rfl, hR4, Fk.refl _ _⟩
                  case round =>
                    clear hR4
                    obtain ⟨j, hj, rfl, hRo, hFq⟩ := hrel
                    by_cases hlt : j < 2 * k
                    · have hj2 : (j : Int) < 2 * k := by omega
                      have hr : R[j]? = some R[j] := List.getElem?_eq_getElem (by omega)
                      generalize R[j] = r at hr
                      obtain ⟨_, hby, hrn, hr4, _, _⟩ := hSm.out j r hr
                      have hcr := HRow4.out wr hFq j r hr
                      have hrd := hRo j r (Nat.le_refl _) hr
                      have hcl := close_any r.rb r.g r.n r.n r.n 0 r.bs wr hrd.1
                      rw [show rdClose r.n r.n 0 = 0 by unfold rdClose; rw [if_neg (by omega)]] at hcl
                      go_wp2_with fail
                      refine hcl.mono ?_
                      rintro e w5 ⟨rfl, hwent⟩
                      have hF5 := hFq.andThen (went_fk hr hwent) (fun _ _ h => h)
                      have hRo5 := hRo.went (p := r.n) (pl' := fun _ q => q.n) hI1.out.dist (Nat.le_refl _) hr hwent rfl (fun _ _ _ => rfl)
                      have hcr5 := HRow4.out w5 hF5 j r hr
                      have hrd5 := hRo5 j r (Nat.le_refl _) hr
                      have hu := u32_any r.rb r.g r.n r.n r.n 0 9 r.bs er w5 hrd5.1 (HErr4.out w5 hF5) (Nat.le_refl _) (by omega) hby (by omega)
                      clear hcl hrd hRo hcr
                      go_wp2_with fail
                      refine hu.mono ?_
                      rintro e w6 ⟨rfl, hwent6⟩
                      have hF6 := hF5.andThen (went_fk hr hwent6) (fun _ _ h => h)
                      have hRo6 := hRo5.past hI1.out.dist hr hwent6
                      generalize (rdNum 4 r.n r.bs r.n 0 9).1 = dv
                      clear hu hrd5 hRo5 hcr5 hwent hwent6 hby
                      obtain ⟨q, hq⟩ : ∃ q, q = j / 2 := ⟨_, rfl⟩
                      have hqk : q < k := by omega
                      have hqi : (j : Int) / 2 = (q : Int) := by omega
                      have hqki : (q : Int) < k := by omega
                      clear hq
                      obtain ⟨a, b, hca, hcb, m, zs, hm, hoa, hob⟩ := HPr4.out w6 hF6 q hqk
                      obtain ⟨aa, ac, rfl⟩ := own_val hoa
                      obtain ⟨ba, bc, rfl⟩ := own_val hob
                      have hS : ∀ t, Calls Tryd.prog 23 #[.slice aa m ac, .slice ba m bc] (w6.drewN t) fun e w'' => e = .returned (.bool true) ∧ ∃ m', w'' = w6.drewN m' := fun t => by
                        have hbt := below_drewM (Below.refl w6.heap.size w6) t
                        refine (same_any aa ba m m ac bc zs zs (w6.drewN t) (by omega) ((Lies.owned hoa).below hbt (Nat.le_refl _)) ((Lies.owned hob).below hbt (Nat.le_refl _))).mono ?_
                        rintro e w'' ⟨rfl, m', rfl⟩
                        exact ⟨by simp, t + m', World.drewN_drewN _ _ _⟩
                      have HRo6 : Hid (ROk w6 R (fun _ r => r.n) (j + 1)) := hRo6
                      clear hRo6 hoa hob
                      go_wp2_with fail
                      go_quiet ((go_at_call 23; exact hS _))
                      go_wp2_with fail
                      refine (num_id _ _).mono ?_
                      rintro e w7 ⟨rfl, hw7⟩
                      subst w7
                      have hdr := Fk.of_below (below_drewM (Below.refl w6.heap.size w6) nq)
                      go_wp2_with fail
                      go_roundw
                      case rel => exact ⟨j + 1, by omega, by go_num, ROk.fk HRo6.out hdr (fun _ _ h => h) (fun _ _ h => h), hF6.andThen hdr (fun _ _ h => h.elim)⟩
                      case measure => simp [intOf]; omega
                    · have hj2 : 2 * (k : Int) ≤ j := by omega
                      obtain ⟨hB9, hb9⟩ := HEnd.out wr hFq
                      go_wp2_with fail
                      go_ret
                      exact ⟨rfl, es', _, hB9, by omega, HEs'.out, hb9⟩
end Go.Proofs.YtjpaooejkbkliaaDoor
