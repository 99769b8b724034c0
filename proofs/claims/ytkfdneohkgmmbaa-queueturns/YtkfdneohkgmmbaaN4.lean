/- QueueTurns, walked whole. -/
import Derived.Test.YtkfdneohkgmmbaaT0
namespace Go.Proofs.Ytkfdneohkgmmbaa
open Go.RowKit
set_option maxRecDepth 100000

theorem Try.infoItem : (Try.prog.info? 43).map (fun i => (i.zero, i.size, i.bytes)) = some (some (.agg #[.int .i64 0, .int .i64 0, .int .i64 0]), 3, 24) := by kernel_rfl
def cw (x : Wi) : List Value := [.int .i64 x.c, .int .i64 x.v, .int .i64 x.t]
theorem cw_len (W : List Wi) : (W.flatMap cw).length = W.length * 3 := by
  induction W with
  | nil => rfl
  | cons x W ih => rw [List.flatMap_cons, List.length_append, ih, List.length_cons]; simp [cw]; omega
theorem cw_at (W : List Wi) : ∀ (k : Nat) (h : k < W.length), (W.flatMap cw)[k * 3]? = some (.int .i64 W[k].c) ∧ (W.flatMap cw)[k * 3 + 1]? = some (.int .i64 W[k].v) ∧ (W.flatMap cw)[k * 3 + 2]? = some (.int .i64 W[k].t) := by
  induction W with
  | nil => intro k h; simp at h
  | cons x W ih =>
    intro k h
    cases k with
    | zero => exact ⟨rfl, rfl, rfl⟩
    | succ k =>
      have := ih k (by simpa using h)
      rw [List.flatMap_cons, show (k + 1) * 3 = k * 3 + 3 by omega, List.getElem?_append_right (by simp [cw]), List.getElem?_append_right (by simp [cw]), List.getElem?_append_right (by simp [cw])]
      simpa [cw, show k * 3 + 3 + 1 - 3 = k * 3 + 1 by omega, show k * 3 + 3 + 2 - 3 = k * 3 + 2 by omega] using this
/-- The queue and the book beside it. -/
structure TnI (w0 w : World) (qb P n : Nat) (wv : Value) (W : List Wi) : Prop where
  q : ∃ lab nx L, Qu KI w lab 1 qb P nx L ∧ L.length = n ∧ Bk w0 lab w ∧ w.ownsRow 0 43 3 wv W.length (W.flatMap cw) ∧ (∀ b, wv.ownBlock = some b → lab b = 2) ∧ Inv n nx P L W
/-- The book is written anew: the rest so far. -/
structure RsI (wA wr : World) (W : List Wi) (c : Nat) (x : Int) (l : List Int) (k : Nat) (R : List Wi) (f : Bool) (rv : Value) : Prop where
  o : wr.ownsRow wA.heap.size 43 3 rv R.length (R.flatMap cw)
  b : Below wA.heap.size wA wr
  r : R ++ strk c f (W.drop k) = strk c false W
  v : f = false → vals c (W.drop k) = x :: l
theorem two_new (w : World) (a b : Obj) : ((w.alloc a).alloc b).heap[w.heap.size + 1]? = some b := by
  have := heap_alloc_new (w.alloc a) b
  simpa using this
theorem strk_le (c : Nat) (f : Bool) (W : List Wi) : (strk c f W).length ≤ W.length := by
  induction W generalizing f with
  | nil => cases f <;> simp [strk]
  | cons x W ih =>
    cases f with
    | true => rw [strk, List.length_cons, List.length_cons]; have := ih true; omega
    | false =>
      rw [strk]
      split
      · have := ih true; rw [List.length_cons]; omega
      · have := ih false; rw [List.length_cons, List.length_cons]; omega
theorem cnt_take (d : Nat) (W : List Wi) (k : Nat) (h : k < W.length) : (vals d (W.take (k + 1))).length = if W[k].c = d then (vals d (W.take k)).length + 1 else (vals d (W.take k)).length := by
  rw [List.take_succ_eq_append_getElem h, vals_snoc]
  split <;> simp
theorem cnt_le (d : Nat) (W : List Wi) : (vals d W).length ≤ W.length := by
  unfold vals
  rw [List.length_map]
  exact List.length_filter_le _ _
theorem row_at {w : World} {base n cap : Nat} {ao : Option Addr} {W : List Wi} (h : w.ownsRow base 43 3 (.slice ao n cap) W.length (W.flatMap cw)) (hn : W.length = n) (k : Nat) (hk : k < n) : ∃ g, ao = some ⟨g, 0, none⟩ ∧ n ≤ cap ∧ w.cell? ⟨g, k * 3, none⟩ = some (.int .i64 (W[k]'(by omega)).c) ∧ w.cell? ⟨g, k * 3 + 1, none⟩ = some (.int .i64 (W[k]'(by omega)).v) ∧ w.cell? ⟨g, k * 3 + 2, none⟩ = some (.int .i64 (W[k]'(by omega)).t) := by
  subst hn
  rcases own_shape h with ⟨_, q⟩ | ⟨g, cap', q, hc, _⟩
  · omega
  · cases q
    obtain ⟨e1, e2, e3⟩ := cw_at W k hk
    exact ⟨g, rfl, hc, by rw [h.cellAt _ (by omega), e1], by rw [h.cellAt _ (by omega), e2], by rw [h.cellAt _ (by omega), e3]⟩
theorem TnI.len {w0 w : World} {qb P n : Nat} {wv : Value} {W : List Wi} (h : TnI w0 w qb P n wv W) : W.length ≤ 4096 := by
  obtain ⟨lab, nx, L, q, hl, B, o, hlb, I⟩ := h.q
  have := tot_le L 64 (fun i h2 => Nat.le_trans (q.le i h2) q.hP) L.length (Nat.le_refl _)
  rw [List.take_length] at this
  have := q.hn
  have := I.l
  omega

set_option maxHeartbeats 4000000 in
theorem turns_any (c p : Int) (ao : Option Addr) (sl sc : Nat) (xs : List Int) (w : World) (hc : -9223372036854775808 ≤ c ∧ c ≤ 9223372036854775807) (hp : -9223372036854775808 ≤ p ∧ p ≤ 9223372036854775807) (hr : sl ≤ 17592186043904) (hL : Li w ao sl sc xs) (hs : ∀ x ∈ xs, -9223372036854775808 ≤ x ∧ x ≤ 9223372036854775807) :
    Calls Try.prog 5 #[.int .i64 c, .int .i64 p, .slice ao sl sc] w fun e w' => e = .returned (.bool true) ∧ Below w.heap.size w w' := by
  obtain ⟨i0, hi, hz0, hz1, hz2⟩ := info_parts Try.infoItem
  go_enter Try.func5, Try.ntmps5
  go_wp2_with fail
  refine (known_any w).mono ?_
  rintro e w1 ⟨rfl, b1⟩
  go_wp2_with fail
  refine (bound_any c 64 w1 hc (by decide) (by decide)).mono ?_
  rintro e w2 ⟨rfl, hw2⟩
  subst w2
  have hn := bnd_le c 64 (by decide)
  generalize bnd c 64 = n at hn ⊢
  go_wp2_with fail
  refine (bound_any p 64 w1 hp (by decide) (by decide)).mono ?_
  rintro e w2 ⟨rfl, hw2⟩
  subst w2
  have hP := bnd_le p 64 (by decide)
  generalize bnd p 64 = P at hP ⊢
  clear hc hp
  obtain ⟨n1, n2⟩ := hn
  obtain ⟨P1, P2⟩ := hP
  go_wp2_with fail
  refine (new_okI n P w1 (rl (fun _ => 0) w 0) 1 n1 n2 P1 P2).mono ?_
  rintro e w2 ⟨qb, rfl, q2, b2⟩
  have B2 := ((Bk.refl w).below b1 0).below b2 1
  have S2 : TnI w w2 qb P n (.slice none 0 0) [] := ⟨_, _, _, q2, by simp, B2, World.ownsRow_nil _ _ _ _, fun b hb => (by cases hb), ⟨fun c hc => by rw [rep_get]; rfl, by rw [rows_none, tot_none]; rfl, fun x hx => (by cases hx), trivial, fun x hx => (by cases hx)⟩⟩
  clear q2 B2 b1 b2
  have a1 : (1 : Int) ≤ n := by omega
  have a2 : (n : Int) ≤ 64 := by omega
  have a3 : (sl : Int) ≤ 17592186043904 := by omega
  have a4 : (P : Int) ≤ 64 := by omega
  go_wp2_with fail
  go_loopw [9, 10] (fun wv i wr => ∃ (j : Nat) (W : List Wi), j ≤ sl ∧ j ≤ 2000 ∧ i = .int .i64 j ∧ TnI w wr qb P n wv W) (fun _ i _ => 2001 - (intOf i).toNat)
  case atStart => exact ⟨0, [], Nat.zero_le _, Nat.zero_le _, rfl, S2⟩
  case round =>
    obtain ⟨j, W, hj1, hj2, rfl, S3⟩ := hrel
    clear S2
    have hWl := S3.len
    obtain ⟨lab, nx, L, q3, hl3, B3, o3, hlb3, I3⟩ := S3.q
    obtain ⟨m, hm⟩ : ∃ m, W.length = m := ⟨_, rfl⟩
    have HM : Hid (W.length = m) := hm
    rw [hm] at hWl
    obtain ⟨wo, wc, hwv⟩ := own_slice o3
    rw [hm] at hwv
    subst hwv
    clear hm
    have m1 : (m : Int) ≤ 4096 := by omega
    obtain ⟨wb, hwb⟩ : ∃ wb, wb = wr := ⟨wr, rfl⟩
    subst hwb
    by_cases hgo : j < sl ∧ j < 2000
    · obtain ⟨hlt, hl2⟩ := hgo
      have c1 : (j : Int) < sl := by omega
      have c2 : (j : Int) < 2000 := by omega
      have hLr := hL.below B3.b (Nat.le_refl _)
      obtain ⟨bb, oo, rfl, hcell⟩ := hLr.at (by omega)
      have hcj := hcell j hlt
      have hmem : xs.getD j 0 ∈ xs := by
        have : j < xs.length := by rw [hLr.hlen]; exact hlt
        simp [List.getD, this]
      have hsj := hs _ hmem
      clear hcell hLr hmem
      generalize xs.getD j 0 = s at hcj hsj
      obtain ⟨s1, s2⟩ := hsj
      by_cases hs0 : 0 ≤ s
      · obtain ⟨S, rfl⟩ := Int.eq_ofNat_of_zero_le hs0
        have hmd : (S : Int) % (n : Int) = ((S % n : Nat) : Int) := by simp
        have hmn : S % n < n := Nat.mod_lt _ n1
        generalize S % n = d at hmd hmn
        go_wp2_with fail
        go_loop [12, 13] (fun a t => ∃ k : Nat, k ≤ m ∧ t = .int .i64 k ∧ a = .int .i64 ((vals d (W.take k)).length : Nat)) (fun _ t => m + 1 - (intOf t).toNat)
        case atStart => exact ⟨0, Nat.zero_le _, rfl, rfl⟩
        case round =>
          obtain ⟨k, hk, rfl, rfl⟩ := hrel
          have hkc : (vals d (W.take k)).length ≤ 4096 := by
            have := cnt_le d (W.take k)
            rw [List.length_take] at this
            omega
          by_cases hkm : k < m
          · have k1 : (k : Int) < m := by omega
            obtain ⟨g, rfl, hcap, x0, -, -⟩ := row_at o3 HM.out k hkm
            have HC : Hid ((vals d (W.take (k + 1))).length = if (W[k]'(by rw [HM.out]; exact hkm)).c = d then (vals d (W.take k)).length + 1 else (vals d (W.take k)).length) := cnt_take d W k (by rw [HM.out]; exact hkm)
            generalize (W[k]'(by rw [HM.out]; exact hkm)).c = y at x0 HC
            generalize (vals d (W.take k)).length = A at hkc HC ⊢
            have k2 : (A : Int) ≤ 4096 := by omega
            by_cases hy : y = d
            · subst hy
              go_wp2_with fail
              go_round
              case rel => exact ⟨k + 1, by omega, by go_num, by rw [HC.out, if_pos rfl]; go_num⟩
              case measure => simp [intOf]; omega
            · have k3 : ¬ (y : Int) = d := by omega
              go_wp2_with fail
              go_round
              case rel => exact ⟨k + 1, by omega, by go_num, by rw [HC.out, if_neg hy]⟩
              case measure => simp [intOf]; omega
          · obtain rfl : k = m := by omega
            rw [List.take_of_length_le (by rw [HM.out]; exact Nat.le_refl _)] at hkc ⊢
            have hdl : d < L.length := by omega
            have hvd := I3.v d hmn
            rw [getD_at' L d hdl] at hvd
            have HVD : Hid (vals d W = L[d]) := hvd
            have hle := q3.le d hdl
            by_cases hf : L[d].length = P
            · have e1 : (vals d W).length = P := by rw [HVD.out]; exact hf
              rw [e1]
              clear hvd e1
              go_wp2_with fail
              refine (pushFI q3 d _ hdl hf).mono ?_
              rintro e w4 ⟨rfl, m4, rfl⟩
              have S4 : TnI w (wb.drewN m4) qb P n (.slice wo k wc) W := ⟨lab, nx, L, q3.drew m4, hl3, B3.drew m4, o3, hlb3, I3⟩
              clear S3 q3 B3 o3 hlb3 I3 HVD hf hle
              go_wp2_with (go_at_call 14; refine (num_any _ _).mono ?_; rintro e wn ⟨rfl, hwn⟩; subst wn)
              go_roundw
              case rel => exact ⟨j + 1, W, by omega, by omega, by go_num, S4⟩
              case measure => simp [intOf]; omega
            · have e1 : (vals d W).length < P := by rw [HVD.out]; omega
              have I4 := I3.push d (100 + (j : Int)) hl3 hdl n2 P2 (by omega)
              have hM : ((vals d W).length + 1) * n ≤ 64 * 64 := Nat.mul_le_mul (by omega) n2
              have hf2 : L[d].length < P := by omega
              clear hvd hle
              generalize (vals d W).length = A at e1 hkc I4 hM ⊢
              have k2 : (A : Int) < P := by omega
              have k3 : ((A : Int) + 1) * (n : Int) = (((A + 1) * n : Nat) : Int) := by simp
              generalize (A + 1) * n = M at I4 hM k3
              have k4 : (M : Int) ≤ 4096 := by omega
              go_wp2_with fail
              refine (pushI q3 d (100 + (j : Int)) hdl hf2).mono ?_
              rintro e w4 ⟨rfl, q4, t4⟩
              have B4 := B3.step t4 (by decide)
              have o4 := own_other o3 t4 (fun b hb => by rw [hlb3 b hb]; decide)
              have hlb4 : ∀ b, (Value.slice wo k wc).ownBlock = some b → rl lab wb 1 b = 2 := fun b hb => (rl_old (own_lt o3 hb)).trans (hlb3 b hb)
              generalize rl lab wb 1 = lab4 at q4 B4 hlb4
              rw [HM.out] at o4
              clear S3 q3 B3 o3 hlb3 I3 HVD hf t4
              go_wp2_with (first
                | (go_at_call 14; refine (num_any _ _).mono ?_; rintro e wn ⟨rfl, hwn⟩; subst wn)
                | (at_builtin; refine wpList_append_lies _ rfl _ _ 41 rfl 0 43 i0 (.agg #[.int .i64 0, .int .i64 0, .int .i64 0]) 3 24 Try.underlying41 hi hz0 hz1 hz2 rfl (by decide) _ k _ rfl (World.ownsRow.alloc o4 _) ⟨w4.heap.size, 0, none⟩ 1 1 [.int .i64 d, .int .i64 (100 + (j : Int)), .int .i64 M] rfl rfl (World.news_of_block (heap_alloc_new _ _)) (by intro u hu; simp at hu; rcases hu with rfl | rfl | rfl <;> rfl) (by decide) (by unfold maxLen; omega) (by omega) (Nat.zero_le _) _ rfl ?_; intro g5 c5 w5 o5 gr5 hat5 hlt5))
              have t5 := (Turns.alloc _ w4 _).trans (Turns.grown (F := fun i => (Value.slice wo k wc).ownBlock = some i) gr5 (fun b hb => hb)) (fun _ _ h => h)
              have t6 : Turns (fun i => lab4 i = 2) w4 w5 := t5.mono (fun i _ hb => hlb4 i hb)
              have S5 : TnI w w5 qb P n (.slice (some ⟨g5, 0, none⟩) (k + 1) c5) (W ++ [⟨d, 100 + (j : Int), M⟩]) := ⟨_, nx, _, q4.other t6 (by decide), by simpa using hl3, B4.step t6 (by decide), by simpa [HM.out, cw] using o5, fun b hb => by
                cases hb
                rcases hat5 with q | q
                · exact (rl_old (own_lt o4 q)).trans (hlb4 _ q)
                · exact rl_new (by simp at q; show w4.heap.size ≤ g5; omega), I4⟩
              clear q4 B4 o4 hlb4 o5 gr5 hat5 hlt5 t5 t6 I4
              go_wp2_with fail
              go_roundw
              case rel => exact ⟨j + 1, _, by omega, by omega, by go_num, S5⟩
              case measure => simp [intOf]; omega
      · clear S3
        by_cases ht : tot L = 0
        · have hm0 : m = 0 := by rw [← HM.out, I3.l]; exact ht
          subst hm0
          have S4 : TnI w wb qb P n (.slice wo 0 wc) W := ⟨lab, nx, L, q3, hl3, B3, o3, hlb3, I3⟩
          go_wp2_with fail
          refine (pop_noI q3 (tot_zero ht)).mono ?_
          rintro e w4 ⟨rfl, hw4⟩
          subst w4
          clear q3 B3 o3 hlb3 I3
          go_wp2_with fail
          refine wp_loop_rounds 1 ?_
          rw [rounds_succ]
          go_wp2_with fail
          go_roundw
          case rel => exact ⟨j + 1, W, by omega, by omega, by go_num, S4⟩
          case measure => simp [intOf]; omega
        · obtain ⟨i, c', x, l, hc', h1, h2, h3, h4, h5, hpp⟩ := pop_some q3 (by omega)
          have hnx := q3.hx
          rw [hl3] at h2 h3 hnx
          obtain ⟨I4, hv4⟩ := I3.pop hl3 hnx i c' x l hc' h2 h3 h4
          have hm0 : 0 < m := by rw [← HM.out, I3.l]; omega
          have m2 : (0 : Int) < m := by omega
          go_wp2_with fail
          refine hpp.mono ?_
          rintro e w4 ⟨rfl, q4, t4⟩
          have B4 := B3.step t4 (by decide)
          have o4 := own_other o3 t4 (fun b hb => by rw [hlb3 b hb]; decide)
          rw [hl3] at q4
          have hlc : (L.set c' l).length = n := by simpa using hl3
          generalize rl lab wb 1 = lab4 at q4 B4
          have HT : Hid (∀ y ∈ W, y.t ≤ 4096) := I3.t
          clear q3 B3 o3 hlb3 I3 h1 h2 h3 h4 h5 hpp hnx t4 ht
          have I5 : RsI w4 w4 W c' x l 0 [] false (.slice none 0 0) := ⟨World.ownsRow_nil _ _ _ _, Below.refl _ _, by simp, fun _ => by simpa using hv4⟩
          have HE : Hid (∀ y ∈ strk c' false W, 1 ≤ y.t) := I4.e.one
          go_wp2_with fail
          go_loopw [18, 19, 20] (fun rv fv t wr => ∃ (k : Nat) (R : List Wi) (f : Bool), k ≤ m ∧ t = .int .i64 k ∧ fv = .bool f ∧ RsI w4 wr W c' x l k R f rv) (fun _ _ t _ => m + 1 - (intOf t).toNat)
          case atStart => exact ⟨0, [], false, Nat.zero_le _, rfl, rfl, I5⟩
          case round =>
            obtain ⟨k, R, f, hk, rfl, rfl, I6⟩ := hrel
            clear I5
            by_cases hkm : k < m
            · have k1 : (k : Int) < m := by omega
              obtain ⟨g, rfl, hcap, x0, x1, x2⟩ := row_at (own_later o4 I6.b) HM.out k hkm
              have hkW : k < W.length := by rw [HM.out]; exact hkm
              have hdk : W.drop k = W[k] :: W.drop (k + 1) := List.drop_eq_getElem_cons hkW
              have hyt : W[k].t ≤ 4096 := HT.out _ (List.getElem_mem hkW)
              obtain ⟨o6, b6, r6, v6⟩ := I6
              rw [hdk] at r6 v6
              clear hdk
              have hRn : R.length ≤ 4096 := by
                have e1 := congrArg List.length r6
                have e2 := strk_le c' false W
                rw [List.length_append] at e1
                have := HM.out
                omega
              generalize W[k] = y at x0 x1 x2 r6 v6 hyt
              obtain ⟨rg, rc, hrv⟩ := own_slice o6
              obtain ⟨rn, hrn⟩ : ∃ rn, R.length = rn := ⟨_, rfl⟩
              have HRN : Hid (R.length = rn) := hrn
              rw [hrn] at hrv hRn
              clear hrn
              subst hrv
              have V6 : Hid (f = false → vals c' (y :: W.drop (k + 1)) = x :: l) := v6
              have R6 : Hid (R ++ strk c' f (y :: W.drop (k + 1)) = strk c' false W) := r6
              clear v6 r6
              by_cases hst : f = false ∧ y.c = c'
              · obtain ⟨rfl, hyc⟩ := hst
                have hyv : y.v = x := by
                  have := V6.out rfl
                  rw [vals_cons, if_pos hyc] at this
                  exact (List.cons.inj this).1
                have HR2 : Hid (R ++ strk c' true (W.drop (k + 1)) = strk c' false W) := by
                  have e := R6.out
                  rw [strk, if_pos hyc] at e
                  exact e
                rw [hyc] at x0
                rw [hyv] at x1
                clear hyc hyv
                generalize y.t = yt at x2 hyt
                go_wp2_with fail
                go_roundw
                case rel => exact ⟨k + 1, R, true, by omega, by go_num, rfl, ⟨by rw [HRN.out]; exact World.ownsRow.alloc (by rw [HRN.out] at o6; exact o6) _, b6.alloc b6.size _, HR2.out, fun q => (by cases q)⟩⟩
                case measure => simp [intOf]; omega
              · have hs2 : strk c' f (y :: W.drop (k + 1)) = y.dec :: strk c' f (W.drop (k + 1)) := by
                  cases f with
                  | true => rfl
                  | false => rw [strk, if_neg (fun q => hst ⟨rfl, q⟩)]
                have hr2 := R6.out
                rw [hs2] at hr2
                have hy2 := HE.out y.dec (by rw [← hr2]; simp)
                have hy3 : 1 ≤ y.t - 1 := hy2
                have I7 : ∀ (w7 : World) (v7 : Value), w7.ownsRow w4.heap.size 43 3 v7 (rn + 1) (R.flatMap cw ++ [.int .i64 y.c, .int .i64 y.v, .int .i64 ((y.t : Int) - 1)]) → Below w4.heap.size w4 w7 → RsI w4 w7 W c' x l (k + 1) (R ++ [y.dec]) f v7 := fun w7 v7 o7 b7 => by
                  refine ⟨?_, b7, by rw [← hr2]; simp, fun q => ?_⟩
                  · rw [List.length_append, HRN.out, List.flatMap_append]
                    have e : ([y.dec] : List Wi).flatMap cw = [.int .i64 y.c, .int .i64 y.v, .int .i64 ((y.t : Int) - 1)] := by
                      show [Value.int .i64 (y.c : Int), .int .i64 y.v, .int .i64 ((y.t - 1 : Nat) : Int)] = _
                      rw [Int.ofNat_sub (by omega)]; rfl
                    rw [e]
                    exact o7
                  · have := V6.out q
                    rw [vals_cons, if_neg (fun r => hst ⟨q, r⟩)] at this
                    exact this
                have HI7 : Hid (∀ (w7 : World) (v7 : Value), w7.ownsRow w4.heap.size 43 3 v7 (rn + 1) (R.flatMap cw ++ [.int .i64 y.c, .int .i64 y.v, .int .i64 ((y.t : Int) - 1)]) → Below w4.heap.size w4 w7 → RsI w4 w7 W c' x l (k + 1) (R ++ [y.dec]) f v7) := I7
                have y1 : (1 : Int) ≤ (y.t : Int) - 1 := by omega
                have y2 : (y.t : Int) ≤ 4096 := by omega
                rw [HRN.out] at o6
                clear I7 hr2 hs2 hy2 hy3
                generalize y.t = yt at x2 hyt HI7 y1 y2
                generalize y.v = yv at x1 HI7
                have hb6 := b6.size
                cases f with
                | true =>
                  clear hst
                  generalize y.c = yc at x0 HI7
                  go_wp2_with (at_builtin; refine wpList_append_lies _ rfl _ _ 41 rfl w4.heap.size 43 i0 (.agg #[.int .i64 0, .int .i64 0, .int .i64 0]) 3 24 Try.underlying41 hi hz0 hz1 hz2 rfl (by decide) _ rn _ rfl (World.ownsRow.alloc (World.ownsRow.alloc o6 _) _) ⟨wr.heap.size + 1, 0, none⟩ 1 1 [.int .i64 yc, .int .i64 yv, .int .i64 ((yt : Int) - 1)] rfl rfl (World.news_of_block (two_new _ _ _)) (by intro u hu; simp at hu; rcases hu with rfl | rfl | rfl <;> rfl) (by decide) (by unfold maxLen; omega) (by omega) (by simp; omega) _ rfl ?_; intro g7 c7 w7 o7 gr7 hat7 hlt7)
                  go_roundw
                  case rel => exact ⟨k + 1, _, true, by omega, by go_num, rfl, HI7.out _ _ o7 (((b6.alloc b6.size _).alloc (by simp; omega) _).grown gr7 (by simp; omega) (fun k hk => (o6.lt k hk).1))⟩
                  case measure => simp [intOf]; omega
                | false =>
                  have hyc : ¬ (y.c : Int) = c' := fun q => hst ⟨rfl, by omega⟩
                  clear hst
                  generalize y.c = yc at x0 HI7 hyc
                  go_wp2_with (at_builtin; refine wpList_append_lies _ rfl _ _ 41 rfl w4.heap.size 43 i0 (.agg #[.int .i64 0, .int .i64 0, .int .i64 0]) 3 24 Try.underlying41 hi hz0 hz1 hz2 rfl (by decide) _ rn _ rfl (World.ownsRow.alloc (World.ownsRow.alloc o6 _) _) ⟨wr.heap.size + 1, 0, none⟩ 1 1 [.int .i64 yc, .int .i64 yv, .int .i64 ((yt : Int) - 1)] rfl rfl (World.news_of_block (two_new _ _ _)) (by intro u hu; simp at hu; rcases hu with rfl | rfl | rfl <;> rfl) (by decide) (by unfold maxLen; omega) (by omega) (by simp; omega) _ rfl ?_; intro g7 c7 w7 o7 gr7 hat7 hlt7)
                  go_roundw
                  case rel => exact ⟨k + 1, _, false, by omega, by go_num, rfl, HI7.out _ _ o7 (((b6.alloc b6.size _).alloc (by simp; omega) _).grown gr7 (by simp; omega) (fun k hk => (o6.lt k hk).1))⟩
                  case measure => simp [intOf]; omega
            · obtain rfl : k = m := by omega
              obtain ⟨o6, b6, r6, v6⟩ := I6
              rw [List.drop_eq_nil_of_le (by rw [HM.out]; exact Nat.le_refl _)] at r6 v6
              have hf : f = true := by
                cases f with
                | true => rfl
                | false => have := v6 rfl; simp [vals] at this
              subst hf
              rw [strk, List.append_nil] at r6
              rw [← r6] at I4
              have S8 := TnI.mk (w0 := w) ⟨_, _, _, q4.below b6 2, hlc, B4.below b6 2, ownsRow_mono o6 (Nat.zero_le _), fun b hb => rl_new (own_ge o6 hb), I4⟩
              clear r6 v6 o6 I4 HE HT q4 B4 o4 b6
              go_wp2_with fail
              go_roundw
              case rel => exact ⟨j + 1, R, by omega, by omega, by go_num, S8⟩
              case measure => simp [intOf]; omega
    · have hTl := I3.l
      rw [HM.out] at hTl
      by_cases hlt : j < sl
      all_goals
        go_wp2_with fail
        refine (total_ok q3).mono ?_
        rw [← hTl]
        rintro e w4 ⟨rfl, hw4⟩
        subst w4
        go_wp2_with fail
        go_ret
        exact ⟨rfl, B3.b⟩
end Go.Proofs.Ytkfdneohkgmmbaa
