/- A town of any shape: place, open, by their contracts. -/
import Derived.Test.YtnmdnglbpkpfdaaGreatDoorPk18
import Derived.Test.YtnmdnglbpkpfdaaGreatDoorPk14
import Derived.Test.YtnmdnglbpkpfdaaGreatDoorPk22
import Derived.Test.YtnmdnglbpkpfdaaGreatDoorPk23
namespace Go.Proofs.YtnmdnglbpkpfdaaGreatDoor
open Go.RowKit Go.Maps
set_option maxRecDepth 100000

theorem og_in {st sz k o : Nat} (h : o ∈ og st sz k) : o < k ∧ (o < st ∨ st + sz ≤ o) := by
  unfold og at h
  rw [List.mem_filter, List.mem_range] at h
  have := h.2
  unfold outBg at this
  simp at this
  exact ⟨h.1, this⟩
theorem og_has {st sz k o : Nat} (h1 : o < k) (h2 : o < st ∨ st + sz ≤ o) : o ∈ og st sz k := by
  unfold og
  rw [List.mem_filter, List.mem_range]
  refine ⟨h1, ?_⟩
  unfold outBg
  simp
  exact h2
theorem og_nodup (st sz k : Nat) : (og st sz k).Nodup := List.Pairwise.filter _ List.nodup_range
theorem og_pos {st sz k : Nat} (h1 : sz ≤ k - 1) (h3 : 1 ≤ k) : 0 < (og st sz k).length := by
  by_cases e : st = 0
  · exact List.length_pos_of_mem (og_has (o := k - 1) (by omega) (by omega))
  · exact List.length_pos_of_mem (og_has (o := 0) (by omega) (by omega))
theorem Tg.form {w : World} {G : Nat → Prop} {tw db st sz n : Nat} {ov wv : Value} {os : List Nat} {xs : List It} (h : Tg w G tw db st sz ov wv os xs) (ho : os.length = n) (hx : xs.length = n) (hn : 0 < n) : ∃ go co gw cw, ov = .slice (some ⟨go, 0, none⟩) n co ∧ wv = .slice (some ⟨gw, 0, none⟩) n cw := by
  have r1 := h.o.row
  rw [ho] at r1
  have r2 := h.x.row
  rw [hx] at r2
  obtain ⟨go, co, e1, _⟩ := (row_nat r1).resolve_left (fun q => by omega)
  obtain ⟨gw, cw, e2, _⟩ := (row_nat r2).resolve_left (fun q => by omega)
  exact ⟨go, co, gw, cw, e1, e2⟩
structure TgC (w : World) (tw n go co gw cw k o : Nat) (x : It) : Prop where
  c3 : w.cell? ⟨tw, 3, none⟩ = some (.slice (some ⟨go, 0, none⟩) n co)
  c4 : w.cell? ⟨tw, 4, none⟩ = some (.slice (some ⟨gw, 0, none⟩) n cw)
  ck : w.cell? ⟨go, k, none⟩ = some (.int .i64 (o : Nat))
  cx : w.cell? ⟨gw, k, none⟩ = some (.slice (some ⟨x.g, 0, none⟩) 512 x.cap)
theorem Tg.cells {w : World} {G : Nat → Prop} {tw db st sz n go co gw cw k o : Nat} {os : List Nat} {x : It} {xs : List It} (h : Tg w G tw db st sz (.slice (some ⟨go, 0, none⟩) n co) (.slice (some ⟨gw, 0, none⟩) n cw) os xs) (hol : os.length = n) (hx : xs.length = n) (hk : k < n) (ho : os[k]? = some o) (hxk : xs[k]? = some x) : TgC w tw n go co gw cw k o x := by
  have r1 := h.o.row
  rw [hol] at r1
  have r2 := h.x.row
  rw [hx] at r2
  refine ⟨by simp [World.cell?, h.box], by simp [World.cell?, h.box], ?_, ?_⟩
  · rw [r1.cellAt k (by omega), List.getElem?_map, ho]; rfl
  · rw [r2.cellAt k (by omega), List.getElem?_map, hxk]; rfl
set_option maxHeartbeats 1000000 in
theorem placeG {w : World} {G : Nat → Prop} {tw db st sz n : Nat} {ov wv : Value} {os : List Nat} {xs : List It} (h : Tg w G tw db st sz ov wv os xs) (ho : os.length = n) (hn : 0 < n ∧ n ≤ 4096) (b : Int) :
    Calls Tryz.prog 26 #[.pointer (some ⟨tw, 0, none⟩), .int .i64 b] w fun e w' => ∃ k : Nat, k < n ∧ e = .returned (.int .i64 k) ∧ w' = w := by
  have r := h.o.row
  rw [ho] at r
  obtain ⟨g, cap, rfl, _⟩ := (row_nat r).resolve_left (fun q => by omega)
  have y3 : w.cell? ⟨tw, 3, none⟩ = some (.slice (some ⟨g, 0, none⟩) n cap) := by simp [World.cell?, h.box]
  have hn0 : (0 : Int) < n := by omega
  have hn1 : (n : Int) ≤ 4096 := by omega
  have t1 : b.tmod (n : Int) < n := Int.tmod_lt_of_pos b hn0
  have t2 : -(n : Int) < b.tmod (n : Int) := Int.lt_tmod_of_pos b hn0
  have p1 : 0 ≤ (b.tmod (n : Int) + n) % (n : Int) := Int.emod_nonneg _ (by omega)
  have p2 : (b.tmod (n : Int) + n) % (n : Int) < n := Int.emod_lt_of_pos _ hn0
  obtain ⟨j, h6⟩ : ∃ j : Nat, (b.tmod (n : Int) + n) % (n : Int) = (j : Int) := ⟨_, (Int.toNat_of_nonneg p1).symm⟩
  have h5 : (b.tmod (n : Int) + n).tmod (n : Int) = (j : Int) := by rw [Int.tmod_eq_emod_of_nonneg (by omega)]; exact h6
  have hj : j < n := by omega
  clear r h ho p1 p2
  go_enter Tryz.func26, Tryz.ntmps26
  go_wp2_with fail
  go_ret
  exact ⟨j, hj, rfl, rfl⟩
theorem Calm.ck {S : DevS} (h : Calm S) (fa : Nat → List Int) (a : List (Nat × Nat)) (st : Nat) (seq : Int) (place : Nat) : Calm (ckS S fa a st seq place) := by
  have hh : ∀ i, Calm (homeS S fa a i) := fun i => by
    induction i with
    | zero => exact h
    | succ i ih => exact ih.burnt.wrote _ _
  exact ((((hh a.length).burnt.flushed).burnt.wrote _ _).burnt).flushed
theorem FK_calm (k st sz : Nat) : Calm (FK k st sz) := Calm.fmt ⟨rfl, rfl⟩ st sz
theorem Tg.to {w w' : World} {G G' : Nat → Prop} {tw db st sz : Nat} {ov wv : Value} {os : List Nat} {xs : List It} (h : Tg w G tw db st sz ov wv os xs) (k : Kp G w w') (hG : ∀ i, G' i → G i ∨ w.heap.size ≤ i) : Tg w' G' tw db st sz ov wv os xs := by
  have n : ∀ i, i < w.heap.size → ¬ G i → ¬ G' i := fun i hi hg r => (hG i r).elim hg (fun q => by omega)
  have T := h.kp k
  refine ⟨T.box, ⟨T.o.row, fun b hb => n b (h.o.row.lt b hb).2 (h.o.gr b hb)⟩, ⟨T.x.row, fun b hb => n b (h.x.row.lt b hb).2 (h.x.gr b hb), fun x hx => ?_⟩, n tw (heap_lt h.box) h.gt⟩
  have hI := h.x.it x hx
  exact ⟨(T.x.it x hx).own, n x.g (hI.own.lt x.g rfl).2 hI.ng, hI.by_⟩
/-- What Open leaves of a device with a journal. -/
structure OpG (w w' : World) (F : Nat → Prop) (tw db : Nat) (S : DevS) (k N st sz seq place : Nat) (ov wv : Value) (os : List Nat) (xs : List It) (T : List TxL) (jb bm : Nat) : Prop where
  ex : ∃ (S' : DevS) (N' : Nat) (G : Nat → Prop), Jn w' db S' k N' G jb st sz (seq : Int) place ((sz : Int) - 1) bm 0 [] (fun _ => []) ∧ Lg S' k st sz seq place ((sz : Int) - 1) [] seq place ∧ Calm S' ∧ N' ≤ N + 4097 ∧ (∀ b, b < k → (b < st ∨ st + sz ≤ b) → rdB S' b = (ovl T b).getD (rdB S b)) ∧ (∀ i, G i → F i ∨ w.heap.size ≤ i) ∧ Tg w' G tw db st sz ov wv os xs
  tr : Turns F w w'
set_option maxHeartbeats 2000000 in
theorem openG {w : World} {k N : Nat} {S : DevS} {F : Nat → Prop} {tw db st sz seq place : Nat} {free : Int} {T : List TxL} {seq0 place0 : Nat} {ov wv : Value} {os : List Nat} {xs : List It} {er : Nat → Addr} (t : Tg w F tw db st sz ov wv os xs) (hD : Dev w db 0 S k N F) (hLg : Lg S k st sz seq place free T seq0 place0) (hC : Calm S) (hN : N ≤ 900000000) (hs : seq ≤ 4611686018427387904) (hEF : ∀ w', Turns F w w' → Errs w' er) :
    Calls Tryz.prog 11 #[.pointer (some ⟨tw, 0, none⟩)] w fun e w' => ∃ jb bm, e = .returned (.tuple #[.pointer (some ⟨jb, 0, none⟩), .int .i64 T.length, .int .i64 0]) ∧ w.heap.size ≤ jb ∧ w.heap.size ≤ bm ∧ OpG w w' F tw db S k N st sz seq place ov wv os xs T jb bm := by
  have dr : Turns F w w.drew := Turns.drewN F w 1
  have hDd : Dev w.drew db 0 S k N F := hD.below ⟨rfl, rfl, rfl, Nat.le_refl _, fun _ _ => rfl⟩
  have hcs : ∀ w' : World, w'.heap[tw]? = w.heap[tw]? → w'.cell? ⟨tw, 0, none⟩ = some (.pointer (some ⟨db, 0, none⟩)) ∧ w'.cell? ⟨tw, 1, none⟩ = some (.int .i64 (st : Nat)) ∧ w'.cell? ⟨tw, 2, none⟩ = some (.int .i64 (sz : Nat)) := fun w' e => by
    rw [t.box] at e
    exact ⟨by simp [World.cell?, e], by simp [World.cell?, e], by simp [World.cell?, e]⟩
  have k0 := hcs w.drew rfl
  have hq0 := hLg.q0
  have hq1 := hLg.q1
  have hp0 := hLg.p0
  have hz1 := hLg.s1
  have hz2 := hLg.s2
  have htop := hLg.good.top
  have hb := head_back seq0 place0 ((sz : Int) - 1) hq0 (by omega) (by omega) (by omega)
  have mO := open_log hDd st sz hz1 hz2 (fun w' t' => hEF w' (dr.trans t' (fun _ _ h => h))) seq0 place0 (by rw [hLg.head]; exact ⟨hb.1, hb.2.1⟩) (by rw [hLg.head]; exact hb.2.2) (by omega) (hLg.log hs) (by omega) (hC.lasts _) hN (fun b hb' => hLg.good.reads7 b hb')
  have HX : Hid (∀ w1 e, OpenR w.drew w1 F db S k N st sz seq0 place0 T e → ∃ jb bm, e = .returned (.tuple #[.pointer (some ⟨jb, 0, none⟩), .int .i64 T.length, .int .i64 0]) ∧ w.heap.size ≤ jb ∧ w.heap.size ≤ bm ∧ OpG w w1 F tw db S k N st sz seq place ov wv os xs T jb bm) := by
    rintro w1 e ⟨jb, bm, S', N', rfl, lj, lb, hN', hcase, J, M, ⟨G, D, hG, gj, gb⟩, t1⟩
    replace t1 := dr.trans t1 (fun _ _ h => h)
    refine ⟨jb, bm, rfl, lj, lb, ⟨S', N', G, ⟨D, ?_, M, (fun p hp => by cases hp), gj, gb, (fun p hp => by cases hp), fun e => mp_cells M J e⟩, ?_, ?_, hN', ?_, hG, t.to (Kp.same t1) hG⟩, t1⟩
    · rw [show (seq : Int) = (seq0 : Int) + T.length by omega, hLg.p1]
      exact J
    · rcases hcase with ⟨rfl, rfl⟩ | ⟨a, fa, q1, q2, q3, q4, q5, rfl⟩
      · have e1 : seq = seq0 := by simpa using hq1
        have e2 : place = place0 := hLg.p1
        have e3 : free = (sz : Int) - 1 := by have := hLg.fr; simp [strm] at this; exact this
        subst e1 e2 e3
        exact hLg
      · rw [show (seq0 : Int) + T.length = (seq : Int) by omega, ← hLg.p1]
        exact hLg.ck q2 q3 q5
    · rcases hcase with ⟨rfl, rfl⟩ | ⟨a, fa, q1, q2, q3, q4, q5, rfl⟩
      · exact hC
      · exact hC.ck _ _ _ _ _
    · intro b hb1 hb2
      rcases hcase with ⟨rfl, rfl⟩ | ⟨a, fa, q1, q2, q3, q4, q5, rfl⟩
      · rfl
      · rw [(rdB_ck hLg.good (by omega) q2 (fun p hp => (q3 p hp).1) q5).1, if_neg (by omega), ← q4 b]
        by_cases q : b ∈ a.map (·.1)
        · have := lk_keys.2 q
          obtain ⟨g, hg⟩ := Option.isSome_iff_exists.1 this
          rw [if_pos q, hg]
          rfl
        · have : lk a b = none := by
            cases r : lk a b with
            | none => rfl
            | some g => exact absurd (lk_keys.1 (by rw [r]; rfl)) q
          rw [if_neg q, this]
          rfl
  go_enter Tryz.func11, Tryz.ntmps11
  go_wp2_with fail
  go_region_held3 (fun w' => w'.cell? ⟨tw, 0, none⟩ = some (.pointer (some ⟨db, 0, none⟩)) ∧ w'.cell? ⟨tw, 1, none⟩ = some (.int .i64 (st : Nat)) ∧ w'.cell? ⟨tw, 2, none⟩ = some (.int .i64 (sz : Nat)))
    (first | exact k0 | exact k1)
    (first
      | (go_at_call 48; refine mO.mono ?_; rintro e w1 hR; have t1 : Turns F w w1 := (by { obtain ⟨_, _, _, _, _, _, _, _, _, _, _, _, t1⟩ := hR; exact dr.trans t1 (fun _ _ h => h) }); obtain ⟨jb, bm, rfl, lj, lb, hO⟩ := HX.out w1 e hR; have k1 := hcs w1 (t1.block tw (heap_lt t.box) t.gt)))
  clear hR HX mO
  go_wp2_with (go_at_call 15; refine (num7 _ _).mono ?_; rintro e wn ⟨rfl, hwn⟩; subst wn)
  all_goals refine bodyPost_ret (results_tmp3 rfl _ _ _) rfl ?_
  exact ⟨jb, bm, rfl, lj, lb, hO⟩
end Go.Proofs.YtnmdnglbpkpfdaaGreatDoor

/- holds of a town of any shape. -/
namespace Go.Proofs.YtnmdnglbpkpfdaaGreatDoor
open Go.RowKit Go.Maps
set_option maxRecDepth 100000

set_option maxHeartbeats 2000000 in
theorem holdsG {w : World} {S : DevS} {k9 N st sz n : Nat} {G : Nat → Prop} {jb : Nat} {seq : Int} {place : Nat} {free : Int} {bm nd : Nat} {a : List (Nat × Nat)} {fa : Nat → List Int} {tw db : Nat} {ov wv : Value} {os : List Nat} {xs : List It} (h : Jn w db S k9 N G jb st sz seq place free bm nd a fa) (ho : S.off = false) (t : Tg w G tw db st sz ov wv os xs) (hol : os.length = n) (hx : xs.length = n) (hn : 0 < n ∧ n ≤ 4096) (h2 : st + sz ≤ k9) (hos : ∀ o ∈ os, o < k9 ∧ (o < st ∨ st + sz ≤ o)) (hxo : ∀ (k o : Nat) (x : It), os[k]? = some o → xs[k]? = some x → x.bs = seesF S [] fa a fa o) {B : Nat} (hB : B ≤ w.heap.size) (hGB : ∀ i, G i → B ≤ i) (hjB : B ≤ jb) :
    Calls Tryz.prog 22 #[.pointer (some ⟨tw, 0, none⟩), .pointer (some ⟨jb, 0, none⟩)] w fun e w' => e = .returned (.bool true) ∧ Below B w w' ∧ Jn w' db S k9 N G jb st sz seq place free bm nd a fa ∧ Tg w' G tw db st sz ov wv os xs := by
  have hn0 : 0 < n := hn.1
  have hni : (n : Int) ≤ 4096 := by omega
  obtain ⟨go, co, gw, cw, rfl, rfl⟩ := t.form hol hx hn.1
  go_enter Tryz.func22, Tryz.ntmps22
  go_wp2_with fail
  refine (Tx.begin h ho fa).mono ?_
  rintro e w1 ⟨tb, wm, rfl, l1, l2, X1, t1⟩
  have T1 := t.kp (Kp.turns t1 (fun x cs ty fz g hx ht e => e.elim g (jty_jb h.J hx ht)))
  have B1 : Below B w w1 := t1.below (fun i r => r.elim (hGB i) (fun e => by omega)) hB
  clear t1 t h
  go_wp2_with fail
  go_loopw [6] (fun i wr => ∃ k : Nat, k ≤ n ∧ i = .int .i64 k ∧ Tx wr db S k9 N G jb st sz seq place free bm nd a fa tb wm 0 [] fa (.slice none 0 0) 0 ∧ Tg wr G tw db st sz (.slice (some ⟨go, 0, none⟩) n co) (.slice (some ⟨gw, 0, none⟩) n cw) os xs ∧ Below B w wr) (fun i _ => n - (intOf i).toNat)
  case atStart => exact ⟨0, by omega, rfl, X1, T1, B1⟩
  case round =>
    clear X1 T1
    obtain ⟨k, hk, rfl, X, T, Br⟩ := hrel
    have sB := Br.size
    by_cases hlt : k < n
    · obtain ⟨o, hok⟩ : ∃ o, os[k]? = some o := ⟨_, List.getElem?_eq_getElem (by rw [hol]; exact hlt)⟩
      obtain ⟨x, hxk⟩ : ∃ x, xs[k]? = some x := ⟨_, List.getElem?_eq_getElem (by rw [hx]; exact hlt)⟩
      have HX : Hid (x.bs = seesF S [] fa a fa o) := hxo k o x hok hxk
      have HO : Hid (o < k9 ∧ (o < st ∨ st + sz ≤ o)) := hos o (List.mem_of_getElem? hok)
      obtain ⟨y3, _, yk, _⟩ := T.cells hol hx hlt hok hxk
      have hki : (k : Int) < n := by omega
      have hI := T.x.it x (List.mem_of_getElem? hxk)
      have hlen := hI.len
      go_wp2_with fail
      refine (Tx.read X ho (by omega) o HO.out.1 HO.out.2 (by rw [← HX.out]; exact hlen)).mono ?_
      rintro e w2 ⟨g2, rfl, lg2, h2, X2, t2⟩
      have T2 := T.kp (Kp.same t2)
      have B2 := Br.trans (t2.below hGB (by omega))
      have sB2 := B2.size
      obtain ⟨y3', y4, _, yx⟩ := T2.cells hol hx hlt hok hxk
      rw [← HX.out] at h2
      have Lx : Lies w2 (some ⟨x.g, 0, none⟩) 512 x.cap x.bs := (T2.x.it x (List.mem_of_getElem? hxk)).lies
      clear T X t2 y3 yk hI
      go_wp2_with fail
      refine (same7 (some ⟨g2, 0, none⟩) (some ⟨x.g, 0, none⟩) 512 x.cap x.bs w2 (Lies.full h2 hlen) Lx).mono ?_
      rintro e w3 ⟨rfl, b3⟩
      have X3 := X2.below b3
      have T3 := T2.kp (Kp.below b3)
      have B3 := B2.trans (b3.mono (by omega))
      clear X2 T2 b3 h2 Lx y3' y4 yx
      go_wp2_with (go_at_call 15; refine (num7 _ _).mono ?_; rintro e wn ⟨rfl, hwn⟩; subst wn)
      go_roundw
      case rel => exact ⟨k + 1, by omega, by simp, X3, T3, B3⟩
      case measure => simp [intOf]; omega
    · have y3 : wr.cell? ⟨tw, 3, none⟩ = some (.slice (some ⟨go, 0, none⟩) n co) := by simp [World.cell?, T.box]
      have hkn : ¬ (k : Int) < n := by omega
      go_wp2_with fail
      refine (Tx.drop X).mono ?_
      rintro e w2 ⟨rfl, _, J2, t2⟩
      have T2 := T.kp (Kp.turns t2 (fun x cs ty fz g hx ht e => by
        rcases e with e | e
        · exact jty_tb X.T hx ht e
        · exact jty_jb X.J hx ht e))
      have B2 := Br.trans (t2.below (fun i r => by rcases r with e | e <;> omega) (by omega))
      go_wp2_with fail
      go_ret
      exact ⟨rfl, B2, J2, T2⟩
end Go.Proofs.YtnmdnglbpkpfdaaGreatDoor

/- A transaction that is full: Write by its contract. -/
namespace Go.Proofs.YtnmdnglbpkpfdaaGreatDoor
open Go.RowKit Go.Maps
set_option maxRecDepth 100000

set_option maxHeartbeats 2000000 in
theorem txWrite_big {w : World} {d : Nat} {S : DevS} {k N n : Nat} {G : Nat → Prop} (hD : Dev w d 0 S k N G) {jb st sz tb wm : Nat} {seq place free last : Int} {bm : Nat} {sv : Value} {m : List (Nat × Nat)} (hJ : Jb w jb d st sz seq place free bm (some tb)) (hT : Tb w tb jb wm sv last) (hM : Mp w wm n m) (hjG : ¬ G jb) (htG : ¬ G tb) (hmG : ¬ G wm) (ho : S.off = false) (hst : st + sz ≤ k)
    (b : Nat) (hb : b < k) (hout : b < st ∨ st + sz ≤ b) (ao : Option Addr) (c : Nat) (ds : List Int) (hL : Lies w ao 512 c ds) (haG : ∀ ad, ao = some ad → ¬ G ad.block) (hlk : lk m b = none) (hfull : m.length = 24) :
    Calls Tryz.prog 27 #[.pointer (some ⟨tb, 0, none⟩), .int .i64 b, .slice ao 512 c] w fun e w' => e = .returned (.int .i64 72) ∧ Same0 w w' d S k N G := by
  obtain ⟨c0, c1, c2, c3, c4, c5, c6, c7, c8, fz⟩ := hJ.cells
  obtain ⟨t0, t1, t2, t3, tz⟩ := hT.cells
  have hk := hD.good.top
  have hoB : outB k st sz b = true := by simp [outB]; omega
  go_enter Tryz.func27, Tryz.ntmps27
  go_wp2_with fail
  have m1 := outside_any hD st sz (by omega) (by omega) b
  rw [hoB] at m1
  refine m1.mono ?_
  rintro e w1 ⟨rfl, q1⟩
  have J1 : Jb w1 jb d st sz seq place free bm (some tb) := (q1.2.block jb (heap_lt hJ) hjG).trans hJ
  have T1 : Tb w1 tb jb wm sv last := (q1.2.block tb (heap_lt hT) htG).trans hT
  have M1 := hM.turns q1.2 hmG
  have L1 := hL.turns q1.2 haG
  clear c0 c1 c2 c3 c4 c5 c6 c7 c8 fz t0 t1 t2 t3 tz m1
  go_wp2_with fail
  refine (power_ok q1.1 J1 ho).mono ?_
  rintro e w2 ⟨rfl, q2⟩
  have T2 : Tb w2 tb jb wm sv last := (q2.2.block tb (heap_lt T1) htG).trans T1
  have M2 := M1.turns q2.2 hmG
  have L2 := L1.turns q2.2 haG
  obtain ⟨t0, t1, t2, t3, tz⟩ := T2.cells
  have hlo := M2.look b (by omega)
  have hown := M2.own
  have hsz : (Maps.size (mD m) : Int) = (m.length : Int) := by simp [mD, Maps.size_eq]
  have hln := fun ty => hown.len Tryz.underlying99 ty
  simp only [hsz] at hln
  have hq : Same0 w w2 d S k N G := ⟨q2.1, q1.2.trans q2.2 (fun _ _ h => h)⟩
  rw [hlk] at hlo
  rw [hfull] at hln
  clear T2 M2 L2 hown hsz J1 T1 M1 L1 q1 q2
  go_wp2
  go_ret
  exact ⟨rfl, hq⟩
theorem Tx.big {w : World} {d : Nat} {S : DevS} {k N : Nat} {G : Nat → Prop} {jb st sz : Nat} {seq : Int} {place : Nat} {free : Int} {bm nd : Nat} {a : List (Nat × Nat)} {fa : Nat → List Int} {tb wm ns : Nat} {m : List (Nat × Nat)} {f : Nat → List Int} {sv : Value} {last : Int} (h : Tx w d S k N G jb st sz seq place free bm nd a fa tb wm ns m f sv last) (ho : S.off = false) (hst : st + sz ≤ k) (b : Nat) (hb : b < k) (hout : b < st ∨ st + sz ≤ b) (ao : Option Addr) (c : Nat) (ds : List Int) (hL : Lies w ao 512 c ds) (haG : ∀ ad, ao = some ad → ¬ G ad.block) (hlk : lk m b = none) (hfull : m.length = 24) :
    Calls Tryz.prog 27 #[.pointer (some ⟨tb, 0, none⟩), .int .i64 b, .slice ao 512 c] w fun e w' => e = .returned (.int .i64 72) ∧ Same0 w w' d S k N G :=
  txWrite_big h.D h.J h.T h.M h.gj h.gt h.gm ho hst b hb hout ao c ds hL haG hlk hfull
end Go.Proofs.YtnmdnglbpkpfdaaGreatDoor

/- Puts that came in; what a fill's loop holds. -/
namespace Go.Proofs.YtnmdnglbpkpfdaaGreatDoor
open Go.RowKit Go.Maps
set_option maxRecDepth 100000

/-- A put that came in. -/
structure Pt where
  pb : Int
  da : Option Addr
  dn : Nat
  dc : Nat
  ds : List Int
def Pt.cells (e : Pt) : List Value := [.int .i64 e.pb, .slice e.da e.dn e.dc]
structure PtIn (w : World) (e : Pt) : Prop where
  d : Lies w e.da e.dn e.dc e.ds
  y : ∀ x ∈ e.ds, 0 ≤ x ∧ x ≤ 255
  n : e.dn ≤ 140737488355328
structure PtLies (w : World) (ao : Option Addr) (n : Nat) (ps : List Pt) : Prop where
  hlen : ps.length = n
  hcells : ∀ (j : Nat) e, ps[j]? = some e → PtIn w e ∧ ∃ g p, ao = some ⟨g, p, none⟩ ∧ ∀ t v, e.cells[t]? = some v → w.cell? ⟨g, p + j * 2 + t, none⟩ = some v
/-- What fill holds: the transaction, the town, the next contents, the places that were written. -/
structure FlI (B : Nat) (w0 wr : World) (G : Nat → Prop) (d : Nat) (S : DevS) (k N jb st sz : Nat) (seq : Int) (place : Nat) (free : Int) (bm nd : Nat) (a : List (Nat × Nat)) (fa : Nat → List Int) (tb wm : Nat) (sv : Value) (last : Int) (tw : Nat) (ov wv : Value) (os : List Nat) (xs : List It) (ns : Nat) (m : List (Nat × Nat)) (f : Nat → List Int) (nv : Value) (ys : List It) (sn : Value) (ks : List Nat) : Prop where
  X : Tx wr d S k N G jb st sz seq place free bm nd a fa tb wm ns m f sv last
  T : Tg wr G tw d st sz ov wv os xs
  W : Wt wr G nv ys
  K : Ns wr G sn ks
  yl : ys.length = os.length
  see : ∀ (i o : Nat) (x : It), os[i]? = some o → ys[i]? = some x → x.bs = seesF S m f a fa o
  mo : ∀ p ∈ m, p.1 ∈ os
  kk : ∀ j, j ∈ ks ↔ ∃ o, os[j]? = some o ∧ (lk m o).isSome = true
  kn : ks.Nodup
  kl : ks.length = m.length
  few : m.length ≤ 24
  aw : wv.ownBlock ≠ nv.ownBlock
  ln : ∀ b, nv.ownBlock = some b → w0.heap.size ≤ b
  ls : ∀ b, sn.ownBlock = some b → w0.heap.size ≤ b
  bw : Below B w0 wr
/-- Whether the place j is among the first z. -/
structure KnI (ks : List Nat) (j z : Nat) (kn : Value) (wz w3 : World) : Prop where
  k : kn = .bool (decide (j ∈ ks.take z))
  w : wz = w3
/-- The same, some numbers of it unnamed. -/
structure FlE (B : Nat) (w0 wr : World) (G : Nat → Prop) (d : Nat) (S : DevS) (k N jb st sz : Nat) (seq : Int) (place : Nat) (free : Int) (bm nd : Nat) (a : List (Nat × Nat)) (fa : Nat → List Int) (tb wm : Nat) (sv : Value) (last : Int) (tw : Nat) (ov wv : Value) (os : List Nat) (xs : List It) (nv sn : Value) (t : Nat) : Prop where
  ex : ∃ ns m f ys ks, FlI B w0 wr G d S k N jb st sz seq place free bm nd a fa tb wm sv last tw ov wv os xs ns m f nv ys sn ks ∧ ns ≤ t
/-- What fill answers. -/
structure FillR (B : Nat) (w0 wr : World) (G : Nat → Prop) (d : Nat) (S : DevS) (k N jb st sz : Nat) (seq : Int) (place : Nat) (free : Int) (bm nd : Nat) (a : List (Nat × Nat)) (fa : Nat → List Int) (tb wm : Nat) (sv : Value) (last : Int) (tw : Nat) (ov wv : Value) (os : List Nat) (xs : List It) (e : Ending) : Prop where
  ex : ∃ ns m f nv ys sn ks, e = .returned (.tuple #[nv, .bool true]) ∧ FlI B w0 wr G d S k N jb st sz seq place free bm nd a fa tb wm sv last tw ov wv os xs ns m f nv ys sn ks
end Go.Proofs.YtnmdnglbpkpfdaaGreatDoor

/- The steps of a fill. -/
namespace Go.Proofs.YtnmdnglbpkpfdaaGreatDoor
open Go.RowKit Go.Maps
set_option maxRecDepth 100000

theorem Tg.turnN {w w' : World} {G : Nat → Prop} {tw db st sz : Nat} {ov wv : Value} {os : List Nat} {xs : List It} {g : Nat} {cs : Array Value} {fz : Nat × Nat} (h : Tg w G tw db st sz ov wv os xs) (hg : w.heap[g]? = some (.cells cs 56 fz)) (hn : wv.ownBlock ≠ some g) (u : Turns (fun i => i = g) w w') : Tg w' G tw db st sz ov wv os xs :=
  ⟨(u.block tw (heap_lt h.box) (fun e => by rw [← e, h.box] at hg; simp at hg)).trans h.box, h.o.turn1 hg (by decide) u, h.x.turnN hg hn u, h.gt⟩
theorem Tg.turnI {w w' : World} {G : Nat → Prop} {tw db st sz : Nat} {ov wv : Value} {os : List Nat} {xs : List It} {g : Nat} {cs : Array Value} {fz : Nat × Nat} (h : Tg w G tw db st sz ov wv os xs) (hg : w.heap[g]? = some (.cells cs 3 fz)) (hn : ov.ownBlock ≠ some g) (u : Turns (fun i => i = g) w w') : Tg w' G tw db st sz ov wv os xs :=
  ⟨(u.block tw (heap_lt h.box) (fun e => by rw [← e, h.box] at hg; simp at hg)).trans h.box, ⟨own_turns h.o.row u (fun b hb e => hn (by rw [hb, e])), h.o.gr⟩, h.x.turn1 hg (by decide) (by decide) u, h.gt⟩
section
variable {w w' : World} {G : Nat → Prop} {d : Nat} {S : DevS} {k N jb st sz : Nat} {seq : Int} {place : Nat} {free : Int} {bm nd : Nat} {a : List (Nat × Nat)} {fa : Nat → List Int} {tb wm ns : Nat} {m : List (Nat × Nat)} {f : Nat → List Int} {sv : Value} {last : Int} {tw : Nat} {ov wv : Value} {os : List Nat} {xs : List It} {nv : Value} {ys : List It} {sn : Value} {ks : List Nat}
/-- seen = append(seen, j). -/
theorem fill_app (X : Tx w d S k N G jb st sz seq place free bm nd a fa tb wm ns m f sv last) (T : Tg w G tw d st sz ov wv os xs) (W : Wt w G nv ys) (K : Ns w G sn ks) (ho : ∀ b, ov.ownBlock = some b → sn.ownBlock ≠ some b) {o : Obj} {g5 c5 L j : Nat} (hL : ks.length = L) (ho5 : w'.ownsRow 0 3 1 (.slice (some ⟨g5, 0, none⟩) (L + 1) c5) (L + 1) ((ks.map fun x => Value.int .i64 (x : Nat)) ++ [.int .i64 (j : Nat)])) (hg5 : (w.alloc o).grownBy w' sn.ownBlock) (hat5 : sn.ownBlock = some g5 ∨ g5 = (w.alloc o).heap.size) :
    Tx w' d S k N G jb st sz seq place free bm nd a fa tb wm ns m f sv last ∧ Tg w' G tw d st sz ov wv os xs ∧ Wt w' G nv ys ∧ Ns w' G (.slice (some ⟨g5, 0, none⟩) (L + 1) c5) (ks ++ [j]) ∧ Turns (fun i => sn.ownBlock = some i) w w' := by
  have t : Turns (fun i => sn.ownBlock = some i) w w' := (Turns.alloc _ w o).trans (Turns.grown hg5 (fun b hb => hb)) (fun _ _ e => e)
  have hs : (w.alloc o).heap.size = w.heap.size + 1 := by simp
  have hG := X.D.lt
  have hK : Ns w' G (.slice (some ⟨g5, 0, none⟩) (L + 1) c5) (ks ++ [j]) := by
    refine ⟨?_, fun b hb => ?_⟩
    · rw [List.length_append, hL, List.map_append]
      exact ho5
    · have hb : some g5 = some b := hb
      cases hb
      rcases hat5 with e | e
      · exact K.gr g5 e
      · exact fun r => by have := hG g5 r; omega
  rcases K.row.2 with ⟨hv, _⟩ | ⟨g, cap, cur, hv, _, hh, _⟩
  · have b4 : Below w.heap.size w w' := t.below (fun i e => by rw [hv] at e; cases e) (Nat.le_refl _)
    exact ⟨X.below b4, T.kp (Kp.below b4), W.kp (Kp.below b4), hK, t⟩
  · have u : Turns (fun i => i = g) w w' := t.mono (fun i _ e => by rw [hv] at e; cases e; rfl)
    have hgG : ¬ G g := K.gr g (by rw [hv]; rfl)
    exact ⟨X.turn1 hh (by decide) (by decide) hgG u, T.turnI hh (fun e => ho g e (by rw [hv]; rfl)) u, W.turn1 hh (by decide) (by decide) u, hK, t⟩
/-- next[j] = x. -/
theorem fill_put (X : Tx w d S k N G jb st sz seq place free bm nd a fa tb wm ns m f sv last) (T : Tg w G tw d st sz ov wv os xs) {gn n cn j : Nat} (W : Wt w G (.slice (some ⟨gn, 0, none⟩) n cn) ys) (hl : ys.length = n) (K : Ns w G sn ks) (haw : wv.ownBlock ≠ some gn) {x : It} (Ix : ItOk w G x) :
    Tx (w.setCell ⟨gn, j, none⟩ x.val) d S k N G jb st sz seq place free bm nd a fa tb wm ns m f sv last ∧ Tg (w.setCell ⟨gn, j, none⟩ x.val) G tw d st sz ov wv os xs ∧ Wt (w.setCell ⟨gn, j, none⟩ x.val) G (.slice (some ⟨gn, 0, none⟩) n cn) (ys.set j x) ∧ Ns (w.setCell ⟨gn, j, none⟩ x.val) G sn ks ∧ Turns (fun i => i = gn) w (w.setCell ⟨gn, j, none⟩ x.val) := by
  have r := W.row
  rw [hl] at r
  obtain ⟨cs, fz, hg⟩ := own_heap r
  have u := Turns.cell w gn j x.val
  have gG : ¬ G gn := W.gr gn rfl
  refine ⟨X.turn1 hg (by decide) (by decide) gG u, T.turnN hg haw u, ⟨?_, W.gr, fun y hy => ?_⟩, K.turn1 hg (by decide) u, u⟩
  · rw [List.length_set, hl, List.map_set]
    exact (r.stored j x.val).1
  · rcases List.mem_or_eq_of_mem_set hy with hy | rfl
    · exact (W.it y hy).turn1 hg (by decide) u
    · exact Ix.turn1 hg (by decide) u
end
theorem put_seeG {S : DevS} {m : List (Nat × Nat)} {f fa : Nat → List Int} {a : List (Nat × Nat)} {os : List Nat} {ys : List It} (hr : Rising m) (hnd : os.Nodup) (h : ∀ (i o : Nat) (x : It), os[i]? = some o → ys[i]? = some x → x.bs = seesF S m f a fa o) {j o g : Nat} (hoj : os[j]? = some o) (y : It) : ∀ (i o' : Nat) (x : It), os[i]? = some o' → (ys.set j y)[i]? = some x → x.bs = seesF S (mput m o g) (updF f o y.bs) a fa o' := by
  intro i o' x ho hx
  by_cases e : j = i
  · subst e
    rw [hoj] at ho
    cases ho
    have hl : j < (ys.set j y).length := (List.getElem?_eq_some_iff.1 hx).1
    rw [List.length_set] at hl
    rw [List.getElem?_set_self hl] at hx
    cases hx
    unfold seesF
    rw [lk_mput m o g o hr, if_pos rfl]
    simp [updF]
  · rw [List.getElem?_set_ne e] at hx
    have hoo : ¬ o = o' := fun q => e ((List.getElem?_inj (List.getElem?_eq_some_iff.1 hoj).1 hnd).1 (by rw [hoj, ho, q]))
    rw [h i o' x ho hx]
    unfold seesF
    rw [lk_mput m o g o' hr, if_neg hoo]
    simp [updF, show ¬ o' = o from fun q => hoo q.symm]
theorem mput_len_new : ∀ {m : List (Nat × Nat)} {b g : Nat}, lk m b = none → (mput m b g).length = m.length + 1
  | [], b, g, _ => rfl
  | q :: r, b, g, h => by
    rw [lk_cons] at h
    have hne : ¬ q.1 = b := fun e => by rw [if_pos e] at h; cases h
    rw [if_neg hne] at h
    unfold mput
    split
    · simp
    · rw [if_neg (fun e => hne e.symm)]
      simp [mput_len_new h]
theorem mput_len_old : ∀ {m : List (Nat × Nat)} {b g : Nat}, Rising m → (lk m b).isSome = true → (mput m b g).length = m.length
  | [], b, g, _, h => by simp [lk] at h
  | q :: r, b, g, hr, h => by
    obtain ⟨h1, h2⟩ := List.pairwise_cons.1 hr
    rw [lk_cons] at h
    unfold mput
    by_cases e : q.1 = b
    · rw [if_neg (by omega), if_pos e.symm]
      rfl
    · rw [if_neg e] at h
      have hlt : ¬ b < q.1 := fun hb => by
        obtain ⟨p, hp, hpe⟩ := List.mem_map.1 (lk_keys.1 h)
        have := h1 p hp
        omega
      rw [if_neg hlt, if_neg (fun q => e q.symm)]
      simp [mput_len_old h2 h]
theorem kk_put {m : List (Nat × Nat)} {os ks ks' : List Nat} {j o g : Nat} (hr : Rising m) (hnd : os.Nodup) (h : ∀ i, i ∈ ks ↔ ∃ o, os[i]? = some o ∧ (lk m o).isSome = true) (hoj : os[j]? = some o) (hk : ∀ i, i ∈ ks' ↔ i ∈ ks ∨ i = j) : ∀ i, i ∈ ks' ↔ ∃ o', os[i]? = some o' ∧ (lk (mput m o g) o').isSome = true := by
  intro i
  rw [hk, h]
  constructor
  · rintro (⟨o', h1, h2⟩ | rfl)
    · refine ⟨o', h1, ?_⟩
      rw [lk_mput m o g o' hr]
      split
      · rfl
      · exact h2
    · exact ⟨o, hoj, by rw [lk_mput m o g o hr, if_pos rfl]; rfl⟩
  · rintro ⟨o', h1, h2⟩
    by_cases e : o = o'
    · subst e
      exact Or.inr ((List.getElem?_inj (List.getElem?_eq_some_iff.1 h1).1 hnd).1 (by rw [h1, hoj]))
    · rw [lk_mput m o g o' hr, if_neg e] at h2
      exact Or.inl ⟨o', h1, h2⟩
end Go.Proofs.YtnmdnglbpkpfdaaGreatDoor

/- fill by its contract. -/
namespace Go.Proofs.YtnmdnglbpkpfdaaGreatDoor
open Go.RowKit Go.Maps
set_option maxRecDepth 100000

set_option maxHeartbeats 4000000 in
theorem fillG {w wi : World} {G : Nat → Prop} {d : Nat} {S : DevS} {k N jb st sz n : Nat} {seq : Int} {place : Nat} {free : Int} {bm nd : Nat} {a : List (Nat × Nat)} {fa : Nat → List Int} {tb wm : Nat} {f : Nat → List Int} {sv : Value} {last : Int} {tw : Nat} {ov wv : Value} {os : List Nat} {xs : List It} (X : Tx w d S k N G jb st sz seq place free bm nd a fa tb wm 0 [] f sv last) (T : Tg w G tw d st sz ov wv os xs) (hol : os.length = n) (hxl : xs.length = n) (hn : 0 < n ∧ n ≤ 4096) (ho : S.off = false) (h2 : st + sz ≤ k) (hos : ∀ o ∈ os, o < k ∧ (o < st ∨ st + sz ≤ o)) (hnd : os.Nodup) (hsee : ∀ (i o : Nat) (x : It), os[i]? = some o → xs[i]? = some x → x.bs = seesF S [] f a fa o)
    (B : Nat) (hB : Below B wi w) (hBi : B ≤ wi.heap.size) (hGB : ∀ i, G i → B ≤ i) (hwB : B ≤ wm) (htB : B ≤ tb) (ao : Option Addr) (np c : Nat) (ps : List Pt) (hnp : np ≤ 140737488355328) (hP : PtLies wi ao np ps) (hPB : wi.heap.size ≤ B) :
    Calls Tryz.prog 13 #[.pointer (some ⟨tw, 0, none⟩), .pointer (some ⟨tb, 0, none⟩), .slice ao np c] w fun e w' => FillR B w w' G d S k N jb st sz seq place free bm nd a fa tb wm sv last tw ov wv os xs e := by
  obtain ⟨i0, hi, hz0, hz1, hz2⟩ := info_parts Tryz.info3
  obtain ⟨i1, ki, kz0, kz1, kz2⟩ := info_parts Tryz.infoS7
  obtain ⟨go, co, gw, cw, rfl, rfl⟩ := T.form hol hxl hn.1
  have hn0 : 0 < n := hn.1
  have hni : (n : Int) ≤ 4096 := by omega
  have y4 : w.cell? ⟨tw, 4, none⟩ = some (.slice (some ⟨gw, 0, none⟩) n cw) := by simp [World.cell?, T.box]
  go_enter Tryz.func13, Tryz.ntmps13
  go_wp2_with fail
  go_loopw [8, 9] (fun v i wr => ∃ t : Nat, t ≤ n ∧ i = .int .i64 t ∧ wr.ownsRow w.heap.size 56 1 v t ((xs.take t).map It.val) ∧ Below w.heap.size w wr) (fun _ i _ => n - (intOf i).toNat)
  case atStart => exact ⟨0, Nat.zero_le _, rfl, World.ownsRow_nil _ _ _ _, Below.refl _ _⟩
  case round =>
    obtain ⟨t, htn, rfl, hown, hb⟩ := hrel
    have Tr := T.kp (Kp.below hb)
    have z4 : wr.cell? ⟨tw, 4, none⟩ = some (.slice (some ⟨gw, 0, none⟩) n cw) := by simp [World.cell?, Tr.box]
    by_cases hlt : t < n
    · have hti : (t : Int) < n := by omega
      obtain ⟨x, hx⟩ : ∃ x, xs[t]? = some x := ⟨_, List.getElem?_eq_getElem (by rw [hxl]; exact hlt)⟩
      have zx : wr.cell? ⟨gw, t, none⟩ = some (.slice (some ⟨x.g, 0, none⟩) 512 x.cap) := by
        have r2 := Tr.x.row
        rw [hxl] at r2
        rw [r2.cellAt t (by omega), List.getElem?_map, hx]; rfl
      have HS : Hid (xs.take (t + 1) = xs.take t ++ [x]) := by
        show xs.take (t + 1) = xs.take t ++ [x]
        rw [List.take_succ_eq_append_getElem (by omega)]
        rw [(List.getElem?_eq_some_iff.1 hx).2]
      clear Tr y4
      go_wp2_with (at_builtin; refine wpList_append_own _ rfl (.tmp 25) (.tmp 33) 33 rfl w.heap.size 56 i1 (.slice none 0 0) 1 24 Tryz.underlying33 ki kz0 kz1 kz2 rfl (by decide) _ _ _ rfl (hown.alloc _) ⟨wr.heap.size, 0, none⟩ 1 1 [.slice (some ⟨x.g, 0, none⟩) 512 x.cap] rfl rfl (cell_one7 _ _ _) (by intro u hu; simp at hu; subst hu; rfl) (by unfold maxLen; omega) (by omega) (by have := hb.size; simp; omega) ?_; intro v' w1 hown1 hgrow1 hnil1)
      go_roundw
      case rel =>
        refine ⟨t + 1, by omega, by go_num, ?_, ?_⟩
        · rw [HS.out, List.map_append]; exact hown1
        · exact (hb.alloc hb.size _).grown hgrow1 (by simp; have := hb.size; omega) (fun k hk => (hown.lt k hk).1)
      case measure => simp [intOf]; omega
    · have hti : ¬ (t : Int) < n := by omega
      obtain rfl : t = n := by omega
      rw [List.take_of_length_le (by omega)] at hown
      obtain ⟨gn, cn, rfl⟩ : ∃ gn cn, u8 = .slice (some ⟨gn, 0, none⟩) t cn := by
        obtain ⟨g, c, e, _⟩ := (row_nat hown).resolve_left (fun q => by omega)
        exact ⟨g, c, e⟩
      have hGl := X.D.lt
      have ln1 : ∀ b, (Value.slice (some ⟨gn, 0, none⟩) t cn).ownBlock = some b → w.heap.size ≤ b := fun b hb' => (hown.lt b hb').1
      have HI : Hid (FlI B w wr G d S k N jb st sz seq place free bm nd a fa tb wm sv last tw (.slice (some ⟨go, 0, none⟩) t co) (.slice (some ⟨gw, 0, none⟩) t cw) os xs 0 [] f (.slice (some ⟨gn, 0, none⟩) t cn) xs (.slice none 0 0) []) := by
        have hx2 : Wt wr G (.slice (some ⟨gn, 0, none⟩) t cn) xs := ⟨by rw [hxl]; exact own_zero hown, fun b hb' r => by have := hGl b r; have := ln1 b hb'; omega, fun x hx => (T.x.it x hx).kp (Kp.below hb)⟩
        refine ⟨X.below hb, Tr, hx2, ⟨⟨rfl, Or.inl ⟨rfl, rfl⟩⟩, (fun b hb' => by cases hb')⟩, by rw [hxl, hol], hsee, (fun p hp => by cases hp), fun j => ⟨(fun q => by cases q), fun ⟨o, _, q⟩ => by simp [lk] at q⟩, List.nodup_nil, rfl, by simp, fun e => ?_, ln1, (fun b hb' => by cases hb'), hb.mono (by have := hB.size; omega)⟩
        have h9 := (T.x.row.lt gw rfl).2
        have e : some gw = some gn := e
        have := ln1 gn rfl
        cases e
        omega
      clear Tr hown hb
      have HE : Hid (FlE B w wr G d S k N jb st sz seq place free bm nd a fa tb wm sv last tw (.slice (some ⟨go, 0, none⟩) t co) (.slice (some ⟨gw, 0, none⟩) t cw) os xs (.slice (some ⟨gn, 0, none⟩) t cn) (.slice none 0 0) 0) := ⟨0, [], f, xs, [], HI.out, Nat.le_refl _⟩
      clear HI
      go_wp2_with fail
      go_loopw [10, 11] (fun sn i wq => ∃ q : Nat, q ≤ np ∧ q ≤ 60 ∧ i = .int .i64 q ∧ FlE B w wq G d S k N jb st sz seq place free bm nd a fa tb wm sv last tw (.slice (some ⟨go, 0, none⟩) t co) (.slice (some ⟨gw, 0, none⟩) t cw) os xs (.slice (some ⟨gn, 0, none⟩) t cn) sn q) (fun _ i _ => 60 - (intOf i).toNat)
      case atStart => exact ⟨0, Nat.zero_le _, Nat.zero_le _, rfl, HE.out⟩
      case round =>
        clear HE
        obtain ⟨q, hq1, hq2, rfl, ns, m, f9, ys, ks, I, hns⟩ := hrel
        obtain ⟨w2, hw2⟩ : ∃ w2, w2 = wr := ⟨_, rfl⟩
        subst hw2
        obtain rfl : B = wi.heap.size := by omega
        have Bq : Below wi.heap.size wi w2 := hB.trans I.bw
        obtain ⟨sa, sc, hsn⟩ : ∃ sa sc, u10 = .slice sa ks.length sc := by
          rcases row_nat I.K.row with ⟨h, h0⟩ | ⟨g, c, h, _⟩
          · exact ⟨none, 0, by rw [h, h0]⟩
          · exact ⟨_, _, h⟩
        subst hsn
        by_cases hlt : q < np ∧ q < 60
        · obtain ⟨hl1, hl2⟩ := hlt
          have hq1i : (q : Int) < np := by omega
          have hq2i : (q : Int) < 60 := by omega
          have hnpi : (np : Int) ≤ 140737488355328 := by omega
          obtain ⟨e, he⟩ : ∃ e, ps[q]? = some e := ⟨_, List.getElem?_eq_getElem (by rw [hP.hlen]; exact hl1)⟩
          obtain ⟨PI, ge, pe, rfl, hc⟩ := hP.hcells q e he
          have z0 : w2.cell? ⟨ge, pe + q * 2, none⟩ = some (.int .i64 e.pb) := cell_later Bq (hc 0 _ rfl)
          have z1 : w2.cell? ⟨ge, pe + q * 2 + 1, none⟩ = some (.slice e.da e.dn e.dc) := cell_later Bq (hc 1 _ rfl)
          have HLS : Hid (∀ b, (Value.slice sa ks.length sc).ownBlock = some b → w.heap.size ≤ b) := I.ls
          have hPc : Hid (∀ w'', Below wi.heap.size wi w'' → w''.cell? ⟨ge, pe + q * 2 + 1, none⟩ = some (.slice e.da e.dn e.dc)) := fun w'' b => cell_later b (hc 1 _ rfl)
          obtain ⟨L, hL⟩ : ∃ L, ks.length = L := ⟨_, rfl⟩
          have HL : Hid (ks.length = L) := hL
          have hL24 : L ≤ 24 := by rw [← hL, I.kl]; exact I.few
          have HLS9 : Hid (∀ b, (Value.slice sa L sc).ownBlock = some b → w.heap.size ≤ b) := by
            show ∀ b, (Value.slice sa L sc).ownBlock = some b → w.heap.size ≤ b
            rw [← hL]
            exact HLS.out
          have I : FlI wi.heap.size w w2 G d S k N jb st sz seq place free bm nd a fa tb wm sv last tw (.slice (some ⟨go, 0, none⟩) t co) (.slice (some ⟨gw, 0, none⟩) t cw) os xs ns m f9 (.slice (some ⟨gn, 0, none⟩) t cn) ys (.slice sa L sc) ks := by rw [← hL]; exact I
          rw [hL]
          clear hL hc he
          go_wp2_with fail
          refine (placeG I.T hol hn e.pb).mono ?_
          rintro e' w3 ⟨j, hj, rfl, rfl⟩
          go_wp2_with fail
          go_loopw [13, 14] (fun kn i wz => ∃ z : Nat, z ≤ L ∧ i = .int .i64 z ∧ KnI ks j z kn wz w3) (fun _ i _ => L - (intOf i).toNat)
          case atStart => exact ⟨0, Nat.zero_le _, rfl, by simp, rfl⟩
          case round =>
            obtain ⟨z, hzL, rfl, hkn1, hkn2⟩ := hrel
            subst hkn1
            subst hkn2
            by_cases hzl : z < L
            · have hzi : (z : Int) < L := by omega
              obtain ⟨y, hy⟩ : ∃ y, ks[z]? = some y := ⟨_, List.getElem?_eq_getElem (by rw [HL.out]; exact hzl)⟩
              have hrow := I.K.row
              rw [HL.out] at hrow
              obtain ⟨gs, cs, hgs, _⟩ := (row_nat hrow).resolve_left (fun q => by omega)
              obtain rfl : sa = some ⟨gs, 0, none⟩ := by injection hgs
              obtain rfl : sc = cs := by injection hgs
              clear hgs
              have zy : wr.cell? ⟨gs, z, none⟩ = some (.int .i64 (y : Nat)) := by
                rw [hrow.cellAt z (by omega), List.getElem?_map, hy]; rfl
              have hst : ks.take (z + 1) = ks.take z ++ [y] := by
                rw [List.take_succ_eq_append_getElem (by rw [HL.out]; exact hzl), (List.getElem?_eq_some_iff.1 hy).2]
              have HD : Hid (decide (j ∈ ks.take (z + 1)) = (decide (j ∈ ks.take z) || decide (y = j))) := by
                show decide (j ∈ ks.take (z + 1)) = _
                rw [hst]
                simp [eq_comm]
              clear hrow hst
              by_cases hk1 : j ∈ ks.take z
              · have hd1 : decide (j ∈ ks.take z) = true := decide_eq_true hk1
                rw [hd1]
                have HD2 : Hid (decide (j ∈ ks.take (z + 1)) = true) := HD.out.trans (by rw [hd1]; rfl)
                clear hd1
                go_wp2_with fail
                go_roundw
                case rel => exact ⟨z + 1, by omega, by go_num, by rw [HD2.out], rfl⟩
                case measure => simp [intOf]; omega
              · have hd1 : decide (j ∈ ks.take z) = false := decide_eq_false hk1
                rw [hd1]
                by_cases hyj : y = j
                · have hyi : (y : Int) = j := by omega
                  have HD2 : Hid (decide (j ∈ ks.take (z + 1)) = true) := HD.out.trans (by rw [hd1]; simp [hyj])
                  clear hd1
                  go_wp2_with fail
                  go_roundw
                  case rel => exact ⟨z + 1, by omega, by go_num, by rw [HD2.out], rfl⟩
                  case measure => simp [intOf]; omega
                · have hyi : ¬ (y : Int) = j := by omega
                  have HD2 : Hid (decide (j ∈ ks.take (z + 1)) = false) := HD.out.trans (by rw [hd1]; simp [hyj])
                  clear hd1
                  go_wp2_with fail
                  go_roundw
                  case rel => exact ⟨z + 1, by omega, by go_num, by rw [HD2.out]; simp; exact hyi, rfl⟩
                  case measure => simp [intOf]; omega
            · have hzi : ¬ (z : Int) < L := by omega
              have hkt : ks.take z = ks := List.take_of_length_le (by rw [HL.out]; omega)
              rw [hkt]
              obtain ⟨o, hoj⟩ : ∃ o, os[j]? = some o := ⟨_, List.getElem?_eq_getElem (by rw [hol]; exact hj)⟩
              obtain ⟨x9, hx9⟩ : ∃ x, xs[j]? = some x := ⟨_, List.getElem?_eq_getElem (by rw [hxl]; exact hj)⟩
              have hom := List.mem_of_getElem? hoj
              have hoo := hos o hom
              have hji : (j : Int) < t := by omega
              have hS1 : ∀ w'' : World, Tg w'' G tw d st sz (.slice (some ⟨go, 0, none⟩) t co) (.slice (some ⟨gw, 0, none⟩) t cw) os xs → Below wi.heap.size wi w'' → (w''.cell? ⟨tw, 3, none⟩ = some (.slice (some ⟨go, 0, none⟩) t co) ∧ w''.cell? ⟨go, j, none⟩ = some (.int .i64 (o : Nat)) ∧ w''.cell? ⟨ge, pe + q * 2 + 1, none⟩ = some (.slice e.da e.dn e.dc)) := fun w'' hT hb => ⟨(hT.cells hol hxl hj hoj hx9).c3, (hT.cells hol hxl hj hoj hx9).ck, hPc.out w'' hb⟩
              have dI := I.X.below (w' := wr.drew) ⟨rfl, rfl, rfl, Nat.le_refl _, fun _ _ => rfl⟩
              have dT := I.T.kp (Kp.below (w' := wr.drew) ⟨rfl, rfl, rfl, Nat.le_refl _, fun _ _ => rfl⟩)
              have dB : Below wi.heap.size wi wr.drew := Bq.trans ⟨rfl, rfl, rfl, Nat.le_refl _, fun _ _ => rfl⟩
              have k0 := hS1 _ dT dB
              have dL := PI.d.below dB (Nat.le_refl _)
              have hG9 := I.X.D.lt
              go_wp2_with fail
              by_cases hkn : j ∈ ks ∨ m.length < 24
              · have hrm : (lk m o).isSome = true ∨ m.length < 24 := hkn.imp (fun h => by obtain ⟨o', h1, h2⟩ := (I.kk j).1 h; rw [hoj] at h1; cases h1; exact h2) id
                go_region_held3 (fun w'' => w''.cell? ⟨tw, 3, none⟩ = some (.slice (some ⟨go, 0, none⟩) t co) ∧ w''.cell? ⟨go, j, none⟩ = some (.int .i64 (o : Nat)) ∧ w''.cell? ⟨ge, pe + q * 2 + 1, none⟩ = some (.slice e.da e.dn e.dc))
                  (first | exact k0 | exact ka | exact kb)
                  (first
                    | (go_at_call 28; refine (block7 e.da e.dn e.dc e.ds wr.drew PI.n dL).mono ?_; rintro e' wa ⟨ga, ca, rfl, oa, ba⟩; have Xa := dI.below ba; have Ta := dT.kp (Kp.below ba); have Ba := dB.trans (ba.mono dB.size); have ka := hS1 _ Ta Ba; have La : Lies wa (some ⟨ga, 0, none⟩) 512 ca (blkB e.ds) := Lies.owned oa; have hga : ¬ G ga := fun r => by { have h1 := hG9 ga r; have h3 := (oa.lt ga rfl).1; have h3 : wr.heap.size ≤ ga := h3; omega })
                    | (go_at_call 27; refine (Tx.write Xa ho h2 o hoo.1 hoo.2 (some ⟨ga, 0, none⟩) ca _ La (blkB_by PI.y) (fun ad e => by { cases e; exact hga }) hrm (by omega)).mono ?_; rintro e' wb ⟨gb, rfl, lgb, Xb, tb'⟩; have Kb : Kp G wa wb := Kp.turns tb' (fun x cs ty fz gx hx ht e => e.elim gx (fun e => mp_cells Xa.M hx e)); have Tb' := Ta.kp Kb; have Bb := Ba.trans (tb'.below (fun i r => r.elim (hGB i) (fun e => by omega)) Ba.size); have kb := hS1 _ Tb' Bb))
                clear k0 ka kb
                have Wb := ((I.W.kp (Kp.below (w' := wr.drew) ⟨rfl, rfl, rfl, Nat.le_refl _, fun _ _ => rfl⟩)).kp (Kp.below ba)).kp Kb
                have Nb := ((I.K.kp (Kp.below (w' := wr.drew) ⟨rfl, rfl, rfl, Nat.le_refl _, fun _ _ => rfl⟩)).kp (Kp.below ba)).kp Kb
                have sw := hB.size
                have sw2 := I.bw.size
                have Bb2 : Below wi.heap.size w wb := ((I.bw.trans (show Below wi.heap.size wr wr.drew from ⟨rfl, rfl, rfl, Nat.le_refl _, fun _ _ => rfl⟩)).trans (ba.mono (Nat.le_trans sw sw2))).trans (tb'.below (fun i r => r.elim (hGB i) (fun e => by omega)) (Nat.le_trans (Nat.le_trans sw sw2) ba.size))
                obtain ⟨y9, hy9⟩ : ∃ y, ys[j]? = some y := ⟨_, List.getElem?_eq_getElem (by rw [I.yl, hol]; exact hj)⟩
                clear Xa Ta Ba La ba oa tb' Kb dI dT dB dL
                by_cases hk2 : j ∈ ks
                · have hd2 : decide (j ∈ ks) = true := decide_eq_true hk2
                  rw [hd2]
                  have hlks : (lk m o).isSome = true := by
                    obtain ⟨o', h1, h3⟩ := (I.kk j).1 hk2
                    rw [hoj] at h1
                    cases h1
                    exact h3
                  have pL := PI.d.below Bb (Nat.le_refl _)
                  have kc0 := hPc.out _ Bb
                  have hGc := Xb.D.lt
                  go_wp2_with (go_at_call 15; refine (num7 _ _).mono ?_; rintro e' wn ⟨rfl, hwn⟩; subst wn)
                  refine (block7 e.da e.dn e.dc e.ds wb PI.n pL).mono ?_
                  rintro e' wc ⟨gc, cc, rfl, oc, bc⟩
                  have Xc := Xb.below bc
                  have Tc := Tb'.kp (Kp.below bc)
                  have Wc := Wb.kp (Kp.below bc)
                  have Nc := Nb.kp (Kp.below bc)
                  have sB2 := Bb2.size
                  have rc : wc.ownsRow 0 56 1 (.slice (some ⟨gn, 0, none⟩) t cn) t (ys.map It.val) := by
                    have := Wc.row
                    rwa [I.yl, hol] at this
                  have zf := rc.frozenAt j
                  have zc : wc.cell? ⟨gn, j, none⟩ = some (It.val y9) := by
                    rw [rc.cellAt j (by omega), List.getElem?_map, hy9]; rfl
                  have Ic : ItOk wc G ⟨gc, cc, blkB e.ds⟩ := ⟨own_zero oc, fun r => by have h1 := hGc gc r; have h3 := (oc.lt gc rfl).1; omega, blkB_by PI.y⟩
                  obtain ⟨X9, T9, W9, N9, t9⟩ := fill_put (j := j) Xc Tc Wc (by rw [I.yl, hol]) Nc (fun e9 => I.aw (by rw [e9]; rfl)) Ic
                  have lgn := I.ln gn rfl
                  have B92 : Below wi.heap.size w (wc.setCell ⟨gn, j, none⟩ (It.val ⟨gc, cc, blkB e.ds⟩)) := (Bb2.trans (bc.mono (Nat.le_trans hB.size sB2))).trans (t9.below (fun i e => by have := hB.size; omega) (Nat.le_trans (Nat.le_trans hB.size sB2) bc.size))
                  have HI9 : Hid (FlE wi.heap.size w (wc.setCell ⟨gn, j, none⟩ (.slice (some ⟨gc, 0, none⟩) 512 cc)) G d S k N jb st sz seq place free bm nd a fa tb wm sv last tw (.slice (some ⟨go, 0, none⟩) t co) (.slice (some ⟨gw, 0, none⟩) t cw) os xs (.slice (some ⟨gn, 0, none⟩) t cn) (.slice sa L sc) (q + 1)) := ⟨ns + 1, mput m o gb, updF f9 o (blkB e.ds), ys.set j ⟨gc, cc, blkB e.ds⟩, ks, ⟨X9, T9, W9, N9, by rw [List.length_set]; exact I.yl, put_seeG I.X.M.ris hnd I.see hoj ⟨gc, cc, blkB e.ds⟩, fun p hp => (mput_mem hp).elim (fun e9 => by rw [e9]; exact hom) (I.mo p), kk_put I.X.M.ris hnd I.kk hoj (fun i => ⟨Or.inl, fun r => r.elim id (fun e9 => by rw [e9]; exact hk2)⟩), I.kn, by rw [mput_len_old I.X.M.ris hlks]; exact I.kl, by rw [mput_len_old I.X.M.ris hlks]; exact I.few, I.aw, I.ln, HLS9.out, B92⟩, by omega⟩
                  clear kc0 X9 T9 W9 N9 t9 Xc Tc Wc Nc rc Ic oc bc pL B92 I
                  go_wp2_with fail
                  go_roundw
                  case rel => exact ⟨q + 1, by omega, by omega, by go_num, HI9.out⟩
                  case measure => simp [intOf]; omega
                · have hd2 : decide (j ∈ ks) = false := decide_eq_false hk2
                  rw [hd2]
                  have hm9 : m.length < 24 := hkn.resolve_left hk2
                  have hL9 : ¬ (24 : Int) ≤ L := by have := I.kl; have := HL.out; omega
                  have hlkn : lk m o = none := by
                    cases hq9 : lk m o with
                    | none => rfl
                    | some g => exact absurd ((I.kk j).2 ⟨o, hoj, by rw [hq9]; rfl⟩) hk2
                  have rN := Nb.row
                  rw [HL.out] at rN
                  have kB9 := hPc.out _ Bb
                  go_wp2_with (first
                    | (go_at_call 15; refine (num7 _ _).mono ?_; rintro e' wn ⟨rfl, hwn⟩; subst wn)
                    | (at_builtin; refine wpList_append_lies _ rfl _ _ 40 rfl 0 3 i0 (.int .i64 0) 1 8 Tryz.underlying40 hi hz0 hz1 hz2 rfl (by decide) (.slice sa L sc) L _ rfl (rN.alloc _) ⟨wb.heap.size, 0, none⟩ 1 1 [.int .i64 (j : Nat)] rfl rfl (cell_one7 _ _ _) (by intro u hu; simp at hu; subst hu; rfl) (by decide) (by unfold maxLen; omega) (by omega) (by omega) _ rfl ?_; intro g5 c5 w5 ho5 hg5 hat5 hlt5; have hA9 := fill_app Xb Tb' Wb Nb (fun b hb e9 => by { have h3 := HLS9.out b e9; have h4 := (T.o.row.lt b hb).2; omega }) HL.out ho5 hg5 hat5; have B5 : Below wi.heap.size wi w5 := Bb.trans (hA9.2.2.2.2.below (fun i r => by { have := HLS9.out i r; omega }) Bb.size); have kc5 := hPc.out _ B5))
                  obtain ⟨X5, T5, W5, N5, t5⟩ := hA9
                  have B52 : Below wi.heap.size w w5 := Bb2.trans (t5.below (fun i r => by have := HLS9.out i r; omega) (Nat.le_trans sw Bb2.size))
                  have ls5 : ∀ b, (Value.slice (some ⟨g5, 0, none⟩) (L + 1) c5).ownBlock = some b → w.heap.size ≤ b := fun b hb => by
                    have hb : some g5 = some b := hb
                    cases hb
                    rcases hat5 with e9 | e9
                    · exact HLS9.out _ e9
                    · rw [e9]
                      have := Bb2.size
                      simp
                      omega
                  have pL := PI.d.below B5 (Nat.le_refl _)
                  have kc0 := hPc.out _ B5
                  have hGc := X5.D.lt

                  refine (block7 e.da e.dn e.dc e.ds w5 PI.n pL).mono ?_
                  rintro e' wc ⟨gc, cc, rfl, oc, bc⟩
                  have Xc := X5.below bc
                  have Tc := T5.kp (Kp.below bc)
                  have Wc := W5.kp (Kp.below bc)
                  have Nc := N5.kp (Kp.below bc)
                  have sB2 := B52.size
                  have rc : wc.ownsRow 0 56 1 (.slice (some ⟨gn, 0, none⟩) t cn) t (ys.map It.val) := by
                    have := Wc.row
                    rwa [I.yl, hol] at this
                  have zf := rc.frozenAt j
                  have zc : wc.cell? ⟨gn, j, none⟩ = some (It.val y9) := by
                    rw [rc.cellAt j (by omega), List.getElem?_map, hy9]; rfl
                  have Ic : ItOk wc G ⟨gc, cc, blkB e.ds⟩ := ⟨own_zero oc, fun r => by have h1 := hGc gc r; have h3 := (oc.lt gc rfl).1; omega, blkB_by PI.y⟩
                  obtain ⟨X9, T9, W9, N9, t9⟩ := fill_put (j := j) Xc Tc Wc (by rw [I.yl, hol]) Nc (fun e9 => I.aw (by rw [e9]; rfl)) Ic
                  have lgn := I.ln gn rfl
                  have B92 : Below wi.heap.size w (wc.setCell ⟨gn, j, none⟩ (It.val ⟨gc, cc, blkB e.ds⟩)) := (B52.trans (bc.mono (Nat.le_trans hB.size sB2))).trans (t9.below (fun i e => by have := hB.size; omega) (Nat.le_trans (Nat.le_trans hB.size sB2) bc.size))
                  have HI9 : Hid (FlE wi.heap.size w (wc.setCell ⟨gn, j, none⟩ (.slice (some ⟨gc, 0, none⟩) 512 cc)) G d S k N jb st sz seq place free bm nd a fa tb wm sv last tw (.slice (some ⟨go, 0, none⟩) t co) (.slice (some ⟨gw, 0, none⟩) t cw) os xs (.slice (some ⟨gn, 0, none⟩) t cn) (.slice (some ⟨g5, 0, none⟩) (L + 1) c5) (q + 1)) := ⟨ns + 1, mput m o gb, updF f9 o (blkB e.ds), ys.set j ⟨gc, cc, blkB e.ds⟩, ks ++ [j], ⟨X9, T9, W9, N9, by rw [List.length_set]; exact I.yl, put_seeG I.X.M.ris hnd I.see hoj ⟨gc, cc, blkB e.ds⟩, fun p hp => (mput_mem hp).elim (fun e9 => by rw [e9]; exact hom) (I.mo p), kk_put I.X.M.ris hnd I.kk hoj (fun i => by rw [List.mem_append]; simp), List.nodup_append.2 ⟨I.kn, by simp, fun x hx y hy e9 => hk2 (by simp at hy; rw [← hy, ← e9]; exact hx)⟩, by rw [mput_len_new hlkn, List.length_append, I.kl]; rfl, by rw [mput_len_new hlkn]; omega, I.aw, I.ln, ls5, B92⟩, by omega⟩
                  clear kc0 X9 T9 W9 N9 t9 Xc Tc Wc Nc rc Ic oc bc pL B92 I
                  go_wp2_with fail
                  go_roundw
                  case rel => exact ⟨q + 1, by omega, by omega, by go_num, HI9.out⟩
                  case measure => simp [intOf]; omega
              · have hk2 : ¬ j ∈ ks := fun h => hkn (Or.inl h)
                have hm9 : m.length = 24 := by have := I.few; have : ¬ m.length < 24 := fun h => hkn (Or.inr h); omega
                have hlkn : lk m o = none := by
                  cases hq9 : lk m o with
                  | none => rfl
                  | some g => exact absurd ((I.kk j).2 ⟨o, hoj, by rw [hq9]; rfl⟩) hk2
                have hL9 : (24 : Int) ≤ L := by have := I.kl; have := HL.out; omega
                have hd2 : decide (j ∈ ks) = false := decide_eq_false hk2
                rw [hd2]
                go_region_held3 (fun w'' => w''.cell? ⟨tw, 3, none⟩ = some (.slice (some ⟨go, 0, none⟩) t co) ∧ w''.cell? ⟨go, j, none⟩ = some (.int .i64 (o : Nat)) ∧ w''.cell? ⟨ge, pe + q * 2 + 1, none⟩ = some (.slice e.da e.dn e.dc))
                  (first | exact k0 | exact ka | exact kb)
                  (first
                    | (go_at_call 28; refine (block7 e.da e.dn e.dc e.ds wr.drew PI.n dL).mono ?_; rintro e' wa ⟨ga, ca, rfl, oa, ba⟩; have Xa := dI.below ba; have Ta := dT.kp (Kp.below ba); have Ba := dB.trans (ba.mono dB.size); have ka := hS1 _ Ta Ba; have La : Lies wa (some ⟨ga, 0, none⟩) 512 ca (blkB e.ds) := Lies.owned oa; have hga : ¬ G ga := fun r => by { have h1 := hG9 ga r; have h3 := (oa.lt ga rfl).1; have h3 : wr.heap.size ≤ ga := h3; omega })
                    | (go_at_call 27; refine (Tx.big Xa ho h2 o hoo.1 hoo.2 (some ⟨ga, 0, none⟩) ca _ La (fun ad e => by { cases e; exact hga }) hlkn hm9).mono ?_; rintro e' wb ⟨rfl, qb⟩; have Tb' := Ta.kp (Kp.same qb.2); have Bb := Ba.trans (qb.2.below hGB Ba.size); have kb := hS1 _ Tb' Bb))
                clear k0 ka kb
                have sw := hB.size
                have sw2 := I.bw.size
                have Bb2 : Below wi.heap.size w wb := ((I.bw.trans (show Below wi.heap.size wr wr.drew from ⟨rfl, rfl, rfl, Nat.le_refl _, fun _ _ => rfl⟩)).trans (ba.mono (Nat.le_trans sw sw2))).trans (qb.2.below hGB (Nat.le_trans (Nat.le_trans sw sw2) ba.size))
                have HI9 : Hid (FlE wi.heap.size w wb G d S k N jb st sz seq place free bm nd a fa tb wm sv last tw (.slice (some ⟨go, 0, none⟩) t co) (.slice (some ⟨gw, 0, none⟩) t cw) os xs (.slice (some ⟨gn, 0, none⟩) t cn) (.slice sa L sc) (q + 1)) := ⟨ns, m, f9, ys, ks, { I with
                  X := Xa.same qb
                  T := Tb'
                  W := ((I.W.kp (Kp.below (w' := wr.drew) ⟨rfl, rfl, rfl, Nat.le_refl _, fun _ _ => rfl⟩)).kp (Kp.below ba)).kp (Kp.same qb.2)
                  K := ((I.K.kp (Kp.below (w' := wr.drew) ⟨rfl, rfl, rfl, Nat.le_refl _, fun _ _ => rfl⟩)).kp (Kp.below ba)).kp (Kp.same qb.2)
                  bw := Bb2 }, by omega⟩
                clear Xa Ta Ba La ba oa dI dT dB dL I qb Tb'
                go_wp2_with (go_at_call 15; refine (num7 _ _).mono ?_; rintro e' wn ⟨rfl, hwn⟩; subst wn)
                go_roundw
                case rel => exact ⟨q + 1, by omega, by omega, by go_num, HI9.out⟩
                case measure => simp [intOf]; omega
        · have hend : ¬ (q : Int) < np ∨ ((q : Int) < np ∧ ¬ (q : Int) < 60) := by omega
          rcases hend with hd | ⟨hd1, hd2⟩
          · go_wp2
            refine bodyPost_ret (results_tmp2 rfl _ _ _) rfl ?_
            exact ⟨ns, m, f9, _, ys, _, ks, rfl, I⟩
          · go_wp2
            refine bodyPost_ret (results_tmp2 rfl _ _ _) rfl ?_
            exact ⟨ns, m, f9, _, ys, _, ks, rfl, I⟩
end Go.Proofs.YtnmdnglbpkpfdaaGreatDoor
