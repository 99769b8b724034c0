/- A town of any shape: place, open, by their contracts. -/
import Derived.Test.YtnmdnglbpkpfdaaGreatDoorPk12
import Derived.Test.YtnmdnglbpkpfdaaGreatDoorPk13
import Derived.Test.YtnmdnglbpkpfdaaGreatDoorPk16
import Derived.Test.YtnmdnglbpkpfdaaGreatDoorPk17
namespace Go.Proofs.YtnmdnglbpkpfdaaGreatDoor
open Go.RowKit Go.Maps
set_option maxRecDepth 100000
theorem og_in {st sz k o : Nat} (h : o ∈ og st sz k) : o < k ∧ (o < st ∨ st + sz ≤ o) := by
  unfold og at h
  rw [List.mem_filter, List.mem_range] at h
  have := h.2
  unfold outBg at this
  simp at this
  exact ⟨h.1, this⟩
theorem og_has {st sz k o : Nat} (h1 : o < k) (h2 : o < st ∨ st + sz ≤ o) : o ∈ og st sz k := by
  unfold og
  rw [List.mem_filter, List.mem_range]
  refine ⟨h1, ?_⟩
  unfold outBg
  simp
  exact h2
theorem og_nodup (st sz k : Nat) : (og st sz k).Nodup := List.Pairwise.filter _ List.nodup_range
theorem og_pos {st sz k : Nat} (h1 : sz ≤ k - 1) (h3 : 1 ≤ k) : 0 < (og st sz k).length := by
  by_cases e : st = 0
  · exact List.length_pos_of_mem (og_has (o := k - 1) (by omega) (by omega))
  · exact List.length_pos_of_mem (og_has (o := 0) (by omega) (by omega))
theorem Tg.form {w : World} {G : Nat → Prop} {tw db st sz n : Nat} {ov wv : Value} {os : List Nat} {xs : List It} (h : Tg w G tw db st sz ov wv os xs) (ho : os.length = n) (hx : xs.length = n) (hn : 0 < n) : ∃ go co gw cw, ov = .slice (some ⟨go, 0, none⟩) n co ∧ wv = .slice (some ⟨gw, 0, none⟩) n cw := by
  have r1 := h.o.row
  rw [ho] at r1
  have r2 := h.x.row
  rw [hx] at r2
  obtain ⟨go, co, e1, _⟩ := (row_nat r1).resolve_left (fun q => by omega)
  obtain ⟨gw, cw, e2, _⟩ := (row_nat r2).resolve_left (fun q => by omega)
  exact ⟨go, co, gw, cw, e1, e2⟩
structure TgC (w : World) (tw n go co gw cw k o : Nat) (x : It) : Prop where
  c3 : w.cell? ⟨tw, 3, none⟩ = some (.slice (some ⟨go, 0, none⟩) n co)
  c4 : w.cell? ⟨tw, 4, none⟩ = some (.slice (some ⟨gw, 0, none⟩) n cw)
  ck : w.cell? ⟨go, k, none⟩ = some (.int .i64 (o : Nat))
  cx : w.cell? ⟨gw, k, none⟩ = some (.slice (some ⟨x.g, 0, none⟩) 512 x.cap)
theorem Tg.cells {w : World} {G : Nat → Prop} {tw db st sz n go co gw cw k o : Nat} {os : List Nat} {x : It} {xs : List It} (h : Tg w G tw db st sz (.slice (some ⟨go, 0, none⟩) n co) (.slice (some ⟨gw, 0, none⟩) n cw) os xs) (hol : os.length = n) (hx : xs.length = n) (hk : k < n) (ho : os[k]? = some o) (hxk : xs[k]? = some x) : TgC w tw n go co gw cw k o x := by
  have r1 := h.o.row
  rw [hol] at r1
  have r2 := h.x.row
  rw [hx] at r2
  refine ⟨by simp [World.cell?, h.box], by simp [World.cell?, h.box], ?_, ?_⟩
  · rw [r1.cellAt k (by omega), List.getElem?_map, ho]; rfl
  · rw [r2.cellAt k (by omega), List.getElem?_map, hxk]; rfl
set_option maxHeartbeats 1000000 in
theorem placeG {w : World} {G : Nat → Prop} {tw db st sz n : Nat} {ov wv : Value} {os : List Nat} {xs : List It} (h : Tg w G tw db st sz ov wv os xs) (ho : os.length = n) (hn : 0 < n ∧ n ≤ 4096) (b : Int) :
    Calls Tryz.prog 26 #[.pointer (some ⟨tw, 0, none⟩), .int .i64 b] w fun e w' => ∃ k : Nat, k < n ∧ e = .returned (.int .i64 k) ∧ w' = w := by
  have r := h.o.row
  rw [ho] at r
  obtain ⟨g, cap, rfl, _⟩ := (row_nat r).resolve_left (fun q => by omega)
  have y3 : w.cell? ⟨tw, 3, none⟩ = some (.slice (some ⟨g, 0, none⟩) n cap) := by simp [World.cell?, h.box]
  have hn0 : (0 : Int) < n := by omega
  have hn1 : (n : Int) ≤ 4096 := by omega
  have t1 : b.tmod (n : Int) < n := Int.tmod_lt_of_pos b hn0
  have t2 : -(n : Int) < b.tmod (n : Int) := Int.lt_tmod_of_pos b hn0
  have p1 : 0 ≤ (b.tmod (n : Int) + n) % (n : Int) := Int.emod_nonneg _ (by omega)
  have p2 : (b.tmod (n : Int) + n) % (n : Int) < n := Int.emod_lt_of_pos _ hn0
  obtain ⟨j, h6⟩ : ∃ j : Nat, (b.tmod (n : Int) + n) % (n : Int) = (j : Int) := ⟨_, (Int.toNat_of_nonneg p1).symm⟩
  have h5 : (b.tmod (n : Int) + n).tmod (n : Int) = (j : Int) := by rw [Int.tmod_eq_emod_of_nonneg (by omega)]; exact h6
  have hj : j < n := by omega
  clear r h ho p1 p2
  go_enter Tryz.func26, Tryz.ntmps26
  go_wp2_with fail
  go_ret
  exact ⟨j, hj, rfl, rfl⟩
theorem Calm.ck {S : DevS} (h : Calm S) (fa : Nat → List Int) (a : List (Nat × Nat)) (st : Nat) (seq : Int) (place : Nat) : Calm (ckS S fa a st seq place) := by
  have hh : ∀ i, Calm (homeS S fa a i) := fun i => by
    induction i with
    | zero => exact h
    | succ i ih => exact ih.burnt.wrote _ _
  exact ((((hh a.length).burnt.flushed).burnt.wrote _ _).burnt).flushed
theorem FK_calm (k st sz : Nat) : Calm (FK k st sz) := Calm.fmt ⟨rfl, rfl⟩ st sz
theorem Tg.to {w w' : World} {G G' : Nat → Prop} {tw db st sz : Nat} {ov wv : Value} {os : List Nat} {xs : List It} (h : Tg w G tw db st sz ov wv os xs) (k : Kp G w w') (hG : ∀ i, G' i → G i ∨ w.heap.size ≤ i) : Tg w' G' tw db st sz ov wv os xs := by
  have n : ∀ i, i < w.heap.size → ¬ G i → ¬ G' i := fun i hi hg r => (hG i r).elim hg (fun q => by omega)
  have T := h.kp k
  refine ⟨T.box, ⟨T.o.row, fun b hb => n b (h.o.row.lt b hb).2 (h.o.gr b hb)⟩, ⟨T.x.row, fun b hb => n b (h.x.row.lt b hb).2 (h.x.gr b hb), fun x hx => ?_⟩, n tw (heap_lt h.box) h.gt⟩
  have hI := h.x.it x hx
  exact ⟨(T.x.it x hx).own, n x.g (hI.own.lt x.g rfl).2 hI.ng, hI.by_⟩
/-- What Open leaves of a device with a journal. -/
structure OpG (w w' : World) (F : Nat → Prop) (tw db : Nat) (S : DevS) (k N st sz seq place : Nat) (ov wv : Value) (os : List Nat) (xs : List It) (T : List TxL) (jb bm : Nat) : Prop where
  ex : ∃ (S' : DevS) (N' : Nat) (G : Nat → Prop), Jn w' db S' k N' G jb st sz (seq : Int) place ((sz : Int) - 1) bm 0 [] (fun _ => []) ∧ Lg S' k st sz seq place ((sz : Int) - 1) [] seq place ∧ Calm S' ∧ N' ≤ N + 4097 ∧ (∀ b, b < k → (b < st ∨ st + sz ≤ b) → rdB S' b = (ovl T b).getD (rdB S b)) ∧ (∀ i, G i → F i ∨ w.heap.size ≤ i) ∧ Tg w' G tw db st sz ov wv os xs
  tr : Turns F w w'
set_option maxHeartbeats 2000000 in
theorem openG {w : World} {k N : Nat} {S : DevS} {F : Nat → Prop} {tw db st sz seq place : Nat} {free : Int} {T : List TxL} {seq0 place0 : Nat} {ov wv : Value} {os : List Nat} {xs : List It} {er : Nat → Addr} (t : Tg w F tw db st sz ov wv os xs) (hD : Dev w db 0 S k N F) (hLg : Lg S k st sz seq place free T seq0 place0) (hC : Calm S) (hN : N ≤ 900000000) (hs : seq ≤ 4611686018427387904) (hEF : ∀ w', Turns F w w' → Errs w' er) :
    Calls Tryz.prog 11 #[.pointer (some ⟨tw, 0, none⟩)] w fun e w' => ∃ jb bm, e = .returned (.tuple #[.pointer (some ⟨jb, 0, none⟩), .int .i64 T.length, .int .i64 0]) ∧ w.heap.size ≤ jb ∧ w.heap.size ≤ bm ∧ OpG w w' F tw db S k N st sz seq place ov wv os xs T jb bm := by
  have dr : Turns F w w.drew := Turns.drewN F w 1
  have hDd : Dev w.drew db 0 S k N F := hD.below ⟨rfl, rfl, rfl, Nat.le_refl _, fun _ _ => rfl⟩
  have hcs : ∀ w' : World, w'.heap[tw]? = w.heap[tw]? → w'.cell? ⟨tw, 0, none⟩ = some (.pointer (some ⟨db, 0, none⟩)) ∧ w'.cell? ⟨tw, 1, none⟩ = some (.int .i64 (st : Nat)) ∧ w'.cell? ⟨tw, 2, none⟩ = some (.int .i64 (sz : Nat)) := fun w' e => by
    rw [t.box] at e
    exact ⟨by simp [World.cell?, e], by simp [World.cell?, e], by simp [World.cell?, e]⟩
  have k0 := hcs w.drew rfl
  have hq0 := hLg.q0
  have hq1 := hLg.q1
  have hp0 := hLg.p0
  have hz1 := hLg.s1
  have hz2 := hLg.s2
  have htop := hLg.good.top
  have hb := head_back seq0 place0 ((sz : Int) - 1) hq0 (by omega) (by omega) (by omega)
  have mO := open_log hDd st sz hz1 hz2 (fun w' t' => hEF w' (dr.trans t' (fun _ _ h => h))) seq0 place0 (by rw [hLg.head]; exact ⟨hb.1, hb.2.1⟩) (by rw [hLg.head]; exact hb.2.2) (by omega) (hLg.log hs) (by omega) (hC.lasts _) hN (fun b hb' => hLg.good.reads7 b hb')
  have HX : Hid (∀ w1 e, OpenR w.drew w1 F db S k N st sz seq0 place0 T e → ∃ jb bm, e = .returned (.tuple #[.pointer (some ⟨jb, 0, none⟩), .int .i64 T.length, .int .i64 0]) ∧ w.heap.size ≤ jb ∧ w.heap.size ≤ bm ∧ OpG w w1 F tw db S k N st sz seq place ov wv os xs T jb bm) := by
    rintro w1 e ⟨jb, bm, S', N', rfl, lj, lb, hN', hcase, J, M, ⟨G, D, hG, gj, gb⟩, t1⟩
    replace t1 := dr.trans t1 (fun _ _ h => h)
    refine ⟨jb, bm, rfl, lj, lb, ⟨S', N', G, ⟨D, ?_, M, (fun p hp => by cases hp), gj, gb, (fun p hp => by cases hp), fun e => mp_cells M J e⟩, ?_, ?_, hN', ?_, hG, t.to (Kp.same t1) hG⟩, t1⟩
    · rw [show (seq : Int) = (seq0 : Int) + T.length by omega, hLg.p1]
      exact J
    · rcases hcase with ⟨rfl, rfl⟩ | ⟨a, fa, q1, q2, q3, q4, q5, rfl⟩
      · have e1 : seq = seq0 := by simpa using hq1
        have e2 : place = place0 := hLg.p1
        have e3 : free = (sz : Int) - 1 := by have := hLg.fr; simp [strm] at this; exact this
        subst e1 e2 e3
        exact hLg
      · rw [show (seq0 : Int) + T.length = (seq : Int) by omega, ← hLg.p1]
        exact hLg.ck q2 q3 q5
    · rcases hcase with ⟨rfl, rfl⟩ | ⟨a, fa, q1, q2, q3, q4, q5, rfl⟩
      · exact hC
      · exact hC.ck _ _ _ _ _
    · intro b hb1 hb2
      rcases hcase with ⟨rfl, rfl⟩ | ⟨a, fa, q1, q2, q3, q4, q5, rfl⟩
      · rfl
      · rw [(rdB_ck hLg.good (by omega) q2 (fun p hp => (q3 p hp).1) q5).1, if_neg (by omega), ← q4 b]
        by_cases q : b ∈ a.map (·.1)
        · have := lk_keys.2 q
          obtain ⟨g, hg⟩ := Option.isSome_iff_exists.1 this
          rw [if_pos q, hg]
          rfl
        · have : lk a b = none := by
            cases r : lk a b with
            | none => rfl
            | some g => exact absurd (lk_keys.1 (by rw [r]; rfl)) q
          rw [if_neg q, this]
          rfl
  go_enter Tryz.func11, Tryz.ntmps11
  go_wp2_with fail
  go_region_held3 (fun w' => w'.cell? ⟨tw, 0, none⟩ = some (.pointer (some ⟨db, 0, none⟩)) ∧ w'.cell? ⟨tw, 1, none⟩ = some (.int .i64 (st : Nat)) ∧ w'.cell? ⟨tw, 2, none⟩ = some (.int .i64 (sz : Nat)))
    (first | exact k0 | exact k1)
    (first
      | (go_at_call 48; refine mO.mono ?_; rintro e w1 hR; have t1 : Turns F w w1 := (by { obtain ⟨_, _, _, _, _, _, _, _, _, _, _, _, t1⟩ := hR; exact dr.trans t1 (fun _ _ h => h) }); obtain ⟨jb, bm, rfl, lj, lb, hO⟩ := HX.out w1 e hR; have k1 := hcs w1 (t1.block tw (heap_lt t.box) t.gt)))
  clear hR HX mO
  go_wp2_with (go_at_call 15; refine (num7 _ _).mono ?_; rintro e wn ⟨rfl, hwn⟩; subst wn)
  all_goals refine bodyPost_ret (results_tmp3 rfl _ _ _) rfl ?_
  exact ⟨jb, bm, rfl, lj, lb, hO⟩
end Go.Proofs.YtnmdnglbpkpfdaaGreatDoor

/- holds of a town of any shape. -/
namespace Go.Proofs.YtnmdnglbpkpfdaaGreatDoor
open Go.RowKit Go.Maps
set_option maxRecDepth 100000
set_option maxHeartbeats 2000000 in
theorem holdsG {w : World} {S : DevS} {k9 N st sz n : Nat} {G : Nat → Prop} {jb : Nat} {seq : Int} {place : Nat} {free : Int} {bm nd : Nat} {a : List (Nat × Nat)} {fa : Nat → List Int} {tw db : Nat} {ov wv : Value} {os : List Nat} {xs : List It} (h : Jn w db S k9 N G jb st sz seq place free bm nd a fa) (ho : S.off = false) (t : Tg w G tw db st sz ov wv os xs) (hol : os.length = n) (hx : xs.length = n) (hn : 0 < n ∧ n ≤ 4096) (h2 : st + sz ≤ k9) (hos : ∀ o ∈ os, o < k9 ∧ (o < st ∨ st + sz ≤ o)) (hxo : ∀ (k o : Nat) (x : It), os[k]? = some o → xs[k]? = some x → x.bs = seesF S [] fa a fa o) {B : Nat} (hB : B ≤ w.heap.size) (hGB : ∀ i, G i → B ≤ i) (hjB : B ≤ jb) :
    Calls Tryz.prog 22 #[.pointer (some ⟨tw, 0, none⟩), .pointer (some ⟨jb, 0, none⟩)] w fun e w' => e = .returned (.bool true) ∧ Below B w w' ∧ Jn w' db S k9 N G jb st sz seq place free bm nd a fa ∧ Tg w' G tw db st sz ov wv os xs := by
  have hn0 : 0 < n := hn.1
  have hni : (n : Int) ≤ 4096 := by omega
  obtain ⟨go, co, gw, cw, rfl, rfl⟩ := t.form hol hx hn.1
  go_enter Tryz.func22, Tryz.ntmps22
  go_wp2_with fail
  refine (Tx.begin h ho fa).mono ?_
  rintro e w1 ⟨tb, wm, rfl, l1, l2, X1, t1⟩
  have T1 := t.kp (Kp.turns t1 (fun x cs ty fz g hx ht e => e.elim g (jty_jb h.J hx ht)))
  have B1 : Below B w w1 := t1.below (fun i r => r.elim (hGB i) (fun e => by omega)) hB
  clear t1 t h
  go_wp2_with fail
  go_loopw [6] (fun i wr => ∃ k : Nat, k ≤ n ∧ i = .int .i64 k ∧ Tx wr db S k9 N G jb st sz seq place free bm nd a fa tb wm 0 [] fa (.slice none 0 0) 0 ∧ Tg wr G tw db st sz (.slice (some ⟨go, 0, none⟩) n co) (.slice (some ⟨gw, 0, none⟩) n cw) os xs ∧ Below B w wr) (fun i _ => n - (intOf i).toNat)
  case atStart => exact ⟨0, by omega, rfl, X1, T1, B1⟩
  case round =>
    clear X1 T1
    obtain ⟨k, hk, rfl, X, T, Br⟩ := hrel
    have sB := Br.size
    by_cases hlt : k < n
    · obtain ⟨o, hok⟩ : ∃ o, os[k]? = some o := ⟨_, List.getElem?_eq_getElem (by rw [hol]; exact hlt)⟩
      obtain ⟨x, hxk⟩ : ∃ x, xs[k]? = some x := ⟨_, List.getElem?_eq_getElem (by rw [hx]; exact hlt)⟩
      have HX : Hid (x.bs = seesF S [] fa a fa o) := hxo k o x hok hxk
      have HO : Hid (o < k9 ∧ (o < st ∨ st + sz ≤ o)) := hos o (List.mem_of_getElem? hok)
      obtain ⟨y3, _, yk, _⟩ := T.cells hol hx hlt hok hxk
      have hki : (k : Int) < n := by omega
      have hI := T.x.it x (List.mem_of_getElem? hxk)
      have hlen := hI.len
      go_wp2_with fail
      refine (Tx.read X ho (by omega) o HO.out.1 HO.out.2 (by rw [← HX.out]; exact hlen)).mono ?_
      rintro e w2 ⟨g2, rfl, lg2, h2, X2, t2⟩
      have T2 := T.kp (Kp.same t2)
      have B2 := Br.trans (t2.below hGB (by omega))
      have sB2 := B2.size
      obtain ⟨y3', y4, _, yx⟩ := T2.cells hol hx hlt hok hxk
      rw [← HX.out] at h2
      have Lx : Lies w2 (some ⟨x.g, 0, none⟩) 512 x.cap x.bs := (T2.x.it x (List.mem_of_getElem? hxk)).lies
      clear T X t2 y3 yk hI
      go_wp2_with fail
      refine (same7 (some ⟨g2, 0, none⟩) (some ⟨x.g, 0, none⟩) 512 x.cap x.bs w2 (Lies.full h2 hlen) Lx).mono ?_
      rintro e w3 ⟨rfl, b3⟩
      have X3 := X2.below b3
      have T3 := T2.kp (Kp.below b3)
      have B3 := B2.trans (b3.mono (by omega))
      clear X2 T2 b3 h2 Lx y3' y4 yx
      go_wp2_with (go_at_call 15; refine (num7 _ _).mono ?_; rintro e wn ⟨rfl, hwn⟩; subst wn)
      go_roundw
      case rel => exact ⟨k + 1, by omega, by simp, X3, T3, B3⟩
      case measure => simp [intOf]; omega
    · have y3 : wr.cell? ⟨tw, 3, none⟩ = some (.slice (some ⟨go, 0, none⟩) n co) := by simp [World.cell?, T.box]
      have hkn : ¬ (k : Int) < n := by omega
      go_wp2_with fail
      refine (Tx.drop X).mono ?_
      rintro e w2 ⟨rfl, _, J2, t2⟩
      have T2 := T.kp (Kp.turns t2 (fun x cs ty fz g hx ht e => by
        rcases e with e | e
        · exact jty_tb X.T hx ht e
        · exact jty_jb X.J hx ht e))
      have B2 := Br.trans (t2.below (fun i r => by rcases r with e | e <;> omega) (by omega))
      go_wp2_with fail
      go_ret
      exact ⟨rfl, B2, J2, T2⟩
end Go.Proofs.YtnmdnglbpkpfdaaGreatDoor

/- A transaction that is full: Write by its contract. -/
namespace Go.Proofs.YtnmdnglbpkpfdaaGreatDoor
open Go.RowKit Go.Maps
set_option maxRecDepth 100000
set_option maxHeartbeats 2000000 in
theorem txWrite_big {w : World} {d : Nat} {S : DevS} {k N n : Nat} {G : Nat → Prop} (hD : Dev w d 0 S k N G) {jb st sz tb wm : Nat} {seq place free last : Int} {bm : Nat} {sv : Value} {m : List (Nat × Nat)} (hJ : Jb w jb d st sz seq place free bm (some tb)) (hT : Tb w tb jb wm sv last) (hM : Mp w wm n m) (hjG : ¬ G jb) (htG : ¬ G tb) (hmG : ¬ G wm) (ho : S.off = false) (hst : st + sz ≤ k)
    (b : Nat) (hb : b < k) (hout : b < st ∨ st + sz ≤ b) (ao : Option Addr) (c : Nat) (ds : List Int) (hL : Lies w ao 512 c ds) (haG : ∀ ad, ao = some ad → ¬ G ad.block) (hlk : lk m b = none) (hfull : m.length = 24) :
    Calls Tryz.prog 27 #[.pointer (some ⟨tb, 0, none⟩), .int .i64 b, .slice ao 512 c] w fun e w' => e = .returned (.int .i64 72) ∧ Same0 w w' d S k N G := by
  obtain ⟨c0, c1, c2, c3, c4, c5, c6, c7, c8, fz⟩ := hJ.cells
  obtain ⟨t0, t1, t2, t3, tz⟩ := hT.cells
  have hk := hD.good.top
  have hoB : outB k st sz b = true := by simp [outB]; omega
  go_enter Tryz.func27, Tryz.ntmps27
  go_wp2_with fail
  have m1 := outside_any hD st sz (by omega) (by omega) b
  rw [hoB] at m1
  refine m1.mono ?_
  rintro e w1 ⟨rfl, q1⟩
  have J1 : Jb w1 jb d st sz seq place free bm (some tb) := (q1.2.block jb (heap_lt hJ) hjG).trans hJ
  have T1 : Tb w1 tb jb wm sv last := (q1.2.block tb (heap_lt hT) htG).trans hT
  have M1 := hM.turns q1.2 hmG
  have L1 := hL.turns q1.2 haG
  clear c0 c1 c2 c3 c4 c5 c6 c7 c8 fz t0 t1 t2 t3 tz m1
  go_wp2_with fail
  refine (power_ok q1.1 J1 ho).mono ?_
  rintro e w2 ⟨rfl, q2⟩
  have T2 : Tb w2 tb jb wm sv last := (q2.2.block tb (heap_lt T1) htG).trans T1
  have M2 := M1.turns q2.2 hmG
  have L2 := L1.turns q2.2 haG
  obtain ⟨t0, t1, t2, t3, tz⟩ := T2.cells
  have hlo := M2.look b (by omega)
  have hown := M2.own
  have hsz : (Maps.size (mD m) : Int) = (m.length : Int) := by simp [mD, Maps.size_eq]
  have hln := fun ty => hown.len Tryz.underlying99 ty
  simp only [hsz] at hln
  have hq : Same0 w w2 d S k N G := ⟨q2.1, q1.2.trans q2.2 (fun _ _ h => h)⟩
  rw [hlk] at hlo
  rw [hfull] at hln
  clear T2 M2 L2 hown hsz J1 T1 M1 L1 q1 q2
  go_wp2
  go_ret
  exact ⟨rfl, hq⟩
theorem Tx.big {w : World} {d : Nat} {S : DevS} {k N : Nat} {G : Nat → Prop} {jb st sz : Nat} {seq : Int} {place : Nat} {free : Int} {bm nd : Nat} {a : List (Nat × Nat)} {fa : Nat → List Int} {tb wm ns : Nat} {m : List (Nat × Nat)} {f : Nat → List Int} {sv : Value} {last : Int} (h : Tx w d S k N G jb st sz seq place free bm nd a fa tb wm ns m f sv last) (ho : S.off = false) (hst : st + sz ≤ k) (b : Nat) (hb : b < k) (hout : b < st ∨ st + sz ≤ b) (ao : Option Addr) (c : Nat) (ds : List Int) (hL : Lies w ao 512 c ds) (haG : ∀ ad, ao = some ad → ¬ G ad.block) (hlk : lk m b = none) (hfull : m.length = 24) :
    Calls Tryz.prog 27 #[.pointer (some ⟨tb, 0, none⟩), .int .i64 b, .slice ao 512 c] w fun e w' => e = .returned (.int .i64 72) ∧ Same0 w w' d S k N G :=
  txWrite_big h.D h.J h.T h.M h.gj h.gt h.gm ho hst b hb hout ao c ds hL haG hlk hfull
end Go.Proofs.YtnmdnglbpkpfdaaGreatDoor

/- Puts that came in; what a fill's loop holds. -/
namespace Go.Proofs.YtnmdnglbpkpfdaaGreatDoor
open Go.RowKit Go.Maps
set_option maxRecDepth 100000
/-- A put that came in. -/
structure Pt where
  pb : Int
  da : Option Addr
  dn : Nat
  dc : Nat
  ds : List Int
def Pt.cells (e : Pt) : List Value := [.int .i64 e.pb, .slice e.da e.dn e.dc]
structure PtIn (w : World) (e : Pt) : Prop where
  d : Lies w e.da e.dn e.dc e.ds
  y : ∀ x ∈ e.ds, 0 ≤ x ∧ x ≤ 255
  n : e.dn ≤ 140737488355328
structure PtLies (w : World) (ao : Option Addr) (n : Nat) (ps : List Pt) : Prop where
  hlen : ps.length = n
  hcells : ∀ (j : Nat) e, ps[j]? = some e → PtIn w e ∧ ∃ g p, ao = some ⟨g, p, none⟩ ∧ ∀ t v, e.cells[t]? = some v → w.cell? ⟨g, p + j * 2 + t, none⟩ = some v
/-- What fill holds: the transaction, the town, the next contents, the places that were written. -/
structure FlI (B : Nat) (w0 wr : World) (G : Nat → Prop) (d : Nat) (S : DevS) (k N jb st sz : Nat) (seq : Int) (place : Nat) (free : Int) (bm nd : Nat) (a : List (Nat × Nat)) (fa : Nat → List Int) (tb wm : Nat) (sv : Value) (last : Int) (tw : Nat) (ov wv : Value) (os : List Nat) (xs : List It) (ns : Nat) (m : List (Nat × Nat)) (f : Nat → List Int) (nv : Value) (ys : List It) (sn : Value) (ks : List Nat) : Prop where
  X : Tx wr d S k N G jb st sz seq place free bm nd a fa tb wm ns m f sv last
  T : Tg wr G tw d st sz ov wv os xs
  W : Wt wr G nv ys
  K : Ns wr G sn ks
  yl : ys.length = os.length
  see : ∀ (i o : Nat) (x : It), os[i]? = some o → ys[i]? = some x → x.bs = seesF S m f a fa o
  mo : ∀ p ∈ m, p.1 ∈ os
  kk : ∀ j, j ∈ ks ↔ ∃ o, os[j]? = some o ∧ (lk m o).isSome = true
  kn : ks.Nodup
  kl : ks.length = m.length
  few : m.length ≤ 24
  aw : wv.ownBlock ≠ nv.ownBlock
  ln : ∀ b, nv.ownBlock = some b → w0.heap.size ≤ b
  ls : ∀ b, sn.ownBlock = some b → w0.heap.size ≤ b
  bw : Below B w0 wr
  tr : Turns (fun i => G i ∨ i = wm) w0 wr
/-- Whether the place j is among the first z. -/
structure KnI (ks : List Nat) (j z : Nat) (kn : Value) (wz w3 : World) : Prop where
  k : kn = .bool (decide (j ∈ ks.take z))
  w : wz = w3
/-- The same, some numbers of it unnamed. -/
structure FlE (B : Nat) (w0 wr : World) (G : Nat → Prop) (d : Nat) (S : DevS) (k N jb st sz : Nat) (seq : Int) (place : Nat) (free : Int) (bm nd : Nat) (a : List (Nat × Nat)) (fa : Nat → List Int) (tb wm : Nat) (sv : Value) (last : Int) (tw : Nat) (ov wv : Value) (os : List Nat) (xs : List It) (nv sn : Value) (t : Nat) : Prop where
  ex : ∃ ns m f ys ks, FlI B w0 wr G d S k N jb st sz seq place free bm nd a fa tb wm sv last tw ov wv os xs ns m f nv ys sn ks ∧ ns ≤ t
/-- What fill answers. -/
structure FillR (B : Nat) (w0 wr : World) (G : Nat → Prop) (d : Nat) (S : DevS) (k N jb st sz : Nat) (seq : Int) (place : Nat) (free : Int) (bm nd : Nat) (a : List (Nat × Nat)) (fa : Nat → List Int) (tb wm : Nat) (sv : Value) (last : Int) (tw : Nat) (ov wv : Value) (os : List Nat) (xs : List It) (e : Ending) : Prop where
  ex : ∃ ns m f nv ys sn ks, e = .returned (.tuple #[nv, .bool true]) ∧ FlI B w0 wr G d S k N jb st sz seq place free bm nd a fa tb wm sv last tw ov wv os xs ns m f nv ys sn ks
end Go.Proofs.YtnmdnglbpkpfdaaGreatDoor

/- JournalSaves: what its loop holds. -/
namespace Go.Proofs.YtnmdnglbpkpfdaaGreatDoor
open Go.RowKit Go.Maps
set_option maxRecDepth 100000
theorem Wt.form {w : World} {G : Nat → Prop} {v : Value} {xs : List It} (h : Wt w G v xs) (hx : xs.length = 10) : ∃ g c, v = .slice (some ⟨g, 0, none⟩) 10 c := by
  have r := h.row
  rw [hx] at r
  obtain ⟨g, c, e, _⟩ := (row_nat r).resolve_left (fun q => by cases q.2)
  exact ⟨g, c, e⟩
/-- A state of the statement's: its mark, its two lists. -/
structure St where
  mark : Nat
  v : Value
  u : Value
  xs : List It
def St.cells (s : St) : List Value := [.int .i64 (s.mark : Nat), s.v, s.u]
def stC (l : List St) : List Value := l.flatMap St.cells
/-- It is as a transaction is that has written so much. -/
structure StOk (w : World) (G : Nat → Prop) (s : St) (m : List (Nat × Nat)) (f : Nat → List Int) : Prop where
  x : Wt w G s.v s.xs
  len : s.xs.length = 10
  n : Ns w G s.u (m.map (·.1))
  see : ∀ (k o : Nat) (x : It), (outs 40)[k]? = some o → s.xs[k]? = some x → x.bs = seesF F40 m f [] (fun _ => []) o
theorem StOk.kp {w w' : World} {G : Nat → Prop} {s : St} {m : List (Nat × Nat)} {f : Nat → List Int} (h : StOk w G s m f) (k : Kp G w w') : StOk w' G s m f := ⟨h.x.kp k, h.len, h.n.kp k, h.see⟩
/-- What the loop holds, but for the state itself. -/
structure SvY (B : Nat) (w : World) (G : Nat → Prop) (jb bm tb db q N K : Nat) (wv svv : Value) (la wm ns : Nat) (m : List (Nat × Nat)) (f : Nat → List Int) (sv : Value) (l : List SvI) (s : St) (ss : List St) : Prop where
  X : Tx w db F40 40 N G jb 2 30 1 0 29 bm 0 [] (fun _ => []) tb wm ns m f sv (la : Int)
  V : Svs w G tb wm sv l la
  box : w.heap[q]? = some (.cells #[.int .i64 0, s.v, s.u] 54)
  gq : ¬ G q
  mo : ∀ p ∈ m, p.1 ∈ outs 40
  row : w.ownsRow 0 54 3 svv ss.length (stC ss)
  gr : ∀ b, svv.ownBlock = some b → ¬ G b
  len : ss.length = l.length
  all : ∀ (i : Nat) t e, ss[i]? = some t → l[i]? = some e → t.mark = e.mark ∧ StOk w G t e.m e.f ∧ (∀ p ∈ e.m, p.1 ∈ outs 40) ∧ e.hn ≤ K
  ap : ∀ t ∈ ss, t.v.ownBlock ≠ s.v.ownBlock
  aw : wv.ownBlock ≠ s.v.ownBlock
  qs : svv.ownBlock ≠ some q
  lw : B ≤ wm
  lv : ∀ b, sv.ownBlock = some b → B ≤ b
  ls : ∀ b, s.v.ownBlock = some b → B ≤ b
  lr : ∀ b, svv.ownBlock = some b → B ≤ b
  kn : ns ≤ K ∧ la ≤ K ∧ l.length ≤ K
section
variable {B : Nat} {w w' : World} {G : Nat → Prop} {jb bm tb db q N K : Nat} {wv svv : Value} {la wm ns : Nat} {m : List (Nat × Nat)} {f : Nat → List Int} {sv : Value} {l : List SvI} {s : St} {ss : List St}
/-- The statement's own part, where it is kept. -/
theorem SvY.kept (h : SvY B w G jb bm tb db q N K wv svv la wm ns m f sv l s ss) (k : Kp G w w') {wm' ns' la' : Nat} {m' : List (Nat × Nat)} {f' : Nat → List Int} {sv' : Value} (X' : Tx w' db F40 40 N G jb 2 30 1 0 29 bm 0 [] (fun _ => []) tb wm' ns' m' f' sv' (la' : Int)) (V' : Svs w' G tb wm' sv' l la') (mo' : ∀ p ∈ m', p.1 ∈ outs 40) (lw' : B ≤ wm') (lv' : ∀ b, sv'.ownBlock = some b → B ≤ b) {K' : Nat} (hK : K ≤ K') (kn' : ns' ≤ K' ∧ la' ≤ K' ∧ l.length ≤ K') : SvY B w' G jb bm tb db q N K' wv svv la' wm' ns' m' f' sv' l s ss :=
  ⟨X', V', k.block _ _ _ _ h.gq h.box (by decide), h.gq, mo', k.row h.row (by decide) h.gr, h.gr, h.len, fun i t e ht he => by
    obtain ⟨a, b, c, d⟩ := h.all i t e ht he
    exact ⟨a, b.kp k, c, by omega⟩, h.ap, h.aw, h.qs, lw', lv', h.ls, h.lr, kn'⟩
theorem SvY.same (h : SvY B w G jb bm tb db q N K wv svv la wm ns m f sv l s ss) (r : Same0 w w' db F40 40 N G) : SvY B w' G jb bm tb db q N K wv svv la wm ns m f sv l s ss :=
  h.kept (Kp.same r.2) (h.X.same r) (h.V.same r.2) h.mo h.lw h.lv (Nat.le_refl _) h.kn
theorem SvY.below (h : SvY B w G jb bm tb db q N K wv svv la wm ns m f sv l s ss) (b : Below w.heap.size w w') : SvY B w' G jb bm tb db q N K wv svv la wm ns m f sv l s ss :=
  h.same ⟨h.X.D.below b, Below.turns b G⟩
/-- Behind a Write. -/
theorem SvY.wrote (h : SvY B w G jb bm tb db q N K wv svv la wm ns m f sv l s ss) {b g : Nat} {ds : List Int} (X' : Tx w' db F40 40 N G jb 2 30 1 0 29 bm 0 [] (fun _ => []) tb wm (ns + 1) (mput m b g) (updF f b ds) sv (la : Int)) (t : Turns (fun i => G i ∨ i = wm) w w') (ho : b ∈ outs 40) : SvY B w' G jb bm tb db q N (K + 1) wv svv la wm (ns + 1) (mput m b g) (updF f b ds) sv l s ss :=
  h.kept (Kp.turns t (fun x cs ty fz gx hx ht e => e.elim gx (fun e => mp_cells h.X.M hx e))) X' (h.V.step h.X.M t) (fun p hp => (mput_mem hp).elim (fun e => by rw [e]; exact ho) (h.mo p)) h.lw h.lv (by omega) (by have := h.kn; omega)
end
/-- A block of another type has turned: the transaction and its savepoints stay. -/
theorem Tx.turn1 {w w' : World} {d : Nat} {S : DevS} {k N : Nat} {G : Nat → Prop} {jb st sz : Nat} {seq : Int} {place : Nat} {free : Int} {bm nd : Nat} {a : List (Nat × Nat)} {fa : Nat → List Int} {tb wm ns : Nat} {m : List (Nat × Nat)} {f : Nat → List Int} {sv : Value} {last : Int} (h : Tx w d S k N G jb st sz seq place free bm nd a fa tb wm ns m f sv last) {g : Nat} {cs : Array Value} {t : Nat} {fz : Nat × Nat} (hg : w.heap[g]? = some (.cells cs t fz)) (ht : t ∉ jty) (hu : t ≠ 5) (gG : ¬ G g) (u : Turns (fun i => i = g) w w') : Tx w' d S k N G jb st sz seq place free bm nd a fa tb wm ns m f sv last := by
  have hb : ∀ (x : Nat) (ys : List Int), w.heap[x]? = some (bl ys) → ¬ x = g := fun x ys hx e => by
    rw [e, hg] at hx
    simp [bl] at hx
    exact hu hx.2.1
  exact h.move u (fun i hi e => gG (e ▸ hi)) (fun e => jty_jb h.J hg ht e.symm) (fun e => mp_cells h.A hg e.symm) (fun e => mp_cells h.M hg e.symm) (fun p hp => hb _ _ (h.V p hp).1) (fun p hp => hb _ _ (h.VA p hp).1) ((u.block tb (heap_lt h.T) (fun e => jty_tb h.T hg ht e.symm)).trans h.T)
theorem Svs.turn1 {w w' : World} {G : Nat → Prop} {tb wm : Nat} {sv : Value} {l : List SvI} {la : Nat} (h : Svs w G tb wm sv l la) {g : Nat} {cs : Array Value} {t : Nat} {fz : Nat × Nat} (hg : w.heap[g]? = some (.cells cs t fz)) (ht : t ∉ jty) (hu : t ≠ 5) (h1 : t ≠ 99) (h2 : t ≠ 31) (u : Turns (fun i => i = g) w w') : Svs w' G tb wm sv l la := by
  have hx : ∀ (x : Nat) (c : Array Value) (t' : Nat), w.heap[x]? = some (.cells c t') → t ≠ t' → ¬ x = g := fun x c t' hx n e => by
    rw [e, hg] at hx
    simp at hx
    exact n hx.2.1
  exact h.turns u (fun b hb e => own_typeJ h.row hg (fun q => ht (by simp [q])) (by rw [hb, e])) (fun s hs => ⟨hx _ _ _ (h.sp s hs).h h1, hx _ _ _ (h.sp s hs).q h2, fun e => mp_cells (h.sp s hs).M hg e.symm, fun p hp => hx _ _ _ ((h.sp s hs).V p hp).1 hu⟩)
/-- A row of lists has turned; another one stays. -/
theorem Wt.turnN {G : Nat → Prop} {w w' : World} {v : Value} {xs : List It} {g : Nat} {cs : Array Value} {fz : Nat × Nat} (h : Wt w G v xs) (hg : w.heap[g]? = some (.cells cs 56 fz)) (hn : v.ownBlock ≠ some g) (u : Turns (fun i => i = g) w w') : Wt w' G v xs := ⟨own_turns h.row u (fun b hb e => hn (by rw [hb, e])), h.gr, fun x hx => (h.it x hx).turn1 hg (by decide) u⟩
theorem Tn.turnN {w w' : World} {G : Nat → Prop} {tw db : Nat} {ov wv : Value} {os : List Nat} {xs : List It} {g : Nat} {cs : Array Value} {fz : Nat × Nat} (h : Tn w G tw db ov wv os xs) (hg : w.heap[g]? = some (.cells cs 56 fz)) (hn : wv.ownBlock ≠ some g) (u : Turns (fun i => i = g) w w') : Tn w' G tw db ov wv os xs :=
  ⟨(u.block tw (heap_lt h.box) (fun e => by rw [← e, h.box] at hg; simp at hg)).trans h.box, h.o.turn1 hg (by decide) u, h.x.turnN hg hn u, h.gt⟩
theorem Tn.turnQ {w w' : World} {G : Nat → Prop} {tw db : Nat} {ov wv : Value} {os : List Nat} {xs : List It} {g : Nat} {cs : Array Value} {fz : Nat × Nat} (h : Tn w G tw db ov wv os xs) (hg : w.heap[g]? = some (.cells cs 54 fz)) (u : Turns (fun i => i = g) w w') : Tn w' G tw db ov wv os xs :=
  ⟨(u.block tw (heap_lt h.box) (fun e => by rw [← e, h.box] at hg; simp at hg)).trans h.box, h.o.turn1 hg (by decide) u, h.x.turn1 hg (by decide) (by decide) u, h.gt⟩
theorem StOk.turnN {w w' : World} {G : Nat → Prop} {s : St} {m : List (Nat × Nat)} {f : Nat → List Int} {g : Nat} {cs : Array Value} {fz : Nat × Nat} (h : StOk w G s m f) (hg : w.heap[g]? = some (.cells cs 56 fz)) (hn : s.v.ownBlock ≠ some g) (u : Turns (fun i => i = g) w w') : StOk w' G s m f := ⟨h.x.turnN hg hn u, h.len, h.n.turn1 hg (by decide) u, h.see⟩
theorem StOk.turnQ {w w' : World} {G : Nat → Prop} {s : St} {m : List (Nat × Nat)} {f : Nat → List Int} {g : Nat} {cs : Array Value} {fz : Nat × Nat} (h : StOk w G s m f) (hg : w.heap[g]? = some (.cells cs 54 fz)) (u : Turns (fun i => i = g) w w') : StOk w' G s m f := ⟨h.x.turn1 hg (by decide) (by decide) u, h.len, h.n.turn1 hg (by decide) u, h.see⟩
/-- The block that a row of its own lies in. -/
theorem own_heap {w : World} {base e sz n g cap : Nat} {xs : List Value} (h : w.ownsRow base e sz (.slice (some ⟨g, 0, none⟩) n cap) n xs) : ∃ cs fz, w.heap[g]? = some (.cells cs e fz) := by
  rcases h.2 with ⟨q, _⟩ | ⟨g', cap', cur, q, _, hh, _⟩
  · cases q
  · cases q; exact ⟨_, _, hh⟩
section
variable {B : Nat} {w w' : World} {G : Nat → Prop} {jb bm tb db q N K : Nat} {wv svv : Value} {la wm ns : Nat} {m : List (Nat × Nat)} {f : Nat → List Int} {sv : Value} {l : List SvI} {s : St} {ss : List St}
/-- now.want[k] = x. -/
theorem SvY.put (h : SvY B w G jb bm tb db q N K wv svv la wm ns m f sv l s ss) {gn cn k : Nat} {x : It} (hv : s.v = .slice (some ⟨gn, 0, none⟩) 10 cn) (hx : Wt w G s.v s.xs) (hl : s.xs.length = 10) (I : ItOk w G x) {tw : Nat} {ov : Value} {os : List Nat} {ys : List It} (T : Tn w G tw db ov wv os ys) :
    SvY B (w.setCell ⟨gn, k, none⟩ x.val) G jb bm tb db q N K wv svv la wm ns m f sv l ⟨s.mark, s.v, s.u, s.xs.set k x⟩ ss ∧ Wt (w.setCell ⟨gn, k, none⟩ x.val) G s.v (s.xs.set k x) ∧ Tn (w.setCell ⟨gn, k, none⟩ x.val) G tw db ov wv os ys ∧ Turns (fun i => i = gn) w (w.setCell ⟨gn, k, none⟩ x.val) := by
  have r := hx.row
  rw [hv, hl] at r
  obtain ⟨cs, fz, hg⟩ := own_heap r
  have u := Turns.cell w gn k x.val
  have gG : ¬ G gn := hx.gr gn (by rw [hv]; rfl)
  refine ⟨⟨h.X.turn1 hg (by decide) (by decide) gG u, h.V.turn1 hg (by decide) (by decide) (by decide) (by decide) u, (u.block q (heap_lt h.box) (fun e => by rw [← e, h.box] at hg; simp at hg)).trans h.box, h.gq, h.mo, own_turn1 h.row hg (by decide) u, h.gr, h.len, fun i t e ht he => ?_, h.ap, h.aw, h.qs, h.lw, h.lv, h.ls, h.lr, h.kn⟩, ⟨?_, hx.gr, fun y hy => ?_⟩, T.turnN hg (fun e => h.aw (by rw [e, hv]; rfl)) u, u⟩
  · obtain ⟨a, b, c, d⟩ := h.all i t e ht he
    exact ⟨a, b.turnN hg (fun e => h.ap t (List.mem_of_getElem? ht) (by rw [e, hv]; rfl)) u, c, d⟩
  · rw [List.length_set, hl, List.map_set, hv]
    exact (r.stored k x.val).1
  · rcases List.mem_or_eq_of_mem_set hy with hy | rfl
    · exact (hx.it y hy).turn1 hg (by decide) u
    · exact I.turn1 hg (by decide) u
/-- now.seen = u. -/
theorem SvY.seen (h : SvY B w G jb bm tb db q N K wv svv la wm ns m f sv l s ss) (u' : Value) {tw : Nat} {ov : Value} {os : List Nat} {ys : List It} (T : Tn w G tw db ov wv os ys) :
    SvY B (w.setCell ⟨q, 2, none⟩ u') G jb bm tb db q N K wv svv la wm ns m f sv l ⟨s.mark, s.v, u', s.xs⟩ ss ∧ Tn (w.setCell ⟨q, 2, none⟩ u') G tw db ov wv os ys ∧ Turns (fun i => i = q) w (w.setCell ⟨q, 2, none⟩ u') := by
  have u := Turns.cell w q 2 u'
  have hg := h.box
  refine ⟨⟨h.X.turn1 hg (by decide) (by decide) h.gq u, h.V.turn1 hg (by decide) (by decide) (by decide) (by decide) u, heap_setCell_same _ q 2 _ _ _ hg, h.gq, h.mo, own_turns h.row u (fun b hb e => h.qs (by rw [hb, e])), h.gr, h.len, fun i t e ht he => ?_, h.ap, h.aw, h.qs, h.lw, h.lv, h.ls, h.lr, h.kn⟩, T.turnQ hg u, u⟩
  obtain ⟨a, b, c, d⟩ := h.all i t e ht he
  exact ⟨a, b.turnQ hg u, c, d⟩
end
end Go.Proofs.YtnmdnglbpkpfdaaGreatDoor

/- The steps of a fill. -/
namespace Go.Proofs.YtnmdnglbpkpfdaaGreatDoor
open Go.RowKit Go.Maps
set_option maxRecDepth 100000
theorem Tg.turnN {w w' : World} {G : Nat → Prop} {tw db st sz : Nat} {ov wv : Value} {os : List Nat} {xs : List It} {g : Nat} {cs : Array Value} {fz : Nat × Nat} (h : Tg w G tw db st sz ov wv os xs) (hg : w.heap[g]? = some (.cells cs 56 fz)) (hn : wv.ownBlock ≠ some g) (u : Turns (fun i => i = g) w w') : Tg w' G tw db st sz ov wv os xs :=
  ⟨(u.block tw (heap_lt h.box) (fun e => by rw [← e, h.box] at hg; simp at hg)).trans h.box, h.o.turn1 hg (by decide) u, h.x.turnN hg hn u, h.gt⟩
theorem Tg.turnI {w w' : World} {G : Nat → Prop} {tw db st sz : Nat} {ov wv : Value} {os : List Nat} {xs : List It} {g : Nat} {cs : Array Value} {fz : Nat × Nat} (h : Tg w G tw db st sz ov wv os xs) (hg : w.heap[g]? = some (.cells cs 3 fz)) (hn : ov.ownBlock ≠ some g) (u : Turns (fun i => i = g) w w') : Tg w' G tw db st sz ov wv os xs :=
  ⟨(u.block tw (heap_lt h.box) (fun e => by rw [← e, h.box] at hg; simp at hg)).trans h.box, ⟨own_turns h.o.row u (fun b hb e => hn (by rw [hb, e])), h.o.gr⟩, h.x.turn1 hg (by decide) (by decide) u, h.gt⟩
section
variable {w w' : World} {G : Nat → Prop} {d : Nat} {S : DevS} {k N jb st sz : Nat} {seq : Int} {place : Nat} {free : Int} {bm nd : Nat} {a : List (Nat × Nat)} {fa : Nat → List Int} {tb wm ns : Nat} {m : List (Nat × Nat)} {f : Nat → List Int} {sv : Value} {last : Int} {tw : Nat} {ov wv : Value} {os : List Nat} {xs : List It} {nv : Value} {ys : List It} {sn : Value} {ks : List Nat}
/-- seen = append(seen, j). -/
theorem fill_app (X : Tx w d S k N G jb st sz seq place free bm nd a fa tb wm ns m f sv last) (T : Tg w G tw d st sz ov wv os xs) (W : Wt w G nv ys) (K : Ns w G sn ks) (ho : ∀ b, ov.ownBlock = some b → sn.ownBlock ≠ some b) {o : Obj} {g5 c5 L j : Nat} (hL : ks.length = L) (ho5 : w'.ownsRow 0 3 1 (.slice (some ⟨g5, 0, none⟩) (L + 1) c5) (L + 1) ((ks.map fun x => Value.int .i64 (x : Nat)) ++ [.int .i64 (j : Nat)])) (hg5 : (w.alloc o).grownBy w' sn.ownBlock) (hat5 : sn.ownBlock = some g5 ∨ g5 = (w.alloc o).heap.size) :
    Tx w' d S k N G jb st sz seq place free bm nd a fa tb wm ns m f sv last ∧ Tg w' G tw d st sz ov wv os xs ∧ Wt w' G nv ys ∧ Ns w' G (.slice (some ⟨g5, 0, none⟩) (L + 1) c5) (ks ++ [j]) ∧ Turns (fun i => sn.ownBlock = some i) w w' := by
  have t : Turns (fun i => sn.ownBlock = some i) w w' := (Turns.alloc _ w o).trans (Turns.grown hg5 (fun b hb => hb)) (fun _ _ e => e)
  have hs : (w.alloc o).heap.size = w.heap.size + 1 := by simp
  have hG := X.D.lt
  have hK : Ns w' G (.slice (some ⟨g5, 0, none⟩) (L + 1) c5) (ks ++ [j]) := by
    refine ⟨?_, fun b hb => ?_⟩
    · rw [List.length_append, hL, List.map_append]
      exact ho5
    · have hb : some g5 = some b := hb
      cases hb
      rcases hat5 with e | e
      · exact K.gr g5 e
      · exact fun r => by have := hG g5 r; omega
  rcases K.row.2 with ⟨hv, _⟩ | ⟨g, cap, cur, hv, _, hh, _⟩
  · have b4 : Below w.heap.size w w' := t.below (fun i e => by rw [hv] at e; cases e) (Nat.le_refl _)
    exact ⟨X.below b4, T.kp (Kp.below b4), W.kp (Kp.below b4), hK, t⟩
  · have u : Turns (fun i => i = g) w w' := t.mono (fun i _ e => by rw [hv] at e; cases e; rfl)
    have hgG : ¬ G g := K.gr g (by rw [hv]; rfl)
    exact ⟨X.turn1 hh (by decide) (by decide) hgG u, T.turnI hh (fun e => ho g e (by rw [hv]; rfl)) u, W.turn1 hh (by decide) (by decide) u, hK, t⟩
/-- next[j] = x. -/
theorem fill_put (X : Tx w d S k N G jb st sz seq place free bm nd a fa tb wm ns m f sv last) (T : Tg w G tw d st sz ov wv os xs) {gn n cn j : Nat} (W : Wt w G (.slice (some ⟨gn, 0, none⟩) n cn) ys) (hl : ys.length = n) (K : Ns w G sn ks) (haw : wv.ownBlock ≠ some gn) {x : It} (Ix : ItOk w G x) :
    Tx (w.setCell ⟨gn, j, none⟩ x.val) d S k N G jb st sz seq place free bm nd a fa tb wm ns m f sv last ∧ Tg (w.setCell ⟨gn, j, none⟩ x.val) G tw d st sz ov wv os xs ∧ Wt (w.setCell ⟨gn, j, none⟩ x.val) G (.slice (some ⟨gn, 0, none⟩) n cn) (ys.set j x) ∧ Ns (w.setCell ⟨gn, j, none⟩ x.val) G sn ks ∧ Turns (fun i => i = gn) w (w.setCell ⟨gn, j, none⟩ x.val) := by
  have r := W.row
  rw [hl] at r
  obtain ⟨cs, fz, hg⟩ := own_heap r
  have u := Turns.cell w gn j x.val
  have gG : ¬ G gn := W.gr gn rfl
  refine ⟨X.turn1 hg (by decide) (by decide) gG u, T.turnN hg haw u, ⟨?_, W.gr, fun y hy => ?_⟩, K.turn1 hg (by decide) u, u⟩
  · rw [List.length_set, hl, List.map_set]
    exact (r.stored j x.val).1
  · rcases List.mem_or_eq_of_mem_set hy with hy | rfl
    · exact (W.it y hy).turn1 hg (by decide) u
    · exact Ix.turn1 hg (by decide) u
end
theorem put_seeG {S : DevS} {m : List (Nat × Nat)} {f fa : Nat → List Int} {a : List (Nat × Nat)} {os : List Nat} {ys : List It} (hr : Rising m) (hnd : os.Nodup) (h : ∀ (i o : Nat) (x : It), os[i]? = some o → ys[i]? = some x → x.bs = seesF S m f a fa o) {j o g : Nat} (hoj : os[j]? = some o) (y : It) : ∀ (i o' : Nat) (x : It), os[i]? = some o' → (ys.set j y)[i]? = some x → x.bs = seesF S (mput m o g) (updF f o y.bs) a fa o' := by
  intro i o' x ho hx
  by_cases e : j = i
  · subst e
    rw [hoj] at ho
    cases ho
    have hl : j < (ys.set j y).length := (List.getElem?_eq_some_iff.1 hx).1
    rw [List.length_set] at hl
    rw [List.getElem?_set_self hl] at hx
    cases hx
    unfold seesF
    rw [lk_mput m o g o hr, if_pos rfl]
    simp [updF]
  · rw [List.getElem?_set_ne e] at hx
    have hoo : ¬ o = o' := fun q => e ((List.getElem?_inj (List.getElem?_eq_some_iff.1 hoj).1 hnd).1 (by rw [hoj, ho, q]))
    rw [h i o' x ho hx]
    unfold seesF
    rw [lk_mput m o g o' hr, if_neg hoo]
    simp [updF, show ¬ o' = o from fun q => hoo q.symm]
theorem mput_len_new : ∀ {m : List (Nat × Nat)} {b g : Nat}, lk m b = none → (mput m b g).length = m.length + 1
  | [], b, g, _ => rfl
  | q :: r, b, g, h => by
    rw [lk_cons] at h
    have hne : ¬ q.1 = b := fun e => by rw [if_pos e] at h; cases h
    rw [if_neg hne] at h
    unfold mput
    split
    · simp
    · rw [if_neg (fun e => hne e.symm)]
      simp [mput_len_new h]
theorem mput_len_old : ∀ {m : List (Nat × Nat)} {b g : Nat}, Rising m → (lk m b).isSome = true → (mput m b g).length = m.length
  | [], b, g, _, h => by simp [lk] at h
  | q :: r, b, g, hr, h => by
    obtain ⟨h1, h2⟩ := List.pairwise_cons.1 hr
    rw [lk_cons] at h
    unfold mput
    by_cases e : q.1 = b
    · rw [if_neg (by omega), if_pos e.symm]
      rfl
    · rw [if_neg e] at h
      have hlt : ¬ b < q.1 := fun hb => by
        obtain ⟨p, hp, hpe⟩ := List.mem_map.1 (lk_keys.1 h)
        have := h1 p hp
        omega
      rw [if_neg hlt, if_neg (fun q => e q.symm)]
      simp [mput_len_old h2 h]
theorem kk_put {m : List (Nat × Nat)} {os ks ks' : List Nat} {j o g : Nat} (hr : Rising m) (hnd : os.Nodup) (h : ∀ i, i ∈ ks ↔ ∃ o, os[i]? = some o ∧ (lk m o).isSome = true) (hoj : os[j]? = some o) (hk : ∀ i, i ∈ ks' ↔ i ∈ ks ∨ i = j) : ∀ i, i ∈ ks' ↔ ∃ o', os[i]? = some o' ∧ (lk (mput m o g) o').isSome = true := by
  intro i
  rw [hk, h]
  constructor
  · rintro (⟨o', h1, h2⟩ | rfl)
    · refine ⟨o', h1, ?_⟩
      rw [lk_mput m o g o' hr]
      split
      · rfl
      · exact h2
    · exact ⟨o, hoj, by rw [lk_mput m o g o hr, if_pos rfl]; rfl⟩
  · rintro ⟨o', h1, h2⟩
    by_cases e : o = o'
    · subst e
      exact Or.inr ((List.getElem?_inj (List.getElem?_eq_some_iff.1 h1).1 hnd).1 (by rw [h1, hoj]))
    · rw [lk_mput m o g o' hr, if_neg e] at h2
      exact Or.inl ⟨o', h1, h2⟩
end Go.Proofs.YtnmdnglbpkpfdaaGreatDoor
