/- annexlaw1.step: Err, Close, Bytes, and any other kind. -/
import Derived.Test.YtjpaooejkbkliabDoorSteps
namespace Go.Proofs.YtjpaooejkbkliabDoor
open Go.RowKit
set_option maxRecDepth 100000

set_option maxHeartbeats 1000000 in
theorem step_err (M : Int) (sec : Bool) (rb g n cap db : Nat) (ao : Option Addr) (dc base bk : Nat) (B : Nat → Prop) (es : List Ent) (i pl : Nat) (code : Int) (bs : List Int) (er : Nat → Addr) (w : World) (hS : St w rb g n cap db ao dc base bk B es i pl code bs) (_hE : Errs w er) (_hn : n ≤ 2000000) (_hc : cap ≤ 2000000) (_hby : ∀ x ∈ bs, 0 ≤ x ∧ x ≤ 255) (_hM1 : M ≤ 9223372036854775807) :
    Calls Tryd.prog 9 #[.agg #[.int .i64 7, .bool sec, .int .i64 M], .pointer (some ⟨rb, 0, none⟩), .pointer (some ⟨db, 0, none⟩), .pointer (some ⟨bk, 0, none⟩)] w fun e w' => Stepped w rb g n cap db ao dc base bk B i bs e w' := by
  have HS : Hid (St w rb g n cap db ao dc base bk B es i pl code bs) := hS
  have HU := err_any rb g n cap pl code bs (w.alloc (.cells #[.int .i64 7, .bool sec, .int .i64 M] 37)) (hS.rd.alloc (.cells #[.int .i64 7, .bool sec, .int .i64 M] 37))
  have HD : Hid (∀ m, Calls Tryd.prog 29 #[.pointer (some ⟨db, 0, none⟩)] ((w.alloc (.cells #[.int .i64 7, .bool sec, .int .i64 M] 37)).drewN m) fun e w' => e = .returned (.tuple #[.int .i64 code, .int .i64 pl]) ∧ ∃ q, w' = ((w.alloc (.cells #[.int .i64 7, .bool sec, .int .i64 M] 37)).drewN m).drewN q) := fun m => dErr db n dc ao pl code bs _ ((hS.dd.alloc (.cells #[.int .i64 7, .bool sec, .int .i64 M] 37)).drewN m)
  clear hS
  go_enter Tryd.func9, Tryd.ntmps9
  go_wp2_with fail
  refine HU.mono ?_
  rintro e w1 ⟨rfl, m, hw1⟩
  subst w1
  clear HU
  go_wp2_with fail
  refine (HD.out m).mono ?_
  rintro e w2 ⟨rfl, q, hw2⟩
  subst w2
  go_wp2_with (first | (go_at_call 15; refine (num_id _ _).mono ?_; rintro e wq ⟨rfl, hq⟩; subst wq))
  go_ret
  exact HS.out.done (grown_trans (World.grownBy_alloc _ _ _) (grown_drewN _ (m + q) _)) ((HS.out.rd.alloc (.cells #[.int .i64 7, .bool sec, .int .i64 M] 37)).drewN (m + q)) (grown_same _ _) ((HS.out.dd.alloc (.cells #[.int .i64 7, .bool sec, .int .i64 M] 37)).drewN (m + q)) HS.out.hp

set_option maxHeartbeats 1000000 in
theorem step_close (M : Int) (sec : Bool) (rb g n cap db : Nat) (ao : Option Addr) (dc base bk : Nat) (B : Nat → Prop) (es : List Ent) (i pl : Nat) (code : Int) (bs : List Int) (er : Nat → Addr) (w : World) (hS : St w rb g n cap db ao dc base bk B es i pl code bs) (_hE : Errs w er) (_hn : n ≤ 2000000) (_hc : cap ≤ 2000000) (_hby : ∀ x ∈ bs, 0 ≤ x ∧ x ≤ 255) (_hM1 : M ≤ 9223372036854775807) :
    Calls Tryd.prog 9 #[.agg #[.int .i64 8, .bool sec, .int .i64 M], .pointer (some ⟨rb, 0, none⟩), .pointer (some ⟨db, 0, none⟩), .pointer (some ⟨bk, 0, none⟩)] w fun e w' => Stepped w rb g n cap db ao dc base bk B i bs e w' := by
  have HS : Hid (St w rb g n cap db ao dc base bk B es i pl code bs) := hS
  have HU := close_any rb g n cap pl code bs (w.alloc (.cells #[.int .i64 8, .bool sec, .int .i64 M] 37)) (hS.rd.alloc (.cells #[.int .i64 8, .bool sec, .int .i64 M] 37))
  have HD : Hid (∀ w1, (w.alloc (.cells #[.int .i64 8, .bool sec, .int .i64 M] 37)).grownBy w1 (some rb) → Calls Tryd.prog 31 #[.pointer (some ⟨db, 0, none⟩)] w1 fun e w' => e = .returned (.int .i64 (rdClose n pl code)) ∧ WentD w1 w' db ao n dc pl (rdClose n pl code) bs) := fun w1 h1 =>
    dClose db n dc pl ao code bs w1 ((hS.dd.alloc (.cells #[.int .i64 8, .bool sec, .int .i64 M] 37)).grown h1 (by simpa using fun e => hS.rne e.symm) (fun ad had => by simpa using hS.ane ad had))
  generalize rdClose n pl code = z at HU HD
  clear hS
  go_enter Tryd.func9, Tryd.ntmps9
  go_wp2_with fail
  refine HU.mono ?_
  rintro e w1 ⟨rfl, hw1⟩
  clear HU
  go_wp2_with fail
  refine (HD.out w1 hw1.2).mono ?_
  rintro e w2 ⟨rfl, hw2⟩
  go_wp2_with (first | (go_at_call 15; refine (num_id _ _).mono ?_; rintro e wq ⟨rfl, hq⟩; subst wq))
  go_ret
  exact HS.out.done (grown_trans (World.grownBy_alloc _ _ _) hw1.2) hw1.1 hw2.2 hw2.1 HS.out.hp

set_option maxHeartbeats 1000000 in
theorem step_other (K : Int) (hK : ¬ K = 1 ∧ ¬ K = 2 ∧ ¬ K = 3 ∧ ¬ K = 4 ∧ ¬ K = 5 ∧ ¬ K = 6 ∧ ¬ K = 7 ∧ ¬ K = 8) (M : Int) (sec : Bool) (rb g n cap db : Nat) (ao : Option Addr) (dc base bk : Nat) (B : Nat → Prop) (es : List Ent) (i pl : Nat) (code : Int) (bs : List Int) (er : Nat → Addr) (w : World) (hS : St w rb g n cap db ao dc base bk B es i pl code bs) (_hE : Errs w er) (_hn : n ≤ 2000000) (_hc : cap ≤ 2000000) (_hby : ∀ x ∈ bs, 0 ≤ x ∧ x ≤ 255) (_hM1 : M ≤ 9223372036854775807) :
    Calls Tryd.prog 9 #[.agg #[.int .i64 K, .bool sec, .int .i64 M], .pointer (some ⟨rb, 0, none⟩), .pointer (some ⟨db, 0, none⟩), .pointer (some ⟨bk, 0, none⟩)] w fun e w' => Stepped w rb g n cap db ao dc base bk B i bs e w' := by
  obtain ⟨k1, k2, k3, k4, k5, k6, k7, k8⟩ := hK
  have j1 : (K == 1) = false := by simpa using k1
  have j2 : (K == 2) = false := by simpa using k2
  have j3 : (K == 3) = false := by simpa using k3
  have j4 : (K == 4) = false := by simpa using k4
  have j5 : (K == 5) = false := by simpa using k5
  have j6 : (K == 6) = false := by simpa using k6
  have j7 : (K == 7) = false := by simpa using k7
  have j8 : (K == 8) = false := by simpa using k8
  have HS : Hid (St w rb g n cap db ao dc base bk B es i pl code bs) := hS
  clear hS
  go_enter Tryd.func9, Tryd.ntmps9
  go_wp2
  go_ret
  exact HS.out.done (World.grownBy_alloc _ _ _) (HS.out.rd.alloc (.cells #[.int .i64 K, .bool sec, .int .i64 M] 37)) (grown_same _ _) (HS.out.dd.alloc (.cells #[.int .i64 K, .bool sec, .int .i64 M] 37)) HS.out.hp

theorem St.kept {w w' : World} {rb g n cap db : Nat} {ao : Option Addr} {dc base bk : Nat} {B : Nat → Prop} {es : List Ent} {i pl : Nat} {code : Int} {bs : List Int} (h : St w rb g n cap db ao dc base bk B es i pl code bs) (hb : Below w.heap.size w w') : St w' rb g n cap db ao dc base bk B es i pl code bs :=
  ⟨h.rd.kept (below_grown hb none) (by simp) (by simp), h.dd.below hb, h.book.below hb, h.hes, h.hen, fun b hk => ⟨(h.hB b hk).1, Nat.lt_of_lt_of_le (h.hB b hk).2 hb.size⟩, h.nr, h.ng, h.nd, h.na, h.rne, h.gne, h.ane, h.hp, fun ad had => Nat.lt_of_lt_of_le (h.alt ad had) hb.size⟩

theorem own_block5 {w : World} {base n c : Nat} {al : Option Addr} {xs : List Value} (h : w.ownsRow base 5 1 (.slice al n c) n xs) : ∀ b, (Value.slice al n c).ownBlock = some b → base ≤ b := fun b hb => (h.lt b hb).1
theorem own_lt5 {w : World} {base n c : Nat} {al : Option Addr} {xs : List Value} (h : w.ownsRow base 5 1 (.slice al n c) n xs) {b : Nat} (hb : (Value.slice al n c).ownBlock = some b) : b < w.heap.size := (h.lt b hb).2
theorem own_same {w w' : World} {base e n : Nat} {v : Value} {xs : List Value} (h : w.ownsRow base e 1 v n xs) (hk : ∀ b, v.ownBlock = some b → w'.heap[b]? = w.heap[b]?) : w'.ownsRow base e 1 v n xs := by
  obtain ⟨h1, h2⟩ := h
  refine ⟨h1, ?_⟩
  rcases h2 with h2 | ⟨g, cap, cur, hv, hg, hh, r⟩
  · exact Or.inl h2
  · refine Or.inr ⟨g, cap, cur, hv, hg, (hk g ?_).trans hh, r⟩
    subst hv; rfl
theorem lies_same {w w' : World} {ao : Option Addr} {n c : Nat} {bs : List Int} (h : Lies w ao n c bs) (hk : ∀ ad, ao = some ad → w'.heap[ad.block]? = w.heap[ad.block]?) : Lies w' ao n c bs :=
  ⟨h.hlen, h.hle, h.hnone, fun ad had t u hu => by
    rw [← h.hcells ad had t u hu]
    exact World.cell?_of_block (w := w) (by rw [add_block]; exact hk ad had)⟩
theorem Rdr.same {w w' : World} {rb g n cap : Nat} {pl code : Int} {bs : List Int} (h : Rdr w rb g n cap pl code bs) (h1 : w'.heap[rb]? = w.heap[rb]?) (h2 : w'.heap[g]? = w.heap[g]?) (hs : w.heap.size ≤ w'.heap.size) : Rdr w' rb g n cap pl code bs :=
  ⟨h1.trans h.blk, lies_same h.lies (fun ad had => by obtain rfl := Option.some.inj had; exact h2), h.apart, Nat.lt_of_lt_of_le h.glt hs⟩
theorem RdD.same {w w' : World} {rb n cap : Nat} {ao : Option Addr} {pl code : Int} {bs : List Int} (h : RdD w rb ao n cap pl code bs) (h1 : w'.heap[rb]? = w.heap[rb]?) (h2 : ∀ ad, ao = some ad → w'.heap[ad.block]? = w.heap[ad.block]?) : RdD w' rb ao n cap pl code bs :=
  ⟨h1.trans h.blk, lies_same h.lies h2, h.apart⟩
theorem Bk.now {w : World} {base bk : Nat} {B : Nat → Prop} {es : List Ent} (h : Bk w base bk B es) : Bk w base bk (fun k => B k ∧ k < w.heap.size) es := by
  obtain ⟨⟨vL, vN, hb, hL, hN, hBL, hBN⟩, hbk, hl, hm⟩ := h
  exact ⟨⟨vL, vN, hb, hL, hN, fun k hk => ⟨hBL k hk, (hL.lt k hk).2⟩, fun k hk => ⟨hBN k hk, (hN.lt k hk).2⟩⟩, ⟨hbk.1, hbk.2, lt_of_block hb⟩, hl, fun e he ad had => by
    obtain ⟨x1, x2, cs, x3⟩ := hm e he ad had
    exact ⟨⟨x1, lt_of_block x3⟩, x2, cs, x3⟩⟩

set_option maxHeartbeats 2000000 in
theorem step_bytes (M : Int) (sec : Bool) (rb g n cap db : Nat) (ao : Option Addr) (dc base bk : Nat) (B : Nat → Prop) (es : List Ent) (i pl : Nat) (code : Int) (bs : List Int) (er : Nat → Addr) (w : World) (hS : St w rb g n cap db ao dc base bk B es i pl code bs) (hE : Errs w er) (hn : n ≤ 1900000) (hc : cap ≤ 2000000) (hby : ∀ x ∈ bs, 0 ≤ x ∧ x ≤ 255) (hi : i ≤ 1000000) (hbase : base ≤ w.heap.size) (hM1 : M ≤ 9223372036854775807) :
    Calls Tryd.prog 9 #[.agg #[.int .i64 6, .bool sec, .int .i64 M], .pointer (some ⟨rb, 0, none⟩), .pointer (some ⟨db, 0, none⟩), .pointer (some ⟨bk, 0, none⟩)] w fun e w' => Stepped w rb g n cap db ao dc base bk B i bs e w' := by
  have hlt := hS.rd.lt
  have hltd := lt_of_block hS.dd.blk
  have hbl : bs.length = n := hS.rd.lies.hlen
  have hU := bytes_any rb g n cap pl code M bs er (w.alloc (.cells #[.int .i64 6, .bool sec, .int .i64 M] 37)) (hS.rd.alloc (.cells #[.int .i64 6, .bool sec, .int .i64 M] 37)) (hE.alloc (.cells #[.int .i64 6, .bool sec, .int .i64 M] 37)) hS.hp (by omega) hby hM1
  have hle := rdText_le n bs pl code M hS.hp
  have hzl := rdText_len n bs pl code M hbl
  have hDU := dBytes_any db n dc pl ao code M bs
  generalize rdText n bs pl code M = z at hU hDU hle hzl
  have HD : Hid (∀ w1, (w.alloc (.cells #[.int .i64 6, .bool sec, .int .i64 M] 37)).grownBy w1 (some rb) → Calls Tryd.prog 27 #[.pointer (some ⟨db, 0, none⟩), .int .i64 M] w1 fun e w' => HandD e w' z.1 ∧ WentD w1 w' db ao n dc z.2.1 z.2.2 bs) := fun w1 h1 =>
    hDU w1 ((hS.dd.alloc (.cells #[.int .i64 6, .bool sec, .int .i64 M] 37)).grown h1 (by simpa using fun e => hS.rne e.symm) (fun ad had => by simpa using hS.ane ad had)) hS.hp (by omega) hby hM1
  have HU : Hid (Calls Tryd.prog 26 #[.pointer (some ⟨rb, 0, none⟩), .int .i64 M] (w.alloc (.cells #[.int .i64 6, .bool sec, .int .i64 M] 37)) fun e w' => Handed (w.alloc (.cells #[.int .i64 6, .bool sec, .int .i64 M] 37)) e w' z.1 ∧ Went (w.alloc (.cells #[.int .i64 6, .bool sec, .int .i64 M] 37)) w' rb g n cap z.2.1 z.2.2 bs) := hU
  have HS : Hid (St w rb g n cap db ao dc base bk B es i pl code bs) := hS
  clear hU hDU hS hby hE
  have s2 : (w.alloc (.cells #[.int .i64 6, .bool sec, .int .i64 M] 37)).cell? ⟨w.heap.size, 2, none⟩ = some (.int .i64 M) := by rw [World.cell?_alloc_at _ _ _ _ rfl]; rfl
  go_enter Tryd.func9, Tryd.ntmps9
  go_wp2_with fail
  refine HU.out.mono ?_
  rintro e w1 ⟨⟨al, cl, rfl, hl⟩, hw1⟩
  have s3 : w1.cell? ⟨w.heap.size, 2, none⟩ = some (.int .i64 M) := hw1.2.cell s2 (by simp; omega)
  have hszA : (w.alloc (.cells #[.int .i64 6, .bool sec, .int .i64 M] 37)).heap.size = w.heap.size + 1 := by simp
  have inl := own_block5 hl
  rw [hszA] at inl
  clear hszA
  have HL : Hid ((w.alloc (.cells #[.int .i64 6, .bool sec, .int .i64 M] 37)).heap.size = (w.alloc (.cells #[.int .i64 6, .bool sec, .int .i64 M] 37)).heap.size ∧ w1.ownsRow (w.alloc (.cells #[.int .i64 6, .bool sec, .int .i64 M] 37)).heap.size 5 1 (.slice al z.1.length cl) z.1.length (z.1.map (Value.int .u8))) := ⟨rfl, hl⟩
  clear hl
  go_wp2_with fail
  refine (HD.out w1 hw1.2).mono ?_
  rintro e w2 ⟨⟨a2, c2, rfl, hl2⟩, hw2⟩
  have hl3 : w2.ownsRow base 5 1 (.slice al z.1.length cl) z.1.length (z.1.map (Value.int .u8)) := ownsRow_mono (own_same HL.out.2 (fun b hb => hw2.2.block b (own_lt5 HL.out.2 hb) (by have := inl b hb; simp; omega))) (by simp; omega)
  go_wp2_with fail
  refine (same_any _ _ _ _ _ _ _ _ _ (by omega) (Lies.owned hl3) hl2).mono ?_
  rintro e w3 ⟨rfl, q, hw3⟩
  subst w3
  rw [decide_eq_true rfl]
  have hl4 : (w2.drewN q).ownsRow base 5 1 (.slice al z.1.length cl) z.1.length (z.1.map (Value.int .u8)) := own_same hl3 (fun _ _ => rfl)
  have hg1 : w.grownBy w1 (some rb) := grown_trans (World.grownBy_alloc _ _ _) hw1.2
  have keep0 : ∀ k, k < w.heap.size → k ≠ rb → k ≠ db → (w2.drewN q).heap[k]? = w.heap[k]? := fun k hk h1 h2 =>
    (hw2.2.block k (Nat.lt_of_lt_of_le hk hg1.size) (by simpa using h2)).trans (hg1.block k hk (by simpa using h1))
  have hsz : w.heap.size ≤ (w2.drewN q).heap.size := Nat.le_trans hg1.size hw2.2.size
  have hrd := (hw1.1.kept hw2.2 (by simpa using HS.out.rne) (by simpa using HS.out.gne)).drewN q
  have hdd := hw2.1.drewN q
  have hbook : Bk (w2.drewN q) base bk B es := HS.out.book.keep fun k hk hBk => keep0 k hk (fun e => HS.out.nr (e ▸ hBk)) (fun e => HS.out.nd (e ▸ hBk))
  have hos : (w2.drewN q).os = w.os ∧ (w2.drewN q).tape = w.tape ∧ (w2.drewN q).output = w.output := ⟨hw2.2.os.trans hg1.os, hw2.2.tape.trans hg1.tape, hw2.2.output.trans hg1.output⟩
  clear hl3 hl2 hw1 hw2 hg1 HD HU HL s2 s3
  go_wp2_with fail
  generalize w2.drewN q = V at hl4 keep0 hsz hrd hdd hbook hos
  refine (keep_any base bk i z.1.length cl B es al z.1 V (by omega) hbook HS.out.hes (by omega) (by omega) hl4 (fun b hb hB => by have := inl b hb; have := HS.out.hB b hB; omega)).mono ?_
  rintro e w5 ⟨rfl, e1, e2, hB5, hl1, hl2, ho1, ho2, ho3, hs5, hk5⟩
  have HB5 : Hid (Bk w5 base bk (fun k => B k ∨ (Value.slice al z.1.length cl).ownBlock = some k ∨ V.heap.size ≤ k) (es ++ [⟨al, z.1.length, cl⟩, e1, e2])) := hB5
  have HK5 : Hid (∀ k, k < V.heap.size → ¬ B k → (Value.slice al z.1.length cl).ownBlock ≠ some k → w5.heap[k]? = V.heap[k]?) := hk5
  clear hB5 hk5
  go_wp2
  go_ret
  have old : ∀ k, k < w.heap.size → ¬ B k → w5.heap[k]? = V.heap[k]? := fun k hk hn => HK5.out k (by omega) hn (fun e => by have := inl k e; omega)
  have hgw := HS.out.rd.glt
  refine ⟨rfl, _, _, i + 1, z.2.1, z.2.2, ⟨hrd.same (old rb hlt HS.out.nr) (old g hgw HS.out.ng) hs5, hdd.same (old db hltd HS.out.nd) (fun ad had => old _ (HS.out.alt ad had) (HS.out.na ad had)), HB5.out.now, by simp [HS.out.hes]; omega, fun e he => ?_, fun b hb => ⟨?_, hb.2⟩, fun h => ?_, fun h => ?_, fun h => ?_, fun ad had h => ?_, HS.out.rne, HS.out.gne, HS.out.ane, hle, fun ad had => by have := HS.out.alt ad had; omega⟩, by omega, fun b hb => ?_, ?_⟩
  · rcases List.mem_append.1 he with h | h
    · exact HS.out.hen e h
    · simp at h
      rcases h with rfl | rfl | rfl
      · show z.1.length ≤ 2000000
        omega
      · omega
      · omega
  · rcases hb.1 with h | h | h
    · exact (HS.out.hB b h).1
    · have := inl b h; omega
    · omega
  · rcases h.1 with h | h | h
    · exact HS.out.nr h
    · have := inl rb h; omega
    · omega
  · rcases h.1 with h | h | h
    · exact HS.out.ng h
    · have := inl g h; omega
    · omega
  · rcases h.1 with h | h | h
    · exact HS.out.nd h
    · have := inl db h; omega
    · omega
  · have ha := HS.out.alt ad had
    rcases h.1 with h | h | h
    · exact HS.out.na ad had h
    · have := inl _ h; omega
    · omega
  · rcases hb.1 with h | h | h
    · exact .inl h
    · have := inl b h; exact .inr (by omega)
    · exact .inr (by omega)
  · exact ⟨ho1.trans hos.1, ho2.trans hos.2.1, ho3.trans hos.2.2, by omega, fun k hk hn => (old k hk (fun h => hn (.inl h))).trans (keep0 k hk (fun e => hn (.inr (.inl e))) (fun e => hn (.inr (.inr e))))⟩

end Go.Proofs.YtjpaooejkbkliabDoor
