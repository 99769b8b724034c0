/- Book.stand by its contract. -/
import Derived.Test.YtdkcplndplhblaaGreatDoorPk19
import Derived.Deep.RegionHeld3
import Derived.Test.YtdkcplndplhblaaGreatDoorPk17
import Derived.Test.YtdkcplndplhblaaGreatDoorPk18
import Derived.Deep.MidRow
namespace Go.Proofs.YtdkcplndplhblaaGreatDoor
open Go.RowKit
set_option maxRecDepth 100000

theorem fullE_at (i n j d : Nat) (h : j < n) (hd : d < 3) : (fullE i n)[j * 3 + d]? = (entM i)[d]? := by
  obtain ⟨r, rfl⟩ := Nat.exists_eq_add_of_le (show j + 1 ≤ n from h)
  rw [fullE_add, fullE_snoc, List.append_assoc, List.getElem?_append_right (by rw [fullE_length]; omega), fullE_length, List.getElem?_append_left (by simp [entM]; omega)]
  congr 1
  omega

set_option maxHeartbeats 1000000 in
theorem stand_any (base bk : Nat) (vE : Value) (B C : Nat → Prop) (es fs : List Bl) (w : World) (hB : Bk w base bk vE B es) (hE : Ek w base vE C fs) (hfs : fs.length ≤ 300000000) (hen : ∀ e ∈ fs, e.len ≤ 2000100) :
    Calls Tryz.prog 26 #[.pointer (some ⟨bk, 0, none⟩)] w fun e w' => e = .returned (.bool true) ∧ Below w.heap.size w w' := by
  obtain ⟨⟨vL, vN, hbox, _, _, _, _⟩, _, _, _⟩ := hB
  have hL := hE.row
  obtain ⟨aL, cL, rfl⟩ := own_val hL
  have hesi : (fs.length : Int) ≤ 300000000 := by omega
  have b2 : w.cell? ⟨bk, 2, none⟩ = some (.slice aL fs.length cL) := (cell_of_row w bk 2 _ _ (0, 0) hbox).trans rfl
  have hlies := hE.lies
  clear hE
  go_enter Tryz.func26, Tryz.ntmps26
  go_wp2_with fail
  go_loopw [3] (fun i wr => ∃ k : Nat, k ≤ fs.length ∧ i = .int .i64 k ∧ Below w.heap.size w wr) (fun i _ => fs.length - (intOf i).toNat)
  case atStart => exact ⟨0, Nat.zero_le _, rfl, Below.refl _ _⟩
  case round =>
    obtain ⟨k, hk, rfl, hb⟩ := hrel
    have c2 := bk_later hb b2
    by_cases hlt : k < fs.length
    · have hki : (k : Int) < fs.length := by omega
      obtain ⟨gL, rfl⟩ : ∃ g, aL = some ⟨g, 0, none⟩ := by
        rcases hL.2 with ⟨_, h0⟩ | ⟨g, c, cur, hv, _⟩
        · omega
        · cases hv; exact ⟨g, rfl⟩
      obtain ⟨x, hx⟩ : ∃ x, x = fs[k] := ⟨_, rfl⟩
      have l0w : w.cell? ⟨gL, k, none⟩ = some (.slice x.ao x.len x.cap) := by rw [hL.cellAt k (by omega), List.getElem?_map, List.getElem?_eq_getElem hlt, ← hx]; rfl
      have hx0 := hlies k hlt
      rw [← hx] at hx0
      have hxl := hen x (by rw [hx]; exact List.getElem_mem _)
      have hxli : (x.len : Int) ≤ 2000100 := by omega
      clear hx
      obtain ⟨xa, xn, xc⟩ := x
      simp only [Bl.val] at hx0 l0w hxl hxli
      go_wp2_with fail
      go_loopw [4] (fun j wr => ∃ q : Nat, q ≤ xn ∧ j = .int .i64 q ∧ Below w.heap.size w wr) (fun j _ => xn - (intOf j).toNat)
      case atStart => exact ⟨0, Nat.zero_le _, rfl, hb⟩
      case round =>
        clear c2 hb
        obtain ⟨q, hq, rfl, hb⟩ := hrel
        have c2 := bk_later hb b2
        have l0 := bk_later hb l0w
        by_cases hqt : q < xn
        · have hqi : (q : Int) < xn := by omega
          obtain ⟨g, rfl⟩ : ∃ g, xa = some ⟨g, 0, none⟩ := by
            rcases hx0.2 with ⟨_, h0⟩ | ⟨g, c, cur, hv, _⟩
            · omega
            · cases hv; exact ⟨g, rfl⟩
          have y0 := bk_later hb ((hx0.cellAt (q * 3) (by omega)).trans (fullE_at (k / 3) xn q 0 hqt (by decide)))
          have y1 := bk_later hb ((hx0.cellAt (q * 3 + 1) (by omega)).trans (fullE_at (k / 3) xn q 1 hqt (by decide)))
          have y2 := bk_later hb ((hx0.cellAt (q * 3 + 2) (by omega)).trans (fullE_at (k / 3) xn q 2 hqt (by decide)))
          have hkc : ((k / 3 : Nat) : Int) = (k : Int) / 3 := by omega
          have hM := fun W => entry4_any (k / 3) W (by omega)
          rw [hkc] at hM
          have hw1 : IntKind.i64.wrap ((k : Int) / 3) = (k : Int) / 3 := by rw [IntKind.wrap_i64]; omega
          have hq0 : (0 : Int) ≤ q := by omega
          simp only [hkc] at y1
          go_wp2_with fail
          go_region_held3 (fun w' => w'.cell? ⟨bk, 2, none⟩ = some (.slice (some ⟨gL, 0, none⟩) fs.length cL) ∧ w'.cell? ⟨gL, k, none⟩ = some (.slice (some ⟨g, 0, none⟩) xn xc) ∧ w'.cell? ⟨g, q * 3, none⟩ = some (.string ⟨#[]⟩) ∧ w'.cell? ⟨g, q * 3 + 1, none⟩ = some (.int .i64 (-1 - (k : Int) / 3)) ∧ w'.cell? ⟨g, q * 3 + 2, none⟩ = some (.int .i64 0))
            (first | exact ⟨c2, l0, y0, y1, y2⟩ | exact ⟨d2, m0, e0, e1, e2⟩)
            (first | (go_at_call 60; refine (hM _).mono ?_; rintro e w3 ⟨rfl, hb3⟩; have d2 := bk_later hb3 c2; have m0 := bk_later hb3 l0; have e0 := bk_later hb3 y0; have e1 := bk_later hb3 y1; have e2 := bk_later hb3 y2))
          have hb4 : Below w.heap.size w w3 := hb.trans ((show Below wr.heap.size wr w3 from ⟨hb3.os, hb3.tape, hb3.output, hb3.size, hb3.block⟩).mono hb.size)
          go_wp2
          go_roundw
          case rel => exact ⟨q + 1, by omega, by go_num, hb4⟩
          case measure => simp [intOf]; omega
        · have hqi : ¬ (q : Int) < xn := by omega
          go_wp2
          go_roundw
          case rel => exact ⟨k + 1, by omega, by go_num, hb⟩
          case measure => simp [intOf]; omega
    · have hki : ¬ (k : Int) < fs.length := by omega
      go_wp2
      go_ret
      exact ⟨rfl, hb⟩
end Go.Proofs.YtdkcplndplhblaaGreatDoor

/- Lists of bytes that were handed out one behind the other, each in a block of its own; a row of requests that differ in where their bytes lie. -/
namespace Go.Proofs.YtdkcplndplhblaaGreatDoor
open Go.RowKit
set_option maxRecDepth 100000

theorem own_base {w : World} {base base' e s n : Nat} {v : Value} {xs : List Value} (h : w.ownsRow base e s v n xs) (hb : base' ≤ base) : w.ownsRow base' e s v n xs := by
  obtain ⟨h1, h2⟩ := h
  refine ⟨h1, ?_⟩
  rcases h2 with h2 | ⟨g, cap, cur, hv, hg, r⟩
  · exact Or.inl h2
  · exact Or.inr ⟨g, cap, cur, hv, Nat.le_trans hb hg, r⟩

/-- Lists of the same bytes, each in a block of its own, none of them in B. -/
structure Dts (w : World) (base : Nat) (B : Nat → Prop) (data : List Int) (ds : List Bl) : Prop where
  own : ∀ d ∈ ds, w.ownsRow base 5 1 d.val d.len (data.map (Value.int .u8))
  apart : ds.Pairwise fun d e => ∀ b, d.val.ownBlock = some b → e.val.ownBlock ≠ some b
  free : ∀ d ∈ ds, ∀ b, d.val.ownBlock = some b → ¬ B b
theorem Dts.nil (w : World) (base : Nat) (B : Nat → Prop) (data : List Int) : Dts w base B data [] := ⟨by simp, List.Pairwise.nil, by simp⟩
theorem Dts.below {w w' : World} {base : Nat} {B : Nat → Prop} {data : List Int} {ds : List Bl} (h : Dts w base B data ds) (hb : Below w.heap.size w w') : Dts w' base B data ds :=
  ⟨fun d hd => own_later (h.own d hd) hb, h.apart, h.free⟩
/-- One more, that was just handed out. -/
theorem Dts.snoc {w w' : World} {base : Nat} {B : Nat → Prop} {data : List Int} {ds : List Bl} {d : Bl} (h : Dts w base B data ds) (hb : Below w.heap.size w w') (hbase : base ≤ w.heap.size) (hB : ∀ k, B k → k < w.heap.size)
    (hd : w'.ownsRow w.heap.size 5 1 d.val d.len (data.map (Value.int .u8))) : Dts w' base B data (ds ++ [d]) := by
  have h1 := h.below hb
  refine ⟨fun x hx => ?_, ?_, fun x hx b hb1 => ?_⟩
  · rcases List.mem_append.1 hx with hx | hx
    · exact h1.own x hx
    · simp at hx; subst hx
      exact own_base hd hbase
  · rw [List.pairwise_append]
    refine ⟨h.apart, List.pairwise_singleton _ _, fun x hx y hy b hb1 hb2 => ?_⟩
    simp at hy; subst hy
    have g1 := ((h.own x hx).lt b hb1).2
    have g2 := (hd.lt b hb2).1
    omega
  · rcases List.mem_append.1 hx with hx | hx
    · exact h.free x hx b hb1
    · simp at hx; subst hx
      intro hBb
      have g1 := hB b hBb
      have g2 := (hd.lt b hb1).1
      omega
/-- The first of them went into the book: the others stay. -/
theorem Dts.tail {w w' : World} {base : Nat} {B : Nat → Prop} {data : List Int} {ds : List Bl} {d : Bl} (h : Dts w base B data (d :: ds)) (hF : FrO B [d.val.ownBlock] w w') : Dts w' base (fun k => B k ∨ d.val.ownBlock = some k ∨ w.heap.size ≤ k) data ds := by
  have hp := List.pairwise_cons.1 h.apart
  refine ⟨fun x hx => own_keepS (h.own x (List.mem_cons_of_mem _ hx)) (fun b hb hv => hF.block b hb (h.free x (List.mem_cons_of_mem _ hx) b hv) (fun hm => ?_)), hp.2, fun x hx b hb hB => ?_⟩
  · simp at hm
    exact hp.1 x hx b hm.symm hv
  · rcases hB with hB | hB | hB
    · exact h.free x (List.mem_cons_of_mem _ hx) b hb hB
    · exact hp.1 x hx b hB hb
    · have := ((h.own x (List.mem_cons_of_mem _ hx)).lt b hb).2
      omega
theorem Dts.apartFrom {w w' : World} {base : Nat} {B B' : Nat → Prop} {data : List Int} {ds : List Bl} (h : Dts w base B data ds) (hk : ∀ b, b < w.heap.size → ¬ B' b → w'.heap[b]? = w.heap[b]?) (hB : ∀ b, b < w.heap.size → B' b → ∀ d ∈ ds, d.val.ownBlock ≠ some b) : Dts w' base B' data ds :=
  ⟨fun d hd => own_keepS (h.own d hd) (fun b hb hv => hk b hb (fun hb' => hB b hb hb' d hd hv)), h.apart, fun d hd b hb hb' => hB b ((h.own d hd).lt b hb).2 hb' d hd hb⟩

/-- The cells of a request whose bytes lie at d. -/
def rqL (r : Req) (d : Bl) : List Value := [.int .i64 r.client, .int .i64 r.seq, .int .i64 r.ack, .int .i64 r.epoch, .int .i64 r.op, .int .i64 r.id, .int .i64 r.id2, .int .i64 r.off, .int .i64 r.len, .string r.path, .string r.name, .string r.name2, .slice d.ao d.len d.cap]
def rqRow (r : Req) (ds : List Bl) : List Value := ds.flatMap (rqL r)
theorem rqRow_length (r : Req) (ds : List Bl) : (rqRow r ds).length = ds.length * 13 := by
  induction ds with
  | nil => rfl
  | cons d ds ih => simp only [rqRow, List.flatMap_cons, List.length_append, List.length_cons] at *; rw [ih]; simp [rqL]; omega
theorem rqRow_snoc (r : Req) (ds : List Bl) (d : Bl) : rqRow r (ds ++ [d]) = rqRow r ds ++ rqL r d := by simp [rqRow]
theorem rqRow_at (r : Req) (ds : List Bl) (j t : Nat) (h : j < ds.length) (ht : t < 13) : (rqRow r ds)[j * 13 + t]? = (rqL r ds[j])[t]? := by
  induction ds generalizing j with
  | nil => simp at h
  | cons d ds ih =>
    have hl : (rqL r d).length = 13 := rfl
    simp only [rqRow, List.flatMap_cons] at *
    match j with
    | 0 => rw [List.getElem?_append_left (by omega)]; simp
    | j + 1 =>
      rw [List.getElem?_append_right (by omega), hl, show (j + 1) * 13 + t - 13 = j * 13 + t by omega, ih j (by simpa using h)]
      simp

/-- The cells of a reply whose bytes lie at d, its entries at l. -/
def rpL (r : Rep) (p : Bl × Bl) : List Value := [.int .i64 r.client, .int .i64 r.seq, .int .i64 r.epoch, .int .i64 r.op, .int .i64 r.status, .int .i64 r.ai, .int .i64 r.ak, .int .i64 r.az, .int .i64 r.ac, .slice p.1.ao p.1.len p.1.cap, .slice p.2.ao p.2.len p.2.cap, .bool r.more]
def rpRow (r : Rep) (ps : List (Bl × Bl)) : List Value := ps.flatMap (rpL r)
theorem rpL_length (r : Rep) (p : Bl × Bl) : (rpL r p).length = 12 := rfl
theorem rpRow_length (r : Rep) (ps : List (Bl × Bl)) : (rpRow r ps).length = ps.length * 12 := by
  induction ps with
  | nil => rfl
  | cons d ds ih => simp only [rpRow, List.flatMap_cons, List.length_append, List.length_cons] at *; rw [ih, rpL_length]; omega
theorem rpRow_snoc (r : Rep) (ps : List (Bl × Bl)) (p : Bl × Bl) : rpRow r (ps ++ [p]) = rpRow r ps ++ rpL r p := by simp [rpRow]
theorem rpRow_at (r : Rep) (ps : List (Bl × Bl)) (j t : Nat) (h : j < ps.length) (ht : t < 12) : (rpRow r ps)[j * 12 + t]? = (rpL r ps[j])[t]? := by
  induction ps generalizing j with
  | nil => simp at h
  | cons d ds ih =>
    have hl := rpL_length r d
    simp only [rpRow, List.flatMap_cons] at *
    match j with
    | 0 => rw [List.getElem?_append_left (by omega)]; simp
    | j + 1 =>
      rw [List.getElem?_append_right (by omega), hl, show (j + 1) * 12 + t - 12 = j * 12 + t by omega, ih j (by simpa using h)]
      simp
end Go.Proofs.YtdkcplndplhblaaGreatDoor

/- A datagram and what is read of it, with the blocks that they lie in. -/
namespace Go.Proofs.YtdkcplndplhblaaGreatDoor
open Go.RowKit
set_option maxRecDepth 100000

theorem encRqO (r : Req) (ao : Option Addr) (n c : Nat) (w : World) (hD : Lies w ao n c r.data) (hp : r.path.size ≤ 281474976710656) (hby : Bys r.data) :
    Calls Tryz.prog 18 #[rqV r ao n c] w fun e w' => ∃ go k l, e = .returned (.tuple #[.slice go k l, .int .i64 (rqE r)]) ∧ Below w.heap.size w w' ∧ (rqE r = 0 → w'.ownsRow w.heap.size 5 1 (.slice go k l) k ((rqB r).map (Value.int .u8))) ∧ (rqE r ≠ 0 → k = 0) := by
  refine (EncodeRequest_any r ao n c w hD hp hby).mono ?_
  rintro e w' (⟨h, he, hb⟩ | ⟨h, g, k, l, he, ho, hb⟩)
  · exact ⟨_, _, _, he, hb, fun q => absurd q h, fun _ => rfl⟩
  · exact ⟨_, _, _, by rw [h]; exact he, hb, fun _ => ho, fun q => absurd h q⟩
theorem encRpO (r : Rep) (ao : Option Addr) (n c : Nat) (lo : Option Addr) (ln lc : Nat) (w : World) (hD : Lies w ao n c r.data) (hE : CLies w lo ln lc 3 (entCells r.list)) (hel : r.list.length = ln) (hby : Bys r.data) :
    Calls Tryz.prog 20 #[rpV r ao n c lo ln lc] w fun e w' => ∃ go k l, e = .returned (.tuple #[.slice go k l, .int .i64 (rpE r)]) ∧ Below w.heap.size w w' ∧ (rpE r = 0 → w'.ownsRow w.heap.size 5 1 (.slice go k l) k ((rpB r).map (Value.int .u8))) ∧ (rpE r ≠ 0 → k = 0) := by
  refine (EncodeReply_any r ao n c lo ln lc w hD hE hel hby).mono ?_
  rintro e w' (⟨h, he, hb⟩ | ⟨h, g, k, l, he, ho, hb⟩)
  · exact ⟨_, _, _, he, hb, fun q => absurd q h, fun _ => rfl⟩
  · exact ⟨_, _, _, by rw [h]; exact he, hb, fun _ => ho, fun q => absurd h q⟩
theorem decRqO {r : Req} (h : rqE r = 0) (hby : Bys r.data) (ao : Option Addr) (m c : Nat) (er : Nat → Addr) (w : World) (hL : Lies w ao m c (rqB r)) (hE : Errs w er) :
    Calls Tryz.prog 27 #[.slice ao m c] w fun e w' => ∃ (bo : Option Addr) (n d : Nat), e = .returned (.tuple #[rqV r bo n d, .int .i64 0]) ∧ w'.ownsRow w.heap.size 5 1 (.slice bo n d) n (r.data.map (Value.int .u8)) ∧ Below w.heap.size w w' := by
  obtain ⟨h1, h2, h3⟩ := rq_back h
  have hm : m ≤ 1400 := by rw [← hL.hlen]; exact h3
  refine (decodeRequest_any ao m c (rqB r) er w hL (by omega) (rqB_bys h hby) hE).mono ?_
  rintro e w' ⟨s, bo, n, d, he, hs, ho, hb⟩
  rw [h2] at hs
  subst hs
  rw [h1] at he
  exact ⟨bo, n, d, he, ho, hb⟩
theorem decRpO {r : Rep} (h : rpE r = 0) (hby : Bys r.data) (ao : Option Addr) (m c : Nat) (er : Nat → Addr) (w : World) (hL : Lies w ao m c (rpB r)) (hE : Errs w er) (ln : Nat) (hel : r.list.length = ln) :
    Calls Tryz.prog 30 #[.slice ao m c] w fun e w' => ∃ (bo : Option Addr) (n d : Nat) (lo : Option Addr) (lc : Nat), e = .returned (.tuple #[rpV r bo n d lo ln lc, .int .i64 0]) ∧ w'.ownsRow w.heap.size 5 1 (.slice bo n d) n (r.data.map (Value.int .u8)) ∧ w'.ownsRow w.heap.size 86 3 (.slice lo ln lc) ln (entCells r.list) ∧ Below w.heap.size w w' := by
  obtain ⟨h1, h2, h3⟩ := rp_back h
  have hm : m ≤ 1400 := by rw [← hL.hlen]; exact h3
  refine (decodeReply_any ao m c (rpB r) er w hL (by omega) (rpB_bys h hby) hE).mono ?_
  rintro e w' ⟨s, bo, n, d, lo, ln', lc, he, hs, ho, ho2, hl, hb⟩
  rw [h2] at hs
  subst hs
  subst hl
  subst hel
  rw [h1] at he
  exact ⟨bo, n, d, lo, lc, he, ho, ho2, hb⟩
end Go.Proofs.YtdkcplndplhblaaGreatDoor

/- A request loaded whole inside a region; what is held while the lists of a request go into the book. -/
namespace Go.Proofs.YtdkcplndplhblaaGreatDoor
open Go.RowKit
set_option maxRecDepth 100000

theorem rqx_size : (Tryz.prog.info? 24).map (·.size) = some 13 := by kernel_rfl
/-- A request's load as the regions meet it. -/
def RqEx (p : Value) : Sem Next := do pure (.value (← Instr.loadAt 24 p))
theorem rqex_load (ev : Operand → Value) (d : Option Tmp) (x : Operand) (t : TypeId) (p : String) (f : Array Edge) (g : Option (Nat × Bool)) : execOp ev ⟨d, .load 24 x, t, p, f, g⟩ = RqEx (ev x) := rfl
theorem rqex_run {w : World} {b o : Nat} {r : Req} {d : Bl} (h : w.rangeAt b o (rqL r d)) : (RqEx (.pointer (some ⟨b, o, none⟩))).run Tryz.prog w = .ok (.value (rqV r d.ao d.len d.cap)) w := by
  unfold RqEx
  simp only [Sem.run_bind, run_loadAt_mid w b o 24 _ _ h Tryz.underlying24 rfl rqx_size, Result.andThen_ok, Sem.run_pure]
  rfl
theorem range_block {w : World} {b o : Nat} {cs : Array Value} {T : TypeId} {fz : Nat × Nat} {xs : List Value} (h : w.heap[b]? = some (.cells cs T fz)) (hx : ∀ j v, xs[j]? = some v → cs[o + j]? = some v) : w.rangeAt b o xs := by
  intro j v hv
  unfold World.cell?
  rw [h]
  exact hx j v hv
/-- The j-th of a row of requests. -/
theorem rqRow_range {w : World} {base g n cap : Nat} {r : Req} {ds : List Bl} (h : w.ownsRow base 24 13 (.slice (some ⟨g, 0, none⟩) n cap) n (rqRow r ds)) {j : Nat} (hj : j < ds.length) : w.rangeAt g (j * 13) (rqL r ds[j]) := by
  obtain ⟨h1, h2⟩ := h
  rw [rqRow_length] at h1
  rcases h2 with ⟨h2, _⟩ | ⟨g2, cap2, cur, hv, _, hh, _, _, _, ht⟩
  · cases h2
  cases hv
  refine range_block hh fun t v hv => ?_
  have ht13 : t < 13 := by
    have := (List.getElem?_eq_some_iff.1 hv).1
    simpa [rqL] using this
  have e := rqRow_at r ds j t hj ht13
  rw [hv, ← ht, List.getElem?_take] at e
  rw [← Array.getElem?_toList]
  split at e
  · exact e
  · cases e
theorem lies_low {base : Nat} {w w' : World} {ao : Option Addr} {len cap : Nat} {bs : List Int} (h : Lies w ao len cap bs) (hb : Below base w w') (hB : ∀ ad, ao = some ad → 0 < len → ad.block < base) : Lies w' ao len cap bs :=
  ⟨h.hlen, h.hle, h.hnone, fun ad had t u hu => by
    have hc := h.hcells ad had t u hu
    have ht := (List.getElem?_eq_some_iff.1 hu).1
    have hl := h.hlen
    rw [List.length_map] at ht
    exact (hb.cell (by rw [add_block]; exact hB ad had (by omega))).trans hc⟩

/-- A request in a box of its own. -/
def RqH (w : World) (q : Nat) (r : Req) (ao : Option Addr) (n c : Nat) : Prop := w.heap[q]? = some (.cells #[.int .i64 r.client, .int .i64 r.seq, .int .i64 r.ack, .int .i64 r.epoch, .int .i64 r.op, .int .i64 r.id, .int .i64 r.id2, .int .i64 r.off, .int .i64 r.len, .string r.path, .string r.name, .string r.name2, .slice ao n c] 24)
theorem RqH.new (w : World) (r : Req) (ao : Option Addr) (n c : Nat) : RqH (w.alloc (.cells #[.int .i64 r.client, .int .i64 r.seq, .int .i64 r.ack, .int .i64 r.epoch, .int .i64 r.op, .int .i64 r.id, .int .i64 r.id2, .int .i64 r.off, .int .i64 r.len, .string r.path, .string r.name, .string r.name2, .slice ao n c] 24)) w.heap.size r ao n c := heap_alloc_new w _
theorem RqH.later {w w' : World} {q : Nat} {r : Req} {ao : Option Addr} {n c : Nat} (h : RqH w q r ao n c) (hb : Below w.heap.size w w') : RqH w' q r ao n c := (hb.block q (lt_of_block h)).trans h
theorem RqH.range {w : World} {q : Nat} {r : Req} {ao : Option Addr} {n c : Nat} (h : RqH w q r ao n c) : w.rangeAt q 0 (rqL r ⟨ao, n, c⟩) := range_block h fun j v hv => by
  rw [Nat.zero_add, ← hv, ← Array.getElem?_toList]
  rfl
theorem RqH.run {w : World} {q : Nat} {r : Req} {ao : Option Addr} {n c : Nat} (h : RqH w q r ao n c) : (RqEx (.pointer (some ⟨q, 0, none⟩))).run Tryz.prog w = .ok (.value (rqV r ao n c)) w := rqex_run h.range

/-- While the lists of a request go into the book: i of them are in. -/
structure RqLp (w : World) (base bk : Nat) (vE : Value) (B : Nat → Prop) (es : List Bl) (r : Req) (ao : Option Addr) (n c g cap : Nat) (ds : List Bl) (i : Nat) (B' : Nat → Prop) (es' : List Bl) (wr : World) : Prop where
  book : Bk wr base bk vE B' (es ++ es')
  len : es'.length = 3 * (2 + i)
  small : ∀ e ∈ es', e.len ≤ 2000000
  dts : Dts wr base B' r.data (ds.drop i)
  row : wr.ownsRow base 24 13 (.slice (some ⟨g, 0, none⟩) 4 cap) 4 (rqRow r ds)
  nrow : ¬ B' g
  box : RqH wr w.heap.size r ao n c
  nbox : ¬ B' w.heap.size
  new : ∀ k, B' k → B k ∨ w.heap.size ≤ k
  fr : Fr B w wr
theorem RqLp.below {w : World} {base bk : Nat} {vE : Value} {B : Nat → Prop} {es : List Bl} {r : Req} {ao : Option Addr} {n c g cap : Nat} {ds : List Bl} {i : Nat} {B' : Nat → Prop} {es' : List Bl} {wr w' : World} (h : RqLp w base bk vE B es r ao n c g cap ds i B' es' wr) (hb : Below wr.heap.size wr w') : RqLp w base bk vE B es r ao n c g cap ds i B' es' w' :=
  ⟨h.book.below hb, h.len, h.small, h.dts.below hb, own_later h.row hb, h.nrow, h.box.later hb, h.nbox, h.new, h.fr.trans ⟨hb.os, hb.tape, hb.output, hb.size, fun k hk _ => hb.block k hk⟩⟩
theorem own_type8 {w : World} {base n c q : Nat} {ao : Option Addr} {xs : List Value} {cs : Array Value} {t : Nat} {fz : Nat × Nat} (h : w.ownsRow base 5 1 (.slice ao n c) n xs) (hq : w.heap[q]? = some (.cells cs t fz)) (ht : t ≠ 5) : (Value.slice ao n c).ownBlock ≠ some q := by
  intro he
  rcases h.2 with ⟨h, _⟩ | ⟨g, cap, cur, h, _, hh, _⟩
  · cases h; cases he
  · cases h; cases he
    rw [hh] at hq
    simp at hq
    exact ht hq.2.1.symm
theorem RqLp.step {w : World} {base bk : Nat} {vE : Value} {B : Nat → Prop} {es : List Bl} {r : Req} {ao : Option Addr} {n c g cap : Nat} {ds : List Bl} {i : Nat} {B' : Nat → Prop} {es' : List Bl} {wr w' : World} {e1 e2 : Bl} (hi : i < ds.length) (hl : ds[i].len ≤ 1500000)
    (h : RqLp w base bk vE B es r ao n c g cap ds i B' es' wr)
    (hB : Bk w' base bk vE (fun k => B' k ∨ (Value.slice ds[i].ao ds[i].len ds[i].cap).ownBlock = some k ∨ wr.heap.size ≤ k) (es ++ es' ++ [⟨ds[i].ao, ds[i].len, ds[i].cap⟩, e1, e2])) (h1 : e1.len = ds[i].len + 1) (h2 : e2.len = ds[i].len + 92) (hF : FrO B' [(Value.slice ds[i].ao ds[i].len ds[i].cap).ownBlock] wr w')
    (hds : ∀ d ∈ ds, ∀ b, d.val.ownBlock = some b → w.heap.size ≤ b) :
    RqLp w base bk vE B es r ao n c g cap ds (i + 1) (fun k => B' k ∨ (Value.slice ds[i].ao ds[i].len ds[i].cap).ownBlock = some k ∨ wr.heap.size ≤ k) (es' ++ [⟨ds[i].ao, ds[i].len, ds[i].cap⟩, e1, e2]) w' := by
  have hd : ds.drop i = ds[i] :: ds.drop (i + 1) := List.drop_eq_getElem_cons hi
  have hD := h.dts
  rw [hd] at hD
  have ho := hD.own ds[i] List.mem_cons_self
  have hgb : ∃ cur, wr.heap[g]? = some (.cells cur 24 (0, 0)) := by
    rcases h.row.2 with ⟨h2, _⟩ | ⟨g2, cap2, cur, hv, _, hh, _⟩
    · cases h2
    · cases hv; exact ⟨cur, hh⟩
  obtain ⟨cur, hg⟩ := hgb
  have tg := own_type8 ho hg (by decide)
  have tq := own_type8 ho h.box (by decide)
  refine ⟨by simpa using hB, by simp [h.len]; omega, fun e he => ?_, hD.tail hF, own_keepS h.row (fun b hb hv => ?_), fun hk => ?_, ?_, fun hk => ?_, fun k hk => ?_, ?_⟩
  · rcases List.mem_append.1 he with he | he
    · exact h.small e he
    · simp at he
      rcases he with rfl | rfl | rfl <;> (try simp only) <;> omega
  · cases hv
    exact hF.block g hb h.nrow (by simpa using fun e => tg e.symm)
  · rcases hk with hk | hk | hk
    · exact h.nrow hk
    · exact tg hk
    · have := lt_of_block hg; omega
  · exact (hF.block _ (lt_of_block h.box) h.nbox (by simpa using fun e => tq e.symm)).trans h.box
  · rcases hk with hk | hk | hk
    · exact h.nbox hk
    · exact tq hk
    · have := lt_of_block h.box; omega
  · rcases hk with hk | hk | hk
    · exact h.new k hk
    · exact .inr (hds _ (List.getElem_mem hi) k hk)
    · exact .inr (Nat.le_trans h.fr.size hk)
  · refine ⟨hF.os.trans h.fr.os, hF.tape.trans h.fr.tape, hF.output.trans h.fr.output, Nat.le_trans h.fr.size hF.size, fun k hk hb => (hF.block k (Nat.lt_of_lt_of_le hk h.fr.size) (fun q => (h.new k q).elim hb (fun q => by omega)) (fun q => ?_)).trans (h.fr.block k hk hb)⟩
    simp at q
    have := hds _ (List.getElem_mem hi) k q.symm
    omega
end Go.Proofs.YtdkcplndplhblaaGreatDoor

/- A reply loaded whole inside a region; what is held while the lists of a reply go into the book. -/
namespace Go.Proofs.YtdkcplndplhblaaGreatDoor
open Go.RowKit
set_option maxRecDepth 100000

theorem rpx_size : (Tryz.prog.info? 30).map (·.size) = some 12 := by kernel_rfl
/-- A reply's load as the regions meet it. -/
def RpEx (p : Value) : Sem Next := do pure (.value (← Instr.loadAt 30 p))
theorem rpex_load (ev : Operand → Value) (d : Option Tmp) (x : Operand) (t : TypeId) (p : String) (f : Array Edge) (g : Option (Nat × Bool)) : execOp ev ⟨d, .load 30 x, t, p, f, g⟩ = RpEx (ev x) := rfl
theorem rpex_run {w : World} {b o : Nat} {r : Rep} {p : Bl × Bl} (h : w.rangeAt b o (rpL r p)) : (RpEx (.pointer (some ⟨b, o, none⟩))).run Tryz.prog w = .ok (.value (rpV r p.1.ao p.1.len p.1.cap p.2.ao p.2.len p.2.cap)) w := by
  unfold RpEx
  simp only [Sem.run_bind, run_loadAt_mid w b o 30 _ _ h Tryz.underlying30 rfl rpx_size, Result.andThen_ok, Sem.run_pure]
  rfl
/-- The j-th of a row of replies. -/
theorem rpRow_range {w : World} {base g n cap : Nat} {r : Rep} {ds : List (Bl × Bl)} (h : w.ownsRow base 30 12 (.slice (some ⟨g, 0, none⟩) n cap) n (rpRow r ds)) {j : Nat} (hj : j < ds.length) : w.rangeAt g (j * 12) (rpL r ds[j]) := by
  obtain ⟨h1, h2⟩ := h
  rw [rpRow_length] at h1
  rcases h2 with ⟨h2, _⟩ | ⟨g2, cap2, cur, hv, _, hh, _, _, _, ht⟩
  · cases h2
  cases hv
  refine range_block hh fun t v hv => ?_
  have ht13 : t < 12 := by
    have := (List.getElem?_eq_some_iff.1 hv).1
    simpa [rpL] using this
  have e := rpRow_at r ds j t hj ht13
  rw [hv, ← ht, List.getElem?_take] at e
  rw [← Array.getElem?_toList]
  split at e
  · exact e
  · cases e
/-- A reply in a box of its own. -/
def RpH (w : World) (q : Nat) (r : Rep) (ao : Option Addr) (n c : Nat) (lo : Option Addr) (ln lc : Nat) : Prop := w.heap[q]? = some (.cells #[.int .i64 r.client, .int .i64 r.seq, .int .i64 r.epoch, .int .i64 r.op, .int .i64 r.status, .int .i64 r.ai, .int .i64 r.ak, .int .i64 r.az, .int .i64 r.ac, .slice ao n c, .slice lo ln lc, .bool r.more] 30)
theorem RpH.new (w : World) (r : Rep) (ao : Option Addr) (n c : Nat) (lo : Option Addr) (ln lc : Nat) : RpH (w.alloc (.cells #[.int .i64 r.client, .int .i64 r.seq, .int .i64 r.epoch, .int .i64 r.op, .int .i64 r.status, .int .i64 r.ai, .int .i64 r.ak, .int .i64 r.az, .int .i64 r.ac, .slice ao n c, .slice lo ln lc, .bool r.more] 30)) w.heap.size r ao n c lo ln lc := heap_alloc_new w _
theorem RpH.later {w w' : World} {q : Nat} {r : Rep} {ao : Option Addr} {n c : Nat} {lo : Option Addr} {ln lc : Nat} (h : RpH w q r ao n c lo ln lc) (hb : Below w.heap.size w w') : RpH w' q r ao n c lo ln lc := (hb.block q (lt_of_block h)).trans h
theorem RpH.range {w : World} {q : Nat} {r : Rep} {ao : Option Addr} {n c : Nat} {lo : Option Addr} {ln lc : Nat} (h : RpH w q r ao n c lo ln lc) : w.rangeAt q 0 (rpL r (⟨ao, n, c⟩, ⟨lo, ln, lc⟩)) := range_block h fun j v hv => by
  rw [Nat.zero_add, ← hv, ← Array.getElem?_toList]
  rfl

theorem RpH.run {w : World} {q : Nat} {r : Rep} {ao : Option Addr} {n c : Nat} {lo : Option Addr} {ln lc : Nat} (h : RpH w q r ao n c lo ln lc) : (RpEx (.pointer (some ⟨q, 0, none⟩))).run Tryz.prog w = .ok (.value (rpV r ao n c lo ln lc)) w := rpex_run h.range

/-- Lists of the same entries, each in a block of its own, none of them in B. -/
structure Dte (w : World) (base : Nat) (B : Nat → Prop) (data : List Value) (ds : List Bl) : Prop where
  own : ∀ d ∈ ds, w.ownsRow base 86 3 d.val d.len data
  apart : ds.Pairwise fun d e => ∀ b, d.val.ownBlock = some b → e.val.ownBlock ≠ some b
  free : ∀ d ∈ ds, ∀ b, d.val.ownBlock = some b → ¬ B b
theorem Dte.nil (w : World) (base : Nat) (B : Nat → Prop) (data : List Value) : Dte w base B data [] := ⟨by simp, List.Pairwise.nil, by simp⟩
theorem Dte.below {w w' : World} {base : Nat} {B : Nat → Prop} {data : List Value} {ds : List Bl} (h : Dte w base B data ds) (hb : Below w.heap.size w w') : Dte w' base B data ds :=
  ⟨fun d hd => own_later (h.own d hd) hb, h.apart, h.free⟩
/-- One more, that was just handed out. -/
theorem Dte.snoc {w w' : World} {base : Nat} {B : Nat → Prop} {data : List Value} {ds : List Bl} {d : Bl} (h : Dte w base B data ds) (hb : Below w.heap.size w w') (hbase : base ≤ w.heap.size) (hB : ∀ k, B k → k < w.heap.size)
    (hd : w'.ownsRow w.heap.size 86 3 d.val d.len data) : Dte w' base B data (ds ++ [d]) := by
  have h1 := h.below hb
  refine ⟨fun x hx => ?_, ?_, fun x hx b hb1 => ?_⟩
  · rcases List.mem_append.1 hx with hx | hx
    · exact h1.own x hx
    · simp at hx; subst hx
      exact own_base hd hbase
  · rw [List.pairwise_append]
    refine ⟨h.apart, List.pairwise_singleton _ _, fun x hx y hy b hb1 hb2 => ?_⟩
    simp at hy; subst hy
    have g1 := ((h.own x hx).lt b hb1).2
    have g2 := (hd.lt b hb2).1
    omega
  · rcases List.mem_append.1 hx with hx | hx
    · exact h.free x hx b hb1
    · simp at hx; subst hx
      intro hBb
      have g1 := hB b hBb
      have g2 := (hd.lt b hb1).1
      omega
/-- The first of them went into the book: the others stay. -/
theorem Dte.tail {w w' : World} {base : Nat} {B : Nat → Prop} {data : List Value} {ds : List Bl} {d : Bl} (h : Dte w base B data (d :: ds)) (hF : FrO B [d.val.ownBlock] w w') : Dte w' base (fun k => B k ∨ d.val.ownBlock = some k ∨ w.heap.size ≤ k) data ds := by
  have hp := List.pairwise_cons.1 h.apart
  refine ⟨fun x hx => own_keepS (h.own x (List.mem_cons_of_mem _ hx)) (fun b hb hv => hF.block b hb (h.free x (List.mem_cons_of_mem _ hx) b hv) (fun hm => ?_)), hp.2, fun x hx b hb hB => ?_⟩
  · simp at hm
    exact hp.1 x hx b hm.symm hv
  · rcases hB with hB | hB | hB
    · exact h.free x (List.mem_cons_of_mem _ hx) b hb hB
    · exact hp.1 x hx b hB hb
    · have := ((h.own x (List.mem_cons_of_mem _ hx)).lt b hb).2
      omega
theorem Dte.apartFrom {w w' : World} {base : Nat} {B B' : Nat → Prop} {data : List Value} {ds : List Bl} (h : Dte w base B data ds) (hk : ∀ b, b < w.heap.size → ¬ B' b → w'.heap[b]? = w.heap[b]?) (hB : ∀ b, b < w.heap.size → B' b → ∀ d ∈ ds, d.val.ownBlock ≠ some b) : Dte w' base B' data ds :=
  ⟨fun d hd => own_keepS (h.own d hd) (fun b hb hv => hk b hb (fun hb' => hB b hb hb' d hd hv)), h.apart, fun d hd b hb hb' => hB b ((h.own d hd).lt b hb).2 hb' d hd hb⟩

/-- While the lists of a reply go into the book: i lists of bytes, j lists of entries are in. -/
structure RpLp (w : World) (base bk : Nat) (B C : Nat → Prop) (es fs : List Bl) (r : Rep) (ao : Option Addr) (n c : Nat) (lo : Option Addr) (ln lc : Nat) (g cap : Nat) (ds gs : List Bl) (i j : Nat) (B' C' : Nat → Prop) (vE : Value) (es' fs' : List Bl) (wr : World) : Prop where
  book : Bk wr base bk vE B' (es ++ es')
  ents : Ek wr base vE C' (fs ++ fs')
  lenB : es'.length = 3 * (2 + i)
  lenE : fs'.length = 3 * j
  smallB : ∀ e ∈ es', e.len ≤ 2000000
  smallE : ∀ e ∈ fs', e.len ≤ 2000000
  bc : ∀ k, C' k → ¬ B' k
  ltB : ∀ k, B' k → k < wr.heap.size
  ltC : ∀ k, C' k → k < wr.heap.size
  dts : Dts wr base (fun k => B' k ∨ C' k) r.data (ds.drop i)
  dte : Dte wr base (fun k => B' k ∨ C' k) (entCells r.list) (gs.drop j)
  row : wr.ownsRow base 30 12 (.slice (some ⟨g, 0, none⟩) 4 cap) 4 (rpRow r (ds.zip gs))
  nrow : ¬ (B' g ∨ C' g)
  box : RpH wr w.heap.size r ao n c lo ln lc
  nbox : ¬ (B' w.heap.size ∨ C' w.heap.size)
  newB : ∀ k, B' k → B k ∨ w.heap.size ≤ k
  newC : ∀ k, C' k → C k ∨ w.heap.size ≤ k
  fr : Fr (fun k => B k ∨ C k) w wr
theorem RpLp.below {w : World} {base bk : Nat} {B C : Nat → Prop} {es fs : List Bl} {r : Rep} {ao : Option Addr} {n c : Nat} {lo : Option Addr} {ln lc g cap : Nat} {ds gs : List Bl} {i j : Nat} {B' C' : Nat → Prop} {vE : Value} {es' fs' : List Bl} {wr w' : World} (h : RpLp w base bk B C es fs r ao n c lo ln lc g cap ds gs i j B' C' vE es' fs' wr) (hb : Below wr.heap.size wr w') : RpLp w base bk B C es fs r ao n c lo ln lc g cap ds gs i j B' C' vE es' fs' w' :=
  { h with
    book := h.book.below hb
    ents := h.ents.below hb
    ltB := fun k hk => Nat.lt_of_lt_of_le (h.ltB k hk) hb.size
    ltC := fun k hk => Nat.lt_of_lt_of_le (h.ltC k hk) hb.size
    dts := h.dts.below hb
    dte := h.dte.below hb
    row := own_later h.row hb
    box := h.box.later hb
    fr := h.fr.trans ⟨hb.os, hb.tape, hb.output, hb.size, fun k hk _ => hb.block k hk⟩ }
theorem FrO.mono {B B' : Nat → Prop} {obs : List (Option Nat)} {w w' : World} (h : FrO B obs w w') (hb : ∀ k, B k → B' k) : FrO B' obs w w' := ⟨h.os, h.tape, h.output, h.size, fun k hk hn ho => h.block k hk (fun q => hn (hb k q)) ho⟩
theorem Dts.weaken {w : World} {base : Nat} {B B' : Nat → Prop} {data : List Int} {ds : List Bl} (h : Dts w base B data ds) (hb : ∀ k, B' k → B k) : Dts w base B' data ds := ⟨h.own, h.apart, fun d hd b hv q => h.free d hd b hv (hb b q)⟩
theorem Dte.weaken {w : World} {base : Nat} {B B' : Nat → Prop} {data : List Value} {ds : List Bl} (h : Dte w base B data ds) (hb : ∀ k, B' k → B k) : Dte w base B' data ds := ⟨h.own, h.apart, fun d hd b hv q => h.free d hd b hv (hb b q)⟩
/-- Two lists of unlike types lie in unlike blocks. -/
theorem own_types {w : World} {base base' e e' s s' n n' : Nat} {v v' : Value} {xs xs' : List Value} (h : w.ownsRow base e s v n xs) (h' : w.ownsRow base' e' s' v' n' xs') (he : e ≠ e') {b : Nat} (hv : v.ownBlock = some b) : v'.ownBlock ≠ some b := by
  intro hv'
  rcases h.2 with ⟨h1, _⟩ | ⟨g, cap, cur, h1, _, hh, _⟩
  · rw [h1] at hv; cases hv
  rcases h'.2 with ⟨h2, _⟩ | ⟨g2, cap2, cur2, h2, _, hh2, _⟩
  · rw [h2] at hv'; cases hv'
  rw [h1] at hv; rw [h2] at hv'
  cases hv; cases hv'
  rw [hh] at hh2
  simp at hh2
  exact he hh2.2
theorem own_typeB {w : World} {base e s n q : Nat} {v : Value} {xs : List Value} {cs : Array Value} {t : Nat} {fz : Nat × Nat} (h : w.ownsRow base e s v n xs) (hq : w.heap[q]? = some (.cells cs t fz)) (ht : t ≠ e) : v.ownBlock ≠ some q := by
  intro he
  rcases h.2 with ⟨h1, _⟩ | ⟨g, cap, cur, h1, _, hh, _⟩
  · rw [h1] at he; cases he
  · rw [h1] at he; cases he
    rw [hh] at hq
    simp at hq
    exact ht hq.2.1.symm
theorem RpLp.stepD {w : World} {base bk : Nat} {B C : Nat → Prop} {es fs : List Bl} {r : Rep} {ao : Option Addr} {n c : Nat} {lo : Option Addr} {ln lc g cap : Nat} {ds gs : List Bl} {i j : Nat} {B' C' : Nat → Prop} {vE : Value} {es' fs' : List Bl} {wr w' : World} {e1 e2 : Bl} (hi : i < ds.length) (hl : ds[i].len ≤ 1500000)
    (h : RpLp w base bk B C es fs r ao n c lo ln lc g cap ds gs i j B' C' vE es' fs' wr)
    (hB : Bk w' base bk vE (fun k => B' k ∨ (Value.slice ds[i].ao ds[i].len ds[i].cap).ownBlock = some k ∨ wr.heap.size ≤ k) (es ++ es' ++ [⟨ds[i].ao, ds[i].len, ds[i].cap⟩, e1, e2])) (h1 : e1.len = ds[i].len + 1) (h2 : e2.len = ds[i].len + 92) (hF : FrO B' [(Value.slice ds[i].ao ds[i].len ds[i].cap).ownBlock] wr w')
    (hds : ∀ d ∈ ds, ∀ b, d.val.ownBlock = some b → w.heap.size ≤ b) :
    RpLp w base bk B C es fs r ao n c lo ln lc g cap ds gs (i + 1) j (fun k => (B' k ∨ (Value.slice ds[i].ao ds[i].len ds[i].cap).ownBlock = some k ∨ wr.heap.size ≤ k) ∧ k < w'.heap.size) C' vE (es' ++ [⟨ds[i].ao, ds[i].len, ds[i].cap⟩, e1, e2]) fs' w' := by
  have hd : ds.drop i = ds[i] :: ds.drop (i + 1) := List.drop_eq_getElem_cons hi
  have hD := h.dts
  rw [hd] at hD
  have ho : wr.ownsRow base 5 1 (Value.slice ds[i].ao ds[i].len ds[i].cap) ds[i].len _ := hD.own ds[i] List.mem_cons_self
  have hfree : ∀ b, (Value.slice ds[i].ao ds[i].len ds[i].cap).ownBlock = some b → ¬ (B' b ∨ C' b) := hD.free ds[i] List.mem_cons_self
  have hgb : ∃ cur, wr.heap[g]? = some (.cells cur 30 (0, 0)) := by
    rcases h.row.2 with ⟨h2, _⟩ | ⟨g2, cap2, cur, hv, _, hh, _⟩
    · cases h2
    · cases hv; exact ⟨cur, hh⟩
  obtain ⟨cur, hg⟩ := hgb
  have tg := own_typeB ho hg (by decide)
  have tq := own_typeB ho h.box (by decide)
  have hFU := hF.mono (B' := fun k => B' k ∨ C' k) (fun _ => Or.inl)
  refine ⟨by simpa using hB.weaken (B' := (fun k => (B' k ∨ (Value.slice ds[i].ao ds[i].len ds[i].cap).ownBlock = some k ∨ wr.heap.size ≤ k) ∧ k < w'.heap.size)) (fun k hk q => ⟨q, hk⟩), h.ents.keep (fun k hk hc => hF.block k hk (h.bc k hc) (fun q => ?_)), by simp [h.lenB]; omega, h.lenE, fun e he => ?_, h.smallE, fun k hc q => ?_, fun k q => q.2, fun k q => Nat.lt_of_lt_of_le (h.ltC k q) hF.size, ?_, ?_, own_keepS h.row (fun b hb hv => ?_), fun q => ?_, ?_, fun q => ?_, fun k q => ?_, h.newC, ?_⟩
  · simp at q
    exact hfree k q.symm (.inr hc)
  · rcases List.mem_append.1 he with he | he
    · exact h.smallB e he
    · simp at he
      rcases he with rfl | rfl | rfl <;> (try simp only) <;> omega
  · rcases q.1 with q | q | q
    · exact h.bc k hc q
    · exact hfree k q (.inr hc)
    · have := h.ltC k hc; omega
  · refine (hD.tail hFU).weaken (fun k q => ?_)
    rcases q with ⟨q | q | q, _⟩ | q
    · exact .inl (.inl q)
    · exact .inr (.inl q)
    · exact .inr (.inr q)
    · exact .inl (.inr q)
  · refine h.dte.apartFrom (fun b hb hn => hF.block b hb (fun q => hn (.inl ⟨.inl q, Nat.lt_of_lt_of_le hb hF.size⟩)) (fun q => ?_)) (fun b hb q d hd he => ?_)
    · simp at q
      exact hn (.inl ⟨.inr (.inl q.symm), Nat.lt_of_lt_of_le hb hF.size⟩)
    · rcases q with ⟨q | q | q, _⟩ | q
      · exact h.dte.free d hd b he (.inl q)
      · exact own_types ho (h.dte.own d hd) (by decide) q he
      · omega
      · exact h.dte.free d hd b he (.inr q)
  · cases hv
    exact hF.block g hb (fun q => h.nrow (.inl q)) (by simpa using fun e => tg e.symm)
  · rcases q with ⟨q | q | q, _⟩ | q
    · exact h.nrow (.inl q)
    · exact tg q
    · have := lt_of_block hg; omega
    · exact h.nrow (.inr q)
  · exact (hF.block _ (lt_of_block h.box) (fun q => h.nbox (.inl q)) (by simpa using fun e => tq e.symm)).trans h.box
  · rcases q with ⟨q | q | q, _⟩ | q
    · exact h.nbox (.inl q)
    · exact tq q
    · have := lt_of_block h.box; omega
    · exact h.nbox (.inr q)
  · rcases q.1 with q | q | q
    · exact h.newB k q
    · exact .inr (hds _ (List.getElem_mem hi) k q)
    · exact .inr (Nat.le_trans h.fr.size q)
  · refine ⟨hF.os.trans h.fr.os, hF.tape.trans h.fr.tape, hF.output.trans h.fr.output, Nat.le_trans h.fr.size hF.size, fun k hk hb => (hF.block k (Nat.lt_of_lt_of_le hk h.fr.size) (fun q => (h.newB k q).elim (fun q => hb (.inl q)) (fun q => by omega)) (fun q => ?_)).trans (h.fr.block k hk hb)⟩
    simp at q
    have := hds _ (List.getElem_mem hi) k q.symm
    omega
theorem RpLp.stepE {w : World} {base bk : Nat} {B C : Nat → Prop} {es fs : List Bl} {r : Rep} {ao : Option Addr} {n c : Nat} {lo : Option Addr} {ln lc g cap : Nat} {ds gs : List Bl} {i j : Nat} {B' C' : Nat → Prop} {vE : Value} {es' fs' : List Bl} {wr w' : World} {vE' : Value} {e1 e2 : Bl} (hj : j < gs.length) (hl : gs[j].len ≤ 1500000)
    (h : RpLp w base bk B C es fs r ao n c lo ln lc g cap ds gs i j B' C' vE es' fs' wr)
    (hB : Bk w' base bk vE' B' (es ++ es')) (hE : Ek w' base vE' (fun k => C' k ∨ (Value.slice gs[j].ao gs[j].len gs[j].cap).ownBlock = some k ∨ wr.heap.size ≤ k) (fs ++ fs' ++ [⟨gs[j].ao, gs[j].len, gs[j].cap⟩, e1, e2])) (h1 : e1.len = gs[j].len + 1) (h2 : e2.len = gs[j].len + 41) (hF : FrO (fun k => C' k ∨ k = bk) [(Value.slice gs[j].ao gs[j].len gs[j].cap).ownBlock] wr w')
    (hgs : ∀ d ∈ gs, ∀ b, d.val.ownBlock = some b → w.heap.size ≤ b) :
    RpLp w base bk B C es fs r ao n c lo ln lc g cap ds gs i (j + 1) B' (fun k => (C' k ∨ (Value.slice gs[j].ao gs[j].len gs[j].cap).ownBlock = some k ∨ wr.heap.size ≤ k) ∧ k < w'.heap.size) vE' es' (fs' ++ [⟨gs[j].ao, gs[j].len, gs[j].cap⟩, e1, e2]) w' := by
  have hd : gs.drop j = gs[j] :: gs.drop (j + 1) := List.drop_eq_getElem_cons hj
  have hD := h.dte
  rw [hd] at hD
  have ho : wr.ownsRow base 86 3 (Value.slice gs[j].ao gs[j].len gs[j].cap) gs[j].len _ := hD.own gs[j] List.mem_cons_self
  have hfree : ∀ b, (Value.slice gs[j].ao gs[j].len gs[j].cap).ownBlock = some b → ¬ (B' b ∨ C' b) := hD.free gs[j] List.mem_cons_self
  have hbk := h.book.hbk.2
  have hgb : ∃ cur, wr.heap[g]? = some (.cells cur 30 (0, 0)) := by
    rcases h.row.2 with ⟨h2, _⟩ | ⟨g2, cap2, cur, hv, _, hh, _⟩
    · cases h2
    · cases hv; exact ⟨cur, hh⟩
  obtain ⟨cur, hg⟩ := hgb
  have tg := own_typeB ho hg (by decide)
  have tq := own_typeB ho h.box (by decide)
  have hFU := hF.mono (B' := fun k => B' k ∨ C' k) (fun k q => q.elim Or.inr (fun q => by subst q; exact Or.inl hbk))
  have nb : ∀ k, ¬ (B' k ∨ C' k) → ¬ (C' k ∨ k = bk) := fun k hn q => q.elim (fun q => hn (.inr q)) (fun q => hn (.inl (by subst q; exact hbk)))
  refine ⟨hB, by simpa using hE.weaken (C' := (fun k => (C' k ∨ (Value.slice gs[j].ao gs[j].len gs[j].cap).ownBlock = some k ∨ wr.heap.size ≤ k) ∧ k < w'.heap.size)) (fun k hk q => ⟨q, hk⟩), h.lenB, by simp [h.lenE]; omega, h.smallB, fun e he => ?_, fun k hc q => ?_, fun k q => Nat.lt_of_lt_of_le (h.ltB k q) hF.size, fun k q => q.2, ?_, ?_, own_keepS h.row (fun b hb hv => ?_), fun q => ?_, ?_, fun q => ?_, h.newB, fun k q => ?_, ?_⟩
  · rcases List.mem_append.1 he with he | he
    · exact h.smallE e he
    · simp at he
      rcases he with rfl | rfl | rfl <;> (try simp only) <;> omega
  · rcases hc.1 with hc | hc | hc
    · exact h.bc k hc q
    · exact hfree k hc (.inl q)
    · have := h.ltB k q; omega
  · refine h.dts.apartFrom (fun b hb hn => hFU.block b hb (fun q => hn (q.elim Or.inl (fun q => .inr ⟨.inl q, Nat.lt_of_lt_of_le hb hF.size⟩))) (fun q => ?_)) (fun b hb q d hd he => ?_)
    · simp at q
      exact hn (.inr ⟨.inr (.inl q.symm), Nat.lt_of_lt_of_le hb hF.size⟩)
    · rcases q with q | ⟨q | q | q, _⟩
      · exact h.dts.free d hd b he (.inl q)
      · exact h.dts.free d hd b he (.inr q)
      · exact own_types ho (h.dts.own d hd) (by decide) q he
      · omega
  · refine (hD.tail hFU).weaken (fun k q => ?_)
    rcases q with q | ⟨q | q | q, _⟩
    · exact .inl (.inl q)
    · exact .inl (.inr q)
    · exact .inr (.inl q)
    · exact .inr (.inr q)
  · cases hv
    exact hFU.block g hb h.nrow (by simpa using fun e => tg e.symm)
  · rcases q with q | ⟨q | q | q, _⟩
    · exact h.nrow (.inl q)
    · exact h.nrow (.inr q)
    · exact tg q
    · have := lt_of_block hg; omega
  · exact (hFU.block _ (lt_of_block h.box) h.nbox (by simpa using fun e => tq e.symm)).trans h.box
  · rcases q with q | ⟨q | q | q, _⟩
    · exact h.nbox (.inl q)
    · exact h.nbox (.inr q)
    · exact tq q
    · have := lt_of_block h.box; omega
  · rcases q.1 with q | q | q
    · exact h.newC k q
    · exact .inr (hgs _ (List.getElem_mem hj) k q)
    · exact .inr (Nat.le_trans h.fr.size q)
  · refine ⟨hF.os.trans h.fr.os, hF.tape.trans h.fr.tape, hF.output.trans h.fr.output, Nat.le_trans h.fr.size hF.size, fun k hk hb => (hFU.block k (Nat.lt_of_lt_of_le hk h.fr.size) (fun q => q.elim (fun q => (h.newB k q).elim (fun q => hb (.inl q)) (fun q => by omega)) (fun q => (h.newC k q).elim (fun q => hb (.inr q)) (fun q => by omega))) (fun q => ?_)).trans (h.fr.block k hk hb)⟩
    simp at q
    have := hgs _ (List.getElem_mem hj) k q.symm
    omega
end Go.Proofs.YtdkcplndplhblaaGreatDoor
