/- Fields are put behind bytes, one behind the other. -/
import Derived.Test.YtdkcplndplhblaaGreatDoorPk07
import Derived.Test.YtdkcplndplhblaaGreatDoorPk05
import Derived.Deep.RegionHeld3
namespace Go.Proofs.YtdkcplndplhblaaGreatDoor
open Go.RowKit
set_option maxRecDepth 100000

/-- What stands in a field is not long. -/
def Small : Val → Prop
  | .path s => s.size ≤ 1000
  | .name s => s.size ≤ 1000
  | .content d => d.length ≤ 2000
  | .entries l => l.length ≤ 16 ∧ ∀ e ∈ l, e.name.size ≤ 1000
  | _ => True
def putAll (gs : List (Int × Val)) : List Int := gs.flatMap fun g => putV g.2

theorem flat_len (l : List Ent) (B : Nat) (h : ∀ e ∈ l, (entB e).length ≤ B) : (l.flatMap entB).length ≤ l.length * B := by
  induction l with
  | nil => simp
  | cons e l ih =>
    have h1 := h e (by simp)
    have h2 := ih (fun x hx => h x (by simp [hx]))
    simp only [List.flatMap_cons, List.length_append, List.length_cons, Nat.add_mul]
    omega

set_option maxHeartbeats 1000000 in
theorem putAll_any (gs : List (Int × Val)) (fo : Option Addr) (n fc : Nat) (ao : Option Addr) (len cap : Nat) (bs : List Int) (w : World) (hbd : len ≤ 10000) (hL : Lies w ao len cap bs)
    (hF : FLies w fo n fc gs) (hn : n ≤ 100) (hs : ∀ g ∈ gs, Small g.2) :
    Calls Tryz.prog 93 #[.slice ao len cap, .slice fo n fc] w fun e w' => ∃ ao' n' c', e = .returned (.slice ao' n' c') ∧ Lies w' ao' n' c' (bs ++ putAll gs) ∧ Below w.heap.size w w' := by
  have hni : (n : Int) ≤ 100 := by omega
  have hgl := hF.hlen
  go_enter Tryz.func93, Tryz.ntmps93
  go_wp2
  go_loopw [0, 9] (fun s i wr => ∃ (k : Nat) (a : Option Addr) (m c : Nat), k ≤ n ∧ i = .int .i64 k ∧ s = .slice a m c ∧ Lies wr a m c (bs ++ putAll (gs.take k)) ∧ m ≤ len + k * 20000 ∧ Below w.heap.size w wr) (fun _ i _ => n - (intOf i).toNat)
  case atStart => exact ⟨0, ao, len, cap, Nat.zero_le _, rfl, rfl, by simpa [putAll] using hL, by omega, Below.refl _ _⟩
  case round =>
    obtain ⟨k, a, m, c, hk, rfl, rfl, hLk, hm, hb⟩ := hrel
    have hbs := hb.size
    by_cases hlt : k < n
    · have hki : decide ((k : Int) < (n : Int)) = true := by simpa using hlt
      obtain ⟨b', o', v, rfl, _, q0, q1, hv⟩ := hF.at (show k < gs.length by omega)
      have q0 := cell_later hb q0 (Nat.le_refl _)
      have q1 := cell_later hb q1 (Nat.le_refl _)
      have hst : putAll (gs.take (k + 1)) = putAll (gs.take k) ++ putV (gs[k]'(by omega)).2 := by
        rw [putAll, List.take_succ_eq_append_getElem (by omega), List.flatMap_append]; simp [putAll]
      have hsm := hs _ (List.getElem_mem (show k < gs.length by omega))
      have HS : Hid (putAll (gs.take (k + 1)) = putAll (gs.take k) ++ putV (gs[k]'(by omega)).2) := hst
      have hvw := hv.below hb (Nat.le_refl _)
      clear hst hv hF hs
      generalize (gs[k]'(by omega)) = x at *
      obtain ⟨no, x⟩ := x
      simp only at q0 q1 hsm hvw
      generalize putAll (gs.take k) = mid at *
      cases x with
      | small x =>
        cases hvw
        have hmeth := meth_small_put
        go_wp2_with fail
        refine (small_put x _ m c _ _ (by omega) (hLk.boxed _)).mono ?_
        rintro e w2 ⟨g2, m2, c2, rfl, hL2, hg2, hb2⟩
        have hq2 : Below w.heap.size w w2 := (hb.alloc hb.size _).trans (hb2.mono (by simp; omega))
        have n2 : m2 ≤ m + 20000 := by
          have h1 := hL2.hlen; have h2 := hLk.hlen; simp [putV, be_length] at h1 h2; omega
        have hL3 : Lies w2 (some ⟨g2, 0, none⟩) m2 c2 (bs ++ putAll (gs.take (k + 1))) := by
          have := HS.out
          rw [this, ← List.append_assoc]
          exact hL2
        clear hL2 hLk hb2 q0 q1
        go_wp2
        go_roundw
        case rel => exact ⟨k + 1, _, m2, c2, by omega, by go_num, rfl, hL3, by omega, hq2⟩
        case measure => simp [intOf]; omega
      | great x =>
        cases hvw
        have hmeth := meth_great_put
        go_wp2_with fail
        refine (great_put x _ m c _ _ (by omega) (hLk.boxed _)).mono ?_
        rintro e w2 ⟨g2, m2, c2, rfl, hL2, hg2, hb2⟩
        have hq2 : Below w.heap.size w w2 := (hb.alloc hb.size _).trans (hb2.mono (by simp; omega))
        have n2 : m2 ≤ m + 20000 := by
          have h1 := hL2.hlen; have h2 := hLk.hlen; simp [putV, be_length] at h1 h2; omega
        have hL3 : Lies w2 (some ⟨g2, 0, none⟩) m2 c2 (bs ++ putAll (gs.take (k + 1))) := by
          have := HS.out
          rw [this, ← List.append_assoc]
          exact hL2
        clear hL2 hLk hb2 q0 q1
        go_wp2
        go_roundw
        case rel => exact ⟨k + 1, _, m2, c2, by omega, by go_num, rfl, hL3, by omega, hq2⟩
        case measure => simp [intOf]; omega
      | flag b =>
        cases hvw
        have hmeth := meth_flag_put
        go_wp2_with fail
        refine (flag_put b _ m c _ _ (by omega) (hLk.boxed _)).mono ?_
        rintro e w2 ⟨g2, m2, c2, rfl, hL2, hg2, hb2⟩
        have hq2 : Below w.heap.size w w2 := (hb.alloc hb.size _).trans (hb2.mono (by simp; omega))
        have n2 : m2 ≤ m + 20000 := by
          have h1 := hL2.hlen; have h2 := hLk.hlen; simp [putV, be_length] at h1 h2; omega
        have hL3 : Lies w2 (some ⟨g2, 0, none⟩) m2 c2 (bs ++ putAll (gs.take (k + 1))) := by
          have := HS.out
          rw [this, ← List.append_assoc]
          exact hL2
        clear hL2 hLk hb2 q0 q1
        go_wp2
        go_roundw
        case rel => exact ⟨k + 1, _, m2, c2, by omega, by go_num, rfl, hL3, by omega, hq2⟩
        case measure => simp [intOf]; omega
      | path t =>
        cases hvw
        have ht : t.size ≤ 1000 := hsm
        have hmeth := meth_path_put
        go_wp2_with fail
        refine (path_put t _ m c _ _ (by omega) (by omega) (hLk.boxed _)).mono ?_
        rintro e w2 ⟨g2, m2, c2, rfl, hL2, hg2, hb2⟩
        have hq2 : Below w.heap.size w w2 := (hb.alloc hb.size _).trans (hb2.mono (by simp; omega))
        have n2 : m2 ≤ m + 20000 := by
          have h1 := hL2.hlen; have h2 := hLk.hlen; have h3 := txB_length t; have h4 := padN_le t.size; simp [putV] at h1 h2; omega
        have hL3 : Lies w2 (some ⟨g2, 0, none⟩) m2 c2 (bs ++ putAll (gs.take (k + 1))) := by
          have := HS.out
          rw [this, ← List.append_assoc]
          exact hL2
        clear hL2 hLk hb2 q0 q1
        go_wp2
        go_roundw
        case rel => exact ⟨k + 1, _, m2, c2, by omega, by go_num, rfl, hL3, by omega, hq2⟩
        case measure => simp [intOf]; omega
      | name t =>
        cases hvw
        have ht : t.size ≤ 1000 := hsm
        have hmeth := meth_name_put
        go_wp2_with fail
        refine (name_put t _ m c _ _ (by omega) (by omega) (hLk.boxed _)).mono ?_
        rintro e w2 ⟨g2, m2, c2, rfl, hL2, hg2, hb2⟩
        have hq2 : Below w.heap.size w w2 := (hb.alloc hb.size _).trans (hb2.mono (by simp; omega))
        have n2 : m2 ≤ m + 20000 := by
          have h1 := hL2.hlen; have h2 := hLk.hlen; have h3 := txB_length t; have h4 := padN_le t.size; simp [putV] at h1 h2; omega
        have hL3 : Lies w2 (some ⟨g2, 0, none⟩) m2 c2 (bs ++ putAll (gs.take (k + 1))) := by
          have := HS.out
          rw [this, ← List.append_assoc]
          exact hL2
        clear hL2 hLk hb2 q0 q1
        go_wp2
        go_roundw
        case rel => exact ⟨k + 1, _, m2, c2, by omega, by go_num, rfl, hL3, by omega, hq2⟩
        case measure => simp [intOf]; omega
      | content d =>
        obtain ⟨da, dn, dc, rfl, hD⟩ := hvw
        have ht : d.length ≤ 2000 := hsm
        have hdn := hD.hlen
        have hdb : dn ≤ 2000 := by omega
        clear hdn
        have hmeth := meth_content_put
        go_wp2_with fail
        refine (content_put da dn dc d _ m c _ _ (by omega) (by omega) (hD.boxed _) (hLk.boxed _)).mono ?_
        rintro e w2 ⟨g2, m2, c2, rfl, hL2, hg2, hb2⟩
        have hq2 : Below w.heap.size w w2 := (hb.alloc hb.size _).trans (hb2.mono (by simp; omega))
        have n2 : m2 ≤ m + 20000 := by
          have h1 := hL2.hlen; have h2 := hLk.hlen; have h3 := dtB_length d; have h4 := padN_le d.length; simp [putV] at h1 h2; omega
        have hL3 : Lies w2 (some ⟨g2, 0, none⟩) m2 c2 (bs ++ putAll (gs.take (k + 1))) := by
          have := HS.out
          rw [this, ← List.append_assoc]
          exact hL2
        clear hL2 hLk hb2 q0 q1
        go_wp2
        go_roundw
        case rel => exact ⟨k + 1, _, m2, c2, by omega, by go_num, rfl, hL3, by omega, hq2⟩
        case measure => simp [intOf]; omega
      | attr i kd z cg =>
        cases hvw
        have hmeth := meth_attr_put
        go_wp2_with fail
        refine (attr_put i kd z cg _ m c _ _ (by omega) (hLk.boxed _)).mono ?_
        rintro e w2 ⟨g2, m2, c2, rfl, hL2, hg2, hb2⟩
        have hq2 : Below w.heap.size w w2 := (hb.alloc hb.size _).trans (hb2.mono (by simp; omega))
        have n2 : m2 ≤ m + 20000 := by
          have h1 := hL2.hlen; have h2 := hLk.hlen; simp [putV, be_length] at h1 h2; omega
        have hL3 : Lies w2 (some ⟨g2, 0, none⟩) m2 c2 (bs ++ putAll (gs.take (k + 1))) := by
          have := HS.out
          rw [this, ← List.append_assoc]
          exact hL2
        clear hL2 hLk hb2 q0 q1
        go_wp2
        go_roundw
        case rel => exact ⟨k + 1, _, m2, c2, by omega, by go_num, rfl, hL3, by omega, hq2⟩
        case measure => simp [intOf]; omega
      | entries l =>
        obtain ⟨da, dn, dc, rfl, hD, hdl⟩ := hvw
        obtain ⟨ht, hte⟩ : l.length ≤ 16 ∧ ∀ e ∈ l, e.name.size ≤ 1000 := hsm
        have HD : Hid (l.length = dn) := hdl
        have hdb : dn ≤ 16 := by omega
        clear hdl
        have hmeth := meth_entries_put
        go_wp2_with fail
        refine (entries_put l da dn dc _ m c _ _ (by omega) (hLk.boxed _) (hD.boxed _) HD.out (by omega) hte).mono ?_
        rintro e w2 ⟨g2, m2, c2, rfl, hL2, hg2, hb2⟩
        have hq2 : Below w.heap.size w w2 := (hb.alloc hb.size _).trans (hb2.mono (by simp; omega))
        have n2 : m2 ≤ m + 20000 := by
          have h1 := hL2.hlen; have h2 := hLk.hlen; have h3 := flat_len l 1100 (fun e he => by have h5 := txB_length e.name; have h6 := padN_le e.name.size; have h7 := hte e he; simp [entB, be_length]; omega); simp only [List.length_append, putV, be_length] at h1 h2; omega
        have hL3 : Lies w2 (some ⟨g2, 0, none⟩) m2 c2 (bs ++ putAll (gs.take (k + 1))) := by
          have := HS.out
          rw [this, ← List.append_assoc]
          exact hL2
        clear hL2 hLk hb2 q0 q1
        go_wp2
        go_roundw
        case rel => exact ⟨k + 1, _, m2, c2, by omega, by go_num, rfl, hL3, by omega, hq2⟩
        case measure => simp [intOf]; omega
    · clear hF hs
      have hki : decide ((k : Int) < (n : Int)) = false := by simp; omega
      go_wp2
      go_ret
      rw [List.take_of_length_le (by omega)] at hLk
      exact ⟨a, m, c, rfl, hLk, hb⟩
end Go.Proofs.YtdkcplndplhblaaGreatDoor

/- Plain words on names and rows of texts. -/
namespace Go.Proofs.YtdkcplndplhblaaGreatDoor.N3
open Go.RowKit
set_option maxRecDepth 100000

theorem allN_judge {xs : List ByteArray} (h : xs.length ≤ 16) : allN xs = judge (xs.map bs) := by
  unfold allN judge
  rw [if_neg (show ¬ 16 < (xs.map bs).length by simp; omega), List.all_map]
  rfl
theorem judge_small {xs : List ByteArray} (h : judge (xs.map bs) = 0) : xs.length ≤ 16 ∧ ∀ x, x ∈ xs → x.size ≤ 23 := by
  obtain ⟨h1, h2⟩ := judge_zero.1 h
  refine ⟨by simpa using h1, fun x hx => ?_⟩
  rw [size_bs]
  exact (okName_len (h2 _ (List.mem_map_of_mem hx))).2

theorem own_below {w w' : World} {base n c B : Nat} {ao : Option Addr} {xs : List Value} (h : w.ownsRow base 9 1 (.slice ao n c) n xs) (hb : Below B w w') (hB : w.heap.size ≤ B) : w'.ownsRow base 9 1 (.slice ao n c) n xs := by
  rcases h with ⟨h0, h1 | ⟨g', cap, cur, h2, h3, h4, h5⟩⟩
  · exact ⟨h0, Or.inl h1⟩
  · have := (Array.getElem?_eq_some_iff.1 h4).1
    exact ⟨h0, Or.inr ⟨g', cap, cur, h2, h3, (hb.block _ (by omega)).trans h4, h5⟩⟩
theorem own_block {w : World} {base n c : Nat} {ao : Option Addr} {xs : List Value} (h : w.ownsRow base 9 1 (.slice ao n c) n xs) : ∀ k, (Value.slice ao n c).ownBlock = some k → base ≤ k := by
  intro k hk
  rcases h with ⟨h0, ⟨h1, _⟩ | ⟨g', cap, cur, h2, h3, h4, h5⟩⟩
  · cases h1; simp [Value.ownBlock] at hk
  · cases h2; simp [Value.ownBlock] at hk; omega
theorem map_tx_bs (l : List (List UInt8)) : (l.map tx).map bs = l := by
  rw [List.map_map]
  have : bs ∘ tx = id := by funext x; simp
  rw [this]; simp
theorem splitL_len (p : List UInt8) : (splitL p).length ≤ 16 := by
  by_cases h : splitE p = 0
  · exact (judge_zero.1 (path_split h).1).1
  · rw [splitL_err h]; simp

theorem _root_.Go.RowKit.Below.drewN {B : Nat} {w w' : World} (h : Below B w w') (m : Nat) : Below B w (w'.drewN m) := ⟨h.os, h.tape, h.output, h.size, h.block⟩

theorem _root_.Go.RowKit.Below.drew_trans {B : Nat} {w w' : World} (h : Below B w.drew w') : Below B w w' := ⟨h.os, h.tape, h.output, h.size, h.block⟩

end Go.Proofs.YtdkcplndplhblaaGreatDoor.N3

/- The bodies of messages; encode. -/
namespace Go.Proofs.YtdkcplndplhblaaGreatDoor
open Go.RowKit
set_option maxRecDepth 100000

theorem hasRq_len (op : Int) : (hasRq op).length ≤ 4 := by
  unfold hasRq
  repeat (first | (split; · simp) | simp)
theorem hasRp_len (op st : Int) : (hasRp op st).length ≤ 4 := by
  unfold hasRp
  split
  · split
    · simp
    · split
      · simp
      · split <;> simp
  · simp
theorem drw {B : Nat} {w w' : World} (h : Below B w w') : Below B w w'.drew := ⟨h.os, h.tape, h.output, h.size, h.block⟩
theorem has_small {w : World} {ao : Option Addr} {n c : Nat} {l : List Int} (h : ILies w ao n c l) (hl : l.length ≤ 4) : n ≤ 1000 := by
  have := h.hlen; simp at this; omega
theorem those_any (fo : Option Addr) (n c : Nat) (gs : List (Int × Val)) (ho : Option Addr) (hn hc : Nat) (l : List Int) (w : World) (hF : FLies w fo n c gs) (h0 : 0 < n) (hbd : n ≤ 1000) (hL : ILies w ho hn hc l) (hbd2 : hn ≤ 1000) :
    Calls Tryz.prog 96 #[.slice fo n c, .slice ho hn hc] w fun e w' => ∃ fo m k, e = .returned (.slice fo m k) ∧ FLies w' fo m k (pick l gs) ∧ Below w.heap.size w w' := by
  obtain ⟨b, o, v, rfl, _⟩ := hF.at (show 0 < gs.length by rw [hF.hlen]; exact h0)
  exact those_pos b o c n gs ho hn hc l w hF hbd hL hbd2

/-- A message in a box of its own. -/
abbrev RqBox (w : World) (B : Nat) (r : Req) (ao : Option Addr) (n c : Nat) : Prop := w.cell? ⟨B, 0, none⟩ = some (.int .i64 r.client) ∧ w.cell? ⟨B, 1, none⟩ = some (.int .i64 r.seq) ∧ w.cell? ⟨B, 2, none⟩ = some (.int .i64 r.ack) ∧ w.cell? ⟨B, 3, none⟩ = some (.int .i64 r.epoch) ∧ w.cell? ⟨B, 4, none⟩ = some (.int .i64 r.op) ∧ w.cell? ⟨B, 5, none⟩ = some (.int .i64 r.id) ∧ w.cell? ⟨B, 6, none⟩ = some (.int .i64 r.id2) ∧ w.cell? ⟨B, 7, none⟩ = some (.int .i64 r.off) ∧ w.cell? ⟨B, 8, none⟩ = some (.int .i64 r.len) ∧ w.cell? ⟨B, 9, none⟩ = some (.string r.path) ∧ w.cell? ⟨B, 10, none⟩ = some (.string r.name) ∧ w.cell? ⟨B, 11, none⟩ = some (.string r.name2) ∧ w.cell? ⟨B, 12, none⟩ = some (.slice ao n c)
theorem RqBox.later {B Bd : Nat} {w w' : World} {r : Req} {ao : Option Addr} {n c : Nat} (h : RqBox w B r ao n c) (hb : Below Bd w w') (hB : w.heap.size ≤ Bd) : RqBox w' B r ao n c :=
  ⟨cell_later hb h.1 hB, cell_later hb h.2.1 hB, cell_later hb h.2.2.1 hB, cell_later hb h.2.2.2.1 hB, cell_later hb h.2.2.2.2.1 hB, cell_later hb h.2.2.2.2.2.1 hB, cell_later hb h.2.2.2.2.2.2.1 hB, cell_later hb h.2.2.2.2.2.2.2.1 hB, cell_later hb h.2.2.2.2.2.2.2.2.1 hB, cell_later hb h.2.2.2.2.2.2.2.2.2.1 hB, cell_later hb h.2.2.2.2.2.2.2.2.2.2.1 hB, cell_later hb h.2.2.2.2.2.2.2.2.2.2.2.1 hB, cell_later hb h.2.2.2.2.2.2.2.2.2.2.2.2 hB⟩
theorem RqBox.new (w : World) (r : Req) (ao : Option Addr) (n c : Nat) : RqBox (w.alloc (.cells #[.int .i64 r.client, .int .i64 r.seq, .int .i64 r.ack, .int .i64 r.epoch, .int .i64 r.op, .int .i64 r.id, .int .i64 r.id2, .int .i64 r.off, .int .i64 r.len, .string r.path, .string r.name, .string r.name2, .slice ao n c] 24)) w.heap.size r ao n c := by
  refine ⟨?_, ?_, ?_, ?_, ?_, ?_, ?_, ?_, ?_, ?_, ?_, ?_, ?_⟩ <;> simp [go_sem]
/-- A message in a box of its own. -/
abbrev RpBox (w : World) (B : Nat) (r : Rep) (ao : Option Addr) (n c : Nat) (lo : Option Addr) (ln lc : Nat) : Prop := w.cell? ⟨B, 0, none⟩ = some (.int .i64 r.client) ∧ w.cell? ⟨B, 1, none⟩ = some (.int .i64 r.seq) ∧ w.cell? ⟨B, 2, none⟩ = some (.int .i64 r.epoch) ∧ w.cell? ⟨B, 3, none⟩ = some (.int .i64 r.op) ∧ w.cell? ⟨B, 4, none⟩ = some (.int .i64 r.status) ∧ w.cell? ⟨B, 5, none⟩ = some (.int .i64 r.ai) ∧ w.cell? ⟨B, 6, none⟩ = some (.int .i64 r.ak) ∧ w.cell? ⟨B, 7, none⟩ = some (.int .i64 r.az) ∧ w.cell? ⟨B, 8, none⟩ = some (.int .i64 r.ac) ∧ w.cell? ⟨B, 9, none⟩ = some (.slice ao n c) ∧ w.cell? ⟨B, 10, none⟩ = some (.slice lo ln lc) ∧ w.cell? ⟨B, 11, none⟩ = some (.bool r.more)
theorem RpBox.later {B Bd : Nat} {w w' : World} {r : Rep} {ao : Option Addr} {n c : Nat} {lo : Option Addr} {ln lc : Nat} (h : RpBox w B r ao n c lo ln lc) (hb : Below Bd w w') (hB : w.heap.size ≤ Bd) : RpBox w' B r ao n c lo ln lc :=
  ⟨cell_later hb h.1 hB, cell_later hb h.2.1 hB, cell_later hb h.2.2.1 hB, cell_later hb h.2.2.2.1 hB, cell_later hb h.2.2.2.2.1 hB, cell_later hb h.2.2.2.2.2.1 hB, cell_later hb h.2.2.2.2.2.2.1 hB, cell_later hb h.2.2.2.2.2.2.2.1 hB, cell_later hb h.2.2.2.2.2.2.2.2.1 hB, cell_later hb h.2.2.2.2.2.2.2.2.2.1 hB, cell_later hb h.2.2.2.2.2.2.2.2.2.2.1 hB, cell_later hb h.2.2.2.2.2.2.2.2.2.2.2 hB⟩
theorem RpBox.new (w : World) (r : Rep) (ao : Option Addr) (n c : Nat) (lo : Option Addr) (ln lc : Nat) : RpBox (w.alloc (.cells #[.int .i64 r.client, .int .i64 r.seq, .int .i64 r.epoch, .int .i64 r.op, .int .i64 r.status, .int .i64 r.ai, .int .i64 r.ak, .int .i64 r.az, .int .i64 r.ac, .slice ao n c, .slice lo ln lc, .bool r.more] 30)) w.heap.size r ao n c lo ln lc := by
  refine ⟨?_, ?_, ?_, ?_, ?_, ?_, ?_, ?_, ?_, ?_, ?_, ?_⟩ <;> simp [go_sem]

set_option maxHeartbeats 4000000 in
theorem requestBody_any (r : Req) (ao : Option Addr) (n c : Nat) (w : World) (hD : Lies w ao n c r.data) :
    Calls Tryz.prog 50 #[rqV r ao n c] w fun e w' => ∃ fo m k, e = .returned (.slice fo m k) ∧ FLies w' fo m k (pick (hasRq r.op) (rqAny r)) ∧ Below w.heap.size w w' := by
  have hB0 := RqBox.new w r ao n c
  go_enter Tryz.func50, Tryz.ntmps50
  go_wp2_with fail
  generalize hw0 : w.alloc (.cells #[.int .i64 r.client, .int .i64 r.seq, .int .i64 r.ack, .int .i64 r.epoch, .int .i64 r.op, .int .i64 r.id, .int .i64 r.id2, .int .i64 r.off, .int .i64 r.len, .string r.path, .string r.name, .string r.name2, .slice ao n c] 24) = w0 at *
  have hb0 : Below w.heap.size w w0.drew := drw (hw0 ▸ newBox w _)
  replace hB0 : RqBox w0.drew w.heap.size r ao n c := hB0
  go_region_held3 (fun w' => w'.cell? ⟨w.heap.size, 0, none⟩ = some (.int .i64 r.client) ∧ w'.cell? ⟨w.heap.size, 1, none⟩ = some (.int .i64 r.seq) ∧ w'.cell? ⟨w.heap.size, 2, none⟩ = some (.int .i64 r.ack) ∧ w'.cell? ⟨w.heap.size, 3, none⟩ = some (.int .i64 r.epoch) ∧ w'.cell? ⟨w.heap.size, 4, none⟩ = some (.int .i64 r.op) ∧ w'.cell? ⟨w.heap.size, 5, none⟩ = some (.int .i64 r.id) ∧ w'.cell? ⟨w.heap.size, 6, none⟩ = some (.int .i64 r.id2) ∧ w'.cell? ⟨w.heap.size, 7, none⟩ = some (.int .i64 r.off) ∧ w'.cell? ⟨w.heap.size, 8, none⟩ = some (.int .i64 r.len) ∧ w'.cell? ⟨w.heap.size, 9, none⟩ = some (.string r.path) ∧ w'.cell? ⟨w.heap.size, 10, none⟩ = some (.string r.name) ∧ w'.cell? ⟨w.heap.size, 11, none⟩ = some (.string r.name2) ∧ w'.cell? ⟨w.heap.size, 12, none⟩ = some (.slice ao n c))
    (first | exact hB0 | exact hB1 | exact hB2 | exact hB3)
    (first
      | (go_at_call 82; refine (anyRequestBody_any r ao n c _ (hD.below hb0 (Nat.le_refl _))).mono ?_; rintro e w1 ⟨fo1, k1, rfl, hF1, hb1⟩; have hB1 := RqBox.later hB0 hb1 (Nat.le_refl _))
      | (go_at_call 83; refine (requestHas_any r.op _).mono ?_; rintro e w2 ⟨ho, hn, hc, rfl, hH2, hb2⟩; have hB2 := RqBox.later hB1 hb2 (Nat.le_refl _))
      | (go_at_call 96; refine (those_any fo1 8 k1 _ ho hn hc (hasRq r.op) _ (hF1.below hb2 (Nat.le_refl _)) (by omega) (by omega) hH2 (has_small hH2 (hasRq_len _))).mono ?_; rintro e w3 ⟨fo3, m3, k3, rfl, hF3, hb3⟩; have hB3 := RqBox.later hB2 hb3 (Nat.le_refl _)))
  clear hB0 hB1 hB2 hB3
  have hq1 := hb0.trans (hb1.mono hb0.size)
  have hq2 := hq1.trans (hb2.mono hq1.size)
  have hq3 := hq2.trans (hb3.mono hq2.size)
  go_wp2
  go_ret
  exact ⟨fo3, m3, k3, rfl, hF3, hq3⟩

set_option maxHeartbeats 4000000 in
theorem replyBody_any (r : Rep) (ao : Option Addr) (n c : Nat) (lo : Option Addr) (ln lc : Nat) (w : World) (hD : Lies w ao n c r.data) (hE : CLies w lo ln lc 3 (entCells r.list)) (hel : r.list.length = ln) :
    Calls Tryz.prog 54 #[rpV r ao n c lo ln lc] w fun e w' => ∃ fo m k, e = .returned (.slice fo m k) ∧ FLies w' fo m k (pick (hasRp r.op r.status) (rpAny r)) ∧ Below w.heap.size w w' := by
  have hB0 := RpBox.new w r ao n c lo ln lc
  go_enter Tryz.func54, Tryz.ntmps54
  go_wp2_with fail
  generalize hw0 : w.alloc (.cells #[.int .i64 r.client, .int .i64 r.seq, .int .i64 r.epoch, .int .i64 r.op, .int .i64 r.status, .int .i64 r.ai, .int .i64 r.ak, .int .i64 r.az, .int .i64 r.ac, .slice ao n c, .slice lo ln lc, .bool r.more] 30) = w0 at *
  have hb0 : Below w.heap.size w w0.drew := drw (hw0 ▸ newBox w _)
  replace hB0 : RpBox w0.drew w.heap.size r ao n c lo ln lc := hB0
  go_region_held3 (fun w' => w'.cell? ⟨w.heap.size, 0, none⟩ = some (.int .i64 r.client) ∧ w'.cell? ⟨w.heap.size, 1, none⟩ = some (.int .i64 r.seq) ∧ w'.cell? ⟨w.heap.size, 2, none⟩ = some (.int .i64 r.epoch) ∧ w'.cell? ⟨w.heap.size, 3, none⟩ = some (.int .i64 r.op) ∧ w'.cell? ⟨w.heap.size, 4, none⟩ = some (.int .i64 r.status) ∧ w'.cell? ⟨w.heap.size, 5, none⟩ = some (.int .i64 r.ai) ∧ w'.cell? ⟨w.heap.size, 6, none⟩ = some (.int .i64 r.ak) ∧ w'.cell? ⟨w.heap.size, 7, none⟩ = some (.int .i64 r.az) ∧ w'.cell? ⟨w.heap.size, 8, none⟩ = some (.int .i64 r.ac) ∧ w'.cell? ⟨w.heap.size, 9, none⟩ = some (.slice ao n c) ∧ w'.cell? ⟨w.heap.size, 10, none⟩ = some (.slice lo ln lc) ∧ w'.cell? ⟨w.heap.size, 11, none⟩ = some (.bool r.more))
    (first | exact hB0 | exact hB1 | exact hB2 | exact hB3)
    (first
      | (go_at_call 88; refine (anyReplyBody_any r ao n c lo ln lc _ (hD.below hb0 (Nat.le_refl _)) (hE.below hb0 (Nat.le_refl _)) hel).mono ?_; rintro e w1 ⟨fo1, k1, rfl, hF1, hb1⟩; have hB1 := RpBox.later hB0 hb1 (Nat.le_refl _))
      | (go_at_call 89; refine (replyHas_any r.op r.status _).mono ?_; rintro e w2 ⟨ho, hn, hc, rfl, hH2, hb2⟩; have hB2 := RpBox.later hB1 hb2 (Nat.le_refl _))
      | (go_at_call 96; refine (those_any fo1 4 k1 _ ho hn hc (hasRp r.op r.status) _ (hF1.below hb2 (Nat.le_refl _)) (by omega) (by omega) hH2 (has_small hH2 (hasRp_len _ _))).mono ?_; rintro e w3 ⟨fo3, m3, k3, rfl, hF3, hb3⟩; have hB3 := RpBox.later hB2 hb3 (Nat.le_refl _)))
  clear hB0 hB1 hB2 hB3
  have hq1 := hb0.trans (hb1.mono hb0.size)
  have hq2 := hq1.trans (hb2.mono hq1.size)
  have hq3 := hq2.trans (hb3.mono hq2.size)
  go_wp2
  go_ret
  exact ⟨fo3, m3, k3, rfl, hF3, hq3⟩

end Go.Proofs.YtdkcplndplhblaaGreatDoor

/- What may stand in a field: the small judges. -/
namespace Go.Proofs.YtdkcplndplhblaaGreatDoor
open Go.RowKit
set_option maxRecDepth 100000

def nameB (s : ByteArray) : Bool := N3.okName (N3.bs s)
set_option maxHeartbeats 1000000 in
theorem isName_any (s : ByteArray) (w : World) : Calls Tryz.prog 138 #[.string s] w fun e w' => e = .returned (.bool (nameB s)) ∧ Below w.heap.size w w' := by
  unfold nameB
  have hc : N3.checkN (N3.bs s) = if N3.okName (N3.bs s) = true then 0 else 31 := rfl
  cases h : N3.okName (N3.bs s)
  · rw [h] at hc
    simp only [Bool.false_eq_true, if_false] at hc
    go_enter Tryz.func138, Tryz.ntmps138
    go_wp2_with (go_at_call 151; refine (N3.check_any s _).mono ?_; rintro e w1 ⟨rfl, hb1⟩; rw [hc])
    go_ret
    exact ⟨rfl, hb1⟩
  · rw [h] at hc
    simp only [if_true] at hc
    go_enter Tryz.func138, Tryz.ntmps138
    go_wp2_with (go_at_call 151; refine (N3.check_any s _).mono ?_; rintro e w1 ⟨rfl, hb1⟩; rw [hc])
    go_ret
    exact ⟨rfl, hb1⟩

def mostLen (op : Int) : Int := if op = 10 then 16 else 1024
set_option maxHeartbeats 1000000 in
theorem mostLen_any (op : Int) (w : World) : Calls Tryz.prog 135 #[.int .i64 op] w fun e w' => e = .returned (.int .i64 (mostLen op)) ∧ w' = w := by
  unfold mostLen
  go_enter Tryz.func135, Tryz.ntmps135
  go_wp2
  all_goals go_ret
  all_goals simp_all

def kindFits (op k : Int) : Bool := if op = 3 ∨ op = 4 ∨ op = 5 then decide (k = 1) else if op = 7 then decide (k = 2) else kindB k
set_option maxHeartbeats 1000000 in
theorem kindFits_any (op k : Int) (w : World) : Calls Tryz.prog 152 #[.int .i64 op, .int .i64 k] w fun e w' => e = .returned (.bool (kindFits op k)) ∧ w' = w := by
  unfold kindFits
  go_enter Tryz.func152, Tryz.ntmps152
  go_wp2_with (go_at_call 154; refine (isKind_any k _).mono ?_; rintro e w1 ⟨rfl, hw1⟩; subst w1)
  all_goals go_ret
  all_goals simp_all
  all_goals rfl

def sizeFits (k z : Int) : Bool := if k = 2 then inB z 0 8160 && decide (z % 32 = 0) else inB z 0 69632
set_option maxHeartbeats 1000000 in
theorem sizeFits_any (k z : Int) (w : World) : Calls Tryz.prog 153 #[.int .i64 k, .int .i64 z] w fun e w' => e = .returned (.bool (sizeFits k z)) ∧ w' = w := by
  unfold sizeFits
  by_cases hk : k = 2
  · subst hk
    cases h : inB z 0 8160
    · go_enter Tryz.func153, Tryz.ntmps153
      go_wp2_with (go_at_call 79; refine (within_any _ _ _ _).mono ?_; rintro e w1 ⟨rfl, hw1⟩; subst w1; simp only [h])
      go_ret
      exact ⟨rfl, rfl⟩
    · have h0 := (inB_true h).1
      have ht : z.tmod 32 = z % 32 := Int.tmod_eq_emod_of_nonneg h0
      go_enter Tryz.func153, Tryz.ntmps153
      go_wp2_with (go_at_call 79; refine (within_any _ _ _ _).mono ?_; rintro e w1 ⟨rfl, hw1⟩; subst w1; simp only [h])
      go_ret
      exact ⟨rfl, rfl⟩
  · go_enter Tryz.func153, Tryz.ntmps153
    go_wp2_with (go_at_call 79; refine (within_any _ _ _ _).mono ?_; rintro e w1 ⟨rfl, hw1⟩; subst w1)
    go_ret
    exact ⟨by simp, rfl⟩

def attrB (op i k z c : Int) : Bool := inB i 1 562949953421311 && kindFits op k && sizeFits k z && inB c 0 4611686018427387904
set_option maxHeartbeats 1000000 in
theorem isAttr_any (op i k z c : Int) (w : World) : Calls Tryz.prog 139 #[.int .i64 op, .agg #[.int .i64 i, .int .i64 k, .int .i64 z, .int .i64 c]] w fun e w' => e = .returned (.bool (attrB op i k z c)) ∧ Below w.heap.size w w' := by
  unfold attrB
  cases h1 : inB i 1 562949953421311 <;> cases h2 : kindFits op k <;> cases h3 : sizeFits k z <;> cases h4 : inB c 0 4611686018427387904
  all_goals
    go_enter Tryz.func139, Tryz.ntmps139
    go_wp2_with (first
      | (go_at_call 136; refine (isId_any _ _).mono ?_; rintro e w1 ⟨rfl, hw1⟩; subst w1; simp only [h1])
      | (go_at_call 152; refine (kindFits_any _ _ _).mono ?_; rintro e w1 ⟨rfl, hw1⟩; subst w1; simp only [h2])
      | (go_at_call 153; refine (sizeFits_any _ _ _).mono ?_; rintro e w1 ⟨rfl, hw1⟩; subst w1; simp only [h3])
      | (go_at_call 79; refine (within_any _ _ _ _).mono ?_; rintro e w1 ⟨rfl, hw1⟩; subst w1; simp only [h4]))
    go_ret
    exact ⟨rfl, newBox _ _⟩
end Go.Proofs.YtdkcplndplhblaaGreatDoor
