/- Plain words on worlds, bytes and numbers, which the contracts below use. -/
import Derived.Test.YtnmdnglbpkpfdaaGreatDoorChecked
import Derived.WalkKit
import Derived.WalkSpells
import Derived.WalkLawsBesides
import Derived.Maps.AppendAt
import Derived.Laws.OwnMore
import Derived.Laws.CopyOwn
import Derived.Maps.OwnSet
import Derived.Maps.Views
import Derived.OwnWalk
import Derived.Test.YtnmdnglbpkpfdaaGreatDoorProg
import Derived.Conc.MuLone
import Derived.Conc.MuData
import Derived.KernelRfl
import Derived.BigQuiet
import Derived.Deep.QuietTactic
import Derived.OpenShut
import Derived.Deep.OwnRows
import Derived.WalkArith
namespace Go.Proofs.YtnmdnglbpkpfdaaGreatDoor
open Go.RowKit
set_option maxRecDepth 100000
theorem Tryz.info5 : (Tryz.prog.info? 5).map (fun i => (i.zero, i.size, i.bytes)) = some (some (.int .u8 0), 1, 1) := by kernel_rfl

/-- A number's digits to the base 256, the greatest first. -/
def be (X : Int) : Nat → List Int
  | 0 => []
  | k + 1 => (X / 2 ^ (8 * k) % 256) :: be X k
theorem be_length (X : Int) (k : Nat) : (be X k).length = k := by
  induction k with
  | zero => rfl
  | succ k ih => simp [be, ih]

theorem grown_trans {a b c : World} {row : Option Nat} (h : a.grownBy b row) (k : b.grownBy c row) : a.grownBy c row :=
  ⟨k.os.trans h.os, k.tape.trans h.tape, k.output.trans h.output, Nat.le_trans h.size k.size, fun i hi hr => (k.block i (Nat.lt_of_lt_of_le hi h.size) hr).trans (h.block i hi hr)⟩

/-- The slice value '.slice ao len cap' reads as the bytes bs. -/
structure Lies (w : World) (ao : Option Addr) (len cap : Nat) (bs : List Int) : Prop where
  hlen : bs.length = len
  hle : len ≤ cap
  hnone : ao = none → len = 0 ∧ cap = 0
  hcells : ∀ ad, ao = some ad → ∀ t u, (bs.map (Value.int .u8))[t]? = some u → w.cell? (ad.add t) = some u

theorem Lies.below {B : Nat} {w w' : World} {ao : Option Addr} {len cap : Nat} {bs : List Int} (h : Lies w ao len cap bs) (hb : Below B w w') (hB : w.heap.size ≤ B) : Lies w' ao len cap bs :=
  ⟨h.hlen, h.hle, h.hnone, fun ad had t u hu => by
    have hc := h.hcells ad had t u hu
    exact (hb.cell (Nat.lt_of_lt_of_le (World.block_lt_of_cell? w _ hc) hB)).trans hc⟩

theorem add_block (a : Addr) (t : Nat) : (a.add t).block = a.block := by cases a; simp [Addr.add]; try (split <;> rfl)

theorem Lies.grown {w w' : World} {row : Option Nat} {ao : Option Addr} {len cap : Nat} {bs : List Int} (h : Lies w ao len cap bs) (hg : w.grownBy w' row) (hne : ∀ ad, ao = some ad → some ad.block ≠ row) : Lies w' ao len cap bs :=
  ⟨h.hlen, h.hle, h.hnone, fun ad had t u hu => hg.cell (h.hcells ad had t u hu) (by rw [add_block]; exact hne ad had)⟩

/-- A row of the call's own reads as its bytes. -/
theorem Lies.own {w : World} {base g n cap : Nat} {bs : List Int} (h : w.ownsRow base 5 1 (.slice (some ⟨g, 0, Option.none⟩) n cap) n (bs.map (Value.int .u8))) : Lies w (some ⟨g, 0, Option.none⟩) n cap bs := by
  have hl : bs.length = n := by simpa using h.1
  refine ⟨hl, ?_, (fun h => by cases h), fun ad had t u hu => ?_⟩
  · rcases h.2 with ⟨hv, _⟩ | ⟨g', cap', cur, hv, _, _, hnc, _⟩
    · cases hv
    · cases hv; exact hnc
  · obtain rfl := Option.some.inj had
    have ht : t < n := by
      have := (List.getElem?_eq_some_iff.1 hu).1
      simpa [hl] using this
    rw [Addr.add_lit, Nat.zero_add, h.cellAt t (by omega)]
    exact hu
theorem Lies.nil (w : World) : Lies w Option.none 0 0 [] := ⟨rfl, Nat.le_refl _, fun _ => ⟨rfl, rfl⟩, fun _ h => by cases h⟩

end Go.Proofs.YtnmdnglbpkpfdaaGreatDoor

/- append onto a slice that the call owns: in its own row, or in a new block, and then the old row is as it was. -/
namespace Go.Proofs.YtnmdnglbpkpfdaaGreatDoor
open Go.RowKit
section
variable {P : Program} (w : World)
/-- Where the new slice lies. -/
def Laid (w w' : World) (v v' : Value) (n k : Nat) : Prop :=
  (∃ g cap, v = .slice (some ⟨g, 0, none⟩) n cap ∧ v' = .slice (some ⟨g, 0, none⟩) k cap ∧ w.grownBy w' (some g)) ∨ (∃ cap', v' = .slice (some ⟨w.heap.size, 0, none⟩) k cap' ∧ w.grownBy w' none)

theorem run_append_own_split (base : Nat) (t ty e : TypeId) (i : TypeInfo) (z : Value) (size bytes : Nat) (ht : P.underlying t = some (.slice e)) (hi : P.info? e = some i) (hz : i.zero = some z)
    (hsize : i.size = size) (hby : i.bytes = bytes) (hzs : z.cells.size = size) (hsz : 0 < size)
    (v : Value) (n : Nat) (xs : List Value) (hown : w.ownsRow base e size v n xs)
    (a : Addr) (m c : Nat) (news : List Value) (hm : 0 < m) (hl : news.length = m * size) (hnews : ∀ j u, news[j]? = some u → w.cell? (a.add j) = some u) (h1 : ∀ u ∈ news, u.oneCell' = true)
    (h63 : n + m ≤ maxLen) (hbytes : (n + m) * bytes ≤ 140737488355328) (hbase : base ≤ w.heap.size) :
    ∃ v' w', (Builtin.append_ #[t, t] ty #[v, .slice (some a) m c]).run P w = .ok v' w' ∧ w'.ownsRow base e size v' (n + m) (xs ++ news) ∧ Laid w w' v v' n (n + m) := by
  obtain ⟨v', w', hr, h2, h3, _, _⟩ := run_append_own_at (P := P) w base t ty e i z size bytes ht hi hz hsize hby hzs hsz v n xs hown a m c news hl hnews h1 h63 hbytes hbase
  refine ⟨v', w', hr, h2, ?_⟩
  subst hsize
  subst hby
  have hsmall : n + m ≤ 9223372036854775807 := by simp only [maxLen] at h63; omega
  rcases hown.2 with ⟨rfl, rfl⟩ | ⟨g, cap, cur, rfl, hbg, hg, hnc, hcm, hcs, htake⟩
  · have hr2 := run_append_nil (P := P) w t ty e i z ht hi hz a m c news hl hnews (by omega) (by omega) (by have hb := hbytes; simp only [Nat.zero_add] at hb; omega)
    rw [hr2] at hr
    cases hr
    right
    exact ⟨_, by rw [Nat.zero_add], ⟨rfl, rfl, rfl, by simp, fun k hk _ => Below.heap_alloc w.drew _ k hk⟩⟩
  · by_cases hroom : n + m ≤ cap
    · have hfit : n * i.size + news.length ≤ cur.size := by rw [hl, hcs, ← Nat.add_mul]; exact Nat.mul_le_mul_right _ hroom
      have hr2 := run_append_room (P := P) w t ty e i ht hi g n cap cur hg a m c news hl hnews h1 hroom hfit
      rw [hr2] at hr
      cases hr
      left
      exact ⟨g, cap, rfl, rfl, h3⟩
    · have holds : ∀ j u, xs[j]? = some u → w.cell? ((⟨g, 0, none⟩ : Addr).add j) = some u := hown.cells (g := g) rfl
      have hr2 := run_append_grow (P := P) w t ty e i z ht hi hz ⟨g, 0, none⟩ n cap xs hown.1 holds a m c news hl hnews (by omega) (by omega) (growslice_fits (by omega) hbytes)
      rw [hr2] at hr
      cases hr
      right
      exact ⟨_, rfl, ⟨rfl, rfl, rfl, by simp, fun k hk _ => Below.heap_alloc w.drew _ k hk⟩⟩

theorem wpList_append_own_split {ops : Array Oper} {rest : List Oper} {o : Oper} {a : Act} {Q : Exit → Act → World → Prop} (hgd : o.guard = none) (s x : Operand) (t : TypeId)
    (ho : o.op = .call { callee := .builtin .append, args := #[s, x], argTypes := #[t, t] })
    (base : Nat) (e : TypeId) (i : TypeInfo) (z : Value) (size bytes : Nat) (ht : P.underlying t = some (.slice e)) (hi : P.info? e = some i) (hz : i.zero = some z)
    (hsize : i.size = size) (hby : i.bytes = bytes) (hzs : z.cells.size = size) (hsz : 0 < size)
    (v : Value) (n : Nat) (xs : List Value) (hs : a.eval s = v) (hown : w.ownsRow base e size v n xs)
    (ad : Addr) (m c : Nat) (news : List Value) (hm : 0 < m) (hx : a.eval x = .slice (some ad) m c) (hl : news.length = m * size) (hnews : ∀ j u, news[j]? = some u → w.cell? (ad.add j) = some u) (h1 : ∀ u ∈ news, u.oneCell' = true)
    (h63 : n + m ≤ maxLen) (hbytes : (n + m) * bytes ≤ 140737488355328) (hbase : base ≤ w.heap.size)
    (h : ∀ v' w', w'.ownsRow base e size v' (n + m) (xs ++ news) → Laid w w' v v' n (n + m) → wpList P ops Q rest (a.put o.dst v') w') :
    wpList P ops Q (o :: rest) a w := by
  refine wpList_plain hgd fun K hK => ?_
  obtain ⟨v', w', hr, h2, h3⟩ := run_append_own_split (P := P) w base t o.type e i z size bytes ht hi hz hsize hby hzs hsz v n xs hown ad m c news hm hl hnews h1 h63 hbytes hbase
  unfold Oper.wp execOp
  simp only [ho, resolve, invoke, builtin, Sem.run_bind, Sem.run_pure, Result.andThen_ok, List.map_toArray, List.map_cons, List.map_nil, hs, hx, hr]
  exact hK _ _ (h v' w' h2 h3)
end
end Go.Proofs.YtnmdnglbpkpfdaaGreatDoor

/- Plain words on worlds and blocks, which the contracts of the device use. -/
namespace Go.Proofs.YtnmdnglbpkpfdaaGreatDoor
open Go.RowKit
set_option maxRecDepth 100000
/-- The world has grown; of the old blocks only those of F may have turned. -/
structure Turns (F : Nat → Prop) (w w' : World) : Prop where
  os : w'.os = w.os
  tape : w'.tape = w.tape
  output : w'.output = w.output
  size : w.heap.size ≤ w'.heap.size
  block : ∀ i, i < w.heap.size → ¬ F i → w'.heap[i]? = w.heap[i]?

theorem Turns.refl (F : Nat → Prop) (w : World) : Turns F w w := ⟨rfl, rfl, rfl, Nat.le_refl _, fun _ _ _ => rfl⟩
theorem Turns.trans {F G : Nat → Prop} {a b c : World} (h : Turns F a b) (k : Turns G b c) (hG : ∀ i, i < a.heap.size → G i → F i) : Turns F a c :=
  ⟨k.os.trans h.os, k.tape.trans h.tape, k.output.trans h.output, Nat.le_trans h.size k.size, fun i hi hF => (k.block i (Nat.lt_of_lt_of_le hi h.size) (fun g => hF (hG i hi g))).trans (h.block i hi hF)⟩
theorem Turns.mono {F G : Nat → Prop} {a b : World} (h : Turns F a b) (hF : ∀ i, i < a.heap.size → F i → G i) : Turns G a b :=
  ⟨h.os, h.tape, h.output, h.size, fun i hi hG => h.block i hi (fun f => hG (hF i hi f))⟩
theorem Below.turns {w w' : World} (h : Below w.heap.size w w') (F : Nat → Prop) : Turns F w w' := ⟨h.os, h.tape, h.output, h.size, fun i hi _ => h.block i hi⟩
theorem Turns.below {F : Nat → Prop} {B : Nat} {w w' : World} (h : Turns F w w') (hF : ∀ i, F i → B ≤ i) (hB : B ≤ w.heap.size) : Below B w w' :=
  ⟨h.os, h.tape, h.output, h.size, fun i hi => h.block i (Nat.lt_of_lt_of_le hi hB) (fun f => by have := hF i f; omega)⟩
theorem Turns.alloc (F : Nat → Prop) (w : World) (o : Obj) : Turns F w (w.alloc o) := Below.turns ((Below.refl _ w).alloc (Nat.le_refl _) o) F
theorem Turns.drewN (F : Nat → Prop) (w : World) (m : Nat) : Turns F w (w.drewN m) := ⟨rfl, rfl, rfl, Nat.le_refl _, fun _ _ _ => rfl⟩
theorem Turns.setCell {F : Nat → Prop} (w : World) {b : Nat} (o : Nat) (v : Value) (hF : F b) : Turns F w (w.setCell ⟨b, o, none⟩ v) :=
  ⟨rfl, rfl, rfl, by simp [World.setCell], fun i _ hi => Below.heap_setCell _ _ _ _ (fun e => hi (by subst e; exact hF))⟩
theorem Turns.cell (w : World) (b o : Nat) (v : Value) : Turns (fun i => i = b) w (w.setCell ⟨b, o, none⟩ v) := Turns.setCell w o v rfl
theorem Turns.grown {F : Nat → Prop} {w w' : World} {row : Option Nat} (h : w.grownBy w' row) (hF : ∀ b, row = some b → F b) : Turns F w w' :=
  ⟨h.os, h.tape, h.output, h.size, fun i hi hn => h.block i hi (fun e => hn (hF i e.symm))⟩

/-- A row of bytes that fills its block. -/
abbrev bl (bs : List Int) : Obj := .cells (bs.map (Value.int .u8)).toArray 5 (0, 0)
theorem heap_lt {w : World} {g : Nat} {o : Obj} (h : w.heap[g]? = some o) : g < w.heap.size := (Array.getElem?_eq_some_iff.1 h).1
theorem Lies.full {w : World} {g n : Nat} {bs : List Int} (h : w.heap[g]? = some (bl bs)) (hn : bs.length = n) : Lies w (some ⟨g, 0, none⟩) n n bs := by
  refine ⟨hn, Nat.le_refl _, (fun h => by cases h), fun ad had t u hu => ?_⟩
  obtain rfl := Option.some.inj had
  rw [Addr.add_lit, Nat.zero_add]
  simp only [World.cell?, h]
  simpa using hu
theorem Lies.piece {w : World} {g o n c : Nat} {bs : List Int} (h : w.heap[g]? = some (bl bs)) (hn : o + n ≤ bs.length) (hc : n ≤ c) : Lies w (some ⟨g, o, none⟩) n c ((bs.drop o).take n) := by
  refine ⟨by simp; omega, hc, (fun h => by cases h), fun ad had t u hu => ?_⟩
  obtain rfl := Option.some.inj had
  rw [Addr.add_lit]
  simp only [World.cell?, h]
  rw [List.map_take, List.map_drop, List.getElem?_take] at hu
  by_cases ht : t < n
  · rw [if_pos ht, List.getElem?_drop] at hu
    simpa using hu
  · rw [if_neg ht] at hu; cases hu
/-- What is read of blocks that did not turn is as before. -/
theorem Lies.turns {F : Nat → Prop} {w w' : World} {ao : Option Addr} {n c : Nat} {bs : List Int} (h : Lies w ao n c bs) (ht : Turns F w w') (hF : ∀ ad, ao = some ad → ¬ F ad.block) : Lies w' ao n c bs :=
  ⟨h.hlen, h.hle, h.hnone, fun ad had t u hu => by
    have hc := h.hcells ad had t u hu
    have hlt := World.block_lt_of_cell? w _ hc
    rw [add_block] at hlt
    have e := World.cell?_of_block (w := w) (w' := w') (a := ad.add t) (by rw [add_block]; exact ht.block _ hlt (hF ad had))
    exact e.trans hc⟩
theorem own_turns {F : Nat → Prop} {w w' : World} {base e size n : Nat} {v : Value} {xs : List Value} (h : w.ownsRow base e size v n xs) (ht : Turns F w w') (hF : ∀ b, v.ownBlock = some b → ¬ F b) : w'.ownsRow base e size v n xs := by
  refine ⟨h.1, ?_⟩
  rcases h.2 with h2 | ⟨g, cap, cur, hv, hg, hb, r⟩
  · exact Or.inl h2
  · subst hv
    exact Or.inr ⟨g, cap, cur, rfl, hg, (ht.block g (heap_lt hb) (hF g rfl)).trans hb, r⟩
theorem map_turns {H : Type} {F : Nat → Prop} {w w' : World} {P : Program} {k : TypeId} {R : Value → Option (DataW H × List MemPlace)} {b n : Nat} {D : DataW H} (h : w.ownsMap P k R b n D) (ht : Turns F w w') (hF : ¬ F b) : w'.ownsMap P k R b n D := by
  have hlt := h.lt
  obtain ⟨es, clock, hb, r⟩ := h
  exact ⟨es, clock, (ht.block b hlt hF).trans hb, r⟩
end Go.Proofs.YtnmdnglbpkpfdaaGreatDoor

/- What a device holds, in plain mathematics. -/
namespace Go.Proofs.YtnmdnglbpkpfdaaGreatDoor
open Go.RowKit
set_option maxRecDepth 100000
/-- What a device holds: the lasting bytes; what pends; the fuse; whether the power is off. -/
structure DevS where
  last : List Int
  pend : List (Nat × List Int)
  fuse : Nat
  off : Bool
/-- A write is laid over the lasting bytes. -/
def layB (l : List Int) (p : Nat × List Int) : List Int := splice l (512 * p.1) p.2
def layAll (l : List Int) (ps : List (Nat × List Int)) : List Int := ps.foldl layB l
/-- The last write that pends for a block. -/
def newest (ps : List (Nat × List Int)) (b : Nat) : Option (List Int) := (ps.reverse.find? (fun p => p.1 == b)).map (·.2)
/-- What Read tells. -/
def rdB (S : DevS) (b : Nat) : List Int := (newest S.pend b).getD ((S.last.drop (512 * b)).take 512)
/-- A Write or a Flush is counted. -/
def burnt (S : DevS) : DevS := if S.fuse = 0 then S else { S with fuse := S.fuse - 1, off := S.off || decide (S.fuse = 1) }
def wrote (S : DevS) (b : Nat) (d : List Int) : DevS := { S with pend := S.pend ++ [(b, d)] }
def flushed (S : DevS) : DevS := { S with last := layAll S.last S.pend, pend := [] }
/-- The survivors. -/
def kept : List (Nat × List Int) → List Bool → List (Nat × List Int)
  | p :: ps, k :: ks => if k then p :: kept ps ks else kept ps ks
  | _, _ => []
/-- A new device. -/
def fresh (bs : List Int) : DevS := { last := bs, pend := [], fuse := 0, off := false }

/-- A device that can be. -/
structure Good (S : DevS) (k : Nat) : Prop where
  len : S.last.length = 512 * k
  pos : 1 ≤ k
  top : k ≤ 4096
  by_ : ∀ x ∈ S.last, 0 ≤ x ∧ x ≤ 255
  pend : ∀ p ∈ S.pend, p.1 < k ∧ p.2.length = 512 ∧ ∀ x ∈ p.2, 0 ≤ x ∧ x ≤ 255
  fuse : S.fuse ≤ 9223372036854775807

theorem lay_len {l : List Int} {p : Nat × List Int} {k : Nat} (hl : l.length = 512 * k) (hp : p.1 < k) (hd : p.2.length = 512) : (layB l p).length = 512 * k := by
  unfold layB
  rw [length_splice _ _ _ (by omega), hl]
theorem splice_mem {l d : List Int} {o : Nat} {x : Int} (h : x ∈ splice l o d) : x ∈ l ∨ x ∈ d := by
  unfold splice at h
  simp only [List.mem_append] at h
  rcases h with h | h | h
  · exact Or.inl (List.mem_of_mem_take h)
  · exact Or.inr h
  · exact Or.inl (List.mem_of_mem_drop h)
theorem layAll_good {k : Nat} : ∀ (ps : List (Nat × List Int)) (l : List Int), l.length = 512 * k → (∀ x ∈ l, 0 ≤ x ∧ x ≤ 255) → (∀ p ∈ ps, p.1 < k ∧ p.2.length = 512 ∧ ∀ x ∈ p.2, 0 ≤ x ∧ x ≤ 255) → (layAll l ps).length = 512 * k ∧ ∀ x ∈ layAll l ps, 0 ≤ x ∧ x ≤ 255
  | [], l, h1, h2, _ => ⟨h1, h2⟩
  | p :: ps, l, h1, h2, h3 => by
    have hp := h3 p (by simp)
    refine layAll_good ps (layB l p) (lay_len h1 hp.1 hp.2.1) (fun x hx => ?_) (fun q hq => h3 q (by simp [hq]))
    rcases splice_mem hx with h | h
    · exact h2 x h
    · exact hp.2.2 x h
theorem Good.fresh {bs : List Int} {k : Nat} (hl : bs.length = 512 * k) (h1 : 1 ≤ k) (h2 : k ≤ 4096) (hb : ∀ x ∈ bs, 0 ≤ x ∧ x ≤ 255) : Good (fresh bs) k :=
  ⟨hl, h1, h2, hb, (fun p hp => by cases hp), Nat.zero_le _⟩
theorem Good.burnt {S : DevS} {k : Nat} (h : Good S k) : Good (burnt S) k := by
  unfold Go.Proofs.YtnmdnglbpkpfdaaGreatDoor.burnt
  split
  · exact h
  · exact ⟨h.len, h.pos, h.top, h.by_, h.pend, by have := h.fuse; simp; omega⟩
theorem Good.wrote {S : DevS} {k : Nat} (h : Good S k) {b : Nat} {d : List Int} (hb : b < k) (hd : d.length = 512) (hy : ∀ x ∈ d, 0 ≤ x ∧ x ≤ 255) : Good (wrote S b d) k :=
  ⟨h.len, h.pos, h.top, h.by_, fun p hp => by
    rcases List.mem_append.1 hp with hp | hp
    · exact h.pend p hp
    · obtain rfl := List.mem_singleton.1 hp; exact ⟨hb, hd, hy⟩, h.fuse⟩
theorem Good.flushed {S : DevS} {k : Nat} (h : Good S k) : Good (flushed S) k := by
  obtain ⟨a, b⟩ := layAll_good S.pend S.last h.len h.by_ h.pend
  exact ⟨a, h.pos, h.top, b, (fun p hp => by cases hp), h.fuse⟩
theorem newest_snoc (ps : List (Nat × List Int)) (b : Nat) (d : List Int) (x : Nat) : newest (ps ++ [(b, d)]) x = if b = x then some d else newest ps x := by
  unfold newest
  rw [List.reverse_append]
  by_cases h : b = x
  · simp [h]
  · simp [h]
end Go.Proofs.YtnmdnglbpkpfdaaGreatDoor

/- A device in memory. -/
namespace Go.Proofs.YtnmdnglbpkpfdaaGreatDoor
open Go.RowKit
set_option maxRecDepth 100000
/-- The slice of a block's bytes. -/
abbrev hv (g : Nat) : Value := .slice (some ⟨g, 0, none⟩) 512 512
/-- The cells of the writes that pend. -/
def pc : List (Nat × List Int) → List Nat → List Value
  | p :: ps, g :: gs => .int .i64 p.1 :: hv g :: pc ps gs
  | _, _ => []
theorem pc_snoc : ∀ (ps : List (Nat × List Int)) (gs : List Nat) (b : Nat) (d : List Int) (g : Nat), gs.length = ps.length → pc (ps ++ [(b, d)]) (gs ++ [g]) = pc ps gs ++ [.int .i64 b, hv g]
  | [], [], _, _, _, _ => rfl
  | [], g :: gs, _, _, _, h => by cases h
  | p :: ps, [], _, _, _, h => by cases h
  | p :: ps, g :: gs, b, d, g', h => by
    have := pc_snoc ps gs b d g' (by simpa using h)
    simp [pc, this]
theorem pc_at : ∀ (ps : List (Nat × List Int)) (gs : List Nat) (i : Nat) (p : Nat × List Int) (g : Nat), ps[i]? = some p → gs[i]? = some g → (pc ps gs)[i * 2]? = some (.int .i64 p.1) ∧ (pc ps gs)[i * 2 + 1]? = some (hv g)
  | [], _, _, _, _, h, _ => by simp at h
  | p :: ps, [], _, _, _, _, h => by simp at h
  | p :: ps, g :: gs, 0, _, _, h1, h2 => by
    simp at h1 h2; subst h1; subst h2
    simp [pc]
  | p :: ps, g :: gs, i + 1, p', g', h1, h2 => by
    have := pc_at ps gs i p' g' (by simpa using h1) (by simpa using h2)
    rw [show (i + 1) * 2 = i * 2 + 1 + 1 by omega]
    simpa [pc] using this
/-- The block of the last write that pends for a block. -/
def newestG (ps : List (Nat × List Int)) (gs : List Nat) (b : Nat) : Option Nat := ((ps.zip gs).reverse.find? (fun t => t.1.1 == b)).map (·.2)
theorem newestG_snoc (ps : List (Nat × List Int)) (gs : List Nat) (b : Nat) (d : List Int) (g x : Nat) (h : gs.length = ps.length) : newestG (ps ++ [(b, d)]) (gs ++ [g]) x = if b = x then some g else newestG ps gs x := by
  unfold newestG
  rw [List.zip_append h.symm, List.reverse_append]
  by_cases e : b = x
  · simp [e]
  · simp [e]
/-- A map's element is held as it is. -/
abbrev RV (v : Value) : Option (DataW Value × List MemPlace) := some (.held v, [])

/-- A device in memory, with all its parts. -/
structure DevX (w : World) (db : Nat) (st : Int) (S : DevS) (k N gl bm : Nat) (q : Int) (pv : Value) (gs : List Nat) (Dm : DataW Value) : Prop where
  good : Good S k
  blk : w.heap[db]? = some (.cells #[.int .i32 st, .int .u32 q, .slice (some ⟨gl, 0, none⟩) (512 * k) (512 * k), pv, .map (some bm), .int .i64 S.fuse, .bool S.off] 118 (0, 0))
  lst : w.heap[gl]? = some (bl S.last)
  row : w.ownsRow 0 120 2 pv S.pend.length (pc S.pend gs)
  gsl : gs.length = S.pend.length
  pn : S.pend.length ≤ N
  dat : ∀ (i : Nat) p g, S.pend[i]? = some p → gs[i]? = some g → w.heap[g]? = some (bl p.2)
  map : w.ownsMap Tryz.prog 3 RV bm N Dm
  at_ : ∀ b : Nat, b < 4096 → Maps.has Dm (.int .i64 b) = (newestG S.pend gs b).isSome ∧ ∀ zd, Dm.atKey (.int .i64 b) zd = ((newestG S.pend gs b).map (fun g => DataW.held (hv g))).getD zd
  a1 : db ≠ gl
  a2 : db ∉ gs
  a3 : gl ∉ gs
  a4 : pv.ownBlock ≠ some db
  a5 : pv.ownBlock ≠ some gl
  a6 : ∀ g ∈ gs, pv.ownBlock ≠ some g
/-- All blocks of a device. -/
structure Foot (F : Nat → Prop) (db gl bm : Nat) (pv : Value) (gs : List Nat) : Prop where
  f1 : F db
  f2 : F gl
  f3 : F bm
  f4 : ∀ b, pv.ownBlock = some b → F b
  f5 : ∀ g ∈ gs, F g
/-- A device in memory: its lock's state, what it holds, how many blocks; at most N entries of its map; its blocks lie in F. -/
def Dev (w : World) (db : Nat) (st : Int) (S : DevS) (k N : Nat) (F : Nat → Prop) : Prop := ∃ gl bm q pv gs Dm, DevX w db st S k N gl bm q pv gs Dm ∧ Foot F db gl bm pv gs ∧ ∀ i, F i → i < w.heap.size
/-- The old blocks, and all that are new. -/
def grow (F : Nat → Prop) (w w' : World) : Nat → Prop := fun i => F i ∨ (w.heap.size ≤ i ∧ i < w'.heap.size)
theorem grow_old {F : Nat → Prop} {w w' : World} : ∀ i, i < w.heap.size → grow F w w' i → F i := fun i hi h => h.elim id (fun h => by omega)

theorem dat_turns {F : Nat → Prop} {w w' : World} {ps : List (Nat × List Int)} {gs : List Nat} (h : ∀ (i : Nat) p g, ps[i]? = some p → gs[i]? = some g → w.heap[g]? = some (bl p.2)) (ht : Turns F w w') (hF : ∀ g ∈ gs, ¬ F g) :
    ∀ (i : Nat) p g, ps[i]? = some p → gs[i]? = some g → w'.heap[g]? = some (bl p.2) := fun i p g h1 h2 => by
  have hb := h i p g h1 h2
  exact (ht.block g (heap_lt hb) (hF g (List.mem_of_getElem? h2))).trans hb
theorem DevX.turns {G : Nat → Prop} {w w' : World} {db : Nat} {st : Int} {S : DevS} {k N gl bm : Nat} {q : Int} {pv : Value} {gs : List Nat} {Dm : DataW Value} (h : DevX w db st S k N gl bm q pv gs Dm) (ht : Turns G w w')
    (h1 : ¬ G db) (h2 : ¬ G gl) (h3 : ¬ G bm) (h4 : ∀ b, pv.ownBlock = some b → ¬ G b) (h5 : ∀ g ∈ gs, ¬ G g) : DevX w' db st S k N gl bm q pv gs Dm :=
  { h with
    blk := (ht.block db (heap_lt h.blk) h1).trans h.blk
    lst := (ht.block gl (heap_lt h.lst) h2).trans h.lst
    row := own_turns h.row ht h4
    dat := dat_turns h.dat ht h5
    map := map_turns h.map ht h3 }
theorem Dev.turns {F G : Nat → Prop} {w w' : World} {db : Nat} {st : Int} {S : DevS} {k N : Nat} (h : Dev w db st S k N F) (ht : Turns G w w') (hG : ∀ i, F i → ¬ G i) : Dev w' db st S k N F := by
  obtain ⟨gl, bm, q, pv, gs, Dm, h, f, hl⟩ := h
  exact ⟨gl, bm, q, pv, gs, Dm, h.turns ht (hG _ f.f1) (hG _ f.f2) (hG _ f.f3) (fun b hb => hG _ (f.f4 b hb)) (fun g hg => hG _ (f.f5 g hg)), f, fun i hi => Nat.lt_of_lt_of_le (hl i hi) ht.size⟩
theorem Dev.below {F : Nat → Prop} {w w' : World} {db : Nat} {st : Int} {S : DevS} {k N : Nat} (h : Dev w db st S k N F) (hb : Below w.heap.size w w') : Dev w' db st S k N F :=
  h.turns (Below.turns hb (fun _ => False)) (fun _ _ => id)
theorem Dev.foot {F G : Nat → Prop} {w : World} {db : Nat} {st : Int} {S : DevS} {k N : Nat} (h : Dev w db st S k N F) (hG : ∀ i, F i → G i) (hl : ∀ i, G i → i < w.heap.size) : Dev w db st S k N G := by
  obtain ⟨gl, bm, q, pv, gs, Dm, h, f, _⟩ := h
  exact ⟨gl, bm, q, pv, gs, Dm, h, ⟨hG _ f.f1, hG _ f.f2, hG _ f.f3, fun b hb => hG _ (f.f4 b hb), fun g hg => hG _ (f.f5 g hg)⟩, hl⟩
theorem Dev.lt {F : Nat → Prop} {w : World} {db : Nat} {st : Int} {S : DevS} {k N : Nat} (h : Dev w db st S k N F) : ∀ i, F i → i < w.heap.size := by
  obtain ⟨gl, bm, q, pv, gs, Dm, h, f, hl⟩ := h
  exact hl
theorem Dev.good {F : Nat → Prop} {w : World} {db : Nat} {st : Int} {S : DevS} {k N : Nat} (h : Dev w db st S k N F) : Good S k := by
  obtain ⟨gl, bm, q, pv, gs, Dm, h, f, hl⟩ := h
  exact h.good
theorem DevX.mdb {w : World} {db : Nat} {st : Int} {S : DevS} {k N gl bm : Nat} {q : Int} {pv : Value} {gs : List Nat} {Dm : DataW Value} (h : DevX w db st S k N gl bm q pv gs Dm) : bm ≠ db := fun e => by
  obtain ⟨es, cl, hb, _⟩ := h.map
  rw [e, h.blk] at hb; cases hb
theorem DevX.mgl {w : World} {db : Nat} {st : Int} {S : DevS} {k N gl bm : Nat} {q : Int} {pv : Value} {gs : List Nat} {Dm : DataW Value} (h : DevX w db st S k N gl bm q pv gs Dm) : bm ≠ gl := fun e => by
  obtain ⟨es, cl, hb, _⟩ := h.map
  rw [e, h.lst] at hb; cases hb
theorem DevX.mgs {w : World} {db : Nat} {st : Int} {S : DevS} {k N gl bm : Nat} {q : Int} {pv : Value} {gs : List Nat} {Dm : DataW Value} (h : DevX w db st S k N gl bm q pv gs Dm) : bm ∉ gs := fun e => by
  obtain ⟨i, hi⟩ := List.mem_iff_getElem?.1 e
  have hlt : i < S.pend.length := by rw [← h.gsl]; exact (List.getElem?_eq_some_iff.1 hi).1
  obtain ⟨es, cl, hb, _⟩ := h.map
  rw [h.dat i _ _ (List.getElem?_eq_getElem hlt) hi] at hb; cases hb
theorem DevX.mpv {w : World} {db : Nat} {st : Int} {S : DevS} {k N gl bm : Nat} {q : Int} {pv : Value} {gs : List Nat} {Dm : DataW Value} (h : DevX w db st S k N gl bm q pv gs Dm) : pv.ownBlock ≠ some bm := fun e => by
  obtain ⟨es, cl, hb, _⟩ := h.map
  rcases h.row.2 with ⟨hv, _⟩ | ⟨g, cap, cur, hv, _, hg, _⟩
  · subst hv; cases e
  · subst hv
    obtain rfl : g = bm := by simpa [Value.ownBlock] using e
    rw [hg] at hb; cases hb

/-- One cell of the device's own block is written. -/
theorem DevX.db {w : World} {db : Nat} {st st' : Int} {S S' : DevS} {k N gl bm : Nat} {q : Int} {pv : Value} {gs : List Nat} {Dm : DataW Value} (h : DevX w db st S k N gl bm q pv gs Dm) (j : Nat) (v : Value)
    (hS : S'.last = S.last ∧ S'.pend = S.pend ∧ S'.fuse ≤ 9223372036854775807)
    (hb : (#[.int .i32 st, .int .u32 q, .slice (some ⟨gl, 0, none⟩) (512 * k) (512 * k), pv, .map (some bm), .int .i64 S.fuse, .bool S.off] : Array Value).setIfInBounds j v = #[.int .i32 st', .int .u32 q, .slice (some ⟨gl, 0, none⟩) (512 * k) (512 * k), pv, .map (some bm), .int .i64 S'.fuse, .bool S'.off]) :
    DevX (w.setCell ⟨db, j, none⟩ v) db st' S' k N gl bm q pv gs Dm := by
  have ht : Turns (fun i => i = db) w (w.setCell ⟨db, j, none⟩ v) := Turns.setCell w j v rfl
  have hx := h.turns (G := fun i => i = db) (w' := w.setCell ⟨db, j, none⟩ v)
  obtain ⟨e1, e2, e3⟩ := hS
  refine ⟨⟨by rw [e1]; exact h.good.len, h.good.pos, h.good.top, by rw [e1]; exact h.good.by_, by rw [e2]; exact h.good.pend, e3⟩, ?_, ?_, ?_, by rw [e2]; exact h.gsl, by rw [e2]; exact h.pn, ?_, ?_, by rw [e2]; exact h.at_, h.a1, h.a2, h.a3, h.a4, h.a5, h.a6⟩
  · rw [heap_setCell_same _ _ _ _ _ _ h.blk, hb]
  · rw [e1]; exact (ht.block gl (heap_lt h.lst) (fun e => h.a1 e.symm)).trans h.lst
  · rw [e2]; exact own_turns h.row ht (fun b hb e => h.a4 (by rw [hb, e]))
  · rw [e2]; exact dat_turns h.dat ht (fun g hg e => h.a2 (by rw [← e]; exact hg))
  · exact map_turns h.map ht h.mdb
/-- The cells of the device's own block. -/
theorem DevX.cells {w : World} {db : Nat} {st : Int} {S : DevS} {k N gl bm : Nat} {q : Int} {pv : Value} {gs : List Nat} {Dm : DataW Value} (h : DevX w db st S k N gl bm q pv gs Dm) :
    w.cell? ⟨db, 0, none⟩ = some (.int .i32 st) ∧ w.cell? ⟨db, 2, none⟩ = some (.slice (some ⟨gl, 0, none⟩) (512 * k) (512 * k)) ∧ w.cell? ⟨db, 3, none⟩ = some pv ∧ w.cell? ⟨db, 4, none⟩ = some (.map (some bm)) ∧ w.cell? ⟨db, 5, none⟩ = some (.int .i64 S.fuse) ∧ w.cell? ⟨db, 6, none⟩ = some (.bool S.off) ∧ ∀ j, w.frozen? ⟨db, j, none⟩ = false := by
  refine ⟨?_, ?_, ?_, ?_, ?_, ?_, fun j => ?_⟩ <;> simp [World.cell?, World.frozen?, h.blk]
end Go.Proofs.YtnmdnglbpkpfdaaGreatDoor

/- The numbers under which this dump holds sync.Mutex's functions and types, and that it holds them. -/
namespace Go.Proofs.YtnmdnglbpkpfdaaGreatDoor
abbrev muLink : Go.Conc.Locks.MuLink := { lock := 55, unlock := 56, ilock := 96, iunlock := 97, lockSlow := 122, unlockSlow := 125, disable := 118, enable := 120, acquire := 121, relMerge := 123, cas32 := 119, add32 := 124, tMutex := 116, tIMutex := 114, tPMutex := 159, tPIMutex := 178, tPI32 := 180, tUP := 182, tNoCopy := 111, tU32 := 112 }
theorem muLib : Go.Conc.Locks.MuLib Tryz.prog muLink :=
  ⟨Tryz.func55, Tryz.func56, Tryz.func96, Tryz.func97, Tryz.func118, Tryz.func120, Tryz.func121, Tryz.func123, Tryz.func119, Tryz.func124, Tryz.underlying114, Tryz.runUnderlying114, Tryz.sizeOf114, Tryz.isAgg114, Tryz.zeroValue114, Tryz.underlying116, Tryz.runUnderlying116, Tryz.sizeOf116, Tryz.isAgg116, Tryz.zeroValue116, Tryz.underlying159, Tryz.runUnderlying159, Tryz.sizeOf159, Tryz.isAgg159, Tryz.zeroValue159, Tryz.underlying178, Tryz.runUnderlying178, Tryz.sizeOf178, Tryz.isAgg178, Tryz.zeroValue178, Tryz.underlying180, Tryz.runUnderlying180, Tryz.sizeOf180, Tryz.isAgg180, Tryz.zeroValue180, Tryz.underlying182, Tryz.runUnderlying182, Tryz.sizeOf182, Tryz.isAgg182, Tryz.zeroValue182, Tryz.underlying111, Tryz.runUnderlying111, Tryz.sizeOf111, Tryz.isAgg111, Tryz.zeroValue111, Tryz.underlying21, Tryz.runUnderlying21, Tryz.sizeOf21, Tryz.isAgg21, Tryz.zeroValue21, (by kernel_rfl)⟩
end Go.Proofs.YtnmdnglbpkpfdaaGreatDoor

/- annexref.SameBytes by its contract: true just where the two lists are the same. -/
namespace Go.Proofs.YtnmdnglbpkpfdaaGreatDoor
open Go.RowKit
set_option maxRecDepth 100000
/-- The address of a list that is not empty, written out. -/
theorem Lies.at {w : World} {ao : Option Addr} {len cap : Nat} {ys : List Int} (h : Lies w ao len cap ys) (hp : 0 < len) :
    ∃ b o, ao = some ⟨b, o, none⟩ ∧ ∀ t, t < len → w.cell? ⟨b, o + t, none⟩ = some (.int .u8 (ys.getD t 0)) := by
  cases ao with
  | none => have := (h.hnone rfl).1; omega
  | some ad =>
    have hc : ∀ i, i < ys.length → w.cell? (ad.add i) = some (.int .u8 (ys.getD i 0)) := fun i hi => h.hcells ad rfl i _ (by simp [List.getD, hi])
    obtain ⟨b, off, rfl, hj⟩ := ints_at hc (by rw [h.hlen]; exact hp)
    exact ⟨b, off, rfl, fun t ht => hj t (by rw [h.hlen]; exact ht)⟩

theorem ne_of_at {xs ys : List Int} {k : Nat} {h1 : k < xs.length} {h2 : k < ys.length} (h : (xs[k] != ys[k]) = true) : ¬ xs = ys := by
  rintro rfl; simp at h
theorem take_both {xs ys : List Int} {k : Nat} (ht : xs.take k = ys.take k) (h1 : k < xs.length) (h2 : k < ys.length) (h : (xs[k] != ys[k]) = false) : xs.take (k + 1) = ys.take (k + 1) := by
  rw [List.take_succ_eq_append_getElem h1, List.take_succ_eq_append_getElem h2, ht]
  simp at h; rw [h]

set_option maxHeartbeats 400000 in
theorem same_pos (b1 o1 c1 b2 o2 c2 n : Nat) (xs ys : List Int) (w : World) (hn : n ≤ 200000000000000) (hla : xs.length = n) (hlb : ys.length = n) (_hc1 : n ≤ c1) (_hc2 : n ≤ c2)
    (ha : ∀ t, t < n → w.cell? ⟨b1, o1 + t, none⟩ = some (.int .u8 (xs.getD t 0))) (hb : ∀ t, t < n → w.cell? ⟨b2, o2 + t, none⟩ = some (.int .u8 (ys.getD t 0))) :
    Calls Tryz.prog 34 #[.slice (some ⟨b1, o1, none⟩) n c1, .slice (some ⟨b2, o2, none⟩) n c2] w fun e w' => e = .returned (.bool (decide (xs = ys))) ∧ ∃ m, w' = w.drewN m := by
  have hni : (n : Int) ≤ 200000000000000 := by omega
  go_enter Tryz.func34, Tryz.ntmps34
  go_wp2
  go_loopw [5] (fun i wr => ∃ k m : Nat, k ≤ n ∧ i = .int .i64 k ∧ wr = w.drewN m ∧ xs.take k = ys.take k) (fun i _ => n - (intOf i).toNat)
  case atStart => exact ⟨0, 0, Nat.zero_le _, rfl, rfl, by simp⟩
  case round =>
    obtain ⟨k, m, hk, rfl, rfl, htk⟩ := hrel
    have HT : Hid (xs.take k = ys.take k) := htk
    clear htk
    by_cases hlt : k < n
    · have ga := ha k hlt
      have gb := hb k hlt
      clear ha hb
      go_wp2
      go_quiet (fail)
      go_wp2
      · go_ret
        exact ⟨by rw [decide_eq_false (ne_of_at ‹_›)]; rfl, m + nq, World.drewN_drewN _ _ _⟩
      · go_roundw
        case rel => exact ⟨k + 1, m + nq, by omega, by go_num, by first | rfl | simp, take_both HT.out _ _ ‹_›⟩
        case measure => simp [intOf]; omega
    · clear ha hb
      go_wp2
      go_ret
      refine ⟨?_, m, rfl⟩
      have : xs = ys := by
        have := HT.out
        rwa [List.take_of_length_le (by omega), List.take_of_length_le (by omega)] at this
      simp [this]

set_option maxHeartbeats 400000 in
theorem same_len (ao bo : Option Addr) (n m c1 c2 : Nat) (w : World) (hne : ¬ n = m) :
    Calls Tryz.prog 34 #[.slice ao n c1, .slice bo m c2] w fun e w' => e = .returned (.bool false) ∧ w' = w := by
  have h : ((n : Int) != (m : Int)) = true := by simp; omega
  go_enter Tryz.func34, Tryz.ntmps34
  go_wp2
  go_ret
  exact ⟨rfl, rfl⟩

set_option maxHeartbeats 400000 in
theorem same_zero (ao bo : Option Addr) (c1 c2 : Nat) (w : World) :
    Calls Tryz.prog 34 #[.slice ao 0 c1, .slice bo 0 c2] w fun e w' => e = .returned (.bool true) ∧ w' = w := by
  go_enter Tryz.func34, Tryz.ntmps34
  go_wp2
  refine wp_loop_rounds 1 ?_
  rw [rounds_succ]
  go_wp2
  go_ret
  exact ⟨rfl, rfl⟩

/-- SameBytes, of any two slices of bytes. -/
theorem same_any (ao bo : Option Addr) (n m c1 c2 : Nat) (xs ys : List Int) (w : World) (hn : n ≤ 200000000000000) (hA : Lies w ao n c1 xs) (hB : Lies w bo m c2 ys) :
    Calls Tryz.prog 34 #[.slice ao n c1, .slice bo m c2] w fun e w' => e = .returned (.bool (decide (xs = ys))) ∧ ∃ m, w' = w.drewN m := by
  by_cases hnm : n = m
  · subst hnm
    by_cases h0 : 0 < n
    · obtain ⟨b1, o1, rfl, ha⟩ := hA.at h0
      obtain ⟨b2, o2, rfl, hb⟩ := hB.at h0
      exact same_pos b1 o1 c1 b2 o2 c2 n xs ys w hn hA.hlen hB.hlen hA.hle hB.hle ha hb
    · obtain rfl : n = 0 := by omega
      refine (same_zero ao bo c1 c2 w).mono ?_
      rintro e w' ⟨rfl, rfl⟩
      have e1 : xs = [] := List.eq_nil_of_length_eq_zero hA.hlen
      have e2 : ys = [] := List.eq_nil_of_length_eq_zero hB.hlen
      subst e1; subst e2
      exact ⟨by simp, 0, rfl⟩
  · refine (same_len ao bo n m c1 c2 w hnm).mono ?_
    rintro e w' ⟨rfl, rfl⟩
    refine ⟨?_, 0, rfl⟩
    rw [decide_eq_false]
    rintro rfl
    exact hnm (hA.hlen.symm.trans hB.hlen)
end Go.Proofs.YtnmdnglbpkpfdaaGreatDoor

/- The device's small functions by their contracts: copied, canBe, blocks, has, block, burn; the lock. -/
namespace Go.Proofs.YtnmdnglbpkpfdaaGreatDoor
open Go.RowKit
open Go.MuLone
set_option maxRecDepth 100000
theorem made_row (w : World) (n : Nat) : (w.alloc (.cells (madeCells #[.int .u8 0] n) 5)).heap[w.heap.size]? = some (.cells (List.replicate n (Value.int .u8 0)).toArray 5 (0, 0)) := by
  have e : madeCells #[Value.int .u8 0] n = (List.replicate n (Value.int .u8 0)).toArray := by
    rw [← toList_madeCells_one]
  rw [e]
  exact (MapKept.heap_alloc w _).1
theorem splice_whole {α : Type} (L cs : List α) (h : cs.length = L.length) : splice L 0 cs = cs := by
  simp [splice, h]

set_option maxHeartbeats 1000000 in
theorem copied_any (ao : Option Addr) (n c : Nat) (bs : List Int) (w : World) (hn : n ≤ 140737488355328) (hL : Lies w ao n c bs) :
    Calls Tryz.prog 72 #[.slice ao n c] w fun e w' => ∃ g, e = .returned (.slice (some ⟨g, 0, none⟩) n n) ∧ w.heap.size ≤ g ∧ w'.heap[g]? = some (bl bs) ∧ Below w.heap.size w w' := by
  obtain ⟨i0, hi, hz0, hz1, hz2⟩ := info_parts Tryz.info5
  have hni : (n : Int) ≤ 140737488355328 := by omega
  have hlen := hL.hlen
  have hsz : (Tryz.prog.info? 5).map (·.size) = some 1 := by rw [hi]; simp [hz1]
  have hL1 : Lies (w.alloc (.cells (madeCells #[.int .u8 0] n) 5)) ao n c bs := hL.below ((Below.refl _ w).alloc (Nat.le_refl _) _) (Nat.le_refl _)
  have hpos : 0 < (bs.map (Value.int .u8)).length → (some ⟨w.heap.size, 0, none⟩ : Option Addr) = some ⟨w.heap.size, 0, none⟩ ∧ ∃ ad, ao = some ad ∧ ∀ j v, (bs.map (Value.int .u8))[j]? = some v → (w.alloc (.cells (madeCells #[.int .u8 0] n) 5)).cell? (ad.add j) = some v := fun hp => by
    cases hao : ao with
    | none => have := (hL.hnone hao).1; simp at hp; omega
    | some ad => exact ⟨rfl, ad, rfl, hL1.hcells ad hao⟩
  have hrow := made_row w n
  have hbel : Below w.heap.size w (w.alloc (.cells (madeCells #[.int .u8 0] n) 5)) := (Below.refl _ w).alloc (Nat.le_refl _) _
  go_enter Tryz.func72, Tryz.ntmps72
  go_wp2_with (first
    | (at_make; (refine wpList_make_row _ rfl _ _ 56 rfl 5 i0 (.int .u8 0) Tryz.underlying56 hi hz0 hz1 rfl _ _ n rfl rfl (by rw [hz2]; omega) (by omega) ?_))
    | (refine wpList_copy_splice rfl _ _ 56 56 rfl 5 Tryz.underlying56 hsz _ _ _ _ _ _ rfl rfl w.heap.size 0 (List.replicate n (Value.int .u8 0)) 5 hrow (bs.map (Value.int .u8)) (by simp [hlen]) hpos (by simp [hlen]) (ints_oneCell _ _) w.heap.size w hbel (Nat.le_refl _) ?_; intro w2 HG2 hB2))
  go_ret
  refine ⟨_, rfl, Nat.le_refl _, ?_, hB2⟩
  rw [HG2.out, splice_whole _ _ (by simp [hlen])]

theorem canBe_any (n : Int) (w : World) : Calls Tryz.prog 76 #[.int .i64 n] w fun e w' => e = .returned (.bool (decide (1 ≤ n ∧ n ≤ 4096))) ∧ w' = w := by
  go_enter Tryz.func76, Tryz.ntmps76
  go_wp2
  all_goals go_ret
  all_goals refine ⟨?_, rfl⟩
  all_goals (try simp)
  all_goals (try omega)

theorem blocks_any (db : Nat) (k : Nat) (gl : Option Addr) (w : World) (hk : k ≤ 4096) (c2 : w.cell? ⟨db, 2, none⟩ = some (.slice gl (512 * k) (512 * k))) :
    Calls Tryz.prog 126 #[.pointer (some ⟨db, 0, none⟩)] w fun e w' => e = .returned (.int .i64 k) ∧ w' = w := by
  go_enter Tryz.func126, Tryz.ntmps126
  go_wp2
  go_ret
  refine ⟨?_, rfl⟩
  congr 2

theorem has_any (db : Nat) (k : Nat) (gl : Option Addr) (b : Int) (w : World) (hk : k ≤ 4096) (c2 : w.cell? ⟨db, 2, none⟩ = some (.slice gl (512 * k) (512 * k))) :
    Calls Tryz.prog 129 #[.pointer (some ⟨db, 0, none⟩), .int .i64 b] w fun e w' => e = .returned (.bool (decide (0 ≤ b ∧ b < k))) ∧ w' = w := by
  go_enter Tryz.func129, Tryz.ntmps129
  go_wp2_with (go_at_call 126; refine (blocks_any db k gl _ hk c2).mono ?_; rintro e wn ⟨rfl, hwn⟩; subst wn)
  all_goals go_ret
  all_goals refine ⟨?_, rfl⟩
  all_goals (try simp)
  all_goals (try omega)

theorem block_any (db : Nat) (k gl : Nat) (b : Nat) (w : World) (hb : b < k) (hk : k ≤ 4096) (c2 : w.cell? ⟨db, 2, none⟩ = some (.slice (some ⟨gl, 0, none⟩) (512 * k) (512 * k))) :
    Calls Tryz.prog 98 #[.pointer (some ⟨db, 0, none⟩), .int .i64 b] w fun e w' => e = .returned (.slice (some ⟨gl, 512 * b, none⟩) 512 (512 * k - 512 * b)) ∧ w' = w := by
  have h1 : (b : Int) < k := by omega
  have h2 : (k : Int) ≤ 4096 := by omega
  go_enter Tryz.func98, Tryz.ntmps98
  go_wp2
  go_ret
  refine ⟨?_, rfl⟩
  have e1 : b * 512 = 512 * b := by omega
  have e2 : (b + 1) * 512 - b * 512 = 512 := by omega
  show Ending.returned (.slice (some ⟨gl, b * 512, none⟩) ((b + 1) * 512 - b * 512) (512 * k - b * 512)) = _
  rw [e2, e1]

/-- The lock is taken. -/
theorem lock_dev {w : World} {db : Nat} {S : DevS} {k N gl bm : Nat} {q : Int} {pv : Value} {gs : List Nat} {Dm : DataW Value} (h : DevX w db 0 S k N gl bm q pv gs Dm) :
    Calls Tryz.prog 55 #[.pointer (some ⟨db, 0, none⟩)] w fun e w' => e = .returned (.tuple #[]) ∧ DevX w' db 1 S k N gl bm q pv gs Dm ∧ Turns (fun i => i = db) w w' := by
  refine (lock_free muLib ⟨db, 0, none⟩ w h.cells.1 (h.cells.2.2.2.2.2.2 0)).mono ?_
  rintro e w' ⟨rfl, rfl⟩
  exact ⟨rfl, h.db 0 _ ⟨rfl, rfl, h.good.fuse⟩ rfl, Turns.cell w db 0 _⟩
/-- The lock is let go, by a deferred call. -/
theorem unlock_dev {w : World} {db : Nat} {S : DevS} {k N gl bm : Nat} {q : Int} {pv : Value} {gs : List Nat} {Dm : DataW Value} (u : FrameMode) (h : DevX w db 1 S k N gl bm q pv gs Dm) :
    CallsD Tryz.prog 56 #[.pointer (some ⟨db, 0, none⟩)] u w fun e u' w' => u' = u ∧ e = .returned (.tuple #[]) ∧ DevX w' db 0 S k N gl bm q pv gs Dm ∧ Turns (fun i => i = db) w w' := by
  refine (unlock_deferred muLib ⟨db, 0, none⟩ u w h.cells.1 (h.cells.2.2.2.2.2.2 0)).mono ?_
  rintro e u' w' ⟨rfl, rfl, rfl⟩
  exact ⟨rfl, rfl, h.db 0 _ ⟨rfl, rfl, h.good.fuse⟩ rfl, Turns.cell w db 0 _⟩

set_option maxHeartbeats 1000000 in
theorem burn_any {w : World} {db : Nat} {st : Int} {S : DevS} {k N gl bm : Nat} {q : Int} {pv : Value} {gs : List Nat} {Dm : DataW Value} (h : DevX w db st S k N gl bm q pv gs Dm) :
    Calls Tryz.prog 57 #[.pointer (some ⟨db, 0, none⟩)] w fun e w' => e = .returned (.tuple #[]) ∧ DevX w' db st (burnt S) k N gl bm q pv gs Dm ∧ Turns (fun i => i = db) w w' := by
  obtain ⟨c0, c2, c3, c4, c5, c6, fz⟩ := h.cells
  have f5 := fz 5
  have f6 := fz 6
  have hfu := h.good.fuse
  by_cases h0 : S.fuse = 0
  · have e0 : burnt S = S := by unfold burnt; rw [if_pos h0]
    rw [e0]
    rw [h0] at c5
    have HX : Hid (DevX w db st S k N gl bm q pv gs Dm) := h
    clear h fz
    go_enter Tryz.func57, Tryz.ntmps57
    go_wp2
    (first | go_end0 | refine bodyPost_ret (results_none rfl _ _ _) rfl ?_)
    exact ⟨rfl, HX.out, Turns.refl _ _⟩
  · obtain ⟨f, hf⟩ : ∃ f, S.fuse = f + 1 := ⟨S.fuse - 1, by omega⟩
    have hs := h.db (S' := { S with fuse := f }) (st' := st) 5 (.int .i64 f) ⟨rfl, rfl, by simp; omega⟩ rfl
    have HX : Hid _ := hs
    by_cases h1 : f = 0
    · have e0 : burnt S = { S with fuse := f, off := true } := by unfold burnt; rw [if_neg h0, hf, h1]; simp
      have hs2 := hs.db (S' := { S with fuse := f, off := true }) (st' := st) 6 (.bool true) ⟨rfl, rfl, by simp; omega⟩ rfl
      have HX2 : Hid _ := hs2
      rw [e0]
      have hfi : (S.fuse : Int) = 1 := by omega
      subst h1
      rw [hfi] at c5
      clear h fz hs hs2
      go_enter Tryz.func57, Tryz.ntmps57
      go_wp2
      (first | go_end0 | refine bodyPost_ret (results_none rfl _ _ _) rfl ?_)
      exact ⟨rfl, HX2.out, (Turns.cell w db 5 _).trans (Turns.cell _ db 6 _) (fun _ _ h => h)⟩
    · have e0 : burnt S = { S with fuse := f } := by unfold burnt; rw [if_neg h0, hf, decide_eq_false (by omega)]; simp
      rw [e0]
      have hfi : (S.fuse : Int) = f + 1 := by omega
      have hne : ((f : Int) == 0) = false := by simp; omega
      have hfb : (f : Int) ≤ 9223372036854775806 := by omega
      rw [hfi] at c5
      clear h fz hs
      go_enter Tryz.func57, Tryz.ntmps57
      go_wp2
      (first | go_end0 | refine bodyPost_ret (results_none rfl _ _ _) rfl ?_)
      exact ⟨rfl, HX.out, Turns.cell w db 5 _⟩
end Go.Proofs.YtnmdnglbpkpfdaaGreatDoor

/- holding, New, Image, pend by their contracts. -/
namespace Go.Proofs.YtnmdnglbpkpfdaaGreatDoor
open Go.RowKit Go.Maps
open Go.MuLone
set_option maxRecDepth 100000
theorem law3 : Keyed Tryz.prog 3 := int_keyed Tryz.underlying3
theorem Tryz.info120 : (Tryz.prog.info? 120).map (fun i => (i.zero, i.size, i.bytes)) = some (some (.agg #[.int .i64 0, .slice none 0 0]), 2, 32) := by kernel_rfl

set_option maxHeartbeats 1000000 in
theorem holding_any (g k : Nat) (bs : List Int) (w : World) (hb : w.heap[g]? = some (bl bs)) (hG : Good (fresh bs) k) :
    Calls Tryz.prog 77 #[.slice (some ⟨g, 0, none⟩) (512 * k) (512 * k)] w fun e w' => ∃ db, e = .returned (.pointer (some ⟨db, 0, none⟩)) ∧ Dev w' db 0 (fresh bs) k 0 (grow (fun i => i = g) w w') ∧ Below w.heap.size w w' ∧ w.heap.size ≤ db := by
  have hglt := heap_lt hb
  have hM := World.ownsMap_made w Tryz.prog 3 RV
  have hb1 : Below w.heap.size w (w.alloc (.map #[] 0)) := (Below.refl _ w).alloc (Nat.le_refl _) _
  have hb2 : ∀ o, Below w.heap.size w ((w.alloc (.map #[] 0)).alloc o) := fun o => hb1.alloc hb1.size o
  have hh := fun o => (MapKept.heap_alloc (w.alloc (.map #[] 0)) o).1
  have hs1 : (w.alloc (.map #[] 0)).heap.size = w.heap.size + 1 := by simp
  have hmm := fun (w : World) => run_makeMap (P := Tryz.prog) 99 w
  go_enter Tryz.func77, Tryz.ntmps77
  go_wp2
  go_ret
  refine ⟨w.heap.size + 1, rfl, ⟨g, w.heap.size, 0, .slice none 0 0, [], .map [], ⟨hG, ?_, ?_, World.ownsRow_nil _ _ _ _, rfl, Nat.le_refl _, (fun i p g h => by simp [fresh] at h), ?_, ?_, by omega, by simp, by simp, by simp [Value.ownBlock], by simp [Value.ownBlock], by simp⟩, ⟨by simp [grow], by simp [grow], by simp [grow]; omega, (fun b h => by simp [Value.ownBlock] at h), by simp⟩, ?_⟩, hb2 _, by omega⟩
  · rw [← hs1, hh]; rfl
  · exact ((hb2 _).block g hglt).trans hb
  · exact hM.alloc _
  · intro b hb
    exact ⟨rfl, fun zd => rfl⟩
  · intro i hi
    rcases hi with rfl | h
    · simp; omega
    · exact h.2

theorem zeros_bl (w : World) (n : Nat) : (w.alloc (.cells (madeCells #[.int .u8 0] n) 5)).heap[w.heap.size]? = some (bl (List.replicate n 0)) := by
  rw [made_row]; simp

set_option maxHeartbeats 1000000 in
theorem new_good (k : Nat) (w : World) (h1 : 1 ≤ k) (h2 : k ≤ 4096) :
    Calls Tryz.prog 46 #[.int .i64 k] w fun e w' => ∃ db, e = .returned (.pointer (some ⟨db, 0, none⟩)) ∧ Dev w' db 0 (fresh (List.replicate (512 * k) 0)) k 0 (grow (fun _ => False) w w') ∧ Below w.heap.size w w' := by
  obtain ⟨i0, hi, hz0, hz1, hz2⟩ := info_parts Tryz.info5
  have h1i : (1 : Int) ≤ k := by omega
  have h2i : (k : Int) ≤ 4096 := by omega
  have hk := decide_eq_true (show (1 : Int) ≤ k ∧ (k : Int) ≤ 4096 from ⟨h1i, h2i⟩)
  have hG : Good (fresh (List.replicate (512 * k) 0)) k := Good.fresh (by simp) h1 h2 (fun x hx => by have := List.eq_of_mem_replicate hx; omega)
  have hz := zeros_bl w (512 * k)
  have hb1 : Below w.heap.size w (w.alloc (.cells (madeCells #[.int .u8 0] (512 * k)) 5)) := (Below.refl _ w).alloc (Nat.le_refl _) _
  go_enter Tryz.func46, Tryz.ntmps46
  go_wp2_with (first
    | (go_at_call 76; refine (canBe_any _ _).mono ?_; rintro e wn ⟨rfl, hwn⟩; subst wn; rw [hk])
    | (at_make; refine wpList_make_row _ rfl _ _ 56 rfl 5 i0 (.int .u8 0) Tryz.underlying56 hi hz0 hz1 rfl .i64 .i64 (512 * k) (by show Value.int .i64 ((k : Int) * 512) = _; congr 1; omega) (by show Value.int .i64 ((k : Int) * 512) = _; congr 1; omega) (by rw [hz2]; omega) (by omega) ?_))
  refine (holding_any w.heap.size k _ _ hz hG).mono ?_
  rintro e w2 ⟨db, rfl, hD, hb2, _⟩
  go_wp2
  go_ret
  have hs2 := hb2.size
  have hs1 := heap_lt hz
  refine ⟨db, rfl, hD.foot ?_ (fun i hi => (hi.elim False.elim id).2), hb1.trans (hb2.mono hb1.size)⟩
  rintro i (rfl | h)
  · exact Or.inr ⟨Nat.le_refl _, by omega⟩
  · exact Or.inr ⟨Nat.le_trans hb1.size h.1, h.2⟩

end Go.Proofs.YtnmdnglbpkpfdaaGreatDoor

/- pend by its contract. -/
namespace Go.Proofs.YtnmdnglbpkpfdaaGreatDoor
open Go.RowKit Go.Maps
open Go.MuLone
set_option maxRecDepth 100000
theorem cell_two_new (w : World) (x y : Value) (t : TypeId) : ∀ j u, [x, y][j]? = some u → (w.alloc (.cells #[x, y] t)).cell? ((⟨w.heap.size, 0, none⟩ : Addr).add j) = some u := by
  intro j u hj
  match j, hj with
  | 0, hj => simp at hj; subst hj; simp [Addr.add]
  | 1, hj => simp at hj; subst hj; simp [Addr.add]
theorem row_slice {w : World} {base e size n : Nat} {v : Value} {xs : List Value} (h : w.ownsRow base e size v n xs) : ∃ ao c, v = .slice ao n c := by
  rcases h.2 with ⟨hv, rfl⟩ | ⟨g', cap', cur, hv, _⟩
  · exact ⟨none, 0, hv⟩
  · exact ⟨_, _, hv⟩
theorem put_at {ps : List (Nat × List Int)} {gs : List Nat} {D : DataW Value} (hl : gs.length = ps.length) (hm : IsMap D) (b : Nat) (d : List Int) (g : Nat)
    (h : ∀ b : Nat, b < 4096 → Maps.has D (.int .i64 b) = (newestG ps gs b).isSome ∧ ∀ zd, D.atKey (.int .i64 b) zd = ((newestG ps gs b).map (fun g => DataW.held (hv g))).getD zd) :
    ∀ x : Nat, x < 4096 → Maps.has (D.put (.int .i64 b) (.held (hv g))) (.int .i64 x) = (newestG (ps ++ [(b, d)]) (gs ++ [g]) x).isSome ∧ ∀ zd, (D.put (.int .i64 b) (.held (hv g))).atKey (.int .i64 x) zd = ((newestG (ps ++ [(b, d)]) (gs ++ [g]) x).map (fun g => DataW.held (hv g))).getD zd := fun x hx => by
  rw [newestG_snoc ps gs b d g x hl]
  by_cases e : b = x
  · subst e
    rw [if_pos rfl]
    exact ⟨has_put_same hm (by exact trivial) _, fun zd => atKey_put_same hm (by exact trivial) _ _⟩
  · have hne : (Lit.int .i64 (x : Int)) ≠ .int .i64 (b : Int) := fun q => e (by have := (Lit.int.injEq _ _ _ _).mp q; omega)
    rw [if_neg e, has_put_other hne]
    obtain ⟨h1, h2⟩ := h x hx
    exact ⟨h1, fun zd => by rw [atKey_put_other hne]; exact h2 zd⟩

/-- What pend leaves. -/
def PendR (w w' : World) (db : Nat) (st : Int) (S : DevS) (k N gl bm : Nat) (q : Int) (pv : Value) (gs : List Nat) : Prop :=
  ∃ pv' Dm', DevX w' db st S k N gl bm q pv' gs Dm' ∧ Turns (fun i => i = db ∨ i = bm ∨ pv.ownBlock = some i) w w' ∧ (pv'.ownBlock = pv.ownBlock ∨ ∃ i, pv'.ownBlock = some i ∧ w.heap.size ≤ i)
theorem DevX.pended {w w1 w3 : World} {db : Nat} {S : DevS} {k N gl bm : Nat} {q st : Int} {pv pv' : Value} {gs : List Nat} {Dm : DataW Value} (h : DevX w db st S k N gl bm q pv gs Dm) (b g : Nat) (d : List Int) (hb : b < k)
    (hg : w.heap[g]? = some (bl d)) (hd : d.length = 512) (hy : ∀ x ∈ d, 0 ≤ x ∧ x ≤ 255) (n1 : g ≠ db) (n2 : g ≠ gl) (n3 : pv.ownBlock ≠ some g)
    (hT1 : Turns (fun i => pv.ownBlock = some i) w w1) (ho1 : w1.ownsRow 0 120 2 pv' (S.pend.length + 1) (pc S.pend gs ++ [.int .i64 b, hv g])) (hat : pv'.ownBlock = pv.ownBlock ∨ ∃ i, pv'.ownBlock = some i ∧ w.heap.size ≤ i)
    (hg3 : (w1.setCell ⟨db, 3, none⟩ pv').grownBy w3 (some bm)) (hm3 : w3.ownsMap Tryz.prog 3 RV bm (N + 1) (Dm.put (.int .i64 b) (.held (hv g)))) : PendR w w3 db st (wrote S b d) k (N + 1) gl bm q pv (gs ++ [g]) := by
  have hT2 : Turns (fun i => i = db) w1 (w1.setCell ⟨db, 3, none⟩ pv') := Turns.cell w1 db 3 pv'
  have hT3 : Turns (fun i => i = bm) (w1.setCell ⟨db, 3, none⟩ pv') w3 := Turns.grown hg3 (fun b hb => (Option.some.inj hb).symm)
  have hT : Turns (fun i => i = db ∨ i = bm ∨ pv.ownBlock = some i) w w3 := ((hT1.mono (fun i _ h => Or.inr (Or.inr h))).trans hT2 (fun i _ h => Or.inl h)).trans hT3 (fun i _ h => Or.inr (Or.inl h))
  have hmg : bm ≠ g := fun e => by
    obtain ⟨es, cl, hx, _⟩ := h.map
    rw [e, hg] at hx; cases hx
  have hdlt := heap_lt h.blk
  have hllt := heap_lt h.lst
  have hglt := heap_lt hg
  have hpb : ∀ i, i < w.heap.size → pv.ownBlock ≠ some i → pv'.ownBlock ≠ some i := fun i hi hne e => by
    rcases hat with h1 | ⟨j, h1, h2⟩
    · exact hne (by rw [← h1]; exact e)
    · rw [h1] at e; cases e; omega
  have hgs : ∀ x ∈ gs, x < w.heap.size := fun x hx => by
    obtain ⟨i, hi⟩ := List.mem_iff_getElem?.1 hx
    have hlt : i < S.pend.length := by rw [← h.gsl]; exact (List.getElem?_eq_some_iff.1 hi).1
    exact heap_lt (h.dat i _ _ (List.getElem?_eq_getElem hlt) hi)
  have hdb1 : w1.heap[db]? = w.heap[db]? := hT1.block db hdlt h.a4
  have hblk1 := hdb1.trans h.blk
  refine ⟨pv', _, ⟨h.good.wrote hb hd hy, ?_, ?_, ?_, ?_, ?_, ?_, hm3, put_at h.gsl h.map.isMap b d g h.at_, h.a1, ?_, ?_, ?_, ?_, ?_⟩, hT, hat⟩
  · rw [hT3.block db (by have := hT1.size; simp [World.setCell]; omega) (fun e => h.mdb e.symm), heap_setCell_same _ _ _ _ _ _ hblk1]; rfl
  · exact (hT.block gl hllt (fun e => e.elim (fun e => h.a1 e.symm) (fun e => e.elim (fun e => h.mgl e.symm) (fun e => h.a5 e)))).trans h.lst
  · have e1 : (wrote S b d).pend.length = S.pend.length + 1 := by simp [wrote]
    have e2 : pc (wrote S b d).pend (gs ++ [g]) = pc S.pend gs ++ [.int .i64 b, hv g] := pc_snoc _ _ _ _ _ h.gsl
    rw [e1, e2]
    have o2 := own_turns ho1 hT2 (fun x hx e => by subst e; exact hpb x hdlt h.a4 hx)
    refine own_turns o2 hT3 (fun x hx e => ?_)
    subst e
    exact hpb x h.map.lt h.mpv hx
  · simp [wrote, h.gsl]
  · have := h.pn; simp [wrote]; omega
  · intro i p g' h1 h2
    have hold : ∀ x, x < w.heap.size → (x ∈ gs ∨ x = g) → w3.heap[x]? = w.heap[x]? := fun x hx hh => hT.block x hx (by
      rintro (e | e | e)
      · rcases hh with hh | hh
        · exact h.a2 (by rw [← e]; exact hh)
        · exact n1 (by rw [← hh, e])
      · rcases hh with hh | hh
        · exact h.mgs (by rw [← e]; exact hh)
        · exact hmg (by rw [← e, hh])
      · rcases hh with hh | hh
        · exact h.a6 x hh e
        · exact n3 (by rw [← hh]; exact e))
    simp only [wrote] at h1
    by_cases hi : i < S.pend.length
    · rw [List.getElem?_append_left hi] at h1
      rw [List.getElem?_append_left (by rw [h.gsl]; exact hi)] at h2
      have hx := h.dat i p g' h1 h2
      exact (hold g' (heap_lt hx) (Or.inl (List.mem_of_getElem? h2))).trans hx
    · rw [List.getElem?_append_right (by omega)] at h1
      rw [List.getElem?_append_right (by rw [h.gsl]; omega), h.gsl] at h2
      have hi0 : i - S.pend.length = 0 := by
        have := (List.getElem?_eq_some_iff.1 h1).1
        simp at this; omega
      rw [hi0] at h1 h2
      simp at h1 h2
      subst h1; subst h2
      exact (hold g hglt (Or.inr rfl)).trans hg
  · intro hx
    rcases List.mem_append.1 hx with hx | hx
    · exact h.a2 hx
    · exact n1 (List.mem_singleton.1 hx).symm
  · intro hx
    rcases List.mem_append.1 hx with hx | hx
    · exact h.a3 hx
    · exact n2 (List.mem_singleton.1 hx).symm
  · exact hpb db hdlt h.a4
  · exact hpb gl hllt h.a5
  · intro x hx
    rcases List.mem_append.1 hx with hx | hx
    · exact hpb x (hgs x hx) (h.a6 x hx)
    · obtain rfl := List.mem_singleton.1 hx
      exact hpb x hglt n3

set_option maxHeartbeats 2000000 in
theorem pend_any {w : World} {db : Nat} {S : DevS} {k N gl bm : Nat} {q st : Int} {pv : Value} {gs : List Nat} {Dm : DataW Value} (h : DevX w db st S k N gl bm q pv gs Dm) (b g : Nat) (d : List Int) (hb : b < k) (hN : N ≤ 1099511627776)
    (hg : w.heap[g]? = some (bl d)) (hd : d.length = 512) (hy : ∀ x ∈ d, 0 ≤ x ∧ x ≤ 255) (n1 : g ≠ db) (n2 : g ≠ gl) (n3 : pv.ownBlock ≠ some g) :
    Calls Tryz.prog 130 #[.pointer (some ⟨db, 0, none⟩), .int .i64 b, hv g] w fun e w' => e = .returned (.tuple #[]) ∧ PendR w w' db st (wrote S b d) k (N + 1) gl bm q pv (gs ++ [g]) := by
  obtain ⟨i0, hi, hz0, hz1, hz2⟩ := info_parts Tryz.info120
  obtain ⟨c0, c2, c3, c4, c5, c6, fz⟩ := h.cells
  have f3 := fz 3
  obtain ⟨pa, pcp, hpv⟩ := row_slice h.row
  have hpn := h.pn
  have htop := h.good.top
  have hkey := keyOf_int_mk (a := (b : Int)) Tryz.underlying3 (q := .i64) (WalkArith.wf_i64 ⟨by omega, by omega⟩)
  have hglt := heap_lt hg
  have hdlt := heap_lt h.blk
  have ha4 := h.a4
  have hmpv := h.mpv
  have hmdb := h.mdb
  have hrow := h.row
  have hmap := h.map
  have hblk := h.blk
  have HX : Hid (DevX w db st S k N gl bm q pv gs Dm) := h
  clear h c0 c2 c5 c6 fz
  generalize hLe : S.pend.length = L at *
  have HL : Hid (S.pend.length = L) := hLe
  clear hLe
  subst hpv
  go_enter Tryz.func130, Tryz.ntmps130
  go_wp2_with (first
    | (at_builtin; refine wpList_append_own_at _ rfl (.tmp 10) (.tmp 14) 84 rfl 0 120 i0 (.agg #[.int .i64 0, .slice none 0 0]) 2 32 Tryz.underlying84 hi hz0 hz1 hz2 rfl (by decide) _ L _ rfl (hrow.alloc _) ⟨w.heap.size, 0, none⟩ 1 1 [.int .i64 b, hv g] rfl rfl (cell_two_new _ _ _ _) (by intro u hu; simp at hu; rcases hu with rfl | rfl <;> rfl) (by unfold maxLen; omega) (by omega) (Nat.zero_le _) ?_; intro v' w1 hown1 hgrow1 hnil1 hat1
       obtain ⟨pa2, pc2, hv2⟩ := row_slice hown1
       subst hv2
       have hb1 : w1.heap[db]? = w.heap[db]? := (hgrow1.block db (by simp; omega) (fun e => ha4 e.symm)).trans (((Below.refl _ w).alloc (Nat.le_refl _) _).block db hdlt)
       have c3' : w1.cell? ⟨db, 3, none⟩ = some (.slice pa L pcp) := (World.cell?_of_block hb1).trans c3
       have c4' : w1.cell? ⟨db, 4, none⟩ = some (.map (some bm)) := (World.cell?_of_block hb1).trans c4
       have f3' : w1.frozen? ⟨db, 3, none⟩ = false := (World.frozen?_of_block hb1).trans f3
       have hm1 : (w1.setCell ⟨db, 3, none⟩ (.slice pa2 (L + 1) pc2)).ownsMap Tryz.prog 3 RV bm N Dm := ((hmap.alloc _).kept hgrow1 (fun e => hmpv e.symm)).setCell hmdb _)
    | (at_mapUpdate; refine wpList_mapUpdate_own _ rfl _ _ _ 99 rfl 3 56 law3 Tryz.underlying99 RV bm N Dm rfl hm1 (by unfold maxLen; omega) _ _ (.int .i64 b) rfl rfl hkey (.held (hv g)) [] rfl ?_; intro w3 hown3 hgrow3))
  first | go_end0 | refine bodyPost_ret (results_none rfl _ _ _) rfl ?_
  refine ⟨rfl, HX.out.pended b g d hb hg hd hy n1 n2 n3 ((Turns.alloc _ w _).trans (Turns.grown (F := fun i => (Value.slice pa L pcp).ownBlock = some i) hgrow1 (fun b hb => hb)) (fun _ _ h => h)) (HL.out ▸ hown1) ?_ hgrow3 hown3⟩
  rcases hat1 with e | e
  · exact Or.inl e
  · exact Or.inr ⟨_, e, by simp⟩
end Go.Proofs.YtnmdnglbpkpfdaaGreatDoor
