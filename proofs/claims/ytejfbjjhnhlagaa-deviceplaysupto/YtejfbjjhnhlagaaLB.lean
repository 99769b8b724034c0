/- The calls at a device whose power is on and that is not armed; lists that were handed out. -/
import Derived.Test.YtejfbjjhnhlagaaLA
namespace Go.Proofs.Ytejfbjjhnhlagaa
open Go.RowKit Go.Maps
set_option maxRecDepth 100000

theorem fullD (x : Int) (hx : 0 ≤ x ∧ x ≤ 255) : ∀ y ∈ List.replicate 512 x, 0 ≤ y ∧ y ≤ 255 := fun y hy => by
  rw [List.eq_of_mem_replicate hy]; exact hx
/-- A list of bytes in a block that is not the device's. -/
structure Out (w : World) (F : Nat → Prop) (g : Nat) (bs : List Int) : Prop where
  blk : w.heap[g]? = some (bl bs)
  out : ¬ F g
theorem Out.same {w w' : World} {F : Nat → Prop} {g : Nat} {bs : List Int} (h : Out w F g bs) (t : Turns F w w') : Out w' F g bs := ⟨(t.block g (heap_lt h.blk) h.out).trans h.blk, h.out⟩
theorem Out.went {w w' : World} {F : Nat → Prop} {g : Nat} {bs : List Int} (h : Out w F g bs) (t : Turns F w w') : Out w' (grow F w w') g bs :=
  ⟨(t.block g (heap_lt h.blk) h.out).trans h.blk, fun q => q.elim h.out (fun q => by have := heap_lt h.blk; omega)⟩
theorem Out.below {w w' : World} {F : Nat → Prop} {g : Nat} {bs : List Int} (h : Out w F g bs) (b : Below w.heap.size w w') : Out w' F g bs := ⟨(b.block g (heap_lt h.blk)).trans h.blk, h.out⟩
theorem Out.new {w w' : World} {F : Nat → Prop} {g : Nat} {bs : List Int} (hF : ∀ i, F i → i < w.heap.size) (hg : w.heap.size ≤ g) (hb : w'.heap[g]? = some (bl bs)) : Out w' F g bs := ⟨hb, fun q => by have := hF g q; omega⟩
theorem Out.lies {w : World} {F : Nat → Prop} {g n : Nat} {bs : List Int} (h : Out w F g bs) (hn : bs.length = n) : Lies w (some ⟨g, 0, none⟩) n n bs := Lies.full h.blk hn
theorem burnt_on {S : DevS} (hf : S.fuse = 0) : burnt S = S := by unfold burnt; rw [if_pos hf]

theorem write_on {w : World} {db : Nat} {S : DevS} {k N : Nat} {F : Nat → Prop} (h : Dev w db 0 S k N F) (hf : S.fuse = 0) (ho : S.off = false) (b : Nat) (hb : b < k) (g : Nat) (d : List Int) (hg : Out w F g d) (hd : d.length = 512) (hy : ∀ x ∈ d, 0 ≤ x ∧ x ≤ 255) (hN : N ≤ 1099511627776) :
    Calls Try.prog 11 #[.pointer (some ⟨db, 0, none⟩), .int .i64 b, .slice (some ⟨g, 0, none⟩) 512 512] w fun e w' => e = .returned (.int .i64 0) ∧ Dev w' db 0 (wrote S b d) k (N + 1) (grow F w w') ∧ Turns F w w' := by
  refine (write_any h b (some ⟨g, 0, none⟩) 512 512 d (hg.lies hd) hy (fun ad had => by obtain rfl := Option.some.inj had; exact hg.out) hN).mono ?_
  rintro e w' ⟨rfl, hD, hT⟩
  have hbk : 0 ≤ (b : Int) ∧ (b : Int) < k := ⟨by omega, by omega⟩
  have e1 : wrE S k b 512 = 0 := by unfold wrE; rw [burnt_on hf, if_neg (fun q => q hbk), if_neg (fun q => q rfl), ho]; simp
  have e2 : wrS S k b d = wrote S b d := by unfold wrS; rw [burnt_on hf, if_neg (fun q => q hbk), if_neg (fun q => q hd), ho]; simp
  rw [e2] at hD
  exact ⟨by rw [e1], hD, hT⟩
theorem flush_on {w : World} {db : Nat} {S : DevS} {k N : Nat} {F : Nat → Prop} (h : Dev w db 0 S k N F) (hf : S.fuse = 0) (ho : S.off = false) (hN : N ≤ 1099511627776) :
    Calls Try.prog 15 #[.pointer (some ⟨db, 0, none⟩)] w fun e w' => e = .returned (.int .i64 0) ∧ Dev w' db 0 (flushed S) k N (grow F w w') ∧ Turns F w w' := by
  refine (flush_any h hN).mono ?_
  rintro e w' ⟨rfl, hD, hT⟩
  have e1 : flE S = 0 := by unfold flE; rw [burnt_on hf, ho]; simp
  have e2 : flS S = flushed S := by unfold flS; rw [burnt_on hf, ho]; simp
  rw [e2] at hD
  exact ⟨by rw [e1], hD, hT⟩
theorem read_on {w : World} {db : Nat} {S : DevS} {k N : Nat} {F : Nat → Prop} (h : Dev w db 0 S k N F) (ho : S.off = false) (b : Nat) (hb : b < k) :
    Calls Try.prog 13 #[.pointer (some ⟨db, 0, none⟩), .int .i64 b] w fun e w' => ∃ g, e = .returned (.tuple #[.slice (some ⟨g, 0, none⟩) 512 512, .int .i64 0]) ∧ Out w' F g (rdB S b) ∧ Dev w' db 0 S k N F ∧ Turns F w w' ∧ w.heap.size ≤ g := by
  refine (read_any h b).mono ?_
  rintro e w' ⟨hR, hD, hT⟩
  have hbk : 0 ≤ (b : Int) ∧ (b : Int) < k := ⟨by omega, by omega⟩
  have e1 : rdE S k b = 0 := by unfold rdE; rw [if_neg (fun q => q hbk), ho]; simp
  rcases hR with ⟨h1, _⟩ | ⟨_, g, rfl, hg, hgb⟩
  · exact absurd e1 h1
  · exact ⟨g, rfl, Out.new h.lt hg (by simpa using hgb), hD, hT, hg⟩
theorem durable_on {w : World} {db : Nat} {S : DevS} {k N : Nat} {F : Nat → Prop} (h : Dev w db 0 S k N F) :
    Calls Try.prog 14 #[.pointer (some ⟨db, 0, none⟩)] w fun e w' => ∃ g, e = .returned (.slice (some ⟨g, 0, none⟩) (512 * k) (512 * k)) ∧ Out w' F g S.last ∧ Dev w' db 0 S k N F ∧ Turns F w w' ∧ w.heap.size ≤ g := by
  refine (durable_any h).mono ?_
  rintro e w' ⟨⟨g, rfl, hg, hgb⟩, hD, hT⟩
  exact ⟨g, rfl, Out.new h.lt hg hgb, hD, hT, hg⟩
theorem full_on {w : World} {F : Nat → Prop} (hF : ∀ i, F i → i < w.heap.size) (x : Int) :
    Calls Try.prog 12 #[.int .u8 x] w fun e w' => ∃ g, e = .returned (.slice (some ⟨g, 0, none⟩) 512 512) ∧ Out w' F g (List.replicate 512 x) ∧ Below w.heap.size w w' ∧ w.heap.size ≤ g := by
  refine (full_any x w).mono ?_
  rintro e w' ⟨g, rfl, hg, hgb, hb⟩
  exact ⟨g, rfl, Out.new hF hg hgb, hb, hg⟩
theorem crash_nil {w : World} {db : Nat} {S : DevS} {k N : Nat} {F : Nat → Prop} (h : Dev w db 0 S k N F) (hN : N ≤ 1099511627776) :
    Calls Try.prog 16 #[.pointer (some ⟨db, 0, none⟩), .slice none 0 0] w fun e w' => e = .returned (.tuple #[]) ∧ Dev w' db 0 (fresh S.last) k N (grow F w w') ∧ Turns F w w' := by
  refine (crash_any h none 0 0 [] (KLies.nil w) (by omega) (fun ad had => by cases had) hN).mono ?_
  rintro e w' ⟨rfl, hD, hT⟩
  have e1 : crashed S [] = fresh S.last := by
    unfold crashed fresh
    have : kept S.pend [] = [] := by cases S.pend <;> rfl
    rw [this]; rfl
  rw [e1] at hD
  exact ⟨rfl, hD, hT⟩
theorem grow_below {F : Nat → Prop} {B : Nat} {w w' : World} (hF : ∀ i, F i → B ≤ i) (hB : B ≤ w.heap.size) : ∀ i, grow F w w' i → B ≤ i := fun i h => h.elim (hF i) (fun h => by omega)
end Go.Proofs.Ytejfbjjhnhlagaa
