/- Two readers at the same bytes, the program's and the document's, and a book beside them: what a step leaves. -/
import Derived.Test.YtjpaooejkbkliabDoorDref6
import Derived.Test.YtjpaooejkbkliabDoorWhole
import Derived.Test.YtjpaooejkbkliabDoorHead
namespace Go.Proofs.YtjpaooejkbkliabDoor
open Go.RowKit
set_option maxRecDepth 100000

theorem RdD.grown {w w' : World} {rb n cap : Nat} {ao : Option Addr} {pl code : Int} {bs : List Int} {row : Option Nat} (h : RdD w rb ao n cap pl code bs) (hg : w.grownBy w' row) (h1 : some rb ≠ row) (h2 : ∀ ad, ao = some ad → some ad.block ≠ row) : RdD w' rb ao n cap pl code bs :=
  ⟨(hg.block rb (lt_of_block h.blk) h1).trans h.blk, h.lies.grown hg h2, h.apart⟩
theorem RdD.alloc {w : World} {rb n cap : Nat} {ao : Option Addr} {pl code : Int} {bs : List Int} (h : RdD w rb ao n cap pl code bs) (o : Obj) : RdD (w.alloc o) rb ao n cap pl code bs :=
  h.grown (World.grownBy_alloc w o none) (by simp) (fun _ _ => by simp)

/-- The program's reader and the document's at one place, with one error, and the book beside them. -/
structure St (w : World) (rb g n cap db : Nat) (ao : Option Addr) (dc base bk : Nat) (B : Nat → Prop) (es : List Ent) (i pl : Nat) (code : Int) (bs : List Int) : Prop where
  rd : Rdr w rb g n cap pl code bs
  dd : RdD w db ao n dc pl code bs
  book : Bk w base bk B es
  hes : es.length = 3 * i
  hen : ∀ e ∈ es, e.len ≤ 2000000
  hB : ∀ b, B b → base ≤ b ∧ b < w.heap.size
  nr : ¬ B rb
  ng : ¬ B g
  nd : ¬ B db
  na : ∀ ad, ao = some ad → ¬ B ad.block
  rne : rb ≠ db
  gne : g ≠ db
  ane : ∀ ad, ao = some ad → ad.block ≠ rb
  hp : pl ≤ n
  alt : ∀ ad, ao = some ad → ad.block < w.heap.size

/-- What a step leaves. -/
def Stepped (w : World) (rb g n cap db : Nat) (ao : Option Addr) (dc base bk : Nat) (B : Nat → Prop) (i : Nat) (bs : List Int) (e : Ending) (w' : World) : Prop :=
  e = .returned (.bool true) ∧ ∃ (B' : Nat → Prop) (es' : List Ent) (i' pl' : Nat) (code' : Int), St w' rb g n cap db ao dc base bk B' es' i' pl' code' bs ∧ i' ≤ i + 1 ∧ (∀ b, B' b → B b ∨ w.heap.size ≤ b) ∧ Fr (fun k => B k ∨ k = rb ∨ k = db) w w'

theorem St.done {w w1 w2 : World} {rb g n cap db : Nat} {ao : Option Addr} {dc base bk : Nat} {B : Nat → Prop} {es : List Ent} {i pl pl' : Nat} {code code' : Int} {bs : List Int} (h : St w rb g n cap db ao dc base bk B es i pl code bs)
    (hg1 : w.grownBy w1 (some rb)) (hr : Rdr w1 rb g n cap pl' code' bs) (hg2 : w1.grownBy w2 (some db)) (hd : RdD w2 db ao n dc pl' code' bs) (hpl : pl' ≤ n) : Stepped w rb g n cap db ao dc base bk B i bs (.returned (.bool true)) w2 := by
  have keep : ∀ k, k < w.heap.size → k ≠ rb → k ≠ db → w2.heap[k]? = w.heap[k]? := fun k hk h1 h2 =>
    (hg2.block k (Nat.lt_of_lt_of_le hk hg1.size) (by simpa using h2)).trans (hg1.block k hk (by simpa using h1))
  have hsz := Nat.le_trans hg1.size hg2.size
  refine ⟨rfl, B, es, i, pl', code', ⟨hr.kept hg2 (by simpa using h.rne) (by simpa using h.gne), hd, h.book.keep fun k hk hBk => keep k hk (fun e => h.nr (e ▸ hBk)) (fun e => h.nd (e ▸ hBk)), h.hes, h.hen, fun b hb => ⟨(h.hB b hb).1, Nat.lt_of_lt_of_le (h.hB b hb).2 hsz⟩, h.nr, h.ng, h.nd, h.na, h.rne, h.gne, h.ane, hpl, fun ad had => Nat.lt_of_lt_of_le (h.alt ad had) hsz⟩, by omega, fun b hb => .inl hb, ?_⟩
  exact ⟨hg2.os.trans hg1.os, hg2.tape.trans hg1.tape, hg2.output.trans hg1.output, hsz, fun k hk hn => keep k hk (fun e => hn (.inr (.inl e))) (fun e => hn (.inr (.inr e)))⟩

theorem rdNum_le (k n : Nat) (bs : List Int) (pl : Nat) (code M : Int) (hp : pl ≤ n) : (rdNum k n bs pl code M).2.1 ≤ n := by
  unfold rdNum
  split
  · exact hp
  · split
    · exact hp
    · split
      · exact hp
      · show pl + k ≤ n
        omega
theorem rdSum_le (n : Nat) (bs : List Int) (pl : Nat) (code : Int) (hp : pl ≤ n) : (rdSum n bs pl code).2.1 ≤ n := by
  unfold rdSum
  split
  · exact hp
  · split
    · exact hp
    · show pl + 8 ≤ n
      omega
theorem rdFlag_le (n : Nat) (bs : List Int) (pl : Nat) (code : Int) (hp : pl ≤ n) : (rdFlag n bs pl code).2.1 ≤ n := by
  unfold rdFlag
  split
  · exact hp
  · split
    · exact hp
    · split
      · exact hp
      · show pl + 4 ≤ n
        omega
theorem rdText_le (n : Nat) (bs : List Int) (pl : Nat) (code M : Int) (hp : pl ≤ n) : (rdText n bs pl code M).2.1 ≤ n := by
  unfold rdText
  split
  · exact hp
  · split
    · exact hp
    · split
      · exact hp
      · split
        · exact hp
        · split
          · exact hp
          · rename_i h _
            show pl + (4 + _ + _) ≤ n
            omega
theorem rdText_len (n : Nat) (bs : List Int) (pl : Nat) (code M : Int) (_hl : bs.length = n) : (rdText n bs pl code M).1.length ≤ n := by
  unfold rdText
  split
  · simp
  · split
    · simp
    · split
      · simp
      · split
        · simp
        · split
          · simp
          · simp; omega

set_option maxHeartbeats 1000000 in
theorem step_u32 (M : Int) (sec : Bool) (rb g n cap db : Nat) (ao : Option Addr) (dc base bk : Nat) (B : Nat → Prop) (es : List Ent) (i pl : Nat) (code : Int) (bs : List Int) (er : Nat → Addr) (w : World) (hS : St w rb g n cap db ao dc base bk B es i pl code bs) (hE : Errs w er) (hn : n ≤ 2000000) (hc : cap ≤ 2000000) (hby : ∀ x ∈ bs, 0 ≤ x ∧ x ≤ 255) (hM1 : M ≤ 9223372036854775807) :
    Calls Tryd.prog 9 #[.agg #[.int .i64 1, .bool sec, .int .i64 M], .pointer (some ⟨rb, 0, none⟩), .pointer (some ⟨db, 0, none⟩), .pointer (some ⟨bk, 0, none⟩)] w fun e w' => Stepped w rb g n cap db ao dc base bk B i bs e w' := by
  have hlt := hS.rd.lt
  have hltd := lt_of_block hS.dd.blk
  have hU := u32_any rb g n cap pl code M bs er
  have hle := rdNum_le 4 n bs pl code M hS.hp
  have hDU := dU32 db n dc pl ao code M bs
  generalize rdNum 4 n bs pl code M = z at hU hDU hle
  have hga : w.grownBy (w.alloc (.cells #[.int .i64 1, .bool sec, .int .i64 M] 37)) none := World.grownBy_alloc _ _ _
  have hr0 := hS.rd.alloc (.cells #[.int .i64 1, .bool sec, .int .i64 M] 37)
  have hd0 := hS.dd.alloc (.cells #[.int .i64 1, .bool sec, .int .i64 M] 37)
  have he0 := hE.alloc (.cells #[.int .i64 1, .bool sec, .int .i64 M] 37)
  have HU : Hid (Calls Tryd.prog 13 #[.pointer (some ⟨rb, 0, none⟩), .int .i64 M] (w.alloc (.cells #[.int .i64 1, .bool sec, .int .i64 M] 37)).drew fun e w' => e = .returned (.int .i64 z.1) ∧ Went (w.alloc (.cells #[.int .i64 1, .bool sec, .int .i64 M] 37)).drew w' rb g n cap z.2.1 z.2.2 bs) := hU _ (hr0.drewN 1) (he0.drewN 1) hS.hp (by omega) hby hM1
  have HD : Hid (∀ w1, (w.alloc (.cells #[.int .i64 1, .bool sec, .int .i64 M] 37)).drew.grownBy w1 (some rb) → Calls Tryd.prog 17 #[.pointer (some ⟨db, 0, none⟩), .int .i64 M] w1 fun e w' => e = .returned (.int .i64 z.1) ∧ WentD w1 w' db ao n dc z.2.1 z.2.2 bs) := fun w1 h1 =>
    hDU w1 ((hd0.drewN 1).grown h1 (by simpa using fun e => hS.rne e.symm) (fun ad had => by simpa using hS.ane ad had)) hS.hp (by omega) hby hM1
  have HS : Hid (St w rb g n cap db ao dc base bk B es i pl code bs) := hS
  clear hU hDU hr0 hd0 he0 hS hby hE
  go_enter Tryd.func9, Tryd.ntmps9
  go_wp2_with fail
  have s2 : (w.alloc (.cells #[.int .i64 1, .bool sec, .int .i64 M] 37)).cell? ⟨w.heap.size, 2, none⟩ = some (.int .i64 M) := by rw [World.cell?_alloc_at _ _ _ _ rfl]; rfl
  have s2d : (w.alloc (.cells #[.int .i64 1, .bool sec, .int .i64 M] 37)).drew.cell? ⟨w.heap.size, 2, none⟩ = some (.int .i64 M) := s2
  go_region_held3 (fun w' => w'.cell? ⟨w.heap.size, 2, none⟩ = some (.int .i64 M))
    (first | exact s2 | exact s2d | exact s3 | exact s4)
    (first | (go_at_call 13; refine HU.out.mono ?_; rintro e w1 ⟨rfl, hw1⟩; have s3 : w1.cell? ⟨w.heap.size, 2, none⟩ = some (.int .i64 M) := hw1.2.cell s2d (by simp; omega)) | (go_at_call 17; refine (HD.out w1 hw1.2).mono ?_; rintro e w2 ⟨rfl, hw2⟩; have s4 : w2.cell? ⟨w.heap.size, 2, none⟩ = some (.int .i64 M) := hw2.2.cell s3 (by simp; omega)))
  go_wp2
  go_ret
  exact HS.out.done (grown_trans (World.grownBy_alloc _ _ _) (grown_trans (grown_drew _ _) hw1.2)) hw1.1 hw2.2 hw2.1 hle
end Go.Proofs.YtjpaooejkbkliabDoor
