/- annexlaw1.step, kind by kind. -/
import Derived.Test.YtjpaooejkbkliabDoorState
namespace Go.Proofs.YtjpaooejkbkliabDoor
open Go.RowKit
set_option maxRecDepth 100000

set_option maxHeartbeats 1000000 in
theorem step_u64 (M : Int) (sec : Bool) (rb g n cap db : Nat) (ao : Option Addr) (dc base bk : Nat) (B : Nat → Prop) (es : List Ent) (i pl : Nat) (code : Int) (bs : List Int) (er : Nat → Addr) (w : World) (hS : St w rb g n cap db ao dc base bk B es i pl code bs) (hE : Errs w er) (hn : n ≤ 2000000) (hc : cap ≤ 2000000) (hby : ∀ x ∈ bs, 0 ≤ x ∧ x ≤ 255) (hM1 : M ≤ 9223372036854775807) :
    Calls Tryd.prog 9 #[.agg #[.int .i64 2, .bool sec, .int .i64 M], .pointer (some ⟨rb, 0, none⟩), .pointer (some ⟨db, 0, none⟩), .pointer (some ⟨bk, 0, none⟩)] w fun e w' => Stepped w rb g n cap db ao dc base bk B i bs e w' := by
  have hlt := hS.rd.lt
  have hltd := lt_of_block hS.dd.blk
  have hU := u64_any rb g n cap pl code M bs er
  have hle := rdNum_le 8 n bs pl code M hS.hp
  have hDU := dU64 db n dc pl ao code M bs
  generalize rdNum 8 n bs pl code M = z at hU hDU hle
  have hr0 := hS.rd.alloc (.cells #[.int .i64 2, .bool sec, .int .i64 M] 37)
  have hd0 := hS.dd.alloc (.cells #[.int .i64 2, .bool sec, .int .i64 M] 37)
  have he0 := hE.alloc (.cells #[.int .i64 2, .bool sec, .int .i64 M] 37)
  have HU : Hid (Calls Tryd.prog 18 #[.pointer (some ⟨rb, 0, none⟩), .int .i64 M] (w.alloc (.cells #[.int .i64 2, .bool sec, .int .i64 M] 37)).drew fun e w' => e = .returned (.int .i64 z.1) ∧ Went (w.alloc (.cells #[.int .i64 2, .bool sec, .int .i64 M] 37)).drew w' rb g n cap z.2.1 z.2.2 bs) := hU _ (hr0.drewN 1) (he0.drewN 1) hS.hp (by omega) hby hM1
  have HD : Hid (∀ w1, (w.alloc (.cells #[.int .i64 2, .bool sec, .int .i64 M] 37)).drew.grownBy w1 (some rb) → Calls Tryd.prog 19 #[.pointer (some ⟨db, 0, none⟩), .int .i64 M] w1 fun e w' => e = .returned (.int .i64 z.1) ∧ WentD w1 w' db ao n dc z.2.1 z.2.2 bs) := fun w1 h1 =>
    hDU w1 ((hd0.drewN 1).grown h1 (by simpa using fun e => hS.rne e.symm) (fun ad had => by simpa using hS.ane ad had)) hS.hp (by omega) hby hM1
  have HS : Hid (St w rb g n cap db ao dc base bk B es i pl code bs) := hS
  clear hU hDU hr0 hd0 he0 hS hby hE
  go_enter Tryd.func9, Tryd.ntmps9
  go_wp2_with fail
  have s2 : (w.alloc (.cells #[.int .i64 2, .bool sec, .int .i64 M] 37)).cell? ⟨w.heap.size, 2, none⟩ = some (.int .i64 M) := by rw [World.cell?_alloc_at _ _ _ _ rfl]; rfl
  have s2d : (w.alloc (.cells #[.int .i64 2, .bool sec, .int .i64 M] 37)).drew.cell? ⟨w.heap.size, 2, none⟩ = some (.int .i64 M) := s2
  go_region_held3 (fun w' => w'.cell? ⟨w.heap.size, 2, none⟩ = some (.int .i64 M))
    (first | exact s2 | exact s2d | exact s3 | exact s4)
    (first | (go_at_call 18; refine HU.out.mono ?_; rintro e w1 ⟨rfl, hw1⟩; have s3 : w1.cell? ⟨w.heap.size, 2, none⟩ = some (.int .i64 M) := hw1.2.cell s2d (by simp; omega)) | (go_at_call 19; refine (HD.out w1 hw1.2).mono ?_; rintro e w2 ⟨rfl, hw2⟩; have s4 : w2.cell? ⟨w.heap.size, 2, none⟩ = some (.int .i64 M) := hw2.2.cell s3 (by simp; omega)))
  go_wp2
  go_ret
  exact HS.out.done (grown_trans (World.grownBy_alloc _ _ _) (grown_trans (grown_drew _ _) hw1.2)) hw1.1 hw2.2 hw2.1 hle

set_option maxHeartbeats 1000000 in
theorem step_sum (M : Int) (sec : Bool) (rb g n cap db : Nat) (ao : Option Addr) (dc base bk : Nat) (B : Nat → Prop) (es : List Ent) (i pl : Nat) (code : Int) (bs : List Int) (er : Nat → Addr) (w : World) (hS : St w rb g n cap db ao dc base bk B es i pl code bs) (hE : Errs w er) (hn : n ≤ 2000000) (hc : cap ≤ 2000000) (hby : ∀ x ∈ bs, 0 ≤ x ∧ x ≤ 255) (_hM1 : M ≤ 9223372036854775807) :
    Calls Tryd.prog 9 #[.agg #[.int .i64 3, .bool sec, .int .i64 M], .pointer (some ⟨rb, 0, none⟩), .pointer (some ⟨db, 0, none⟩), .pointer (some ⟨bk, 0, none⟩)] w fun e w' => Stepped w rb g n cap db ao dc base bk B i bs e w' := by
  have hlt := hS.rd.lt
  have hltd := lt_of_block hS.dd.blk
  have hU := sum_any rb g n cap pl code bs er
  have hle := rdSum_le n bs pl code hS.hp
  have hDU := dSum db n dc pl ao code bs
  generalize rdSum n bs pl code = z at hU hDU hle
  have hr0 := hS.rd.alloc (.cells #[.int .i64 3, .bool sec, .int .i64 M] 37)
  have hd0 := hS.dd.alloc (.cells #[.int .i64 3, .bool sec, .int .i64 M] 37)
  have he0 := hE.alloc (.cells #[.int .i64 3, .bool sec, .int .i64 M] 37)
  have HU : Hid (Calls Tryd.prog 20 #[.pointer (some ⟨rb, 0, none⟩)] (w.alloc (.cells #[.int .i64 3, .bool sec, .int .i64 M] 37)) fun e w' => e = .returned (.int .u64 z.1) ∧ Went (w.alloc (.cells #[.int .i64 3, .bool sec, .int .i64 M] 37)) w' rb g n cap z.2.1 z.2.2 bs) := hU _ hr0 he0 hS.hp (by omega) hby
  have HD : Hid (∀ w1, (w.alloc (.cells #[.int .i64 3, .bool sec, .int .i64 M] 37)).grownBy w1 (some rb) → Calls Tryd.prog 21 #[.pointer (some ⟨db, 0, none⟩)] w1 fun e w' => e = .returned (.int .u64 z.1) ∧ WentD w1 w' db ao n dc z.2.1 z.2.2 bs) := fun w1 h1 =>
    hDU w1 (hd0.grown h1 (by simpa using fun e => hS.rne e.symm) (fun ad had => by simpa using hS.ane ad had)) hS.hp (by omega) hby
  have HS : Hid (St w rb g n cap db ao dc base bk B es i pl code bs) := hS
  clear hU hDU hr0 hd0 he0 hS hby hE
  go_enter Tryd.func9, Tryd.ntmps9
  go_wp2_with (first | (go_at_call 20; refine HU.out.mono ?_; rintro e w1 ⟨rfl, hw1⟩) | (go_at_call 21; refine (HD.out w1 hw1.2).mono ?_; rintro e w2 ⟨rfl, hw2⟩))
  go_ret
  exact HS.out.done (grown_trans (World.grownBy_alloc _ _ _) hw1.2) hw1.1 hw2.2 hw2.1 hle

set_option maxHeartbeats 1000000 in
theorem step_flag (M : Int) (sec : Bool) (rb g n cap db : Nat) (ao : Option Addr) (dc base bk : Nat) (B : Nat → Prop) (es : List Ent) (i pl : Nat) (code : Int) (bs : List Int) (er : Nat → Addr) (w : World) (hS : St w rb g n cap db ao dc base bk B es i pl code bs) (hE : Errs w er) (hn : n ≤ 2000000) (hc : cap ≤ 2000000) (hby : ∀ x ∈ bs, 0 ≤ x ∧ x ≤ 255) (_hM1 : M ≤ 9223372036854775807) :
    Calls Tryd.prog 9 #[.agg #[.int .i64 4, .bool sec, .int .i64 M], .pointer (some ⟨rb, 0, none⟩), .pointer (some ⟨db, 0, none⟩), .pointer (some ⟨bk, 0, none⟩)] w fun e w' => Stepped w rb g n cap db ao dc base bk B i bs e w' := by
  have hlt := hS.rd.lt
  have hltd := lt_of_block hS.dd.blk
  have hU := flag_any rb g n cap pl code bs er
  have hle := rdFlag_le n bs pl code hS.hp
  have hDU := dFlag db n dc pl ao code bs
  generalize rdFlag n bs pl code = z at hU hDU hle
  have hr0 := hS.rd.alloc (.cells #[.int .i64 4, .bool sec, .int .i64 M] 37)
  have hd0 := hS.dd.alloc (.cells #[.int .i64 4, .bool sec, .int .i64 M] 37)
  have he0 := hE.alloc (.cells #[.int .i64 4, .bool sec, .int .i64 M] 37)
  have HU : Hid (Calls Tryd.prog 22 #[.pointer (some ⟨rb, 0, none⟩)] (w.alloc (.cells #[.int .i64 4, .bool sec, .int .i64 M] 37)) fun e w' => e = .returned (.bool z.1) ∧ Went (w.alloc (.cells #[.int .i64 4, .bool sec, .int .i64 M] 37)) w' rb g n cap z.2.1 z.2.2 bs) := hU _ hr0 he0 hS.hp (by omega) hby
  have HD : Hid (∀ w1, (w.alloc (.cells #[.int .i64 4, .bool sec, .int .i64 M] 37)).grownBy w1 (some rb) → Calls Tryd.prog 23 #[.pointer (some ⟨db, 0, none⟩)] w1 fun e w' => e = .returned (.bool z.1) ∧ WentD w1 w' db ao n dc z.2.1 z.2.2 bs) := fun w1 h1 =>
    hDU w1 (hd0.grown h1 (by simpa using fun e => hS.rne e.symm) (fun ad had => by simpa using hS.ane ad had)) hS.hp (by omega) hby
  have HS : Hid (St w rb g n cap db ao dc base bk B es i pl code bs) := hS
  clear hU hDU hr0 hd0 he0 hS hby hE
  go_enter Tryd.func9, Tryd.ntmps9
  go_wp2_with (first | (go_at_call 22; refine HU.out.mono ?_; rintro e w1 ⟨rfl, hw1⟩) | (go_at_call 23; refine (HD.out w1 hw1.2).mono ?_; rintro e w2 ⟨rfl, hw2⟩))
  go_ret
  exact HS.out.done (grown_trans (World.grownBy_alloc _ _ _) hw1.2) hw1.1 hw2.2 hw2.1 hle

set_option maxHeartbeats 1000000 in
theorem step_text (M : Int) (sec : Bool) (rb g n cap db : Nat) (ao : Option Addr) (dc base bk : Nat) (B : Nat → Prop) (es : List Ent) (i pl : Nat) (code : Int) (bs : List Int) (er : Nat → Addr) (w : World) (hS : St w rb g n cap db ao dc base bk B es i pl code bs) (hE : Errs w er) (hn : n ≤ 2000000) (hc : cap ≤ 2000000) (hby : ∀ x ∈ bs, 0 ≤ x ∧ x ≤ 255) (hM1 : M ≤ 9223372036854775807) :
    Calls Tryd.prog 9 #[.agg #[.int .i64 5, .bool sec, .int .i64 M], .pointer (some ⟨rb, 0, none⟩), .pointer (some ⟨db, 0, none⟩), .pointer (some ⟨bk, 0, none⟩)] w fun e w' => Stepped w rb g n cap db ao dc base bk B i bs e w' := by
  have hlt := hS.rd.lt
  have hltd := lt_of_block hS.dd.blk
  have hU := text17_any rb g n cap pl code M bs er
  have hle := rdText_le n bs pl code M hS.hp
  have hDU := dText_any db n dc pl ao code M bs
  generalize rdText n bs pl code M = z at hU hDU hle
  have hr0 := hS.rd.alloc (.cells #[.int .i64 5, .bool sec, .int .i64 M] 37)
  have hd0 := hS.dd.alloc (.cells #[.int .i64 5, .bool sec, .int .i64 M] 37)
  have he0 := hE.alloc (.cells #[.int .i64 5, .bool sec, .int .i64 M] 37)
  have HU : Hid (Calls Tryd.prog 24 #[.pointer (some ⟨rb, 0, none⟩), .int .i64 M] (w.alloc (.cells #[.int .i64 5, .bool sec, .int .i64 M] 37)).drew fun e w' => e = .returned (.string (txt z.1)) ∧ Went (w.alloc (.cells #[.int .i64 5, .bool sec, .int .i64 M] 37)).drew w' rb g n cap z.2.1 z.2.2 bs) := hU _ (hr0.drewN 1) (he0.drewN 1) hS.hp (by omega) hby hM1
  have HD : Hid (∀ w1, (w.alloc (.cells #[.int .i64 5, .bool sec, .int .i64 M] 37)).drew.grownBy w1 (some rb) → Calls Tryd.prog 25 #[.pointer (some ⟨db, 0, none⟩), .int .i64 M] w1 fun e w' => e = .returned (.string (txt z.1)) ∧ WentD w1 w' db ao n dc z.2.1 z.2.2 bs) := fun w1 h1 =>
    hDU w1 ((hd0.drewN 1).grown h1 (by simpa using fun e => hS.rne e.symm) (fun ad had => by simpa using hS.ane ad had)) hS.hp (by omega) hby hM1
  have HS : Hid (St w rb g n cap db ao dc base bk B es i pl code bs) := hS
  clear hU hDU hr0 hd0 he0 hS hby hE
  go_enter Tryd.func9, Tryd.ntmps9
  go_wp2_with fail
  have s2 : (w.alloc (.cells #[.int .i64 5, .bool sec, .int .i64 M] 37)).cell? ⟨w.heap.size, 2, none⟩ = some (.int .i64 M) := by rw [World.cell?_alloc_at _ _ _ _ rfl]; rfl
  have s2d : (w.alloc (.cells #[.int .i64 5, .bool sec, .int .i64 M] 37)).drew.cell? ⟨w.heap.size, 2, none⟩ = some (.int .i64 M) := s2
  go_region_held3 (fun w' => w'.cell? ⟨w.heap.size, 2, none⟩ = some (.int .i64 M))
    (first | exact s2 | exact s2d | exact s3 | exact s4)
    (first | (go_at_call 24; refine HU.out.mono ?_; rintro e w1 ⟨rfl, hw1⟩; have s3 : w1.cell? ⟨w.heap.size, 2, none⟩ = some (.int .i64 M) := hw1.2.cell s2d (by simp; omega)) | (go_at_call 25; refine (HD.out w1 hw1.2).mono ?_; rintro e w2 ⟨rfl, hw2⟩; have s4 : w2.cell? ⟨w.heap.size, 2, none⟩ = some (.int .i64 M) := hw2.2.cell s3 (by simp; omega)))
  go_wp2
  go_ret
  exact HS.out.done (grown_trans (World.grownBy_alloc _ _ _) (grown_trans (grown_drew _ _) hw1.2)) hw1.1 hw2.2 hw2.1 hle

end Go.Proofs.YtjpaooejkbkliabDoor
