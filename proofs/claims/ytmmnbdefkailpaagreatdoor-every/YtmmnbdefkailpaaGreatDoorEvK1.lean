/- Package event: one part of a rule. -/
import Derived.Test.YtmmnbdefkailpaaGreatDoorEvK0

namespace Go.Proofs.YtmmnbdefkailpaaGreatDoor
open Go.RowKit Cal
set_option linter.unusedVariables false

set_option maxRecDepth 100000 in
set_option maxHeartbeats 8000000 in
theorem part_every (R : Nat) (b0 b1 b2 b3 b4 b5 b6 b7 b8 b9 b10 b11 b12 b13 b14 b16 b17 b18 b19 b20 b21 b22 : Value) (p : ByteArray) (m : Int) (k : Nat) (h1 : 1 ≤ k) (h2 : k < 100) (w : World) (h : w.heap[R]? = some (.cells #[b0, b1, b2, b3, b4, b5, b6, b7, b8, b9, b10, b11, b12, b13, b14, .bool false, b16, b17, b18, b19, b20, b21, b22] 165 (0, 0))) (hm : w.cell? ⟨32, 0, none⟩ = some (.int .i64 m)) (hR : 35 ≤ R) (hp : p.size ≤ 4000)
    (hcut : Lib.cut p.data.toList [61] = ([73, 78, 84, 69, 82, 86, 65, 76], (ByteArray.data (num k)).toList, true)) :
    Calls Tryz.prog 102 #[.pointer (some ⟨R, 0, none⟩), .string p] w fun e w' => e = .returned .nilIface ∧ w'.heap[R]? = some (.cells #[b0, b1, b2, .int .i64 k, b4, b5, b6, b7, b8, b9, b10, b11, b12, b13, b14, .bool true, b16, b17, b18, b19, b20, b21, b22] 165 (0, 0)) ∧ w.grownBy w' (some R) := by
  have cC : Calls Tryz.prog 134 #[.string p, .string ⟨#[61]⟩] w fun e w' => e = .returned (.tuple #[.string ⟨#[73, 78, 84, 69, 82, 86, 65, 76]⟩, .string (num k), .bool true]) ∧ ∃ q, w' = w.drewN q := by
    have := Tryz.strings_Cut p ⟨#[61]⟩ m w (by omega) hm
    simp only at this
    rw [hcut] at this
    exact this
  have hRl := hlt h
  have HH : Hid (w.heap[R]? = some (.cells #[b0, b1, b2, b3, b4, b5, b6, b7, b8, b9, b10, b11, b12, b13, b14, .bool false, b16, b17, b18, b19, b20, b21, b22] 165 (0, 0))) := h
  generalize hS : num k = S at *
  clear hcut hm h
  go_enter Tryz.func102, Tryz.ntmps102
  go_wp2_with (first | (go_at_call 134; refine cC.mono ?_; clear cC; rintro e w1 ⟨rfl, q1, rfl⟩) | (go_at_call 115; refine (parts_any _).mono ?_; rintro e w2 ⟨rfl, hb2⟩))
  have hb0 : Below w.heap.size w w2 := ⟨hb2.os, hb2.tape, hb2.output, hb2.size, hb2.block⟩
  clear hb2
  go_loopw [18] (fun i wr => ∃ j : Nat, j ≤ 1 ∧ i = .int .i64 j ∧ Below w.heap.size w wr) (fun i _ => 2 - (intOf i).toNat)
  case atStart => exact ⟨0, by omega, rfl, hb0⟩
  case round =>
    obtain ⟨j, hj, rfl, hbr⟩ := hrel
    have i0 := ix196_0 wr
    have i1 := ix196_1 wr
    have i2 := ix196_2 wr
    obtain rfl | rfl : j = 0 ∨ j = 1 := by omega
    · go_wp2_with (refine wpList_store195 (by rfl) (.tmp 9) (.tmp 21) (by rfl) _ _ _ (by rfl) (by rfl) (by kernel_rfl) ?_)
      go_roundw
      case rel => exact ⟨1, by omega, by go_num, hbr.alloc hbr.size _⟩
      case measure => simp [intOf]
    · have hWr := hbel HH.out hbr
      have s0 := hc hWr 15 rfl
      have f0 := Lib.frozen_of_heap hWr 15
      have hRr := hlt hWr
      have hRn : R ≠ wr.heap.size := by omega
      have HWr : Hid (wr.heap[R]? = some (.cells #[b0, b1, b2, b3, b4, b5, b6, b7, b8, b9, b10, b11, b12, b13, b14, .bool false, b16, b17, b18, b19, b20, b21, b22] 165 (0, 0))) := hWr
      clear hWr
      go_wp2_with (refine wpList_store195 (by rfl) (.tmp 9) (.tmp 21) (by rfl) _ _ _ (by rfl) (by rfl) (by kernel_rfl) ?_)
      have hW5 : ((wr.setCell ⟨R, 15, none⟩ (.bool true)).alloc (.cells #[.string ⟨#[73, 78, 84, 69, 82, 86, 65, 76]⟩, .func (.func 158) #[] #[], .func (.func 159) #[] #[]] 195)).heap[R]? = some (.cells #[b0, b1, b2, b3, b4, b5, b6, b7, b8, b9, b10, b11, b12, b13, b14, .bool true, b16, b17, b18, b19, b20, b21, b22] 165 (0, 0)) := (Below.heap_alloc _ _ _ (hlt (hset HWr.out 15 (.bool true)))).trans (hset HWr.out 15 _)
      have g5 : w.grownBy ((wr.setCell ⟨R, 15, none⟩ (.bool true)).alloc (.cells #[.string ⟨#[73, 78, 84, 69, 82, 86, 65, 76]⟩, .func (.func 158) #[] #[], .func (.func 159) #[] #[]] 195)) (some R) := gb_trans ⟨hbr.os, hbr.tape, hbr.output, hbr.size, fun k hk _ => hbr.block k hk⟩ (gb_trans (gb_set _ _ _ _) (World.grownBy_alloc _ _ _))
      have k1 : ((wr.setCell ⟨R, 15, none⟩ (.bool true)).alloc (.cells #[.string ⟨#[73, 78, 84, 69, 82, 86, 65, 76]⟩, .func (.func 158) #[] #[], .func (.func 159) #[] #[]] 195)).cell? ⟨wr.heap.size, 1, none⟩ = some (.func (.func 158) #[] #[]) := by
        have hz : (wr.setCell ⟨R, 15, none⟩ (.bool true)).heap.size = wr.heap.size := by simp [World.setCell]
        have := hc (heap_alloc_new (wr.setCell ⟨R, 15, none⟩ (.bool true)) (.cells #[.string ⟨#[73, 78, 84, 69, 82, 86, 65, 76]⟩, .func (.func 158) #[] #[], .func (.func 159) #[] #[]] 195)) 1 rfl
        rw [hz] at this
        exact this
      have HW5 : Hid _ := hW5
      have G5 : Hid _ := g5
      clear hW5 g5 s0 f0 i0 i1 i2
      generalize (wr.setCell ⟨R, 15, none⟩ (.bool true)).alloc (.cells #[.string ⟨#[73, 78, 84, 69, 82, 86, 65, 76]⟩, .func (.func 158) #[] #[], .func (.func 159) #[] #[]] 195) = W5 at *
      have cF : Hid (∀ wx, W5.heap = wx.heap → W5.grownBy wx none → Calls Tryz.prog 158 #[.pointer (some ⟨R, 2, none⟩), .string S] wx fun e w' => e = .returned .nilIface ∧ w'.heap[R]? = some (.cells #[b0, b1, b2, .int .i64 k, b4, b5, b6, b7, b8, b9, b10, b11, b12, b13, b14, .bool true, b16, b17, b18, b19, b20, b21, b22] 165 (0, 0)) ∧ wx.grownBy w' (some R)) := fun wx hx hg => by
        have hWx : wx.heap[R]? = some (.cells #[b0, b1, b2, b3, b4, b5, b6, b7, b8, b9, b10, b11, b12, b13, b14, .bool true, b16, b17, b18, b19, b20, b21, b22] 165 (0, 0)) := by rw [← hx]; exact HW5.out
        subst hS
        refine (readEvery_yes R k _ wx h1 h2 (hc hWx 3 rfl) (Lib.frozen_of_heap hWx 3)).mono ?_
        rintro e w' ⟨rfl, w1, hb1, rfl⟩
        exact ⟨rfl, hset (hbel hWx hb1) 3 _, gb_trans (gb_below hb1 _) (gb_set _ _ _ _)⟩
      go_region_with (first | (go_at_call 158; refine (cF.out W5.drew rfl (gb_drew _ _)).mono ?_; rintro e w7 ⟨rfl, hW7, hg7⟩))
      go_wp2
      go_ret
      exact ⟨rfl, hW7, gb_trans G5.out (gb_trans (gb_drew _ _) hg7)⟩

end Go.Proofs.YtmmnbdefkailpaaGreatDoor

/- Package event: one part of a rule. -/
namespace Go.Proofs.YtmmnbdefkailpaaGreatDoor
open Go.RowKit Cal
set_option linter.unusedVariables false

set_option maxRecDepth 100000 in
set_option maxHeartbeats 8000000 in
theorem part_count (R : Nat) (b0 b1 b2 b3 b4 b5 b6 b7 b8 b9 b10 b11 b12 b13 b14 b15 b17 b18 b19 b20 b21 b22 : Value) (p : ByteArray) (m : Int) (k : Nat) (h1 : 1 ≤ k) (h2 : k < 100) (w : World) (h : w.heap[R]? = some (.cells #[b0, b1, b2, b3, b4, b5, b6, b7, b8, b9, b10, b11, b12, b13, b14, b15, .bool false, b17, b18, b19, b20, b21, b22] 165 (0, 0))) (hm : w.cell? ⟨32, 0, none⟩ = some (.int .i64 m)) (hR : 35 ≤ R) (hp : p.size ≤ 4000)
    (hcut : Lib.cut p.data.toList [61] = ([67, 79, 85, 78, 84], (ByteArray.data (num k)).toList, true)) :
    Calls Tryz.prog 102 #[.pointer (some ⟨R, 0, none⟩), .string p] w fun e w' => e = .returned .nilIface ∧ w'.heap[R]? = some (.cells #[b0, b1, b2, b3, .int .i64 k, b5, b6, b7, b8, b9, b10, b11, b12, b13, b14, b15, .bool true, b17, b18, b19, b20, b21, b22] 165 (0, 0)) ∧ w.grownBy w' (some R) := by
  have cC : Calls Tryz.prog 134 #[.string p, .string ⟨#[61]⟩] w fun e w' => e = .returned (.tuple #[.string ⟨#[67, 79, 85, 78, 84]⟩, .string (num k), .bool true]) ∧ ∃ q, w' = w.drewN q := by
    have := Tryz.strings_Cut p ⟨#[61]⟩ m w (by omega) hm
    simp only at this
    rw [hcut] at this
    exact this
  have hRl := hlt h
  have HH : Hid (w.heap[R]? = some (.cells #[b0, b1, b2, b3, b4, b5, b6, b7, b8, b9, b10, b11, b12, b13, b14, b15, .bool false, b17, b18, b19, b20, b21, b22] 165 (0, 0))) := h
  generalize hS : num k = S at *
  clear hcut hm h
  go_enter Tryz.func102, Tryz.ntmps102
  go_wp2_with (first | (go_at_call 134; refine cC.mono ?_; clear cC; rintro e w1 ⟨rfl, q1, rfl⟩) | (go_at_call 115; refine (parts_any _).mono ?_; rintro e w2 ⟨rfl, hb2⟩))
  have hb0 : Below w.heap.size w w2 := ⟨hb2.os, hb2.tape, hb2.output, hb2.size, hb2.block⟩
  clear hb2
  go_loopw [18] (fun i wr => ∃ j : Nat, j ≤ 2 ∧ i = .int .i64 j ∧ Below w.heap.size w wr) (fun i _ => 3 - (intOf i).toNat)
  case atStart => exact ⟨0, by omega, rfl, hb0⟩
  case round =>
    obtain ⟨j, hj, rfl, hbr⟩ := hrel
    have i0 := ix196_0 wr
    have i1 := ix196_1 wr
    have i2 := ix196_2 wr
    obtain rfl | rfl | rfl : j = 0 ∨ j = 1 ∨ j = 2 := by omega
    · go_wp2_with (refine wpList_store195 (by rfl) (.tmp 9) (.tmp 21) (by rfl) _ _ _ (by rfl) (by rfl) (by kernel_rfl) ?_)
      go_roundw
      case rel => exact ⟨1, by omega, by go_num, hbr.alloc hbr.size _⟩
      case measure => simp [intOf]
    · go_wp2_with (refine wpList_store195 (by rfl) (.tmp 9) (.tmp 21) (by rfl) _ _ _ (by rfl) (by rfl) (by kernel_rfl) ?_)
      go_roundw
      case rel => exact ⟨2, by omega, by go_num, hbr.alloc hbr.size _⟩
      case measure => simp [intOf]
    · have hWr := hbel HH.out hbr
      have s0 := hc hWr 16 rfl
      have f0 := Lib.frozen_of_heap hWr 16
      have hRr := hlt hWr
      have hRn : R ≠ wr.heap.size := by omega
      have HWr : Hid (wr.heap[R]? = some (.cells #[b0, b1, b2, b3, b4, b5, b6, b7, b8, b9, b10, b11, b12, b13, b14, b15, .bool false, b17, b18, b19, b20, b21, b22] 165 (0, 0))) := hWr
      clear hWr
      go_wp2_with (refine wpList_store195 (by rfl) (.tmp 9) (.tmp 21) (by rfl) _ _ _ (by rfl) (by rfl) (by kernel_rfl) ?_)
      have hW5 : ((wr.setCell ⟨R, 16, none⟩ (.bool true)).alloc (.cells #[.string ⟨#[67, 79, 85, 78, 84]⟩, .func (.func 160) #[] #[], .func (.func 161) #[] #[]] 195)).heap[R]? = some (.cells #[b0, b1, b2, b3, b4, b5, b6, b7, b8, b9, b10, b11, b12, b13, b14, b15, .bool true, b17, b18, b19, b20, b21, b22] 165 (0, 0)) := (Below.heap_alloc _ _ _ (hlt (hset HWr.out 16 (.bool true)))).trans (hset HWr.out 16 _)
      have g5 : w.grownBy ((wr.setCell ⟨R, 16, none⟩ (.bool true)).alloc (.cells #[.string ⟨#[67, 79, 85, 78, 84]⟩, .func (.func 160) #[] #[], .func (.func 161) #[] #[]] 195)) (some R) := gb_trans ⟨hbr.os, hbr.tape, hbr.output, hbr.size, fun k hk _ => hbr.block k hk⟩ (gb_trans (gb_set _ _ _ _) (World.grownBy_alloc _ _ _))
      have k1 : ((wr.setCell ⟨R, 16, none⟩ (.bool true)).alloc (.cells #[.string ⟨#[67, 79, 85, 78, 84]⟩, .func (.func 160) #[] #[], .func (.func 161) #[] #[]] 195)).cell? ⟨wr.heap.size, 1, none⟩ = some (.func (.func 160) #[] #[]) := by
        have hz : (wr.setCell ⟨R, 16, none⟩ (.bool true)).heap.size = wr.heap.size := by simp [World.setCell]
        have := hc (heap_alloc_new (wr.setCell ⟨R, 16, none⟩ (.bool true)) (.cells #[.string ⟨#[67, 79, 85, 78, 84]⟩, .func (.func 160) #[] #[], .func (.func 161) #[] #[]] 195)) 1 rfl
        rw [hz] at this
        exact this
      have HW5 : Hid _ := hW5
      have G5 : Hid _ := g5
      clear hW5 g5 s0 f0 i0 i1 i2
      generalize (wr.setCell ⟨R, 16, none⟩ (.bool true)).alloc (.cells #[.string ⟨#[67, 79, 85, 78, 84]⟩, .func (.func 160) #[] #[], .func (.func 161) #[] #[]] 195) = W5 at *
      have cF : Hid (∀ wx, W5.heap = wx.heap → W5.grownBy wx none → Calls Tryz.prog 160 #[.pointer (some ⟨R, 2, none⟩), .string S] wx fun e w' => e = .returned .nilIface ∧ w'.heap[R]? = some (.cells #[b0, b1, b2, b3, .int .i64 k, b5, b6, b7, b8, b9, b10, b11, b12, b13, b14, b15, .bool true, b17, b18, b19, b20, b21, b22] 165 (0, 0)) ∧ wx.grownBy w' (some R)) := fun wx hx hg => by
        have hWx : wx.heap[R]? = some (.cells #[b0, b1, b2, b3, b4, b5, b6, b7, b8, b9, b10, b11, b12, b13, b14, b15, .bool true, b17, b18, b19, b20, b21, b22] 165 (0, 0)) := by rw [← hx]; exact HW5.out
        subst hS
        refine (readCount_yes R k _ wx h1 h2 (hc hWx 4 rfl) (Lib.frozen_of_heap hWx 4)).mono ?_
        rintro e w' ⟨rfl, w1, hb1, rfl⟩
        exact ⟨rfl, hset (hbel hWx hb1) 4 _, gb_trans (gb_below hb1 _) (gb_set _ _ _ _)⟩
      go_region_with (first | (go_at_call 160; refine (cF.out W5.drew rfl (gb_drew _ _)).mono ?_; rintro e w7 ⟨rfl, hW7, hg7⟩))
      go_wp2
      go_ret
      exact ⟨rfl, hW7, gb_trans G5.out (gb_trans (gb_drew _ _) hg7)⟩

end Go.Proofs.YtmmnbdefkailpaaGreatDoor
