/- Package event: the names of the lines. -/
import Derived.Test.YtmmnbdefkailpaaGreatDoorEvH
import Derived.Deep.AppendLies
import Derived.Lib.SmallJoins

namespace Go.Proofs.YtmmnbdefkailpaaGreatDoor
open Go.RowKit Cal
set_option linter.unusedVariables false

theorem own_cells {w : World} {B : Nat} {e : TypeId} {g n cap : Nat} {xs : List Value} (h : w.ownsRow B e 1 (.slice (some ⟨g, 0, none⟩) n cap) n xs) (j : Nat) (u : Value) (hu : xs[j]? = some u) : w.cell? ⟨g, j, none⟩ = some u := by
  have := h.cells (g := g) rfl j u hu
  rw [Addr.add_lit] at this
  simpa using this
theorem gb_none {a b : World} (h : a.grownBy b none) (r : Option Nat) : a.grownBy b r := ⟨h.os, h.tape, h.output, h.size, fun k hk _ => h.block k hk (by simp)⟩
theorem strInfo : (Tryz.prog.info? 9).map (fun i => (i.zero, i.size, i.bytes)) = some (some (.string ⟨#[]⟩), 1, 16) := by kernel_rfl

set_option maxRecDepth 100000 in
set_option maxHeartbeats 8000000 in
theorem st1 (B g cap : Nat) (a9 a10 a11 a12 a13 a14 a15 a16 a17 a18 a19 a20 a21 a22 a23 a24 a25 a26 a27 a28 : Value) (L1 L2 L3 r1 r2 r3 : ByteArray) (w : World) (h : w.heap[B]? = some (.cells #[.slice (some ⟨g, 1, none⟩) 3 cap, .slice none 0 0, .slice none 0 0, .slice none 0 0, .slice none 0 0, .slice none 0 0, .slice none 0 0, .slice none 0 0, .slice none 0 0, a9, a10, a11, a12, a13, a14, a15, a16, a17, a18, a19, a20, a21, a22, a23, a24, a25, a26, a27, a28] 65 (0, 0))) (hgB : g ≠ B) (hcap : 3 ≤ cap) (hcap2 : cap ≤ 9223372036854775807)
    (l1 : w.cell? ⟨g, 1, none⟩ = some (.string L1)) (l2 : w.cell? ⟨g, 2, none⟩ = some (.string L2)) (l3 : w.cell? ⟨g, 3, none⟩ = some (.string L3))
    (hN : ∀ wx, w.grownBy wx (some B) → LN wx)
    (K1 : ∀ wx, LN wx → Calls Tryz.prog 91 #[.string L1] wx fun e w' => e = .returned (.tuple #[.int .i64 0, .string r1]) ∧ Below wx.heap.size wx w')
    (K2 : ∀ wx, LN wx → Calls Tryz.prog 91 #[.string L2] wx fun e w' => e = .returned (.tuple #[.int .i64 2, .string r2]) ∧ Below wx.heap.size wx w')
    (K3 : ∀ wx, LN wx → Calls Tryz.prog 91 #[.string L3] wx fun e w' => e = .returned (.tuple #[.int .i64 5, .string r3]) ∧ Below wx.heap.size wx w') :
    Calls Tryz.prog 53 #[.pointer (some ⟨B, 0, none⟩)] w fun e w' => e = .returned .nilIface ∧ ∃ g0 c0 g2 c2 g5 c5 : Nat, w'.heap[B]? = some (.cells #[.slice (some ⟨g, 1, none⟩) 3 cap, .slice (some ⟨g0, 0, none⟩) 1 c0, .slice none 0 0, .slice (some ⟨g2, 0, none⟩) 1 c2, .slice none 0 0, .slice none 0 0, .slice (some ⟨g5, 0, none⟩) 1 c5, .slice none 0 0, .slice none 0 0, a9, a10, a11, a12, a13, a14, a15, a16, a17, a18, a19, a20, a21, a22, a23, a24, a25, a26, a27, a28] 65 (0, 0)) ∧ w.grownBy w' (some B) ∧ w'.cell? ⟨g0, 0, none⟩ = some (.string r1) ∧ g0 ≠ B ∧ w'.cell? ⟨g2, 0, none⟩ = some (.string r2) ∧ g2 ≠ B ∧ w'.cell? ⟨g5, 0, none⟩ = some (.string r3) ∧ g5 ≠ B := by
  obtain ⟨i0, hi, hz0, hz1, hz2⟩ := info_parts strInfo
  have H1 : Hid (∀ wx, LN wx → Calls Tryz.prog 91 #[.string L1] wx fun e w' => e = .returned (.tuple #[.int .i64 0, .string r1]) ∧ Below wx.heap.size wx w') := K1
  have H2 : Hid (∀ wx, LN wx → Calls Tryz.prog 91 #[.string L2] wx fun e w' => e = .returned (.tuple #[.int .i64 2, .string r2]) ∧ Below wx.heap.size wx w') := K2
  have H3 : Hid (∀ wx, LN wx → Calls Tryz.prog 91 #[.string L3] wx fun e w' => e = .returned (.tuple #[.int .i64 5, .string r3]) ∧ Below wx.heap.size wx w') := K3
  have HN : Hid (∀ wx, w.grownBy wx (some B) → LN wx) := hN
  have e0 := hc h 0 rfl
  have HH : Hid (w.heap[B]? = some (.cells #[.slice (some ⟨g, 1, none⟩) 3 cap, .slice none 0 0, .slice none 0 0, .slice none 0 0, .slice none 0 0, .slice none 0 0, .slice none 0 0, .slice none 0 0, .slice none 0 0, a9, a10, a11, a12, a13, a14, a15, a16, a17, a18, a19, a20, a21, a22, a23, a24, a25, a26, a27, a28] 65 (0, 0))) := h
  have M1 : Hid (w.cell? ⟨g, 1, none⟩ = some (.string L1)) := l1
  have M2 : Hid (w.cell? ⟨g, 2, none⟩ = some (.string L2)) := l2
  have M3 : Hid (w.cell? ⟨g, 3, none⟩ = some (.string L3)) := l3
  clear K1 K2 K3 hN h l1 l2 l3
  go_enter Tryz.func53, Tryz.ntmps53
  go_wp2
  clear e0
  go_loopw [12] (fun i wr => (i = .int .i64 0 ∧ wr.heap[B]? = some (.cells #[.slice (some ⟨g, 1, none⟩) 3 cap, .slice none 0 0, .slice none 0 0, .slice none 0 0, .slice none 0 0, .slice none 0 0, .slice none 0 0, .slice none 0 0, .slice none 0 0, a9, a10, a11, a12, a13, a14, a15, a16, a17, a18, a19, a20, a21, a22, a23, a24, a25, a26, a27, a28] 65 (0, 0)) ∧ w.grownBy wr (some B)) ∨ (i = .int .i64 1 ∧ ∃ g0 c0 : Nat, wr.heap[B]? = some (.cells #[.slice (some ⟨g, 1, none⟩) 3 cap, .slice (some ⟨g0, 0, none⟩) 1 c0, .slice none 0 0, .slice none 0 0, .slice none 0 0, .slice none 0 0, .slice none 0 0, .slice none 0 0, .slice none 0 0, a9, a10, a11, a12, a13, a14, a15, a16, a17, a18, a19, a20, a21, a22, a23, a24, a25, a26, a27, a28] 65 (0, 0)) ∧ w.grownBy wr (some B) ∧ wr.cell? ⟨g0, 0, none⟩ = some (.string r1) ∧ g0 ≠ B) ∨ (i = .int .i64 2 ∧ ∃ g0 c0 g2 c2 : Nat, wr.heap[B]? = some (.cells #[.slice (some ⟨g, 1, none⟩) 3 cap, .slice (some ⟨g0, 0, none⟩) 1 c0, .slice none 0 0, .slice (some ⟨g2, 0, none⟩) 1 c2, .slice none 0 0, .slice none 0 0, .slice none 0 0, .slice none 0 0, .slice none 0 0, a9, a10, a11, a12, a13, a14, a15, a16, a17, a18, a19, a20, a21, a22, a23, a24, a25, a26, a27, a28] 65 (0, 0)) ∧ w.grownBy wr (some B) ∧ wr.cell? ⟨g0, 0, none⟩ = some (.string r1) ∧ g0 ≠ B ∧ wr.cell? ⟨g2, 0, none⟩ = some (.string r2) ∧ g2 ≠ B) ∨ (i = .int .i64 3 ∧ ∃ g0 c0 g2 c2 g5 c5 : Nat, wr.heap[B]? = some (.cells #[.slice (some ⟨g, 1, none⟩) 3 cap, .slice (some ⟨g0, 0, none⟩) 1 c0, .slice none 0 0, .slice (some ⟨g2, 0, none⟩) 1 c2, .slice none 0 0, .slice none 0 0, .slice (some ⟨g5, 0, none⟩) 1 c5, .slice none 0 0, .slice none 0 0, a9, a10, a11, a12, a13, a14, a15, a16, a17, a18, a19, a20, a21, a22, a23, a24, a25, a26, a27, a28] 65 (0, 0)) ∧ w.grownBy wr (some B) ∧ wr.cell? ⟨g0, 0, none⟩ = some (.string r1) ∧ g0 ≠ B ∧ wr.cell? ⟨g2, 0, none⟩ = some (.string r2) ∧ g2 ≠ B ∧ wr.cell? ⟨g5, 0, none⟩ = some (.string r3) ∧ g5 ≠ B)) (fun i _ => 4 - (intOf i).toNat)
  case atStart => exact .inl ⟨rfl, HH.out, gb_refl _ _⟩
  case round =>
    rcases hrel with ⟨rfl, hr, hgr⟩ | ⟨rfl, g0, c0, hr, hgr, q0, n0⟩ | ⟨rfl, g0, c0, g2, c2, hr, hgr, q0, n0, q2, n2⟩ | ⟨rfl, hfin⟩
    · have lj := gcell hgr M1.out (by simpa using hgB)
      have hBw := hlt hr
      have cK := H1.out wr (HN.out wr hgr)
      have HR : Hid (wr.heap[B]? = some (.cells #[.slice (some ⟨g, 1, none⟩) 3 cap, .slice none 0 0, .slice none 0 0, .slice none 0 0, .slice none 0 0, .slice none 0 0, .slice none 0 0, .slice none 0 0, .slice none 0 0, a9, a10, a11, a12, a13, a14, a15, a16, a17, a18, a19, a20, a21, a22, a23, a24, a25, a26, a27, a28] 65 (0, 0))) := hr
      have HGR : Hid (w.grownBy wr (some B)) := hgr
      clear hr hgr
      go_wp2_with (go_at_call 91; refine cK.mono ?_; rintro e w1 ⟨rfl, hb1⟩)
      have hW1 := hbel HR.out hb1
      have kk := hc hW1 1 rfl
      have kf := Lib.frozen_of_heap hW1 1
      have HW1 : Hid (w1.heap[B]? = some (.cells #[.slice (some ⟨g, 1, none⟩) 3 cap, .slice none 0 0, .slice none 0 0, .slice none 0 0, .slice none 0 0, .slice none 0 0, .slice none 0 0, .slice none 0 0, .slice none 0 0, a9, a10, a11, a12, a13, a14, a15, a16, a17, a18, a19, a20, a21, a22, a23, a24, a25, a26, a27, a28] 65 (0, 0))) := hW1
      have hB1 := hlt hW1
      have hnw : B ≠ w1.heap.size := by omega
      clear hW1 lj cK
      go_region_law ((refine step_append_lies _ (by rfl) _ _ _ (by rfl) 0 9 i0 (.string ⟨#[]⟩) 1 16 Tryz.underlying43 hi hz0 hz1 hz2 rfl (by decide) _ 0 [] (by rfl) (World.ownsRow_nil _ _ _ _) ⟨_, 0, none⟩ 1 1 [.string r1] (by rfl) (by rfl) (World.news_of_block (heap_alloc_new _ _)) (by intro u hu; simp at hu; subst hu; rfl) (by omega) (by decide) (by decide) (by omega) _ rfl ?_; intro gg cc w3 hown hgrow hat hlt3; have kk3 := (hgrow.cell_far ⟨B, 1, none⟩ (by simp; omega) (by simp [Value.ownBlock])).trans ((((Below.refl _ w1).alloc (Nat.le_refl _) _).cell (p := ⟨B, 1, none⟩) hB1).trans kk); have kf3 := (hgrow.frozen_far ⟨B, 1, none⟩ (by simp; omega) (by simp [Value.ownBlock])).trans ((((Below.refl _ w1).alloc (Nat.le_refl _) _).frozen (p := ⟨B, 1, none⟩) hB1).trans kf)))
      all_goals
        have g13 : w1.grownBy w3 none := gb_trans (by first | exact gb_trans (World.grownBy_alloc _ _ _) (gb_drew _ _) | exact gb_trans (gb_drew _ _) (World.grownBy_alloc _ _ _) | exact World.grownBy_alloc _ _ _) hgrow
        have hW3 := (g13.block B hB1 (by simp)).trans HW1.out
        have hgg : gg ≠ B := by
          rcases hat with hat | hat
          · simp [Value.ownBlock] at hat
          · have : w1.heap.size ≤ gg := by rw [hat]; simp
            omega
        have hcl := own_cells hown 0 (.string r1) rfl
        have hgw3 : w.grownBy w3 (some B) := gb_trans HGR.out (gb_trans (gb_below hb1 _) (gb_none g13 _))
        have HC : Hid (w3.cell? ⟨gg, 0, none⟩ = some (.string r1)) := hcl
        have HW3 : Hid (w3.heap[B]? = some (.cells #[.slice (some ⟨g, 1, none⟩) 3 cap, .slice none 0 0, .slice none 0 0, .slice none 0 0, .slice none 0 0, .slice none 0 0, .slice none 0 0, .slice none 0 0, .slice none 0 0, a9, a10, a11, a12, a13, a14, a15, a16, a17, a18, a19, a20, a21, a22, a23, a24, a25, a26, a27, a28] 65 (0, 0))) := hW3
        have HG3 : Hid (w.grownBy w3 (some B)) := hgw3
        have G13 : Hid (w1.grownBy w3 none) := g13
        clear hcl hW3 hgw3 g13 hown hgrow hat
        go_wp2
        go_roundw
        case rel => exact .inr (.inl ⟨by go_num, gg, cc, hset HW3.out 1 _, gb_trans HG3.out (gb_set _ _ _ _), gcell (gb_set _ _ _ _) HC.out (by simpa using hgg), hgg⟩)
        case measure => simp [intOf]
    · have lj := gcell hgr M2.out (by simpa using hgB)
      have hBw := hlt hr
      have cK := H2.out wr (HN.out wr hgr)
      have HR : Hid (wr.heap[B]? = some (.cells #[.slice (some ⟨g, 1, none⟩) 3 cap, .slice (some ⟨g0, 0, none⟩) 1 c0, .slice none 0 0, .slice none 0 0, .slice none 0 0, .slice none 0 0, .slice none 0 0, .slice none 0 0, .slice none 0 0, a9, a10, a11, a12, a13, a14, a15, a16, a17, a18, a19, a20, a21, a22, a23, a24, a25, a26, a27, a28] 65 (0, 0))) := hr
      have HGR : Hid (w.grownBy wr (some B)) := hgr
      have Q0 : Hid (wr.cell? ⟨g0, 0, none⟩ = some (.string r1)) := q0
      clear hr hgr
      go_wp2_with (go_at_call 91; refine cK.mono ?_; rintro e w1 ⟨rfl, hb1⟩)
      have hW1 := hbel HR.out hb1
      have kk := hc hW1 3 rfl
      have kf := Lib.frozen_of_heap hW1 3
      have HW1 : Hid (w1.heap[B]? = some (.cells #[.slice (some ⟨g, 1, none⟩) 3 cap, .slice (some ⟨g0, 0, none⟩) 1 c0, .slice none 0 0, .slice none 0 0, .slice none 0 0, .slice none 0 0, .slice none 0 0, .slice none 0 0, .slice none 0 0, a9, a10, a11, a12, a13, a14, a15, a16, a17, a18, a19, a20, a21, a22, a23, a24, a25, a26, a27, a28] 65 (0, 0))) := hW1
      have hB1 := hlt hW1
      have hnw : B ≠ w1.heap.size := by omega
      clear hW1 lj cK
      go_region_law ((refine step_append_lies _ (by rfl) _ _ _ (by rfl) 0 9 i0 (.string ⟨#[]⟩) 1 16 Tryz.underlying43 hi hz0 hz1 hz2 rfl (by decide) _ 0 [] (by rfl) (World.ownsRow_nil _ _ _ _) ⟨_, 0, none⟩ 1 1 [.string r2] (by rfl) (by rfl) (World.news_of_block (heap_alloc_new _ _)) (by intro u hu; simp at hu; subst hu; rfl) (by omega) (by decide) (by decide) (by omega) _ rfl ?_; intro gg cc w3 hown hgrow hat hlt3; have kk3 := (hgrow.cell_far ⟨B, 3, none⟩ (by simp; omega) (by simp [Value.ownBlock])).trans ((((Below.refl _ w1).alloc (Nat.le_refl _) _).cell (p := ⟨B, 3, none⟩) hB1).trans kk); have kf3 := (hgrow.frozen_far ⟨B, 3, none⟩ (by simp; omega) (by simp [Value.ownBlock])).trans ((((Below.refl _ w1).alloc (Nat.le_refl _) _).frozen (p := ⟨B, 3, none⟩) hB1).trans kf)))
      all_goals
        have g13 : w1.grownBy w3 none := gb_trans (by first | exact gb_trans (World.grownBy_alloc _ _ _) (gb_drew _ _) | exact gb_trans (gb_drew _ _) (World.grownBy_alloc _ _ _) | exact World.grownBy_alloc _ _ _) hgrow
        have hW3 := (g13.block B hB1 (by simp)).trans HW1.out
        have hgg : gg ≠ B := by
          rcases hat with hat | hat
          · simp [Value.ownBlock] at hat
          · have : w1.heap.size ≤ gg := by rw [hat]; simp
            omega
        have hcl := own_cells hown 0 (.string r2) rfl
        have hgw3 : w.grownBy w3 (some B) := gb_trans HGR.out (gb_trans (gb_below hb1 _) (gb_none g13 _))
        have HC : Hid (w3.cell? ⟨gg, 0, none⟩ = some (.string r2)) := hcl
        have HW3 : Hid (w3.heap[B]? = some (.cells #[.slice (some ⟨g, 1, none⟩) 3 cap, .slice (some ⟨g0, 0, none⟩) 1 c0, .slice none 0 0, .slice none 0 0, .slice none 0 0, .slice none 0 0, .slice none 0 0, .slice none 0 0, .slice none 0 0, a9, a10, a11, a12, a13, a14, a15, a16, a17, a18, a19, a20, a21, a22, a23, a24, a25, a26, a27, a28] 65 (0, 0))) := hW3
        have HG3 : Hid (w.grownBy w3 (some B)) := hgw3
        have G13 : Hid (w1.grownBy w3 none) := g13
        clear hcl hW3 hgw3 g13 hown hgrow hat
        go_wp2
        go_roundw
        case rel => exact .inr (.inr (.inl ⟨by go_num, g0, c0, gg, cc, hset HW3.out 3 _, gb_trans HG3.out (gb_set _ _ _ _), gcell (gb_set _ _ _ _) (gcell G13.out (gcell (gb_below hb1 none) Q0.out (by simp)) (by simp)) (by simpa using n0), n0, gcell (gb_set _ _ _ _) HC.out (by simpa using hgg), hgg⟩))
        case measure => simp [intOf]
    · have lj := gcell hgr M3.out (by simpa using hgB)
      have hBw := hlt hr
      have cK := H3.out wr (HN.out wr hgr)
      have HR : Hid (wr.heap[B]? = some (.cells #[.slice (some ⟨g, 1, none⟩) 3 cap, .slice (some ⟨g0, 0, none⟩) 1 c0, .slice none 0 0, .slice (some ⟨g2, 0, none⟩) 1 c2, .slice none 0 0, .slice none 0 0, .slice none 0 0, .slice none 0 0, .slice none 0 0, a9, a10, a11, a12, a13, a14, a15, a16, a17, a18, a19, a20, a21, a22, a23, a24, a25, a26, a27, a28] 65 (0, 0))) := hr
      have HGR : Hid (w.grownBy wr (some B)) := hgr
      have Q0 : Hid (wr.cell? ⟨g0, 0, none⟩ = some (.string r1)) := q0
      have Q2 : Hid (wr.cell? ⟨g2, 0, none⟩ = some (.string r2)) := q2
      clear hr hgr
      go_wp2_with (go_at_call 91; refine cK.mono ?_; rintro e w1 ⟨rfl, hb1⟩)
      have hW1 := hbel HR.out hb1
      have kk := hc hW1 6 rfl
      have kf := Lib.frozen_of_heap hW1 6
      have HW1 : Hid (w1.heap[B]? = some (.cells #[.slice (some ⟨g, 1, none⟩) 3 cap, .slice (some ⟨g0, 0, none⟩) 1 c0, .slice none 0 0, .slice (some ⟨g2, 0, none⟩) 1 c2, .slice none 0 0, .slice none 0 0, .slice none 0 0, .slice none 0 0, .slice none 0 0, a9, a10, a11, a12, a13, a14, a15, a16, a17, a18, a19, a20, a21, a22, a23, a24, a25, a26, a27, a28] 65 (0, 0))) := hW1
      have hB1 := hlt hW1
      have hnw : B ≠ w1.heap.size := by omega
      clear hW1 lj cK
      go_region_law ((refine step_append_lies _ (by rfl) _ _ _ (by rfl) 0 9 i0 (.string ⟨#[]⟩) 1 16 Tryz.underlying43 hi hz0 hz1 hz2 rfl (by decide) _ 0 [] (by rfl) (World.ownsRow_nil _ _ _ _) ⟨_, 0, none⟩ 1 1 [.string r3] (by rfl) (by rfl) (World.news_of_block (heap_alloc_new _ _)) (by intro u hu; simp at hu; subst hu; rfl) (by omega) (by decide) (by decide) (by omega) _ rfl ?_; intro gg cc w3 hown hgrow hat hlt3; have kk3 := (hgrow.cell_far ⟨B, 6, none⟩ (by simp; omega) (by simp [Value.ownBlock])).trans ((((Below.refl _ w1).alloc (Nat.le_refl _) _).cell (p := ⟨B, 6, none⟩) hB1).trans kk); have kf3 := (hgrow.frozen_far ⟨B, 6, none⟩ (by simp; omega) (by simp [Value.ownBlock])).trans ((((Below.refl _ w1).alloc (Nat.le_refl _) _).frozen (p := ⟨B, 6, none⟩) hB1).trans kf)))
      all_goals
        have g13 : w1.grownBy w3 none := gb_trans (by first | exact gb_trans (World.grownBy_alloc _ _ _) (gb_drew _ _) | exact gb_trans (gb_drew _ _) (World.grownBy_alloc _ _ _) | exact World.grownBy_alloc _ _ _) hgrow
        have hW3 := (g13.block B hB1 (by simp)).trans HW1.out
        have hgg : gg ≠ B := by
          rcases hat with hat | hat
          · simp [Value.ownBlock] at hat
          · have : w1.heap.size ≤ gg := by rw [hat]; simp
            omega
        have hcl := own_cells hown 0 (.string r3) rfl
        have hgw3 : w.grownBy w3 (some B) := gb_trans HGR.out (gb_trans (gb_below hb1 _) (gb_none g13 _))
        have HC : Hid (w3.cell? ⟨gg, 0, none⟩ = some (.string r3)) := hcl
        have HW3 : Hid (w3.heap[B]? = some (.cells #[.slice (some ⟨g, 1, none⟩) 3 cap, .slice (some ⟨g0, 0, none⟩) 1 c0, .slice none 0 0, .slice (some ⟨g2, 0, none⟩) 1 c2, .slice none 0 0, .slice none 0 0, .slice none 0 0, .slice none 0 0, .slice none 0 0, a9, a10, a11, a12, a13, a14, a15, a16, a17, a18, a19, a20, a21, a22, a23, a24, a25, a26, a27, a28] 65 (0, 0))) := hW3
        have HG3 : Hid (w.grownBy w3 (some B)) := hgw3
        have G13 : Hid (w1.grownBy w3 none) := g13
        clear hcl hW3 hgw3 g13 hown hgrow hat
        go_wp2
        go_roundw
        case rel => exact .inr (.inr (.inr ⟨by go_num, g0, c0, g2, c2, gg, cc, hset HW3.out 6 _, gb_trans HG3.out (gb_set _ _ _ _), gcell (gb_set _ _ _ _) (gcell G13.out (gcell (gb_below hb1 none) Q0.out (by simp)) (by simp)) (by simpa using n0), n0, gcell (gb_set _ _ _ _) (gcell G13.out (gcell (gb_below hb1 none) Q2.out (by simp)) (by simp)) (by simpa using n2), n2, gcell (gb_set _ _ _ _) HC.out (by simpa using hgg), hgg⟩))
        case measure => simp [intOf]
    · go_wp2
      go_ret
      exact ⟨rfl, hfin⟩
end Go.Proofs.YtmmnbdefkailpaaGreatDoor

/- Package event: numbers and parts of a rule. -/
namespace Go.Proofs.YtmmnbdefkailpaaGreatDoor
open Go.RowKit Cal
set_option linter.unusedVariables false

/-- a small number, as Itoa writes it -/
def num (k : Nat) : ByteArray := ⟨(Lib.decDigits k).toArray⟩
def dl (k : Nat) : List UInt8 := if k < 10 then [UInt8.ofNat (48 + k)] else [UInt8.ofNat (48 + k / 10), UInt8.ofNat (48 + k % 10)]
theorem dec_lt10 {k : Nat} (h : k < 10) : Lib.decDigits k = [UInt8.ofNat (48 + k)] := by unfold Lib.decDigits; rw [dif_pos h]
theorem dec_dl {k : Nat} (h : k < 100) : Lib.decDigits k = dl k := by
  unfold dl
  by_cases h1 : k < 10
  · rw [if_pos h1, dec_lt10 h1]
  · rw [if_neg h1]
    unfold Lib.decDigits
    rw [dif_neg h1, dec_lt10 (by omega)]
    rfl
theorem dl_all : ∀ k < 100, (dl k).length ≤ 2 ∧ 1 ≤ (dl k).length ∧ Lib.atoi (dl k) = some (k : Int) := by decide
theorem num_data {k : Nat} (h : k < 100) : (num k).data.toList = dl k := by unfold num; simp [dec_dl h]
theorem num_all (k : Nat) (h : k < 100) : (num k).size ≤ 18 ∧ Lib.atoi (num k).data.toList = some (k : Int) := by
  obtain ⟨h1, _, h2⟩ := dl_all k h
  have e : (num k).size = (num k).data.toList.length := by simp
  rw [e, num_data h]
  exact ⟨by omega, h2⟩
theorem itoa_num (k : Nat) (h : k < 100) (w : World) : Calls Tryz.prog 6 #[.int .i64 k] w fun e w' => e = .returned (.string (num k)) ∧ w' = w := Tryz.strconv_Itoa_small k h w

set_option maxRecDepth 100000 in
set_option maxHeartbeats 2000000 in
theorem readNumber_yes (k : Nat) (m : Int) (w : World) (h1 : 1 ≤ k) (h2 : k < 100) (h3 : (k : Int) ≤ m) :
    Calls Tryz.prog 208 #[.string (num k), .int .i64 1, .int .i64 m] w fun e w' => e = .returned (.tuple #[.int .i64 k, .nilIface]) ∧ Below w.heap.size w w' := by
  obtain ⟨n1, n2⟩ := num_all k h2
  have cA : Calls Tryz.prog 246 #[.string (num k)] w fun e w' => e = .returned (.tuple #[.int .i64 k, .nilIface]) ∧ Below w.heap.size w w' := by
    refine (Tryz.strconv_Atoi (num k) k n1 n2 w).mono ?_
    rintro e w' ⟨rfl, t, rfl⟩
    exact ⟨rfl, Joins.below_bytesWorld _ _ _ _ (Nat.le_refl _)⟩
  have cI : Hid (∀ wx, Calls Tryz.prog 6 #[.int .i64 k] wx fun e w' => e = .returned (.string (num k)) ∧ w' = wx) := fun wx => itoa_num k h2 wx
  clear n1 n2
  generalize num k = S at *
  have k1 : (1 : Int) ≤ k := by omega
  go_enter Tryz.func208, Tryz.ntmps208
  go_wp2_with (first | (go_at_call 246; refine cA.mono ?_; rintro e w1 ⟨rfl, hb1⟩) | (go_at_call 6; refine (cI.out _).mono ?_; rintro e w2 ⟨rfl, rfl⟩))
  go_ret2
  exact ⟨rfl, hb1⟩

/-- the names of the frequencies -/
structure FN (w : World) : Prop where
  n0 : w.cell? ⟨27, 0, none⟩ = some (.string ⟨#[68, 65, 73, 76, 89]⟩)
  n1 : w.cell? ⟨27, 1, none⟩ = some (.string ⟨#[87, 69, 69, 75, 76, 89]⟩)
  n2 : w.cell? ⟨27, 2, none⟩ = some (.string ⟨#[77, 79, 78, 84, 72, 76, 89]⟩)
  n3 : w.cell? ⟨27, 3, none⟩ = some (.string ⟨#[89, 69, 65, 82, 76, 89]⟩)
theorem ix274_0 (v0 v1 v2 v3 : Value) (w : World) : (Instr.index 274 (.agg #[v0, v1, v2, v3]) (.int .i64 0)).run Tryz.prog w = .ok v0 w := by kernel_rfl

set_option maxRecDepth 100000 in
set_option maxHeartbeats 2000000 in
theorem readFreq_daily (R : Nat) (v : Value) (w : World) (hf : FN w) (hv : w.cell? ⟨R, 2, none⟩ = some v) (hz : w.frozen? ⟨R, 2, none⟩ = false) :
    Calls Tryz.prog 156 #[.pointer (some ⟨R, 2, none⟩), .string ⟨#[68, 65, 73, 76, 89]⟩] w fun e w' => e = .returned .nilIface ∧ w' = w.setCell ⟨R, 2, none⟩ (.int .i64 1) := by
  obtain ⟨f0, f1, f2, f3⟩ := hf
  go_enter Tryz.func156, Tryz.ntmps156
  go_wp2
  clear f0 f1 f2 f3
  go_loop [8] (fun i => i = .int .i64 0) (fun _ => 1)
  case atStart => exact rfl
  case round =>
    obtain rfl := hrel
    have i0 := ix274_0 (.string ⟨#[68, 65, 73, 76, 89]⟩) (.string ⟨#[87, 69, 69, 75, 76, 89]⟩) (.string ⟨#[77, 79, 78, 84, 72, 76, 89]⟩) (.string ⟨#[89, 69, 65, 82, 76, 89]⟩) w
    go_wp2
    go_ret
    exact ⟨rfl, rfl⟩

set_option maxRecDepth 100000 in
set_option maxHeartbeats 2000000 in
theorem readEvery_yes (R k : Nat) (v : Value) (w : World) (h1 : 1 ≤ k) (h2 : k < 100) (hv : w.cell? ⟨R, 3, none⟩ = some v) (hz : w.frozen? ⟨R, 3, none⟩ = false) :
    Calls Tryz.prog 158 #[.pointer (some ⟨R, 2, none⟩), .string (num k)] w fun e w' => e = .returned .nilIface ∧ ∃ w1, Below w.heap.size w w1 ∧ w' = w1.setCell ⟨R, 3, none⟩ (.int .i64 k) := by
  have cN := readNumber_yes k 400 w h1 h2 (by omega)
  have hR : R < w.heap.size := World.block_lt_of_cell? _ _ hv
  generalize num k = S at *
  go_enter Tryz.func158, Tryz.ntmps158
  go_wp2_with (go_at_call 208; refine cN.mono ?_; rintro e w1 ⟨rfl, hb1⟩; obtain ⟨hc1, hf1⟩ := bcell hb1)
  go_ret
  exact ⟨rfl, w1, hb1, rfl⟩

set_option maxRecDepth 100000 in
set_option maxHeartbeats 2000000 in
theorem readCount_yes (R k : Nat) (v : Value) (w : World) (h1 : 1 ≤ k) (h2 : k < 100) (hv : w.cell? ⟨R, 4, none⟩ = some v) (hz : w.frozen? ⟨R, 4, none⟩ = false) :
    Calls Tryz.prog 160 #[.pointer (some ⟨R, 2, none⟩), .string (num k)] w fun e w' => e = .returned .nilIface ∧ ∃ w1, Below w.heap.size w w1 ∧ w' = w1.setCell ⟨R, 4, none⟩ (.int .i64 k) := by
  have cN := readNumber_yes k 999 w h1 h2 (by omega)
  have hR : R < w.heap.size := World.block_lt_of_cell? _ _ hv
  generalize num k = S at *
  go_enter Tryz.func160, Tryz.ntmps160
  go_wp2_with (go_at_call 208; refine cN.mono ?_; rintro e w1 ⟨rfl, hb1⟩; obtain ⟨hc1, hf1⟩ := bcell hb1)
  go_ret
  exact ⟨rfl, w1, hb1, rfl⟩
end Go.Proofs.YtmmnbdefkailpaaGreatDoor
