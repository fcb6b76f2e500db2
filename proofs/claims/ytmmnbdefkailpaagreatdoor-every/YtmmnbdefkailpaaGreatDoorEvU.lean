/- Package event: the stages of parse, for an event that comes again by days. -/
import Derived.Test.YtmmnbdefkailpaaGreatDoorEvS
import Derived.Test.YtmmnbdefkailpaaGreatDoorUnC

namespace Go.Proofs.YtmmnbdefkailpaaGreatDoor
open Go.RowKit Cal
set_option linter.unusedVariables false

/-- what the packages' variables hold -/
structure GV (w : World) : Prop where
  tab : Tab w
  ln : LN w
  fn : FN w
  ml : ∃ m, w.cell? ⟨32, 0, none⟩ = some (.int .i64 m)
  prep : Ln.Prep3 w
theorem GV.size {w : World} (h : GV w) : 35 ≤ w.heap.size := h.prep.two.size
theorem GV.b35 {w w' : World} (h : GV w) (hb : Below 35 w w') : GV w' where
  tab := by
    obtain ⟨t0, t1, t2, t3, t4, t5, t6, t7, t8, t9, t10, t11⟩ := h.tab
    have e : ∀ k, w'.cell? ⟨0, k, none⟩ = w.cell? ⟨0, k, none⟩ := fun k => hb.cell (p := ⟨0, k, none⟩) (by show 0 < 35; omega)
    exact ⟨(e 0).trans t0, (e 1).trans t1, (e 2).trans t2, (e 3).trans t3, (e 4).trans t4, (e 5).trans t5, (e 6).trans t6, (e 7).trans t7, (e 8).trans t8, (e 9).trans t9, (e 10).trans t10, (e 11).trans t11⟩
  ln := h.ln.below (by omega) hb
  fn := by
    have e : ∀ k, w'.cell? ⟨27, k, none⟩ = w.cell? ⟨27, k, none⟩ := fun k => hb.cell (p := ⟨27, k, none⟩) (by show 27 < 35; omega)
    exact ⟨(e 0).trans h.fn.n0, (e 1).trans h.fn.n1, (e 2).trans h.fn.n2, (e 3).trans h.fn.n3⟩
  ml := by obtain ⟨m, hm⟩ := h.ml; exact ⟨m, (hb.cell (p := ⟨32, 0, none⟩) (by show 32 < 35; omega)).trans hm⟩
  prep := h.prep.below (by omega) hb
theorem GV.below {w w' : World} (h : GV w) (hb : Below w.heap.size w w') : GV w' := h.b35 (hb.mono h.size)
theorem GV.grown {w w' : World} {B : Nat} (h : GV w) (hg : w.grownBy w' (some B)) (hB : 35 ≤ B) : GV w' :=
  h.b35 ⟨hg.os, hg.tape, hg.output, by have := h.size; have := hg.size; omega, fun k hk => hg.block k (by have := h.size; omega) (by simp; omega)⟩

/-- the lines, in memory -/
structure LI (g : Nat) (L1 L2 L3 : ByteArray) (w : World) : Prop where
  l0 : w.cell? ⟨g, 0, none⟩ = some (.string ⟨#[66, 69, 71, 73, 78, 58, 86, 69, 86, 69, 78, 84]⟩)
  l1 : w.cell? ⟨g, 1, none⟩ = some (.string L1)
  l2 : w.cell? ⟨g, 2, none⟩ = some (.string L2)
  l3 : w.cell? ⟨g, 3, none⟩ = some (.string L3)
  l4 : w.cell? ⟨g, 4, none⟩ = some (.string ⟨#[69, 78, 68, 58, 86, 69, 86, 69, 78, 84]⟩)
theorem LI.grown {g : Nat} {L1 L2 L3 : ByteArray} {w w' : World} {r : Option Nat} (h : LI g L1 L2 L3 w) (hg : w.grownBy w' r) (hne : some g ≠ r) : LI g L1 L2 L3 w' :=
  ⟨gcell hg h.l0 hne, gcell hg h.l1 hne, gcell hg h.l2 hne, gcell hg h.l3 hne, gcell hg h.l4 hne⟩

def stg (g cap : Nat) (L1 L2 L3 r2 r3 : ByteArray) (n c ev ct : Int) (B : Nat) (w : World) : Nat → Prop
  | 0 => w.heap[B]? = some (.cells #[.slice (some ⟨g, 0, none⟩) 5 cap, .slice none 0 0, .slice none 0 0, .slice none 0 0, .slice none 0 0, .slice none 0 0, .slice none 0 0, .slice none 0 0, .slice none 0 0, .bool false, .bool false, .string ⟨#[]⟩, .string ⟨#[]⟩, .int .i64 0, .bool false, .bool false, .int .i64 0, .int .i64 0, .int .i64 0, .int .i64 0, .int .i64 0, .bool false, .slice none 0 0, .slice none 0 0, .slice none 0 0, .slice none 0 0, .int .i64 0, .slice none 0 0, .slice none 0 0] 65 (0, 0))
  | 1 => w.heap[B]? = some (.cells #[.slice (some ⟨g, 1, none⟩) 3 (cap - 1), .slice none 0 0, .slice none 0 0, .slice none 0 0, .slice none 0 0, .slice none 0 0, .slice none 0 0, .slice none 0 0, .slice none 0 0, .bool false, .bool false, .string ⟨#[]⟩, .string ⟨#[]⟩, .int .i64 0, .bool false, .bool false, .int .i64 0, .int .i64 0, .int .i64 0, .int .i64 0, .int .i64 0, .bool false, .slice none 0 0, .slice none 0 0, .slice none 0 0, .slice none 0 0, .int .i64 0, .slice none 0 0, .slice none 0 0] 65 (0, 0))
  | 2 => ∃ g0 c0 g2 c2 g5 c5 : Nat, g0 ≠ B ∧ g2 ≠ B ∧ g5 ≠ B ∧ w.cell? ⟨g0, 0, none⟩ = some (.string ⟨#[58, 120]⟩) ∧ w.cell? ⟨g2, 0, none⟩ = some (.string r2) ∧ w.cell? ⟨g5, 0, none⟩ = some (.string r3) ∧ w.heap[B]? = some (.cells #[.slice (some ⟨g, 1, none⟩) 3 (cap - 1), .slice (some ⟨g0, 0, none⟩) 1 c0, .slice none 0 0, .slice (some ⟨g2, 0, none⟩) 1 c2, .slice none 0 0, .slice none 0 0, .slice (some ⟨g5, 0, none⟩) 1 c5, .slice none 0 0, .slice none 0 0, .bool false, .bool false, .string ⟨#[]⟩, .string ⟨#[]⟩, .int .i64 0, .bool false, .bool false, .int .i64 0, .int .i64 0, .int .i64 0, .int .i64 0, .int .i64 0, .bool false, .slice none 0 0, .slice none 0 0, .slice none 0 0, .slice none 0 0, .int .i64 0, .slice none 0 0, .slice none 0 0] 65 (0, 0))
  | 3 => ∃ g0 c0 g2 c2 g5 c5 : Nat, g0 ≠ B ∧ g2 ≠ B ∧ g5 ≠ B ∧ w.cell? ⟨g0, 0, none⟩ = some (.string ⟨#[58, 120]⟩) ∧ w.cell? ⟨g2, 0, none⟩ = some (.string r2) ∧ w.cell? ⟨g5, 0, none⟩ = some (.string r3) ∧ w.heap[B]? = some (.cells #[.slice (some ⟨g, 1, none⟩) 3 (cap - 1), .slice (some ⟨g0, 0, none⟩) 1 c0, .slice none 0 0, .slice (some ⟨g2, 0, none⟩) 1 c2, .slice none 0 0, .slice none 0 0, .slice (some ⟨g5, 0, none⟩) 1 c5, .slice none 0 0, .slice none 0 0, .bool false, .bool false, .string ⟨#[]⟩, .string ⟨#[]⟩, .int .i64 0, .bool false, .bool false, .int .i64 0, .int .i64 0, .int .i64 0, .int .i64 0, .int .i64 0, .bool false, .slice none 0 0, .slice none 0 0, .slice none 0 0, .slice none 0 0, .int .i64 0, .slice none 0 0, .slice none 0 0] 65 (0, 0))
  | 4 => ∃ g0 c0 g2 c2 g5 c5 : Nat, g0 ≠ B ∧ g2 ≠ B ∧ g5 ≠ B ∧ w.cell? ⟨g0, 0, none⟩ = some (.string ⟨#[58, 120]⟩) ∧ w.cell? ⟨g2, 0, none⟩ = some (.string r2) ∧ w.cell? ⟨g5, 0, none⟩ = some (.string r3) ∧ w.heap[B]? = some (.cells #[.slice (some ⟨g, 1, none⟩) 3 (cap - 1), .slice (some ⟨g0, 0, none⟩) 1 c0, .slice none 0 0, .slice (some ⟨g2, 0, none⟩) 1 c2, .slice none 0 0, .slice none 0 0, .slice (some ⟨g5, 0, none⟩) 1 c5, .slice none 0 0, .slice none 0 0, .bool false, .bool false, .string ⟨#[120]⟩, .string ⟨#[]⟩, .int .i64 0, .bool false, .bool false, .int .i64 0, .int .i64 0, .int .i64 0, .int .i64 0, .int .i64 0, .bool false, .slice none 0 0, .slice none 0 0, .slice none 0 0, .slice none 0 0, .int .i64 0, .slice none 0 0, .slice none 0 0] 65 (0, 0))
  | 5 => ∃ g0 c0 g2 c2 g5 c5 : Nat, g0 ≠ B ∧ g2 ≠ B ∧ g5 ≠ B ∧ w.cell? ⟨g0, 0, none⟩ = some (.string ⟨#[58, 120]⟩) ∧ w.cell? ⟨g2, 0, none⟩ = some (.string r2) ∧ w.cell? ⟨g5, 0, none⟩ = some (.string r3) ∧ w.heap[B]? = some (.cells #[.slice (some ⟨g, 1, none⟩) 3 (cap - 1), .slice (some ⟨g0, 0, none⟩) 1 c0, .slice none 0 0, .slice (some ⟨g2, 0, none⟩) 1 c2, .slice none 0 0, .slice none 0 0, .slice (some ⟨g5, 0, none⟩) 1 c5, .slice none 0 0, .slice none 0 0, .bool false, .bool false, .string ⟨#[120]⟩, .string ⟨#[]⟩, .int .i64 0, .bool false, .bool false, .int .i64 0, .int .i64 0, .int .i64 0, .int .i64 0, .int .i64 0, .bool false, .slice none 0 0, .slice none 0 0, .slice none 0 0, .slice none 0 0, .int .i64 0, .slice none 0 0, .slice none 0 0] 65 (0, 0))
  | 6 => ∃ g0 c0 g2 c2 g5 c5 : Nat, g0 ≠ B ∧ g2 ≠ B ∧ g5 ≠ B ∧ w.cell? ⟨g0, 0, none⟩ = some (.string ⟨#[58, 120]⟩) ∧ w.cell? ⟨g2, 0, none⟩ = some (.string r2) ∧ w.cell? ⟨g5, 0, none⟩ = some (.string r3) ∧ w.heap[B]? = some (.cells #[.slice (some ⟨g, 1, none⟩) 3 (cap - 1), .slice (some ⟨g0, 0, none⟩) 1 c0, .slice none 0 0, .slice (some ⟨g2, 0, none⟩) 1 c2, .slice none 0 0, .slice none 0 0, .slice (some ⟨g5, 0, none⟩) 1 c5, .slice none 0 0, .slice none 0 0, .bool false, .bool false, .string ⟨#[120]⟩, .string ⟨#[]⟩, .int .i64 (n * 86400 + c), .bool false, .bool false, .int .i64 0, .int .i64 0, .int .i64 0, .int .i64 0, .int .i64 0, .bool false, .slice none 0 0, .slice none 0 0, .slice none 0 0, .slice none 0 0, .int .i64 0, .slice none 0 0, .slice none 0 0] 65 (0, 0))
  | 7 => ∃ g0 c0 g2 c2 g5 c5 : Nat, g0 ≠ B ∧ g2 ≠ B ∧ g5 ≠ B ∧ w.cell? ⟨g0, 0, none⟩ = some (.string ⟨#[58, 120]⟩) ∧ w.cell? ⟨g2, 0, none⟩ = some (.string r2) ∧ w.cell? ⟨g5, 0, none⟩ = some (.string r3) ∧ w.heap[B]? = some (.cells #[.slice (some ⟨g, 1, none⟩) 3 (cap - 1), .slice (some ⟨g0, 0, none⟩) 1 c0, .slice none 0 0, .slice (some ⟨g2, 0, none⟩) 1 c2, .slice none 0 0, .slice none 0 0, .slice (some ⟨g5, 0, none⟩) 1 c5, .slice none 0 0, .slice none 0 0, .bool false, .bool false, .string ⟨#[120]⟩, .string ⟨#[]⟩, .int .i64 (n * 86400 + c), .bool false, .bool false, .int .i64 0, .int .i64 0, .int .i64 0, .int .i64 0, .int .i64 0, .bool false, .slice none 0 0, .slice none 0 0, .slice none 0 0, .slice none 0 0, .int .i64 0, .slice none 0 0, .slice none 0 0] 65 (0, 0))
  | 8 => ∃ g0 c0 g2 c2 g5 c5 : Nat, g0 ≠ B ∧ g2 ≠ B ∧ g5 ≠ B ∧ w.cell? ⟨g0, 0, none⟩ = some (.string ⟨#[58, 120]⟩) ∧ w.cell? ⟨g2, 0, none⟩ = some (.string r2) ∧ w.cell? ⟨g5, 0, none⟩ = some (.string r3) ∧ w.heap[B]? = some (.cells #[.slice (some ⟨g, 1, none⟩) 3 (cap - 1), .slice (some ⟨g0, 0, none⟩) 1 c0, .slice none 0 0, .slice (some ⟨g2, 0, none⟩) 1 c2, .slice none 0 0, .slice none 0 0, .slice (some ⟨g5, 0, none⟩) 1 c5, .slice none 0 0, .slice none 0 0, .bool false, .bool false, .string ⟨#[120]⟩, .string ⟨#[]⟩, .int .i64 (n * 86400 + c), .bool false, .bool false, .int .i64 0, .int .i64 1, .int .i64 ev, .int .i64 ct, .int .i64 0, .bool false, .slice none 0 0, .slice none 0 0, .slice none 0 0, .slice none 0 0, .int .i64 0, .slice none 0 0, .slice none 0 0] 65 (0, 0))
  | 9 => ∃ g0 c0 g2 c2 g5 c5 : Nat, g0 ≠ B ∧ g2 ≠ B ∧ g5 ≠ B ∧ w.cell? ⟨g0, 0, none⟩ = some (.string ⟨#[58, 120]⟩) ∧ w.cell? ⟨g2, 0, none⟩ = some (.string r2) ∧ w.cell? ⟨g5, 0, none⟩ = some (.string r3) ∧ w.heap[B]? = some (.cells #[.slice (some ⟨g, 1, none⟩) 3 (cap - 1), .slice (some ⟨g0, 0, none⟩) 1 c0, .slice none 0 0, .slice (some ⟨g2, 0, none⟩) 1 c2, .slice none 0 0, .slice none 0 0, .slice (some ⟨g5, 0, none⟩) 1 c5, .slice none 0 0, .slice none 0 0, .bool false, .bool false, .string ⟨#[120]⟩, .string ⟨#[]⟩, .int .i64 (n * 86400 + c), .bool false, .bool false, .int .i64 0, .int .i64 1, .int .i64 ev, .int .i64 ct, .int .i64 0, .bool false, .slice none 0 0, .slice none 0 0, .slice none 0 0, .slice none 0 0, .int .i64 0, .slice none 0 0, .slice none 0 0] 65 (0, 0))
  | 10 => ∃ g0 c0 g2 c2 g5 c5 : Nat, g0 ≠ B ∧ g2 ≠ B ∧ g5 ≠ B ∧ w.cell? ⟨g0, 0, none⟩ = some (.string ⟨#[58, 120]⟩) ∧ w.cell? ⟨g2, 0, none⟩ = some (.string r2) ∧ w.cell? ⟨g5, 0, none⟩ = some (.string r3) ∧ w.heap[B]? = some (.cells #[.slice (some ⟨g, 1, none⟩) 3 (cap - 1), .slice (some ⟨g0, 0, none⟩) 1 c0, .slice none 0 0, .slice (some ⟨g2, 0, none⟩) 1 c2, .slice none 0 0, .slice none 0 0, .slice (some ⟨g5, 0, none⟩) 1 c5, .slice none 0 0, .slice none 0 0, .bool false, .bool false, .string ⟨#[120]⟩, .string ⟨#[]⟩, .int .i64 (n * 86400 + c), .bool false, .bool false, .int .i64 0, .int .i64 1, .int .i64 ev, .int .i64 ct, .int .i64 0, .bool false, .slice none 0 0, .slice none 0 0, .slice none 0 0, .slice none 0 0, .int .i64 0, .slice none 0 0, .slice none 0 0] 65 (0, 0))
  | 11 => ∃ g0 c0 g2 c2 g5 c5 : Nat, g0 ≠ B ∧ g2 ≠ B ∧ g5 ≠ B ∧ w.cell? ⟨g0, 0, none⟩ = some (.string ⟨#[58, 120]⟩) ∧ w.cell? ⟨g2, 0, none⟩ = some (.string r2) ∧ w.cell? ⟨g5, 0, none⟩ = some (.string r3) ∧ w.heap[B]? = some (.cells #[.slice (some ⟨g, 1, none⟩) 3 (cap - 1), .slice (some ⟨g0, 0, none⟩) 1 c0, .slice none 0 0, .slice (some ⟨g2, 0, none⟩) 1 c2, .slice none 0 0, .slice none 0 0, .slice (some ⟨g5, 0, none⟩) 1 c5, .slice none 0 0, .slice none 0 0, .bool false, .bool false, .string ⟨#[120]⟩, .string ⟨#[]⟩, .int .i64 (n * 86400 + c), .bool false, .bool false, .int .i64 0, .int .i64 1, .int .i64 ev, .int .i64 ct, .int .i64 0, .bool false, .slice none 0 0, .slice none 0 0, .slice none 0 0, .slice none 0 0, .int .i64 0, .slice none 0 0, .slice none 0 0] 65 (0, 0))
  | _ => False
def St (g cap : Nat) (L1 L2 L3 r2 r3 : ByteArray) (n c ev ct : Int) (i : Nat) (w : World) (B : Nat) : Prop := GV w ∧ 35 ≤ B ∧ g ≠ B ∧ LI g L1 L2 L3 w ∧ stg g cap L1 L2 L3 r2 r3 n c ev ct B w i
theorem gb_of_below {w w' : World} (hb : Below w.heap.size w w') (r : Option Nat) : w.grownBy w' r := ⟨hb.os, hb.tape, hb.output, hb.size, fun k hk _ => hb.block k hk⟩

theorem st_below (g cap : Nat) (L1 L2 L3 r2 r3 : ByteArray) (n c ev ct : Int) (i : Nat) (w w' : World) (B : Nat) (h : St g cap L1 L2 L3 r2 r3 n c ev ct i w B) (hb : Below w.heap.size w w') : St g cap L1 L2 L3 r2 r3 n c ev ct i w' B := by
  obtain ⟨hv, h35, hgB, hl, hs⟩ := h
  refine ⟨hv.below hb, h35, hgB, hl.grown (gb_of_below hb none) (by simp), ?_⟩
  have hN := gb_of_below hb none
  unfold stg at hs ⊢
  split at hs <;> first | exact hbel hs hb | exact hs.elim | (obtain ⟨g0, c0, g2, c2, g5, c5, n0, n2, n5, k0, k2, k5, hh⟩ := hs; exact ⟨g0, c0, g2, c2, g5, c5, n0, n2, n5, gcell hN k0 (by simp), gcell hN k2 (by simp), gcell hN k5 (by simp), hbel hh hb⟩)

set_option maxHeartbeats 2000000 in
theorem st_step (g cap : Nat) (L1 L2 L3 r2 r3 : ByteArray) (n c ev ct : Int) (h1 : -25567 ≤ n) (h2 : n ≤ 84005) (h3 : 0 ≤ c) (h4 : c < 86400) (hct1 : 1 ≤ ct) (hct2 : ct ≤ 999) (hcap : 5 ≤ cap) (hcap2 : cap ≤ 9223372036854775807)
    (K1 : ∀ wx, LN wx → Calls Tryz.prog 91 #[.string L1] wx fun e w' => e = .returned (.tuple #[.int .i64 0, .string ⟨#[58, 120]⟩]) ∧ Below wx.heap.size wx w')
    (K2 : ∀ wx, LN wx → Calls Tryz.prog 91 #[.string L2] wx fun e w' => e = .returned (.tuple #[.int .i64 2, .string r2]) ∧ Below wx.heap.size wx w')
    (K3 : ∀ wx, LN wx → Calls Tryz.prog 91 #[.string L3] wx fun e w' => e = .returned (.tuple #[.int .i64 5, .string r3]) ∧ Below wx.heap.size wx w')
    (hrs : r2.size ≤ 4000) (e1 : Lib.hasPrefix r2.data.toList [59, 86, 65, 76, 85, 69, 61, 68, 65, 84, 69, 58] = false) (e2 : Lib.hasSuffix r2.data.toList [90] = false)
    (cM : ∀ wx, GV wx → Calls Tryz.prog 99 #[.agg #[.bool false, .bool false], .string r2] wx fun e w' => e = .returned (.tuple #[.int .i64 (n * 86400 + c), .nilIface]) ∧ Below wx.heap.size wx w')
    (H7 : ∀ wx B g0 c0 g2 c2 g5 c5, GV wx → 35 ≤ B → g5 ≠ B → wx.cell? ⟨g5, 0, none⟩ = some (.string r3) → wx.heap[B]? = some (.cells #[.slice (some ⟨g, 1, none⟩) 3 (cap - 1), .slice (some ⟨g0, 0, none⟩) 1 c0, .slice none 0 0, .slice (some ⟨g2, 0, none⟩) 1 c2, .slice none 0 0, .slice none 0 0, .slice (some ⟨g5, 0, none⟩) 1 c5, .slice none 0 0, .slice none 0 0, .bool false, .bool false, .string ⟨#[120]⟩, .string ⟨#[]⟩, .int .i64 (n * 86400 + c), .bool false, .bool false, .int .i64 0, .int .i64 0, .int .i64 0, .int .i64 0, .int .i64 0, .bool false, .slice none 0 0, .slice none 0 0, .slice none 0 0, .slice none 0 0, .int .i64 0, .slice none 0 0, .slice none 0 0] 65 (0, 0)) → Calls Tryz.prog 59 #[.pointer (some ⟨B, 0, none⟩)] wx fun e w' => e = .returned .nilIface ∧ w'.heap[B]? = some (.cells #[.slice (some ⟨g, 1, none⟩) 3 (cap - 1), .slice (some ⟨g0, 0, none⟩) 1 c0, .slice none 0 0, .slice (some ⟨g2, 0, none⟩) 1 c2, .slice none 0 0, .slice none 0 0, .slice (some ⟨g5, 0, none⟩) 1 c5, .slice none 0 0, .slice none 0 0, .bool false, .bool false, .string ⟨#[120]⟩, .string ⟨#[]⟩, .int .i64 (n * 86400 + c), .bool false, .bool false, .int .i64 0, .int .i64 1, .int .i64 ev, .int .i64 ct, .int .i64 0, .bool false, .slice none 0 0, .slice none 0 0, .slice none 0 0, .slice none 0 0, .int .i64 0, .slice none 0 0, .slice none 0 0] 65 (0, 0)) ∧ wx.grownBy w' (some B))
    (i : Nat) (hi : i < 11) (B : Nat) (w : World) (h : St g cap L1 L2 L3 r2 r3 n c ev ct i w B) :
    Calls Tryz.prog (52 + i) #[.pointer (some ⟨B, 0, none⟩)] w fun e w' => e = .returned .nilIface ∧ St g cap L1 L2 L3 r2 r3 n c ev ct (i + 1) w' B ∧ w.grownBy w' (some B) := by
  obtain ⟨hv, h35, hgB, hl, hs⟩ := h
  have nx : ∀ (w' : World) (j : Nat), w.grownBy w' (some B) → stg g cap L1 L2 L3 r2 r3 n c ev ct B w' j → St g cap L1 L2 L3 r2 r3 n c ev ct j w' B := fun w' j hg hj => ⟨hv.grown hg h35, h35, hgB, hl.grown hg (by simp; omega), hj⟩
  match i, hi with
  | 0, _ =>
    refine (st0 B g cap _ _ _ _ _ _ _ _ _ _ _ _ _ _ _ _ _ _ _ _ _ _ _ _ _ _ _ _ w hs hcap hcap2 hl.l0 hl.l4).mono ?_
    rintro e w' ⟨rfl, hh, hg⟩
    exact ⟨rfl, nx w' 1 hg hh, hg⟩
  | 1, _ =>
    refine (st1 B g (cap - 1) _ _ _ _ _ _ _ _ _ _ _ _ _ _ _ _ _ _ _ _ L1 L2 L3 ⟨#[58, 120]⟩ r2 r3 w hs hgB (by omega) (by omega) hl.l1 hl.l2 hl.l3 (fun wx hg => (hv.grown hg h35).ln) K1 K2 K3).mono ?_
    rintro e w' ⟨rfl, g0, c0, g2, c2, g5, c5, hh, hg, k0, n0, k2, n2, k5, n5⟩
    exact ⟨rfl, nx w' 2 hg ⟨g0, c0, g2, c2, g5, c5, n0, n2, n5, k0, k2, k5, hh⟩, hg⟩
  | 2, _ =>
    obtain ⟨g0, c0, g2, c2, g5, c5, n0, n2, n5, k0, k2, k5, hh0⟩ := hs
    refine (st2 B g0 c0 g2 c2 g5 c5 _ _ _ _ _ _ _ _ _ _ _ _ _ _ _ _ _ _ _ _ _ w hh0).mono ?_
    rintro e w' ⟨rfl, hh, hg⟩
    exact ⟨rfl, nx w' 3 hg ⟨g0, c0, g2, c2, g5, c5, n0, n2, n5, gcell hg k0 (by simp; omega), gcell hg k2 (by simp; omega), gcell hg k5 (by simp; omega), hh⟩, hg⟩
  | 3, _ =>
    obtain ⟨g0, c0, g2, c2, g5, c5, n0, n2, n5, k0, k2, k5, hh0⟩ := hs
    refine (st3 B g0 c0 g2 c2 g5 c5 _ _ _ _ _ _ _ _ _ _ _ _ _ _ _ _ _ _ _ _ _ w hh0 k0).mono ?_
    rintro e w' ⟨rfl, hh, hg⟩
    exact ⟨rfl, nx w' 4 hg ⟨g0, c0, g2, c2, g5, c5, n0, n2, n5, gcell hg k0 (by simp; omega), gcell hg k2 (by simp; omega), gcell hg k5 (by simp; omega), hh⟩, hg⟩
  | 4, _ =>
    obtain ⟨g0, c0, g2, c2, g5, c5, n0, n2, n5, k0, k2, k5, hh0⟩ := hs
    refine (st4 B g0 c0 g2 c2 g5 c5 _ _ _ _ _ _ _ _ _ _ _ _ _ _ _ _ _ _ _ _ _ w hh0).mono ?_
    rintro e w' ⟨rfl, hh, hg⟩
    exact ⟨rfl, nx w' 5 hg ⟨g0, c0, g2, c2, g5, c5, n0, n2, n5, gcell hg k0 (by simp; omega), gcell hg k2 (by simp; omega), gcell hg k5 (by simp; omega), hh⟩, hg⟩
  | 5, _ =>
    obtain ⟨g0, c0, g2, c2, g5, c5, n0, n2, n5, k0, k2, k5, hh0⟩ := hs
    refine (st5 B g2 c2 r2 (n * 86400 + c) _ _ _ _ _ _ _ _ _ _ _ _ _ _ _ _ _ _ _ _ _ _ _ _ _ _ _ _ w hh0 n2 hrs k2 e1 e2 (fun wx hg => cM wx (hv.grown hg h35))).mono ?_
    rintro e w' ⟨rfl, hh, hg⟩
    exact ⟨rfl, nx w' 6 hg ⟨g0, c0, g2, c2, g5, c5, n0, n2, n5, gcell hg k0 (by simp; omega), gcell hg k2 (by simp; omega), gcell hg k5 (by simp; omega), hh⟩, hg⟩
  | 6, _ =>
    obtain ⟨g0, c0, g2, c2, g5, c5, n0, n2, n5, k0, k2, k5, hh0⟩ := hs
    refine (st6 B g0 c0 g2 c2 g5 c5 _ _ _ _ _ _ _ _ _ _ _ _ _ _ _ _ _ _ _ _ w hh0).mono ?_
    rintro e w' ⟨rfl, hh, hg⟩
    exact ⟨rfl, nx w' 7 hg ⟨g0, c0, g2, c2, g5, c5, n0, n2, n5, gcell hg k0 (by simp; omega), gcell hg k2 (by simp; omega), gcell hg k5 (by simp; omega), hh⟩, hg⟩
  | 7, _ =>
    obtain ⟨g0, c0, g2, c2, g5, c5, n0, n2, n5, k0, k2, k5, hh0⟩ := hs
    refine (H7 w B g0 c0 g2 c2 g5 c5 hv h35 n5 k5 hh0).mono ?_
    rintro e w' ⟨rfl, hh, hg⟩
    exact ⟨rfl, nx w' 8 hg ⟨g0, c0, g2, c2, g5, c5, n0, n2, n5, gcell hg k0 (by simp; omega), gcell hg k2 (by simp; omega), gcell hg k5 (by simp; omega), hh⟩, hg⟩
  | 8, _ =>
    obtain ⟨g0, c0, g2, c2, g5, c5, n0, n2, n5, k0, k2, k5, hh0⟩ := hs
    refine (st8 B ev ct _ _ _ _ _ _ _ _ _ _ _ _ _ _ _ _ _ _ _ w hh0 hct1 hct2).mono ?_
    rintro e w' ⟨rfl, hh, hg⟩
    exact ⟨rfl, nx w' 9 hg ⟨g0, c0, g2, c2, g5, c5, n0, n2, n5, gcell hg k0 (by simp; omega), gcell hg k2 (by simp; omega), gcell hg k5 (by simp; omega), hh⟩, hg⟩
  | 9, _ =>
    obtain ⟨g0, c0, g2, c2, g5, c5, n0, n2, n5, k0, k2, k5, hh0⟩ := hs
    refine (st9 B g0 c0 g2 c2 g5 c5 _ _ _ _ _ _ _ _ _ _ _ _ _ _ _ _ _ _ _ _ _ w hh0).mono ?_
    rintro e w' ⟨rfl, hh, hg⟩
    exact ⟨rfl, nx w' 10 hg ⟨g0, c0, g2, c2, g5, c5, n0, n2, n5, gcell hg k0 (by simp; omega), gcell hg k2 (by simp; omega), gcell hg k5 (by simp; omega), hh⟩, hg⟩
  | 10, _ =>
    obtain ⟨g0, c0, g2, c2, g5, c5, n0, n2, n5, k0, k2, k5, hh0⟩ := hs
    refine (st10 B g5 c5 _ _ _ _ _ _ _ _ _ _ _ _ _ _ _ _ _ ev ct n c w hv.tab h1 h2 h3 h4 hh0).mono ?_
    rintro e w' ⟨rfl, hh, hg⟩
    exact ⟨rfl, nx w' 11 hg ⟨g0, c0, g2, c2, g5, c5, n0, n2, n5, gcell hg k0 (by simp; omega), gcell hg k2 (by simp; omega), gcell hg k5 (by simp; omega), hh⟩, hg⟩
end Go.Proofs.YtmmnbdefkailpaaGreatDoor
