/- Package event: the steps of reading, by the reader's block. -/
import Derived.Test.YtmmnbdefkailpaaGreatDoorEvE

namespace Go.Proofs.YtmmnbdefkailpaaGreatDoor
open Go.RowKit Cal
set_option linter.unusedVariables false

theorem gb_trans {a b c : World} {r : Option Nat} (h : a.grownBy b r) (k : b.grownBy c r) : a.grownBy c r :=
  ⟨k.os.trans h.os, k.tape.trans h.tape, k.output.trans h.output, Nat.le_trans h.size k.size, fun i hi hne => (k.block i (Nat.lt_of_lt_of_le hi h.size) hne).trans (h.block i hi hne)⟩
theorem gb_set (w : World) (R o : Nat) (v : Value) : w.grownBy (w.setCell ⟨R, o, none⟩ v) (some R) :=
  ⟨rfl, rfl, rfl, by simp [World.setCell], fun k _ hk => Below.heap_setCell _ _ _ _ (fun e => hk (by simp [e]))⟩
theorem gb_drewN (w : World) (n : Nat) (r : Option Nat) : w.grownBy (w.drewN n) r := ⟨rfl, rfl, rfl, Nat.le_refl _, fun _ _ _ => rfl⟩
theorem gb_below {w w' : World} (h : Below w.heap.size w w') (r : Option Nat) : w.grownBy w' r := ⟨h.os, h.tape, h.output, h.size, fun k hk _ => h.block k hk⟩
theorem gb_drew (w : World) (r : Option Nat) : w.grownBy w.drew r := ⟨rfl, rfl, rfl, Nat.le_refl _, fun _ _ _ => rfl⟩
theorem gb_refl (w : World) (r : Option Nat) : w.grownBy w r := ⟨rfl, rfl, rfl, Nat.le_refl _, fun _ _ _ => rfl⟩
theorem hlt {w : World} {B : Nat} {o : Obj} (h : w.heap[B]? = some o) : B < w.heap.size := (Array.getElem?_eq_some_iff.1 h).1
theorem hc {w : World} {B : Nat} {cs : Array Value} {T : TypeId} {fr : Nat × Nat} (h : w.heap[B]? = some (.cells cs T fr)) (i : Nat) {v : Value} (e : cs[i]? = some v) : w.cell? ⟨B, i, none⟩ = some v := by rw [Lib.cell_of_heap h]; exact e
theorem hset {w : World} {B : Nat} {cs : Array Value} {T : TypeId} (h : w.heap[B]? = some (.cells cs T (0, 0))) (i : Nat) (v : Value) : (w.setCell ⟨B, i, none⟩ v).heap[B]? = some (.cells (cs.setIfInBounds i v) T (0, 0)) := heap_setCell_same w B i cs T v h
theorem hbel {w w' : World} {B : Nat} {o : Obj} (h : w.heap[B]? = some o) (hb : Below w.heap.size w w') : w'.heap[B]? = some o := (hb.block B (hlt h)).trans h
theorem gcell {w w' : World} {r : Option Nat} (hg : w.grownBy w' r) {b o : Nat} {v : Value} (h : w.cell? ⟨b, o, none⟩ = some v) (hne : some b ≠ r) : w'.cell? ⟨b, o, none⟩ = some v := by
  have hl : b < w.heap.size := World.block_lt_of_cell? _ _ h
  unfold World.cell? at h ⊢
  simp only at h ⊢
  rw [hg.block b hl hne]; exact h

set_option maxRecDepth 100000 in
set_option maxHeartbeats 4000000 in
theorem st0 (B g cap : Nat) (a1 a2 a3 a4 a5 a6 a7 a8 a9 a10 a11 a12 a13 a14 a15 a16 a17 a18 a19 a20 a21 a22 a23 a24 a25 a26 a27 a28 : Value) (w : World) (h : w.heap[B]? = some (.cells #[.slice (some ⟨g, 0, none⟩) 5 cap, a1, a2, a3, a4, a5, a6, a7, a8, a9, a10, a11, a12, a13, a14, a15, a16, a17, a18, a19, a20, a21, a22, a23, a24, a25, a26, a27, a28] 65 (0, 0))) (hcap : 5 ≤ cap) (hcap2 : cap ≤ 9223372036854775807) (l0 : w.cell? ⟨g, 0, none⟩ = some (.string ⟨#[66, 69, 71, 73, 78, 58, 86, 69, 86, 69, 78, 84]⟩)) (l4 : w.cell? ⟨g, 4, none⟩ = some (.string ⟨#[69, 78, 68, 58, 86, 69, 86, 69, 78, 84]⟩)) :
    Calls Tryz.prog 52 #[.pointer (some ⟨B, 0, none⟩)] w fun e w' => e = .returned .nilIface ∧ w'.heap[B]? = some (.cells #[.slice (some ⟨g, 1, none⟩) 3 (cap - 1), a1, a2, a3, a4, a5, a6, a7, a8, a9, a10, a11, a12, a13, a14, a15, a16, a17, a18, a19, a20, a21, a22, a23, a24, a25, a26, a27, a28] 65 (0, 0)) ∧ w.grownBy w' (some B) := by
  refine (readFrame_yes B g cap w (hc h 0 rfl) (Lib.frozen_of_heap h 0) hcap hcap2 l0 l4).mono ?_
  rintro e w' ⟨rfl, rfl⟩
  exact ⟨rfl, hset h 0 _, gb_set _ _ _ _⟩

set_option maxRecDepth 100000 in
set_option maxHeartbeats 4000000 in
theorem st2 (B g0 c0 g2 c2 g5 c5 : Nat) (a0 a9 a10 a11 a12 a13 a14 a15 a16 a17 a18 a19 a20 a21 a22 a23 a24 a25 a26 a27 a28 : Value) (w : World) (h : w.heap[B]? = some (.cells #[a0, .slice (some ⟨g0, 0, none⟩) 1 c0, .slice none 0 0, .slice (some ⟨g2, 0, none⟩) 1 c2, .slice none 0 0, .slice none 0 0, .slice (some ⟨g5, 0, none⟩) 1 c5, .slice none 0 0, .slice none 0 0, a9, a10, a11, a12, a13, a14, a15, a16, a17, a18, a19, a20, a21, a22, a23, a24, a25, a26, a27, a28] 65 (0, 0))) :
    Calls Tryz.prog 54 #[.pointer (some ⟨B, 0, none⟩)] w fun e w' => e = .returned .nilIface ∧ w'.heap[B]? = some (.cells #[a0, .slice (some ⟨g0, 0, none⟩) 1 c0, .slice none 0 0, .slice (some ⟨g2, 0, none⟩) 1 c2, .slice none 0 0, .slice none 0 0, .slice (some ⟨g5, 0, none⟩) 1 c5, .slice none 0 0, .slice none 0 0, a9, a10, a11, a12, a13, a14, a15, a16, a17, a18, a19, a20, a21, a22, a23, a24, a25, a26, a27, a28] 65 (0, 0)) ∧ w.grownBy w' (some B) := by
  refine (checkTwice_yes B _ _ _ _ _ _ _ _ 1 0 1 0 0 1 0 0 _ _ _ _ _ _ _ _ w (hc h 1 rfl) (hc h 2 rfl) (hc h 3 rfl) (hc h 4 rfl) (hc h 5 rfl) (hc h 6 rfl) (hc h 7 rfl) (hc h 8 rfl) (by omega) (by omega) (by omega) (by omega) (by omega) (by omega) (by omega) (by omega)).mono ?_
  rintro e w' ⟨rfl, rfl⟩
  exact ⟨rfl, h, gb_refl _ _⟩

set_option maxRecDepth 100000 in
set_option maxHeartbeats 4000000 in
theorem st3 (B g0 c0 g2 c2 g5 c5 : Nat) (a0 a9 a10 a11 a12 a13 a14 a15 a16 a17 a18 a19 a20 a21 a22 a23 a24 a25 a26 a27 a28 : Value) (w : World) (h : w.heap[B]? = some (.cells #[a0, .slice (some ⟨g0, 0, none⟩) 1 c0, .slice none 0 0, .slice (some ⟨g2, 0, none⟩) 1 c2, .slice none 0 0, .slice none 0 0, .slice (some ⟨g5, 0, none⟩) 1 c5, .slice none 0 0, .slice none 0 0, a9, a10, a11, a12, a13, a14, a15, a16, a17, a18, a19, a20, a21, a22, a23, a24, a25, a26, a27, a28] 65 (0, 0))) (hg : w.cell? ⟨g0, 0, none⟩ = some (.string ⟨#[58, 120]⟩)) :
    Calls Tryz.prog 55 #[.pointer (some ⟨B, 0, none⟩)] w fun e w' => e = .returned .nilIface ∧ w'.heap[B]? = some (.cells #[a0, .slice (some ⟨g0, 0, none⟩) 1 c0, .slice none 0 0, .slice (some ⟨g2, 0, none⟩) 1 c2, .slice none 0 0, .slice none 0 0, .slice (some ⟨g5, 0, none⟩) 1 c5, .slice none 0 0, .slice none 0 0, a9, a10, .string ⟨#[120]⟩, a12, a13, a14, a15, a16, a17, a18, a19, a20, a21, a22, a23, a24, a25, a26, a27, a28] 65 (0, 0)) ∧ w.grownBy w' (some B) := by
  refine (readUid_yes B g0 c0 w (hc h 1 rfl) hg _ (hc h 11 rfl) (Lib.frozen_of_heap h 11)).mono ?_
  rintro e w' ⟨rfl, w1, hb1, rfl⟩
  exact ⟨rfl, hset (hbel h hb1) 11 _, gb_trans (gb_below hb1 _) (gb_set _ _ _ _)⟩

set_option maxRecDepth 100000 in
set_option maxHeartbeats 4000000 in
theorem st4 (B g0 c0 g2 c2 g5 c5 : Nat) (a0 a9 a10 a11 a12 a13 a14 a15 a16 a17 a18 a19 a20 a21 a22 a23 a24 a25 a26 a27 a28 : Value) (w : World) (h : w.heap[B]? = some (.cells #[a0, .slice (some ⟨g0, 0, none⟩) 1 c0, .slice none 0 0, .slice (some ⟨g2, 0, none⟩) 1 c2, .slice none 0 0, .slice none 0 0, .slice (some ⟨g5, 0, none⟩) 1 c5, .slice none 0 0, .slice none 0 0, a9, a10, a11, a12, a13, a14, a15, a16, a17, a18, a19, a20, a21, a22, a23, a24, a25, a26, a27, a28] 65 (0, 0))) :
    Calls Tryz.prog 56 #[.pointer (some ⟨B, 0, none⟩)] w fun e w' => e = .returned .nilIface ∧ w'.heap[B]? = some (.cells #[a0, .slice (some ⟨g0, 0, none⟩) 1 c0, .slice none 0 0, .slice (some ⟨g2, 0, none⟩) 1 c2, .slice none 0 0, .slice none 0 0, .slice (some ⟨g5, 0, none⟩) 1 c5, .slice none 0 0, .slice none 0 0, a9, a10, a11, a12, a13, a14, a15, a16, a17, a18, a19, a20, a21, a22, a23, a24, a25, a26, a27, a28] 65 (0, 0)) ∧ w.grownBy w' (some B) := by
  refine (readSummary_no B _ _ w (hc h 2 rfl)).mono ?_
  rintro e w' ⟨rfl, rfl⟩
  exact ⟨rfl, h, gb_refl _ _⟩

set_option maxRecDepth 100000 in
set_option maxHeartbeats 4000000 in
theorem st6 (B g0 c0 g2 c2 g5 c5 : Nat) (a0 a10 a11 a12 a13 a14 a15 a16 a17 a18 a19 a20 a21 a22 a23 a24 a25 a26 a27 a28 : Value) (w : World) (h : w.heap[B]? = some (.cells #[a0, .slice (some ⟨g0, 0, none⟩) 1 c0, .slice none 0 0, .slice (some ⟨g2, 0, none⟩) 1 c2, .slice none 0 0, .slice none 0 0, .slice (some ⟨g5, 0, none⟩) 1 c5, .slice none 0 0, .slice none 0 0, .bool false, a10, a11, a12, a13, a14, a15, a16, a17, a18, a19, a20, a21, a22, a23, a24, a25, a26, a27, a28] 65 (0, 0))) :
    Calls Tryz.prog 58 #[.pointer (some ⟨B, 0, none⟩)] w fun e w' => e = .returned .nilIface ∧ w'.heap[B]? = some (.cells #[a0, .slice (some ⟨g0, 0, none⟩) 1 c0, .slice none 0 0, .slice (some ⟨g2, 0, none⟩) 1 c2, .slice none 0 0, .slice none 0 0, .slice (some ⟨g5, 0, none⟩) 1 c5, .slice none 0 0, .slice none 0 0, .bool false, a10, a11, a12, a13, a14, a15, .int .i64 0, a17, a18, a19, a20, a21, a22, a23, a24, a25, a26, a27, a28] 65 (0, 0)) ∧ w.grownBy w' (some B) := by
  refine (readLength_no B _ _ _ _ w (hc h 4 rfl) (hc h 5 rfl) (hc h 9 rfl) _ (hc h 16 rfl) (Lib.frozen_of_heap h 16)).mono ?_
  rintro e w' ⟨rfl, rfl⟩
  exact ⟨rfl, hset h 16 _, gb_set _ _ _ _⟩

set_option maxRecDepth 100000 in
set_option maxHeartbeats 4000000 in
theorem st8 (B : Nat) (ev ct : Int) (a0 a1 a2 a3 a4 a5 a6 a7 a8 a9 a10 a11 a12 a13 a14 a15 a16 a27 a28 : Value) (w : World) (h : w.heap[B]? = some (.cells #[a0, a1, a2, a3, a4, a5, a6, a7, a8, a9, a10, a11, a12, a13, a14, a15, a16, .int .i64 1, .int .i64 ev, .int .i64 ct, .int .i64 0, .bool false, .slice none 0 0, .slice none 0 0, .slice none 0 0, .slice none 0 0, .int .i64 0, a27, a28] 65 (0, 0))) (h1 : 1 ≤ ct) (h2 : ct ≤ 999) :
    Calls Tryz.prog 60 #[.pointer (some ⟨B, 0, none⟩)] w fun e w' => e = .returned .nilIface ∧ w'.heap[B]? = some (.cells #[a0, a1, a2, a3, a4, a5, a6, a7, a8, a9, a10, a11, a12, a13, a14, a15, a16, .int .i64 1, .int .i64 ev, .int .i64 ct, .int .i64 0, .bool false, .slice none 0 0, .slice none 0 0, .slice none 0 0, .slice none 0 0, .int .i64 0, a27, a28] 65 (0, 0)) ∧ w.grownBy w' (some B) := by
  refine (checkTogether_daily B ev ct w h1 h2 (hc h 17 rfl) (hc h 18 rfl) (hc h 19 rfl) (hc h 20 rfl) (hc h 21 rfl) (hc h 22 rfl) (hc h 23 rfl) (hc h 24 rfl) (hc h 25 rfl) (hc h 26 rfl)).mono ?_
  rintro e w' ⟨rfl, hb⟩
  exact ⟨rfl, hbel h hb, gb_below hb _⟩

set_option maxRecDepth 100000 in
set_option maxHeartbeats 4000000 in
theorem st9 (B g0 c0 g2 c2 g5 c5 : Nat) (a0 a9 a10 a11 a12 a13 a14 a15 a16 a17 a18 a19 a20 a21 a22 a23 a24 a25 a26 a27 a28 : Value) (w : World) (h : w.heap[B]? = some (.cells #[a0, .slice (some ⟨g0, 0, none⟩) 1 c0, .slice none 0 0, .slice (some ⟨g2, 0, none⟩) 1 c2, .slice none 0 0, .slice none 0 0, .slice (some ⟨g5, 0, none⟩) 1 c5, .slice none 0 0, .slice none 0 0, a9, a10, a11, a12, a13, a14, a15, a16, a17, a18, a19, a20, a21, a22, a23, a24, a25, a26, a27, a28] 65 (0, 0))) :
    Calls Tryz.prog 61 #[.pointer (some ⟨B, 0, none⟩)] w fun e w' => e = .returned .nilIface ∧ w'.heap[B]? = some (.cells #[a0, .slice (some ⟨g0, 0, none⟩) 1 c0, .slice none 0 0, .slice (some ⟨g2, 0, none⟩) 1 c2, .slice none 0 0, .slice none 0 0, .slice (some ⟨g5, 0, none⟩) 1 c5, .slice none 0 0, .slice none 0 0, a9, a10, a11, a12, a13, a14, a15, a16, a17, a18, a19, a20, a21, a22, a23, a24, a25, a26, a27, a28] 65 (0, 0)) ∧ w.grownBy w' (some B) := by
  refine (readDates_no B _ _ _ _ w (hc h 7 rfl) (hc h 8 rfl)).mono ?_
  rintro e w' ⟨rfl, rfl⟩
  exact ⟨rfl, h, gb_refl _ _⟩

set_option maxRecDepth 100000 in
set_option maxHeartbeats 4000000 in
theorem st5 (B g c : Nat) (r : ByteArray) (t : Int) (a0 a1 a2 a4 a5 a6 a7 a8 a9 a10 a11 a12 a13 a14 a15 a16 a17 a18 a19 a20 a21 a22 a23 a24 a25 a26 a27 a28 : Value) (w : World) (h : w.heap[B]? = some (.cells #[a0, a1, a2, .slice (some ⟨g, 0, none⟩) 1 c, a4, a5, a6, a7, a8, a9, a10, a11, a12, a13, a14, a15, a16, a17, a18, a19, a20, a21, a22, a23, a24, a25, a26, a27, a28] 65 (0, 0))) (hgB : g ≠ B) (hrs : r.size ≤ 4000) (hg : w.cell? ⟨g, 0, none⟩ = some (.string r)) (e1 : Lib.hasPrefix r.data.toList [59, 86, 65, 76, 85, 69, 61, 68, 65, 84, 69, 58] = false) (e2 : Lib.hasSuffix r.data.toList [90] = false) (cM : ∀ wx, w.grownBy wx (some B) → Calls Tryz.prog 99 #[.agg #[.bool false, .bool false], .string r] wx fun e w' => e = .returned (.tuple #[.int .i64 t, .nilIface]) ∧ Below wx.heap.size wx w') :
    Calls Tryz.prog 57 #[.pointer (some ⟨B, 0, none⟩)] w fun e w' => e = .returned .nilIface ∧ w'.heap[B]? = some (.cells #[a0, a1, a2, .slice (some ⟨g, 0, none⟩) 1 c, a4, a5, a6, a7, a8, .bool false, .bool false, a11, a12, .int .i64 t, .bool false, .bool false, a16, a17, a18, a19, a20, a21, a22, a23, a24, a25, a26, a27, a28] 65 (0, 0)) ∧ w.grownBy w' (some B) := by
  have cH := has2 B _ 1 c w (by omega) (hc h 3 rfl)
  have cR := rest2 B g 1 c r w (by omega) (by omega) (hc h 3 rfl) hg
  have cF := formOf_no r w hrs e1 e2
  have h9 := hc h 9 rfl
  have h10 := hc h 10 rfl
  have f9 := Lib.frozen_of_heap h 9
  have f10 := Lib.frozen_of_heap h 10
  have hBl := hlt h
  have CM : Hid (∀ wx, w.grownBy wx (some B) → Calls Tryz.prog 99 #[.agg #[.bool false, .bool false], .string r] wx fun e w' => e = .returned (.tuple #[.int .i64 t, .nilIface]) ∧ Below wx.heap.size wx w') := cM
  have HH : Hid (w.heap[B]? = some (.cells #[a0, a1, a2, .slice (some ⟨g, 0, none⟩) 1 c, a4, a5, a6, a7, a8, a9, a10, a11, a12, a13, a14, a15, a16, a17, a18, a19, a20, a21, a22, a23, a24, a25, a26, a27, a28] 65 (0, 0))) := h
  clear cM h
  go_enter Tryz.func57, Tryz.ntmps57
  go_wp2_with (first | (go_at_call 92; refine cH.mono ?_; rintro e w ⟨rfl, rfl⟩) | (go_at_call 98; refine cR.mono ?_; rintro e w ⟨rfl, rfl⟩) | (go_at_call 97; refine cF.mono ?_; rintro e w1 ⟨rfl, hb1⟩; obtain ⟨hc1, hf1⟩ := bcell hb1))
  have gW : w.grownBy ((w1.setCell ⟨B, 9, none⟩ (.bool false)).setCell ⟨B, 10, none⟩ (.bool false)) (some B) := gb_trans (gb_below hb1 _) (gb_trans (gb_set _ _ _ _) (gb_set _ _ _ _))
  have hW : ((w1.setCell ⟨B, 9, none⟩ (.bool false)).setCell ⟨B, 10, none⟩ (.bool false)).heap[B]? = some (.cells #[a0, a1, a2, .slice (some ⟨g, 0, none⟩) 1 c, a4, a5, a6, a7, a8, .bool false, .bool false, a11, a12, a13, a14, a15, a16, a17, a18, a19, a20, a21, a22, a23, a24, a25, a26, a27, a28] 65 (0, 0)) := hset (hset (hbel HH.out hb1) 9 _) 10 _
  clear hc1 hf1 h9 h10 f9 f10 e1 e2 cH cR cF
  generalize (w1.setCell ⟨B, 9, none⟩ (.bool false)).setCell ⟨B, 10, none⟩ (.bool false) = W2 at *
  have hg2 := gcell gW hg (by simpa using hgB)
  have k9 := hc hW 9 rfl
  have k10 := hc hW 10 rfl
  have k3 := hc hW 3 rfl
  have hBw := hlt hW
  have hgw : g < W2.heap.size := World.block_lt_of_cell? _ _ hg2
  have CR : Hid (∀ wx, wx.cell? ⟨B, 3, none⟩ = some (.slice (some ⟨g, 0, none⟩) 1 c) → wx.cell? ⟨g, 0, none⟩ = some (.string r) → Calls Tryz.prog 98 #[.pointer (some ⟨B, 0, none⟩), .int .i64 2] wx fun e w' => e = .returned (.string r) ∧ w' = wx) := fun wx h3 h0 => rest2 B g 1 c r wx (by omega) (by omega) h3 h0
  have HW : Hid (W2.heap[B]? = some (.cells #[a0, a1, a2, .slice (some ⟨g, 0, none⟩) 1 c, a4, a5, a6, a7, a8, .bool false, .bool false, a11, a12, a13, a14, a15, a16, a17, a18, a19, a20, a21, a22, a23, a24, a25, a26, a27, a28] 65 (0, 0))) := hW
  have GW : Hid (w.grownBy W2 (some B)) := gW
  clear hW hg HH gW
  go_region_held3 (fun w' => w'.cell? ⟨B, 3, none⟩ = some (.slice (some ⟨g, 0, none⟩) 1 c) ∧ w'.cell? ⟨g, 0, none⟩ = some (.string r) ∧ w'.cell? ⟨B, 9, none⟩ = some (.bool false) ∧ w'.cell? ⟨B, 10, none⟩ = some (.bool false)) (first | go_keep | (refine ⟨(hc3 _ _ (by simpa using hBw)).trans ?_, (hc3 _ _ (by simpa using hgw)).trans ?_, (hc3 _ _ (by simpa using hBw)).trans ?_, (hc3 _ _ (by simpa using hBw)).trans ?_⟩ <;> simp [*]))
    ((first | (go_at_call 98; refine (CR.out _ (by assumption) (by assumption)).mono ?_; rintro e wz ⟨rfl, rfl⟩) | (go_at_call 99; refine (CM.out _ (gb_trans GW.out (gb_drew _ _))).mono ?_; rintro e w3 ⟨rfl, hb3⟩; obtain ⟨hc3, hf3⟩ := bcell hb3)))
  have hW3 : w3.heap[B]? = some (.cells #[a0, a1, a2, .slice (some ⟨g, 0, none⟩) 1 c, a4, a5, a6, a7, a8, .bool false, .bool false, a11, a12, a13, a14, a15, a16, a17, a18, a19, a20, a21, a22, a23, a24, a25, a26, a27, a28] 65 (0, 0)) := hbel (w := W2.drew) HW.out hb3
  have g3 : w.grownBy w3 (some B) := gb_trans GW.out (gb_trans (gb_drew _ _) (gb_below hb3 _))
  clear hc3 hf3 hb3 CM CR GW HW
  have j9 := hc hW3 9 rfl
  have j10 := hc hW3 10 rfl
  have j13 := hc hW3 13 rfl
  have j14 := hc hW3 14 rfl
  have j15 := hc hW3 15 rfl
  have q13 := Lib.frozen_of_heap hW3 13
  have q14 := Lib.frozen_of_heap hW3 14
  have q15 := Lib.frozen_of_heap hW3 15
  have HW3 : Hid (w3.heap[B]? = some (.cells #[a0, a1, a2, .slice (some ⟨g, 0, none⟩) 1 c, a4, a5, a6, a7, a8, .bool false, .bool false, a11, a12, a13, a14, a15, a16, a17, a18, a19, a20, a21, a22, a23, a24, a25, a26, a27, a28] 65 (0, 0))) := hW3
  have G3 : Hid (w.grownBy w3 (some B)) := g3
  clear hW3 g3
  go_wp2
  go_region
  go_wp2
  go_ret
  exact ⟨rfl, hset (hset (hset HW3.out 13 _) 14 _) 15 _, gb_trans G3.out (gb_trans (gb_set _ _ _ _) (gb_trans (gb_set _ _ _ _) (gb_trans (gb_set _ _ _ _) (gb_drew _ _))))⟩

end Go.Proofs.YtmmnbdefkailpaaGreatDoor
