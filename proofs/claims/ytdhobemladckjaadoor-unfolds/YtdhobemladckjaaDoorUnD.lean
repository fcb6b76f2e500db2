/- Package lines: lineOf, Unfold. -/
import Derived.Test.YtdhobemladckjaaDoorUnC
import Derived.Test.YtdhobemladckjaaDoorAs2
namespace Go.Proofs.YtdhobemladckjaaDoor
open Go.RowKit
set_option linter.unusedVariables false

structure Prep4 (w : World) : Prop where
  three : Prep3 w
  hnd : w.cell? ⟨3, 0, none⟩ = some (.iface 103 (.agg #[.pointer (some ⟨9, 42, none⟩)]))
theorem Prep4.below {w w' : World} (h : Prep4 w) {B : Nat} (hB : 9 ≤ B) (hb : Below B w w') : Prep4 w' where
  three := h.three.below hB hb
  hnd := by rw [hb.cell (p := ⟨3, 0, none⟩) (by show 3 < B; omega)]; exact h.hnd
theorem Prep4.size {w : World} (h : Prep4 w) : 9 ≤ w.heap.size := h.three.two.size

set_option maxRecDepth 100000 in
set_option maxHeartbeats 2000000 in
theorem lineOf_hit (B : Nat) (p : Int) (c : Value) (w : World) (hp : Prep4 w) (hB : w.heap[B]? = some (.cells #[.int .i64 p, c] 69 (0, 0))) :
    Calls Tryd.prog 15 #[.iface 65 (.pointer (some ⟨B, 0, none⟩))] w fun e w' => e = .returned (.int .i64 p) ∧ Below w.heap.size w w' := by
  have cB : w.cell? ⟨B, 0, none⟩ = some (.int .i64 p) := by rw [Lib.cell_of_heap hB]; rfl
  have hlt : B < w.heap.size := World.block_lt_of_cell? _ _ cB
  have h9 := hp.size
  have hg : (w.alloc (.cells #[.pointer none] 65)).cell? ⟨3, 0, none⟩ = some (.iface 103 (.agg #[.pointer (some ⟨9, 42, none⟩)])) := by
    rw [World.cell?_alloc_lt _ _ ⟨3, 0, none⟩ (by show 3 < _; omega)]; exact hp.hnd
  have cA : Calls Tryd.prog 27 #[.iface 65 (.pointer (some ⟨B, 0, none⟩)), .iface 67 (.pointer (some ⟨w.heap.size, 0, none⟩))] (w.alloc (.cells #[.pointer none] 65)) fun ev w' => ev = .returned (.bool true) ∧ w'.cell? ⟨w.heap.size, 0, none⟩ = some (.pointer (some ⟨B, 0, none⟩)) ∧ Below w.heap.size w w' := by
    refine (as_hit ⟨B, 0, none⟩ ⟨w.heap.size, 0, none⟩ (.pointer none) (w.alloc (.cells #[.pointer none] 65)) hg (by simp) (by simp)).mono ?_
    rintro e w1 ⟨rfl, rfl⟩
    refine ⟨rfl, ?_, ?_⟩
    · refine (Lib.cell_of_heap (T := 65) (fr := (0, 0)) (cs := #[.pointer (some ⟨B, 0, none⟩)]) ?_ 0).trans rfl
      refine (heap_setCell_same _ _ 0 #[.pointer none] 65 _ ?_).trans rfl
      rw [Lib.alloc_old _ _ _ (by simp; omega), Lib.alloc_old _ _ _ (by simp; omega), Lib.alloc_old _ _ _ (by simp; omega), Lib.alloc_old _ _ _ (by simp)]
      exact heap_alloc_new w _
    · exact ((((((Below.refl _ _).alloc (Nat.le_refl _) _).alloc (by simp) _).alloc (by simp; omega) _).alloc (by simp; omega) _).alloc (by simp; omega) _).setCell (p := ⟨w.heap.size, 0, none⟩) (Nat.le_refl _) _
  go_enter Tryd.func15, Tryd.ntmps15
  go_wp2_with (go_at_call 27; refine cA.mono ?_; rintro e w1 ⟨rfl, hc1, hb1⟩; have hc2 := (hb1.cell (p := ⟨B, 0, none⟩) hlt).trans cB)
  go_ret
  exact ⟨rfl, hb1⟩

set_option maxRecDepth 100000 in
set_option maxHeartbeats 2000000 in
theorem lineOf_miss (a : Addr) (w : World) (hp : Prep4 w) :
    Calls Tryd.prog 15 #[.iface 131 (.pointer (some a))] w fun e w' => e = .returned (.int .i64 0) ∧ Below w.heap.size w w' := by
  have h9 := hp.size
  have hg : (w.alloc (.cells #[.pointer none] 65)).cell? ⟨3, 0, none⟩ = some (.iface 103 (.agg #[.pointer (some ⟨9, 42, none⟩)])) := by
    rw [World.cell?_alloc_lt _ _ ⟨3, 0, none⟩ (by show 3 < _; omega)]; exact hp.hnd
  have cA := as_miss a ⟨w.heap.size, 0, none⟩ (w.alloc (.cells #[.pointer none] 65)) hg
  go_enter Tryd.func15, Tryd.ntmps15
  go_wp2_with (go_at_call 27; refine cA.mono ?_; rintro e w1 ⟨rfl, hb1⟩)
  go_ret
  exact ⟨rfl, ((Below.refl _ _).alloc (Nat.le_refl _) _).trans (hb1.mono (by simp))⟩

set_option maxRecDepth 100000 in
set_option maxHeartbeats 2000000 in
theorem Unfold_any (s : ByteArray) (w : World) (hs : s.size ≤ maxLen) (hp : Prep4 w) :
    Calls Tryd.prog 6 #[.string s] w fun e w' => Below w.heap.size w w' ∧
      ((unBad s.data.toList = true ∧ e = .returned (.tuple #[.slice none 0 0, .int .i64 2, .int .i64 (unN s.data.toList)])) ∨
       (unBad s.data.toList = false ∧ ∃ (v : Value) (ms : List ByteArray), e = .returned (.tuple #[v, .int .i64 0, .int .i64 0]) ∧ lns ms = (un 1 [] s.data.toList).2 ∧ w'.ownsRow w.heap.size 9 1 v ms.length (ms.map Value.string))) := by
  have hlen := len_data s
  by_cases hl : (4000 : Int) < s.size
  · have HB : Hid (unBad s.data.toList = true) := by show _ = _; unfold unBad; rw [hlen, decide_eq_true (by omega)]; rfl
    have HN : Hid (unN s.data.toList = 0) := by show _ = _; unfold unN; rw [hlen, if_pos (by omega)]
    clear hlen
    have cU := unfold_long s w hs hp.three hl
    go_enter Tryd.func6, Tryd.ntmps6
    go_wp2_with (first | (go_at_call 14; refine cU.mono ?_; rintro e w1 ⟨hb1, a, rfl⟩) | (go_at_call 15; refine (lineOf_miss _ _ (hp.below hp.size hb1)).mono ?_; rintro e w2 ⟨rfl, hb2⟩))
    go_ret3
    exact ⟨hb1.trans (hb2.mono hb1.size), .inl ⟨HB.out, by rw [HN.out]; rfl⟩⟩
  · have cU := unfold_short s w hp.three (by omega)
    have hN1 : unN s.data.toList = (un 1 [] s.data.toList).1 := by unfold unN; rw [hlen, if_neg (by omega)]
    have hB1 : unBad s.data.toList = decide ((un 1 [] s.data.toList).1 ≠ 0) := by unfold unBad; rw [hlen, decide_eq_false (by omega), Bool.false_or]
    rw [hN1, hB1]
    clear hN1 hB1 hlen
    generalize (un 1 [] s.data.toList) = U at *
    obtain ⟨u1, u2⟩ := U
    by_cases hu : u1 = 0
    · subst hu
      have hd : decide ((0, u2).1 ≠ 0) = false := by simp
      rw [hd]
      go_enter Tryd.func6, Tryd.ntmps6
      go_wp2_with (go_at_call 14; refine cU.mono ?_; rintro e w1 ⟨hb1, hc⟩; obtain ⟨_, v, ms, rfl, hm, hown⟩ := hc.resolve_left (fun h => absurd rfl h.1))
      go_ret3
      exact ⟨hb1, .inr ⟨trivial, v, ms, rfl, hm, hown⟩⟩
    · have hd : decide ((u1, u2).1 ≠ 0) = true := by simpa using hu
      rw [hd]
      go_enter Tryd.func6, Tryd.ntmps6
      go_wp2_with (first | (go_at_call 14; refine cU.mono ?_; rintro e w1 ⟨hb1, hc⟩; obtain ⟨_, B, tv, av, hBw, rfl, hB⟩ := hc.resolve_right (fun h => absurd h.1 hu)) | (go_at_call 15; refine (lineOf_hit _ _ _ _ (hp.below hp.size hb1) hB).mono ?_; rintro e w2 ⟨rfl, hb2⟩))
      go_ret3
      exact ⟨hb1.trans (hb2.mono hb1.size), .inl ⟨trivial, rfl⟩⟩
end Go.Proofs.YtdhobemladckjaaDoor
