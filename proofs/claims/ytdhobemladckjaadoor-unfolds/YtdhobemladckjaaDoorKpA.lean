/- The law's harness: mark; what a kept list reads. -/
import Derived.Test.YtdhobemladckjaaDoorUnC
import Derived.ArgAppend
namespace Go.Proofs.YtdhobemladckjaaDoor
open Go.RowKit
set_option linter.unusedVariables false

/-- the mark of a list -/
def mk (x : Nat) : ByteArray := if x = 0 then ⟨#[126, 0, 0]⟩ else ⟨#[126, 1, 0]⟩

theorem conv3 (x : UInt8) (w : World) : (convert 71 9 (.slice (some ⟨w.heap.size, 0, none⟩) 3 3)).run Tryd.prog (w.alloc (.cells #[.int .u8 126, .int .u8 x.toNat, .int .u8 0] 5)) = .ok (.string ⟨#[126, x, 0]⟩) (w.alloc (.cells #[.int .u8 126, .int .u8 x.toNat, .int .u8 0] 5)) := by
  refine run_convert_bytes_back _ 71 9 5 ⟨w.heap.size, 0, none⟩ 3 [126, x, 0] Tryd.underlying71 Tryd.underlying5 Tryd.underlying9 ?_
  intro j hj
  have : j = 0 ∨ j = 1 ∨ j = 2 := by simp at hj; omega
  rcases this with rfl | rfl | rfl <;> (rw [Addr.add_lit, Lib.cell_of_heap (heap_alloc_new w _)]; rfl)
set_option maxRecDepth 100000 in
set_option maxHeartbeats 1000000 in
theorem mark_0 (w : World) : Calls Tryd.prog 18 #[.int .i64 0] w fun e w' => e = .returned (.string ⟨#[126, 0, 0]⟩) ∧ w' = w.alloc (.cells #[.int .u8 126, .int .u8 0, .int .u8 0] 5) := by
  have hc := conv3 0 w
  simp only [show ((0 : UInt8).toNat : Int) = 0 from rfl] at hc
  go_enter Tryd.func18, Tryd.ntmps18
  go_wp2
  go_ret
  exact ⟨rfl, rfl⟩
set_option maxRecDepth 100000 in
set_option maxHeartbeats 1000000 in
theorem mark_1 (w : World) : Calls Tryd.prog 18 #[.int .i64 1] w fun e w' => e = .returned (.string ⟨#[126, 1, 0]⟩) ∧ w' = w.alloc (.cells #[.int .u8 126, .int .u8 1, .int .u8 0] 5) := by
  have hc := conv3 1 w
  simp only [show ((1 : UInt8).toNat : Int) = 1 from rfl] at hc
  go_enter Tryd.func18, Tryd.ntmps18
  go_wp2
  go_ret
  exact ⟨rfl, rfl⟩

/-- a list reads as its owner left it -/
def MarkedAt (w : World) (v : Value) (m : ByteArray) : Prop :=
  ∃ xa g n cap, v = .slice xa n cap ∧ n ≤ 5000 ∧ (0 < n → xa = some ⟨g, 0, none⟩ ∧ ∃ cs, w.heap[g]? = some (.cells cs 9 (0, 0)) ∧ ∀ j, j < n → cs[j]? = some (.string m))
/-- lists of texts below B stand as they stood -/
def K9 (B : Nat) (w w' : World) : Prop := ∀ g cs, g < B → w.heap[g]? = some (.cells cs 9 (0, 0)) → w'.heap[g]? = some (.cells cs 9 (0, 0))
theorem K9.refl (B : Nat) (w : World) : K9 B w w := fun _ _ _ h => h
theorem K9.trans {B : Nat} {a b c : World} (h : K9 B a b) (k : K9 B b c) : K9 B a c := fun g cs hg hh => k g cs hg (h g cs hg hh)
theorem K9.mono {B B' : Nat} {a b : World} (h : K9 B a b) (hB : B' ≤ B) : K9 B' a b := fun g cs hg hh => h g cs (by omega) hh
theorem lt_of_heap {w : World} {g : Nat} {o : Obj} (h : w.heap[g]? = some o) : g < w.heap.size := by
  rcases Nat.lt_or_ge g w.heap.size with h' | h'
  · exact h'
  · simp [Array.getElem?_eq_none h'] at h
theorem K9.of_gb {w w' : World} {r : Option Nat} (h : w.grownBy w' r) (hr : ∀ g cs, r = some g → w.heap[g]? ≠ some (.cells cs 9 (0, 0))) (B : Nat) : K9 B w w' := fun g cs _ hh => by
  rw [h.block g (lt_of_heap hh) (fun e => hr g cs e.symm hh)]; exact hh
theorem K9.of_gb_ge {w w' : World} {r : Option Nat} (h : w.grownBy w' r) (B : Nat) (hr : ∀ g, r = some g → B ≤ g) : K9 B w w' := fun g cs hg hh => by
  rw [h.block g (lt_of_heap hh) (fun e => by have := hr g e.symm; omega)]; exact hh
theorem K9.of_below {w w' : World} (h : Below w.heap.size w w') (B : Nat) : K9 B w w' := fun g cs _ hh => by rw [h.block g (lt_of_heap hh)]; exact hh
theorem MarkedAt.keep {w w' : World} {v : Value} {m : ByteArray} (h : MarkedAt w v m) (hk : ∀ B, K9 B w w') : MarkedAt w' v m := by
  obtain ⟨xa, g, n, cap, rfl, hn, hh⟩ := h
  refine ⟨xa, g, n, cap, rfl, hn, fun h0 => ?_⟩
  obtain ⟨h1, cs, h2, h3⟩ := hh h0
  exact ⟨h1, cs, hk (g + 1) g cs (Nat.lt_succ_self _) h2, h3⟩
theorem MarkedAt.keepB {w w' : World} {v : Value} {m : ByteArray} {B : Nat} (h : MarkedAt w v m) (hB : w.heap.size ≤ B) (hk : K9 B w w') : MarkedAt w' v m := by
  obtain ⟨xa, g, n, cap, rfl, hn, hh⟩ := h
  refine ⟨xa, g, n, cap, rfl, hn, fun h0 => ?_⟩
  obtain ⟨h1, cs, h2, h3⟩ := hh h0
  exact ⟨h1, cs, hk g cs (by have := lt_of_heap h2; omega) h2, h3⟩
theorem MarkedAt.set {w : World} {v : Value} {m : ByteArray} (h : MarkedAt w v m) (g q : Nat) : MarkedAt (w.setCell ⟨g, q, none⟩ (.string m)) v m := by
  obtain ⟨xa, g', n, cap, rfl, hn, hh⟩ := h
  refine ⟨xa, g', n, cap, rfl, hn, fun h0 => ?_⟩
  obtain ⟨h1, cs, h2, h3⟩ := hh h0
  by_cases e : g' = g
  · subst e
    refine ⟨h1, cs.setIfInBounds q (.string m), heap_setCell_same w g' q cs 9 _ h2, fun j hj => ?_⟩
    rw [Array.getElem?_setIfInBounds]
    by_cases e2 : q = j
    · subst e2
      have h4 := h3 q hj
      rw [if_pos rfl]
      have : q < cs.size := by
        rcases Nat.lt_or_ge q cs.size with h' | h'
        · exact h'
        · simp [Array.getElem?_eq_none h'] at h4
      rw [if_pos this]
    · rw [if_neg e2]; exact h3 j hj
  · exact ⟨h1, cs, by rw [heap_setCell_other _ _ _ _ e]; exact h2, h3⟩
theorem marked_own {w : World} {B n : Nat} {v : Value} {m : ByteArray} (h : w.ownsRow B 9 1 v n (List.replicate n (.string m))) (hn : n ≤ 5000) : MarkedAt w v m := by
  obtain ⟨hl, h⟩ := h
  rcases h with ⟨rfl, h0⟩ | ⟨g, cap, cur, rfl, h2, h3, h4, h5, h6, h7⟩
  · exact ⟨none, 0, 0, 0, by rw [], by omega, fun h => absurd h (by omega)⟩
  · refine ⟨_, g, n, cap, rfl, hn, fun _ => ⟨rfl, cur, h3, fun j hj => ?_⟩⟩
    have h8 : (cur.toList.take (n * 1))[j]? = (List.replicate n (Value.string m))[j]? := by rw [h7]
    rw [List.getElem?_take, if_pos (by omega), List.getElem?_replicate, if_pos hj, Array.getElem?_toList] at h8
    exact h8
end Go.Proofs.YtdhobemladckjaaDoor
