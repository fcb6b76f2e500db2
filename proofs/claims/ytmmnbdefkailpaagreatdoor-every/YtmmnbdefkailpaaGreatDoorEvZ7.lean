/- Package recur: Dates; package event: ruleDates. -/
import Derived.Test.YtmmnbdefkailpaaGreatDoorEvZ6
import Derived.Shelf.Slices.In.SortNone

namespace Go.Proofs.YtmmnbdefkailpaaGreatDoor
open Go.RowKit Cal
set_option linter.unusedVariables false

/-- the closure that Dates gives, and what it has hold of -/
def DatesAt (B : Nat) (k : Int) (M : Nat) (n c F : Int) (e : Ending) (w : World) : Prop :=
  ∃ (Q X0 Yf Zs : Nat) (y m d wd : Value), e = .returned (.func (.func 120) #[] #[.pointer (some ⟨X0, 0, none⟩), .pointer (some ⟨Yf, 0, none⟩), .pointer (some ⟨Zs, 0, none⟩)]) ∧ DF Q X0 Yf k M n c y m d wd F w ∧ w.heap[Zs]? = some (.cells #[.int .i64 (n * 86400 + c)] 3 (0, 0)) ∧ B ≤ Q ∧ B ≤ X0 ∧ B ≤ Yf ∧ B ≤ Zs

set_option maxRecDepth 100000 in
set_option maxHeartbeats 8000000 in
theorem Dates_at (k : Int) (M : Nat) (n c F : Int) (w : World) (ht : Tab w) (h1 : -25567 ≤ n) (h2 : n ≤ 84005) (h3 : 0 ≤ c) (h4 : c < 86400) :
    Calls Tryz.prog 77 #[.int .i64 (n * 86400 + c), rulA k M, .int .i64 F] w fun e w' => DatesAt w.heap.size k M n c F e w' ∧ Below w.heap.size w w' := by
  have HN : Hid (∀ wx, Below w.heap.size w wx → Calls Tryz.prog 119 #[.int .i64 (n * 86400 + c), rulA k M] wx fun e w' => ∃ Q y m d wd, e = .returned (.pointer (some ⟨Q, 0, none⟩)) ∧ w'.heap[Q]? = some (.cells (serA (.int .i64 k) (.int .i64 M) (.int .i64 n) y m d wd (.int .i64 c)) 206 (0, 0)) ∧ wx.heap.size ≤ Q ∧ Below wx.heap.size wx w') := fun wx hb => newSeries_daily k M n c wx (ht.below hb) h1 h2 h3 h4
  have HT : Hid (∀ wx, Below w.heap.size w wx → Tab wx) := fun wx hb => ht.below hb
  unfold DatesAt
  clear h1 h2 h3 h4 ht
  generalize n * 86400 + c = T at *
  go_enter Tryz.func77, Tryz.ntmps77
  go_upto_region 1 with fail
  have hS : (((w.alloc (.cells #[.int .i64 T] 3)).alloc (.cells #[.int .i64 1, .int .i64 k, .int .i64 M, .int .i64 0, .bool false, .slice none 0 0, .slice none 0 0, .slice none 0 0, .slice none 0 0, .int .i64 0] 30)).alloc (.cells #[.int .i64 F] 3)).heap[w.heap.size]? = some (.cells #[.int .i64 T] 3 (0, 0)) := (Below.heap_alloc _ _ _ (by simp only [World.size_alloc]; omega)).trans ((Below.heap_alloc _ _ _ (by simp only [World.size_alloc]; omega)).trans (heap_alloc_new w _))
  have hR : (((w.alloc (.cells #[.int .i64 T] 3)).alloc (.cells #[.int .i64 1, .int .i64 k, .int .i64 M, .int .i64 0, .bool false, .slice none 0 0, .slice none 0 0, .slice none 0 0, .slice none 0 0, .int .i64 0] 30)).alloc (.cells #[.int .i64 F] 3)).heap[w.heap.size + 1]? = some (.cells #[.int .i64 1, .int .i64 k, .int .i64 M, .int .i64 0, .bool false, .slice none 0 0, .slice none 0 0, .slice none 0 0, .slice none 0 0, .int .i64 0] 30 (0, 0)) := (Below.heap_alloc _ _ _ (by simp only [World.size_alloc]; omega)).trans (heap_alloc2 w _ _)
  have hF : (((w.alloc (.cells #[.int .i64 T] 3)).alloc (.cells #[.int .i64 1, .int .i64 k, .int .i64 M, .int .i64 0, .bool false, .slice none 0 0, .slice none 0 0, .slice none 0 0, .slice none 0 0, .int .i64 0] 30)).alloc (.cells #[.int .i64 F] 3)).heap[w.heap.size + 1 + 1]? = some (.cells #[.int .i64 F] 3 (0, 0)) := by
    have := heap_alloc2 (w.alloc (.cells #[.int .i64 T] 3)) (.cells #[.int .i64 1, .int .i64 k, .int .i64 M, .int .i64 0, .bool false, .slice none 0 0, .slice none 0 0, .slice none 0 0, .slice none 0 0, .int .i64 0] 30) (.cells #[.int .i64 F] 3)
    rw [World.size_alloc] at this
    exact this
  have hb : Below w.heap.size w (((w.alloc (.cells #[.int .i64 T] 3)).alloc (.cells #[.int .i64 1, .int .i64 k, .int .i64 M, .int .i64 0, .bool false, .slice none 0 0, .slice none 0 0, .slice none 0 0, .slice none 0 0, .int .i64 0] 30)).alloc (.cells #[.int .i64 F] 3)) := (((Below.refl _ _).alloc (Nat.le_refl _) _).alloc (by simp only [World.size_alloc]; omega) _).alloc (by simp only [World.size_alloc]; omega) _
  revert hS hR hF hb
  generalize (((w.alloc (.cells #[.int .i64 T] 3)).alloc (.cells #[.int .i64 1, .int .i64 k, .int .i64 M, .int .i64 0, .bool false, .slice none 0 0, .slice none 0 0, .slice none 0 0, .slice none 0 0, .int .i64 0] 30)).alloc (.cells #[.int .i64 F] 3)) = W
  intro hS hR hF hb
  have s0 := hc hS 0 rfl
  have hr := range_app [] [.int .i64 1, .int .i64 k, .int .i64 M, .int .i64 0, .bool false, .slice none 0 0, .slice none 0 0, .slice none 0 0, .slice none 0 0, .int .i64 0] hR
  refine wp_region_lit ?_
  refine wpList_plain rfl (fun K hK => ?_)
  go_simp
  refine hK _ _ ?_
  clear hK K
  refine wpList_load_mid (by rfl) 30 (.tmp 4) (by rfl) (w.heap.size + 1) 0 (by rfl) [.int .i64 1, .int .i64 k, .int .i64 M, .int .i64 0, .bool false, .slice none 0 0, .slice none 0 0, .slice none 0 0, .slice none 0 0, .int .i64 0] _ hr Tryz.underlying30 rfl (by kernel_rfl) ?_
  simp only [Act.put, List.setIfInBounds_toArray, List.set_cons_zero, List.set_cons_succ]
  clear hr
  refine wpList_plain rfl (fun K hK => ?_)
  go_simp
  refine (HN.out _ hb).mono ?_
  rintro e w3 ⟨Q, y, m, d, wd, rfl, hQ, hQz, hb3⟩
  go_simp
  refine hK _ _ ?_
  clear hK K s0
  have hS3 := hbel hS hb3
  have hF3 := hbel hF hb3
  have hbw : Below w.heap.size w w3 := hb.trans (hb3.mono hb.size)
  have hz := hb.size
  go_wp2
  go_ret
  have hbw4 := hbw.alloc hbw.size (.cells #[.pointer (some ⟨Q, 0, none⟩)] 202)
  have hQ4 := (Below.heap_alloc w3 (.cells #[.pointer (some ⟨Q, 0, none⟩)] 202) Q (hlt hQ)).trans hQ
  have hS4 := (Below.heap_alloc w3 (.cells #[.pointer (some ⟨Q, 0, none⟩)] 202) _ (hlt hS3)).trans hS3
  have hF4 := (Below.heap_alloc w3 (.cells #[.pointer (some ⟨Q, 0, none⟩)] 202) _ (hlt hF3)).trans hF3
  exact ⟨⟨Q, w3.heap.size, w.heap.size + 1 + 1, w.heap.size, y, m, d, wd, rfl, ⟨HT.out _ hbw4, hQ4, heap_alloc_new w3 _, hF4⟩, hS4, by omega, hbw.size, by omega, Nat.le_refl _⟩, hbw4⟩

set_option maxRecDepth 100000 in
set_option maxHeartbeats 8000000 in
theorem ruleDates_at (k : Int) (M : Nat) (n c F : Int) (w : World) (ht : Tab w) (h1 : -25567 ≤ n) (h2 : n ≤ 84005) (h3 : 0 ≤ c) (h4 : c < 86400) :
    Calls Tryz.prog 35 #[.agg #[.string ⟨#[120]⟩, .string ⟨#[]⟩, .int .i64 (n * 86400 + c), .bool false, .bool false, .int .i64 0, .int .i64 1, .int .i64 k, .int .i64 M, .int .i64 0, .bool false, .slice none 0 0, .slice none 0 0, .slice none 0 0, .slice none 0 0, .int .i64 0, .slice none 0 0, .slice none 0 0], .int .i64 F] w fun e w' => DatesAt w.heap.size k M n c F e w' ∧ Below w.heap.size w w' := by
  have HN : Hid (∀ wx, Below w.heap.size w wx → Calls Tryz.prog 77 #[.int .i64 (n * 86400 + c), rulA k M, .int .i64 F] wx fun e w' => DatesAt wx.heap.size k M n c F e w' ∧ Below wx.heap.size wx w') := fun wx hb => Dates_at k M n c F wx (ht.below hb) h1 h2 h3 h4
  clear h1 h2 h3 h4 ht
  go_enter Tryz.func35, Tryz.ntmps35
  go_wp2_with (go_at_call 77; refine (HN.out _ ((Below.refl _ _).alloc (Nat.le_refl _) _)).mono ?_; rintro e w3 ⟨⟨Q, X0, Yf, Zs, y, m, d, wd, rfl, hD, hZ, b1, b2, b3, b4⟩, hb3⟩)
  go_ret
  rw [World.size_alloc] at b1 b2 b3 b4
  exact ⟨⟨Q, X0, Yf, Zs, y, m, d, wd, rfl, hD, hZ, by omega, by omega, by omega, by omega⟩, ((Below.refl _ _).alloc (Nat.le_refl _) _).trans (hb3.mono (by simp))⟩
end Go.Proofs.YtmmnbdefkailpaaGreatDoor

/- Sorting and compacting what rises already. -/
namespace Go.Proofs.YtmmnbdefkailpaaGreatDoor
open Go.RowKit Go.Sort
set_option linter.unusedVariables false

theorem below_ahead (w : World) (n : Nat) (os : Array Obj) : Below w.heap.size w (grow (Sort.ahead w n) os) := Lib.below_grow _ w (Nat.le_refl _) n os
theorem sort_same (blk cap : Nat) (zs : List Int) (w : World) (hH : Holds (Value.int .i64) w blk 0 zs.toArray) (hblk : blk < w.heap.size) (hsz : zs.length < 4611686018427387904) (hs : zs.Pairwise (· < ·)) :
    Calls Tryz.prog 38 #[.slice (some ⟨blk, 0, none⟩) zs.length cap] w fun e w' => e = .returned (.tuple #[]) ∧ Below w.heap.size w w' := by
  refine (Tryz.slices_Sort_int blk 0 cap zs w hH hblk hsz).mono ?_
  rintro e w' ⟨rfl, n, os, rfl⟩
  have e1 : (zs.mergeSort fun x y => decide (x ≤ y)) = zs := List.mergeSort_of_pairwise (hs.imp (fun h => by simpa using Int.le_of_lt h))
  rw [e1]
  have e2 : putRow (Value.int .i64) (Sort.ahead w n) blk 0 zs.toArray = Sort.ahead w n := putRow_self _ _ _ _ _ hH
  rw [e2]
  exact ⟨rfl, below_ahead w n os⟩
theorem compact_rise : ∀ (zs : List Int), zs.Pairwise (· < ·) → Lib.compact zs = zs := by
  intro zs h
  refine Lib.compact_all zs ?_
  intro j hj
  by_cases h0 : j = 0
  · subst h0; exact Lib.keeps_lt_one _ _ (by omega)
  · refine Lib.keeps_pos ?_
    have e1 : zs.toArray[j]! = zs[j] := by simp [getElem!_pos, hj]
    have e2 : zs.toArray[j - 1]! = zs[j - 1] := by
      have : j - 1 < zs.length := by omega
      simp [getElem!_pos, this]
    rw [e1, e2]
    have := List.pairwise_iff_getElem.1 h (j - 1) j (by omega) hj (by omega)
    omega
theorem compact_same (blk cap : Nat) (zs : List Int) (w : World) (hH : Holds (Value.int .i64) w blk 0 zs.toArray) (hsz : zs.length ≤ 9223372036854775807) (hcap : zs.length ≤ cap) (hs : zs.Pairwise (· < ·)) :
    Calls Tryz.prog 39 #[.slice (some ⟨blk, 0, none⟩) zs.length cap] w fun e w' => e = .returned (.slice (some ⟨blk, 0, none⟩) zs.length cap) ∧ Below w.heap.size w w' := by
  refine (Tryz.slices_Compact_int blk 0 cap zs w hH hsz hcap).mono ?_
  rintro e w' ⟨rfl, q, rfl⟩
  rw [compact_rise zs hs, Nat.sub_self, List.replicate_zero, List.append_nil]
  have e2 : putRow (Value.int .i64) (Sort.ahead w q) blk 0 zs.toArray = Sort.ahead w q := putRow_self _ _ _ _ _ hH
  rw [e2]
  refine ⟨rfl, ?_⟩
  exact ⟨rfl, rfl, rfl, Nat.le_refl _, fun _ _ => rfl⟩
theorem own_len {w : World} {B : Nat} {v : Value} {m : Nat} {zs : List Int} (h : w.ownsRow B 3 1 v m (zs.map (Value.int .i64))) : zs.length = m := by
  have := h.1
  simpa using this
theorem own_holds {w : World} {zs : List Int} {g : Nat} {cur : Array Value} (h3 : w.heap[g]? = some (.cells cur 3 (0, 0))) (h6 : cur.toList.take (zs.length * 1) = zs.map (Value.int .i64)) : Holds (Value.int .i64) w g 0 zs.toArray := by
  intro j hj
  have hj' : j < zs.length := by simpa using hj
  rw [Nat.zero_add]
  refine ⟨?_, Lib.frozen_of_heap h3 j⟩
  have e1 : (cur.toList.take (zs.length * 1))[j]? = cur.toList[j]? := List.getElem?_take_of_lt (by omega)
  rw [h6] at e1
  have e2 : cur[j]? = some (.int .i64 zs[j]) := by
    have : cur[j]? = cur.toList[j]? := by simp
    rw [this, ← e1]
    simp [hj']
  have e3 : zs.toArray[j]! = zs[j] := by simp [getElem!_pos, hj']
  rw [e3]
  exact hc h3 j e2
theorem own_sort {w : World} {B : Nat} {v : Value} {m : Nat} {zs : List Int} (h : w.ownsRow B 3 1 v m (zs.map (Value.int .i64))) (hs : zs.Pairwise (· < ·)) (hm : m < 4611686018427387904) :
    Calls Tryz.prog 38 #[v] w fun e w' => e = .returned (.tuple #[]) ∧ Below w.heap.size w w' := by
  have hl := own_len h
  rcases h.2 with ⟨rfl, h0⟩ | ⟨g, cap, cur, rfl, h2, h3, h4, h5, h6, h7⟩
  · refine (Any.slices_Sort_int_none Tryz.lays189 none 0 w).mono ?_
    rintro e w' ⟨rfl, rfl⟩
    exact ⟨rfl, Below.refl _ _⟩
  · subst hl
    exact sort_same g cap zs w (own_holds h3 h7) (hlt h3) hm hs
theorem own_compact {w : World} {B : Nat} {v : Value} {m : Nat} {zs : List Int} (h : w.ownsRow B 3 1 v m (zs.map (Value.int .i64))) (hs : zs.Pairwise (· < ·)) (hm : m < 4611686018427387904) :
    Calls Tryz.prog 39 #[v] w fun e w' => e = .returned v ∧ Below w.heap.size w w' := by
  have hl := own_len h
  rcases h.2 with ⟨rfl, h0⟩ | ⟨g, cap, cur, rfl, h2, h3, h4, h5, h6, h7⟩
  · refine (Tryz.slices_Compact_int_empty none 0 w).mono ?_
    rintro e w' ⟨rfl, rfl⟩
    exact ⟨rfl, Below.refl _ _⟩
  · subst hl
    exact compact_same g cap zs w (own_holds h3 h7) (by omega) h4 hs
/-- the dates rise -/
theorem rise_all (k n c : Int) (hk : 1 ≤ k) (L : Nat) : ((List.range L).map (fun j : Nat => (n + k * j) * 86400 + c)).Pairwise (· < ·) := by
  rw [List.pairwise_map]
  refine List.Pairwise.imp ?_ List.pairwise_lt_range
  intro a b hab
  have : k * (a : Int) < k * b := Int.mul_lt_mul_of_pos_left (by omega) (by omega)
  omega
end Go.Proofs.YtmmnbdefkailpaaGreatDoor
