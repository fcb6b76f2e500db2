/- The walk of the law Folds. -/
import Derived.Test.YtdhobemladckjaaDoorProgC
import Derived.Laws.CopyOwn
import Derived.Deep.OwnRows
namespace Go.Proofs.YtdhobemladckjaaDoor
open Go.RowKit
set_option linter.unusedVariables false

theorem strInfo : (Tryd.prog.info? 9).map (fun i => (i.zero, i.size, i.bytes)) = some (some (.string ⟨#[]⟩), 1, 16) := by kernel_rfl
theorem strSize : (Tryd.prog.info? 9).map (·.size) = some 1 := by kernel_rfl

theorem foT_a : foT (lns [⟨#[97]⟩]) = [97, 13, 10] := by decide +kernel
theorem foE_a : foE (lns [⟨#[97]⟩]) = 0 := by decide +kernel

/-- the mark -/
def tilde : ByteArray := ⟨#[126]⟩

theorem getElem?_set_mark (cs : Array Value) (k j : Nat) (hk : k < cs.size) : (cs.setIfInBounds k (.string ⟨#[126]⟩))[j]? = if k = j then some (.string ⟨#[126]⟩) else cs[j]? := by
  rw [Array.getElem?_setIfInBounds]
  by_cases h : k = j
  · subst h; simp [hk]
  · simp [h]

set_option maxRecDepth 100000 in
set_option maxHeartbeats 2000000 in
theorem folds_walk (xa : Option Addr) (xb xo xc : Nat) (ss : List ByteArray) (w : World) (hp : Prep w) (hxa : 0 < ss.length → xa = some ⟨xb, xo, none⟩)
    (hn : 16 * ss.length ≤ 140737488351232) (hz : ∀ j (h : j < ss.length), (ss[j]).size ≤ maxLen) (hy : ∀ j (h : j < ss.length), w.cell? ⟨xb, xo + j, none⟩ = some (.string ss[j])) :
    Calls Tryd.prog 4 #[.slice xa ss.length xc] w fun e w' => e = .returned (.bool true) ∧ Below w.heap.size w w' := by
  have hnm : ss.length ≤ maxLen := by unfold maxLen; omega
  -- the first call
  have c1 := Fold_any (some ⟨w.heap.size, 0, none⟩) w.heap.size 0 1 [⟨#[97]⟩] (w.alloc (.cells #[.string ⟨#[97]⟩] 9)) (hp.below (B := w.heap.size) hp.size ((Below.refl _ _).alloc (Nat.le_refl _) _)) (fun _ => rfl) (by decide)
    (fun j h => by
      have : j = 0 := by simp at h; exact h
      subst this; show (1 : Nat) ≤ maxLen; decide)
    (fun j h => by
      have : j = 0 := by simp at h; exact h
      subst this; simp)
  rw [foT_a, foE_a] at c1
  have hmk := run_make_row' (P := Tryd.prog) 22 9 (.string ⟨#[]⟩) 16 Tryd.underlying22 strInfo rfl .i64 .i64 (ss.length + 8) (by omega) (by omega)
  have ec : ((ss.length + 8 : Nat) : Int) = (ss.length : Int) + 8 := by omega
  rw [ec] at hmk
  clear ec
  have hsl : ∀ wx, (binOp .eql 22 (.slice xa ss.length xc) (.slice none 0 0)).run Tryd.prog wx = .ok (.bool xa.isNone) wx := fun wx => Lib.run_eql_slice_nil wx 22 9 xa _ _ 0 0 Tryd.underlying22
  go_enter Tryd.func4, Tryd.ntmps4
  go_wp2_with (go_at_call 11; refine c1.mono ?_; rintro e w1 ⟨rfl, hb1⟩)
  have hl1 : Below w.heap.size w w1 := ((Below.refl _ _).alloc (Nat.le_refl _) _).trans (hb1.mono (by simp))
  clear c1 hb1
  have hG0 : Hid (w1.heap.size = w1.heap.size) := rfl
  go_loopw [6] (fun i wr => ∃ (k : Nat) (cs : Array Value), k ≤ ss.length + 8 ∧ i = .int .i64 k ∧ cs.size = ss.length + 8 ∧ (∀ j, j < k → cs[j]? = some (.string ⟨#[126]⟩)) ∧ wr = w1.alloc (.cells cs 9)) (fun i _ => ss.length + 8 - (intOf i).toNat)
  case atStart => exact ⟨0, _, Nat.zero_le _, rfl, by simp [madeCells], by intro j hj; omega, rfl⟩
  case round =>
    obtain ⟨k, cs, hk, rfl, hcs, hmark, rfl⟩ := hrel
    have HM : Hid (∀ j, j < k → cs[j]? = some (.string ⟨#[126]⟩)) := hmark
    have HCS : Hid (cs.size = ss.length + 8) := hcs
    clear hmark
    by_cases hlt : k < ss.length + 8
    · have hlt' : (k : Int) < ss.length + 8 := by omega
      obtain ⟨v0, hv0⟩ : ∃ v0, cs[k]? = some v0 := ⟨cs[k]'(by omega), Array.getElem?_eq_getElem (by omega)⟩
      clear hcs
      go_wp2
      go_roundw
      case rel =>
        go_light
        refine ⟨k + 1, cs.setIfInBounds k (.string ⟨#[126]⟩), by omega, by go_num, by simp [HCS.out], ?_, rfl⟩
        intro j hj
        rw [getElem?_set_mark cs k j (by rw [HCS.out]; omega)]
        by_cases h : k = j
        · rw [if_pos h]
        · rw [if_neg h]; exact HM.out j (by omega)
      case measure => go_light; simp [intOf]; omega
    · have hke : k = ss.length + 8 := by omega
      subst hke
      have hl2 : Below w.heap.size w (w1.alloc (.cells cs 9)) := hl1.alloc hl1.size _
      have hb2 : (w1.alloc (.cells cs 9)).heap[w1.heap.size]? = some (.cells cs.toList.toArray 9 (0, 0)) := by rw [Array.toArray_toList]; exact heap_alloc_new w1 _
      have hsrc : 0 < (ss.map Value.string).length → some (⟨w1.heap.size, 0, none⟩ : Addr) = some ⟨w1.heap.size, 0, none⟩ ∧ ∃ ad, xa = some ad ∧ ∀ j v, (ss.map Value.string)[j]? = some v → (w1.alloc (.cells cs 9)).cell? (ad.add j) = some v := by
        intro h0
        rw [List.length_map] at h0
        refine ⟨rfl, _, hxa h0, ?_⟩
        intro j v hv
        rw [List.getElem?_map, Option.map_eq_some_iff] at hv
        obtain ⟨s0, hs0, rfl⟩ := hv
        obtain ⟨hj, rfl⟩ := List.getElem?_eq_some_iff.1 hs0
        have h1 := hy j hj
        have hxb : xb < w.heap.size := World.block_lt_of_cell? _ _ h1
        have : (⟨xb, xo, none⟩ : Addr).add j = ⟨xb, xo + j, none⟩ := by simp [Addr.add]
        rw [this, hl2.cell (p := ⟨xb, xo + j, none⟩) hxb]
        exact h1
      have H1 : Hid ((ss.map Value.string).length = Nat.min ss.length (ss.length + 8)) := by
        show _ = _
        rw [List.length_map]; exact (Nat.min_eq_left (by omega)).symm
      have H2 : Hid (0 + (ss.map Value.string).length ≤ cs.toList.length) := by
        show _ ≤ _
        have h9 : cs.toList.length = cs.size := Array.length_toList
        rw [List.length_map, h9, HCS.out]; omega
      have H3 : Hid (∀ v ∈ ss.map Value.string, v.oneCell' = true) := by
        intro v hv
        obtain ⟨s0, _, rfl⟩ := List.mem_map.1 hv
        rfl
      go_wp2_with (refine wpList_copy_splice rfl (.tmp 32) (.tmp 33) 22 22 rfl 9 Tryd.underlying22 strSize (some ⟨w1.heap.size, 0, none⟩) xa (ss.length + 8) (ss.length + 8) ss.length xc rfl rfl w1.heap.size 0 cs.toList 9 hb2 (ss.map Value.string) H1.out hsrc H2.out H3.out w.heap.size w hl2 hl1.size ?_)
      intro w2 HW hl3
      have hGc : ∀ j, j < ss.length + 8 → w2.cell? ⟨w1.heap.size, j, none⟩ = some (.string (if h : j < ss.length then ss[j] else ⟨#[126]⟩)) := by
        intro j hj
        rw [Lib.cell_of_heap HW.out, List.getElem?_toArray]
        unfold splice
        rw [List.take_zero, List.nil_append, Nat.zero_add]
        by_cases h : j < ss.length
        · rw [dif_pos h, List.getElem?_append_left (by simpa using h)]
          simp [h]
        · rw [dif_neg h, List.getElem?_append_right (by simpa using Nat.le_of_not_lt h), List.getElem?_drop, List.length_map]
          rw [show ss.length + (j - ss.length) = j by omega, Array.getElem?_toList]
          exact HM.out j hj
      have hGlt : w1.heap.size < w2.heap.size := World.block_lt_of_cell? _ _ (hGc 0 (by omega))
      have hp2 : Prep w2 := hp.below hp.size hl3
      have hxlt : ∀ j (h : j < ss.length), xb < w.heap.size := fun j h => World.block_lt_of_cell? _ _ (hy j h)
      have cR := fun wx (hb : Below w.heap.size w wx) => rFold_any xa xb xo xc ss wx hxa hnm hz (fun j h => by rw [hb.cell (p := ⟨xb, xo + j, none⟩) (hxlt j h)]; exact hy j h)
      have hwle : w.heap.size ≤ w2.heap.size := hl3.size
      have HY : Hid (∀ j (h : j < ss.length), w.cell? ⟨xb, xo + j, none⟩ = some (.string ss[j])) := hy
      have HXA : Hid (0 < ss.length → xa = some ⟨xb, xo, none⟩) := hxa
      have HGC : Hid (∀ j, j < ss.length + 8 → w2.cell? ⟨w1.heap.size, j, none⟩ = some (.string (if h : j < ss.length then ss[j] else ⟨#[126]⟩))) := hGc
      have cF1 := Fold_any (some ⟨w1.heap.size, 0, none⟩) w1.heap.size 0 (ss.length + 8) ss w2 hp2 (fun _ => rfl) hnm hz (fun j h => by rw [Nat.zero_add, hGc j (by omega), dif_pos h])
      have cF0 := Fold_any none 0 0 0 [] w2 hp2 (fun h => absurd h (by simp)) (by unfold maxLen; decide) (fun j h => absurd h (by simp)) (fun j h => absurd h (by simp))
      have hss : xa = none → ss = [] := fun h => by
        rcases Nat.eq_zero_or_pos ss.length with h0 | h0
        · exact List.length_eq_zero_iff.1 h0
        · rw [hxa h0] at h; exact absurd h (by simp)
      have hT0 : xa = none → foT (lns []) = foT (lns ss) ∧ foE (lns []) = foE (lns ss) := fun h => by rw [hss h]; exact ⟨rfl, rfl⟩
      clear hy hxa hGc hz hsrc hb2 hmk H1 H2 H3
      generalize foT (lns ss) = FT at *
      generalize foE (lns ss) = FE at *
      rcases xa with _ | A
      · rw [(hT0 rfl).1, (hT0 rfl).2] at cF0
        have hHss : Hid (ss = []) := hss rfl
        clear hT0 hss cF1
        go_wp2_with (first | (go_at_call 11; refine cF0.mono ?_; rintro e w3 ⟨rfl, hb3⟩; have hl4 := hl3.trans (hb3.mono hwle)) | (go_at_call 12; refine (cR _ hl4).mono ?_; rintro e w4 ⟨rfl, rfl⟩))
        go_loop [12] (fun i => ∃ k : Nat, k ≤ ss.length + 8 ∧ i = .int .i64 k) (fun i => ss.length + 8 - (intOf i).toNat)
        case atStart => exact ⟨0, Nat.zero_le _, rfl⟩
        case round =>
          obtain ⟨k, hk, rfl⟩ := hrel
          by_cases hlt2 : k < ss.length + 8
          · have hlt3 : (k : Int) < ss.length + 8 := by omega
            have hc1 := (hb3.cell (p := ⟨w1.heap.size, k, none⟩) hGlt).trans (HGC.out k hlt2)
            by_cases hkn : k < ss.length
            · have := hHss.out; rw [this] at hkn; simp at hkn
            · have hkn' : ¬ (k : Int) < ss.length := by omega
              rw [dif_neg hkn] at hc1
              go_wp2
              go_round
              case rel => go_light; exact ⟨k + 1, by omega, by go_num⟩
              case measure => go_light; simp [intOf]; omega
          · go_wp2
            go_ret
            exact ⟨rfl, hl4⟩
      · clear hT0 hss cF0
        go_wp2_with (first | (go_at_call 11; refine cF1.mono ?_; rintro e w3 ⟨rfl, hb3⟩; have hl4 := hl3.trans (hb3.mono hwle)) | (go_at_call 12; refine (cR _ hl4).mono ?_; rintro e w4 ⟨rfl, rfl⟩))
        go_loop [12] (fun i => ∃ k : Nat, k ≤ ss.length + 8 ∧ i = .int .i64 k) (fun i => ss.length + 8 - (intOf i).toNat)
        case atStart => exact ⟨0, Nat.zero_le _, rfl⟩
        case round =>
          obtain ⟨k, hk, rfl⟩ := hrel
          by_cases hlt2 : k < ss.length + 8
          · have hlt3 : (k : Int) < ss.length + 8 := by omega
            have hc1 := (hb3.cell (p := ⟨w1.heap.size, k, none⟩) hGlt).trans (HGC.out k hlt2)
            by_cases hkn : k < ss.length
            · obtain rfl : A = ⟨xb, xo, none⟩ := Option.some.inj (HXA.out (by omega))
              have hkn' : (k : Int) < ss.length := by omega
              have hc2 := (hl4.cell (p := ⟨xb, xo + k, none⟩) (hxlt k hkn)).trans (HY.out k hkn)
              rw [dif_pos hkn] at hc1
              generalize ss[k] = S at *
              go_wp2
              go_round
              case rel => go_light; exact ⟨k + 1, by omega, by go_num⟩
              case measure => go_light; simp [intOf]; omega
            · have hkn' : ¬ (k : Int) < ss.length := by omega
              rw [dif_neg hkn] at hc1
              go_wp2
              go_round
              case rel => go_light; exact ⟨k + 1, by omega, by go_num⟩
              case measure => go_light; simp [intOf]; omega
          · go_wp2
            go_ret
            exact ⟨rfl, hl4⟩
end Go.Proofs.YtdhobemladckjaaDoor
