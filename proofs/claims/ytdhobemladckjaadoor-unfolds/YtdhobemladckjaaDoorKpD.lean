/- The law's harness: looks, sameTexts. -/
import Derived.Test.YtdhobemladckjaaDoorKpC
import Derived.Deep.RegionWith
import Derived.BigRegion
import Derived.Test.YtdhobemladckjaaDoorLnA
namespace Go.Proofs.YtdhobemladckjaaDoor
open Go.RowKit
set_option linter.unusedVariables false

/-- the block that a mark leaves -/
def mkO (x : Nat) : Obj := .cells #[.int .u8 126, .int .u8 x, .int .u8 0] 5
theorem mark_q (i : Nat) (w : World) (h : i < 8) : Calls Tryd.prog 18 #[.int .i64 ((i : Int) / 4)] w fun e w' => e = .returned (.string (mk (i / 4))) ∧ w' = w.alloc (mkO (i / 4)) := by
  by_cases h4 : i < 4
  · have e1 : (i : Int) / 4 = 0 := by omega
    have e2 : i / 4 = 0 := by omega
    rw [e1, e2]; exact mark_0 w
  · have e1 : (i : Int) / 4 = 1 := by omega
    have e2 : i / 4 = 1 := by omega
    rw [e1, e2]; exact mark_1 w

theorem wrap_q (i : Nat) (h : i < 8) : IntKind.i64.wrap ((i : Int) / 4) = (i : Int) / 4 := by
  have : i = 0 ∨ i = 1 ∨ i = 2 ∨ i = 3 ∨ i = 4 ∨ i = 5 ∨ i = 6 ∨ i = 7 := by omega
  rcases this with rfl | rfl | rfl | rfl | rfl | rfl | rfl | rfl <;> rfl

set_option maxRecDepth 100000 in
set_option maxHeartbeats 8000000 in
theorem looks_any (K B0 N : Nat) (tv : Value) (vs : List Value) (w : World) (hK : BkAt K tv w) (htx : w.ownsRow B0 22 1 tv N vs) (hN : N ≤ 8) (hM : ∀ i (h : i < vs.length), MarkedAt w vs[i] (mk (i / 4))) :
    Calls Tryd.prog 10 #[.pointer (some ⟨K, 0, none⟩)] w fun e w' => e = .returned (.bool true) ∧ Below w.heap.size w w' := by
  obtain ⟨ta, tcap, rfl⟩ := own_slice htx
  have hvl : vs.length = N := by have := htx.1; omega
  have hN' : (N : Int) ≤ 8 := by omega
  go_enter Tryd.func10, Tryd.ntmps10
  go_wp2
  go_loopw [3] (fun i wr => ∃ k : Nat, k ≤ N ∧ i = .int .i64 k ∧ Below w.heap.size w wr) (fun i _ => N - (intOf i).toNat)
  case atStart => exact ⟨0, Nat.zero_le _, rfl, Below.refl _ _⟩
  case round =>
    obtain ⟨i, hi, rfl, hbr⟩ := hrel
    have hKr : BkAt K (.slice ta N tcap) wr := by unfold BkAt; rw [hbr.block K (lt_of_heap hK)]; exact hK
    have ck0 : wr.cell? ⟨K, 0, none⟩ = some (.slice ta N tcap) := by rw [Lib.cell_of_heap hKr]; rfl
    have ck1 : wr.cell? ⟨K, 1, none⟩ = some (.slice none 0 0) := by rw [Lib.cell_of_heap hKr]; rfl
    have ck2 : wr.cell? ⟨K, 2, none⟩ = some (.slice none 0 0) := by rw [Lib.cell_of_heap hKr]; rfl
    have ck3 : wr.cell? ⟨K, 3, none⟩ = some (.slice none 0 0) := by rw [Lib.cell_of_heap hKr]; rfl
    by_cases hlt : i < N
    · have hlt' : (i : Int) < N := by omega
      obtain ⟨T, hta⟩ : ∃ T, ta = some ⟨T, 0, none⟩ := by
        rcases htx.2 with ⟨_, h0⟩ | ⟨g, cap, cur, hv, _⟩
        · omega
        · exact ⟨g, by simp only [Value.slice.injEq] at hv; exact hv.1⟩
      subst hta
      obtain ⟨xa, g, n, cap, hv, hn5, hcs⟩ := hM i (by omega)
      have hvi : vs[i]? = some (.slice xa n cap) := by rw [List.getElem?_eq_getElem (by omega), hv]
      have ct0 := own_cells htx i _ hvi
      have hTlt : T < w.heap.size := World.block_lt_of_cell? _ _ ct0
      have ct : wr.cell? ⟨T, i, none⟩ = some (.slice xa n cap) := by rw [hbr.cell (p := ⟨T, i, none⟩) hTlt]; exact ct0
      have hn5' : (n : Int) ≤ 5000 := by omega
      clear hM hvi hv
      go_wp2
      go_loopw [4] (fun k wr => ∃ j : Nat, j ≤ n ∧ k = .int .i64 j ∧ Below w.heap.size w wr) (fun k _ => n - (intOf k).toNat)
      case atStart => exact ⟨0, Nat.zero_le _, rfl, hbr⟩
      case round =>
        obtain ⟨j, hj, rfl, hbs⟩ := hrel
        have hKs : BkAt K (.slice (some ⟨T, 0, none⟩) N tcap) wr := by unfold BkAt; rw [hbs.block K (lt_of_heap hK)]; exact hK
        have dk0 : wr.cell? ⟨K, 0, none⟩ = some (.slice (some ⟨T, 0, none⟩) N tcap) := by rw [Lib.cell_of_heap hKs]; rfl
        have dt : wr.cell? ⟨T, i, none⟩ = some (.slice xa n cap) := by rw [hbs.cell (p := ⟨T, i, none⟩) hTlt]; exact ct0
        by_cases hjl : j < n
        · have hjl' : (j : Int) < n := by omega
          obtain ⟨hxa, cs, hcs1, hcs2⟩ := hcs (by omega)
          subst hxa
          have hgw : w.cell? ⟨g, j, none⟩ = some (.string (mk (i / 4))) := by rw [Lib.cell_of_heap hcs1]; exact hcs2 j hjl
          have dg : wr.cell? ⟨g, j, none⟩ = some (.string (mk (i / 4))) := by rw [hbs.cell (p := ⟨g, j, none⟩) (World.block_lt_of_cell? _ _ hgw)]; exact hgw
          have hbm : Below w.heap.size w (wr.alloc (mkO (i / 4))) := hbs.alloc hbs.size _
          have ek0 : (wr.alloc (mkO (i / 4))).cell? ⟨K, 0, none⟩ = some (.slice (some ⟨T, 0, none⟩) N tcap) := by
            rw [World.cell?_alloc_lt _ _ ⟨K, 0, none⟩ (World.block_lt_of_cell? _ _ dk0)]; exact dk0
          have et : (wr.alloc (mkO (i / 4))).cell? ⟨T, i, none⟩ = some (.slice (some ⟨g, 0, none⟩) n cap) := by
            rw [World.cell?_alloc_lt _ _ ⟨T, i, none⟩ (World.block_lt_of_cell? _ _ dt)]; exact dt
          have eg : (wr.alloc (mkO (i / 4))).cell? ⟨g, j, none⟩ = some (.string (mk (i / 4))) := by
            rw [World.cell?_alloc_lt _ _ ⟨g, j, none⟩ (World.block_lt_of_cell? _ _ dg)]; exact dg
          have cM := fun wx => mark_q i wx (by omega)
          have hwq : IntKind.i64.wrap ((i : Int) / 4) = (i : Int) / 4 := wrap_q i (by omega)
          generalize mk (i / 4) = M at *
          generalize mkO (i / 4) = MO at *
          clear hcs hcs1 hcs2 ck0 ck1 ck2 ck3 ct hbr hKr hKs hgw hn5 hvl htx hK ct0 hTlt
          go_wp2
          go_region_with (go_at_call 18; refine (cM _).mono ?_; rintro e wx ⟨rfl, rfl⟩)
          all_goals
            go_wp2
            go_roundw
            case rel => go_light; exact ⟨j + 1, by omega, by go_num, hbm.drew⟩
            case measure => go_light; simp [intOf]; omega
        · go_wp2
          go_roundw
          case rel => go_light; exact ⟨i + 1, by omega, by go_num, hbs⟩
          case measure => go_light; simp [intOf]; omega
    · go_wp2
      go_loopw [5] (fun i wr => i = .int .i64 0 ∧ Below w.heap.size w wr) (fun _ _ => 0)
      case atStart => exact ⟨rfl, hbr⟩
      case round =>
        obtain ⟨rfl, hb2⟩ := hrel
        have hK2 : BkAt K (.slice ta N tcap) wr := by unfold BkAt; rw [hb2.block K (lt_of_heap hK)]; exact hK
        have ek1 : wr.cell? ⟨K, 1, none⟩ = some (.slice none 0 0) := by rw [Lib.cell_of_heap hK2]; rfl
        have ek2 : wr.cell? ⟨K, 2, none⟩ = some (.slice none 0 0) := by rw [Lib.cell_of_heap hK2]; rfl
        have ek3 : wr.cell? ⟨K, 3, none⟩ = some (.slice none 0 0) := by rw [Lib.cell_of_heap hK2]; rfl
        go_wp2
        go_loopw [7] (fun i wr => i = .int .i64 0 ∧ Below w.heap.size w wr) (fun _ _ => 0)
        case atStart => exact ⟨rfl, hb2⟩
        case round =>
          obtain ⟨rfl, hb3⟩ := hrel
          have hK3 : BkAt K (.slice ta N tcap) wr := by unfold BkAt; rw [hb3.block K (lt_of_heap hK)]; exact hK
          have fk2 : wr.cell? ⟨K, 2, none⟩ = some (.slice none 0 0) := by rw [Lib.cell_of_heap hK3]; rfl
          have fk3 : wr.cell? ⟨K, 3, none⟩ = some (.slice none 0 0) := by rw [Lib.cell_of_heap hK3]; rfl
          go_wp2
          go_loopw [9] (fun i wr => i = .int .i64 0 ∧ Below w.heap.size w wr) (fun _ _ => 0)
          case atStart => exact ⟨rfl, hb3⟩
          case round =>
            obtain ⟨rfl, hb4⟩ := hrel
            have hK4 : BkAt K (.slice ta N tcap) wr := by unfold BkAt; rw [hb4.block K (lt_of_heap hK)]; exact hK
            have gk3 : wr.cell? ⟨K, 3, none⟩ = some (.slice none 0 0) := by rw [Lib.cell_of_heap hK4]; rfl
            go_wp2
            go_ret
            exact ⟨rfl, hb4⟩
end Go.Proofs.YtdhobemladckjaaDoor
