/- Package lines: fold, Fold. -/
import Derived.Test.YtdhobemladckjaaDoorProgB
import Derived.Deep.QuietTactic
import Derived.BigQuiet
namespace Go.Proofs.YtdhobemladckjaaDoor
open Go.RowKit
set_option linter.unusedVariables false

theorem below_drewN {B : Nat} {a w : World} (h : Below B a w) : ∀ n, Below B a (w.drewN n) := by
  intro n
  exact ⟨h.os, h.tape, h.output, h.size, h.block⟩
theorem isErr_no {v : Value} (h : isErr false v) : ∃ t a, v = .iface t (.pointer (some a)) := h.elim (fun h => absurd h.1 (by simp)) (fun h => h.2)
theorem isErr_yes {v : Value} (h : isErr true v) : v = .nilIface := h.elim (fun h => h.2) (fun h => absurd h.1 (by simp))

set_option maxRecDepth 100000 in
set_option maxHeartbeats 1000000 in
theorem fold_any (xa : Option Addr) (xb xo xc : Nat) (ss : List ByteArray) (w : World) (hp : Prep w) (hxa : 0 < ss.length → xa = some ⟨xb, xo, none⟩)
    (hn : ss.length ≤ maxLen) (hz : ∀ j (h : j < ss.length), (ss[j]).size ≤ maxLen) (hy : ∀ j (h : j < ss.length), w.cell? ⟨xb, xo + j, none⟩ = some (.string ss[j])) :
    Calls Tryd.prog 19 #[.slice xa ss.length xc] w fun e w' => ∃ v, e = .returned (.tuple #[.string ⟨(foT (lns ss)).toArray⟩, v]) ∧ isErr (fo [] (lns ss)).isSome v ∧ Below w.heap.size w w' := by
  have hn' := hn
  unfold maxLen at hn
  have hb0 : Bl w.heap.size w.heap.size [] (w.alloc (.cells #[.pointer none, .slice none 0 0] 74)) := Lib.fresh_isBuilder 74 5 w
  have hl0 : Below w.heap.size w (w.alloc (.cells #[.pointer none, .slice none 0 0] 74)) := (Below.refl _ _).alloc (Nat.le_refl _) _
  go_enter Tryd.func19, Tryd.ntmps19
  go_wp2
  go_loopw [10] (fun i wr => ∃ (k : Nat) (acc : List UInt8), k ≤ ss.length ∧ i = .int .i64 k ∧ acc.length ≤ 4000 ∧ Bl w.heap.size w.heap.size acc wr ∧ Below w.heap.size w wr ∧ fo [] (lns ss) = fo acc ((lns ss).drop k)) (fun i _ => ss.length - (intOf i).toNat)
  case atStart => exact ⟨0, [], Nat.zero_le _, rfl, by simp, hb0, hl0, by simp⟩
  case round =>
    obtain ⟨k, acc, hk, rfl, hacc, hbr, hlr, hf⟩ := hrel
    by_cases hlt : k < ss.length
    · obtain rfl := hxa (by omega)
      have hcell := hy k hlt
      have hxb : xb < w.heap.size := World.block_lt_of_cell? _ _ hcell
      have hcell' : wr.cell? ⟨xb, xo + k, none⟩ = some (.string ss[k]) := by rw [hlr.cell (p := ⟨xb, xo + k, none⟩) hxb]; exact hcell
      have hsz := hz k hlt
      rw [fo_drop _ _ _ hlt] at hf
      generalize hS : ss[k] = S at *
      have hpr := hp.below hp.size hlr
      have hlt' : (k : Int) < ss.length := by omega
      have cC := checkWhole_any S wr hsz hpr
      cases hok : okl S.data.toList
      · have HF : Hid (fo [] (lns ss) = none) := by rw [hf, hok]; exact rfl
        rw [hok] at cC
        clear hf hS hy hz
        go_wp2_with (go_at_call 28; refine cC.mono ?_; rintro e w2 ⟨v, rfl, hv, hb2⟩; obtain ⟨tv, av, rfl⟩ := isErr_no hv)
        go_ret2
        have HB := fo_bad HF.out
        rw [HB.1]
        refine ⟨_, rfl, .inr ⟨by rw [HF.out]; rfl, _, _, rfl⟩, ?_⟩
        exact (hlr.trans (hb2.mono (by have := hlr.size; omega))).alloc (by have := hlr.size; have := hb2.size; omega) _
      · have HF : Hid (fo [] (lns ss) = if 4000 < (acc ++ (gr 75 S.data.toList ++ [13, 10])).length then none else fo (acc ++ (gr 75 S.data.toList ++ [13, 10])) ((lns ss).drop (k + 1))) := by rw [hf, if_pos hok]; exact rfl
        rw [hok] at cC
        clear hf hS hy hz
        obtain ⟨o1, o2, o3⟩ := okl_parts hok
        rw [len_data] at o3
        go_wp2_with (go_at_call 28; refine cC.mono ?_; rintro e w2 ⟨v, rfl, hv, hb2⟩; obtain rfl := isErr_yes hv)
        have hlr2 : Below w.heap.size w w2 := hlr.trans (hb2.mono (by have := hlr.size; omega))
        have hbr2 := isBuilder_below hbr hb2
        have hsz2 : w.heap.size ≤ w2.heap.size := hlr2.size
        have cW := write_any w.heap.size w.heap.size acc S w2 hbr2 hacc hsz2 o3 (cln_valid o1).1
        refine cW.mono ?_
        rintro e w3 ⟨rfl, hb3, hl3⟩
        have hlr3 : Below w.heap.size w w3 := hlr2.trans hl3
        have cL := Builder_Len w.heap.size w.heap.size _ w3 hb3
        rw [Lib.byteCells_length] at cL
        generalize hA : acc ++ (gr 75 S.data.toList ++ [13, 10]) = A at *
        obtain ⟨t0, a0, e0⟩ := (hp.below hp.size hlr3).e0
        by_cases hbig : (4000 : Int) < A.length
        · have HF2 : Hid (fo [] (lns ss) = none) := by rw [HF.out, if_pos (by omega)]; exact rfl
          go_wp2_with (go_at_call 30; refine cL.mono ?_; rintro e w4 ⟨rfl, rfl⟩)
          go_quiet (fail)
          go_wp2
          go_ret2
          have HB := fo_bad HF2.out
          rw [HB.1]
          refine ⟨_, rfl, .inr ⟨by rw [HF2.out]; rfl, _, _, rfl⟩, ?_⟩
          exact below_drewN hlr3 _
        · have HF2 : Hid (fo [] (lns ss) = fo A ((lns ss).drop (k + 1))) := by rw [HF.out, if_neg (by omega)]; exact rfl
          go_wp2_with (go_at_call 30; refine cL.mono ?_; rintro e w4 ⟨rfl, rfl⟩)
          go_roundw
          case rel =>
            go_light
            exact ⟨k + 1, A, by omega, by go_num, by omega, hb3, hlr3, HF2.out⟩
          case measure => go_light; simp [intOf]; omega
    · have hke : (lns ss).drop k = [] := List.drop_of_length_le (by simp; omega)
      have HF : Hid (fo [] (lns ss) = some acc) := by rw [hf, hke]; exact rfl
      clear hf hke
      have cS := Builder_String_any w.heap.size w.heap.size acc wr hbr (hlr.size)
      go_wp2_with (go_at_call 31; refine cS.mono ?_; rintro e w4 ⟨rfl, hb4⟩)
      go_ret2
      have HB := fo_good HF.out
      rw [HB.1]
      exact ⟨_, rfl, .inl ⟨by rw [HF.out]; rfl, rfl⟩, hlr.trans hb4⟩

set_option maxRecDepth 100000 in
set_option maxHeartbeats 1000000 in
theorem Fold_any (xa : Option Addr) (xb xo xc : Nat) (ss : List ByteArray) (w : World) (hp : Prep w) (hxa : 0 < ss.length → xa = some ⟨xb, xo, none⟩)
    (hn : ss.length ≤ maxLen) (hz : ∀ j (h : j < ss.length), (ss[j]).size ≤ maxLen) (hy : ∀ j (h : j < ss.length), w.cell? ⟨xb, xo + j, none⟩ = some (.string ss[j])) :
    Calls Tryd.prog 11 #[.slice xa ss.length xc] w fun e w' => e = .returned (.tuple #[.string ⟨(foT (lns ss)).toArray⟩, .int .i64 (foE (lns ss))]) ∧ Below w.heap.size w w' := by
  have cF := fold_any xa xb xo xc ss w hp hxa hn hz hy
  unfold foE
  cases hs : (fo [] (lns ss)).isSome
  · have hT : foT (lns ss) = [] := by
      unfold foT; rw [Option.isSome_eq_false_iff, Option.isNone_iff_eq_none] at hs; rw [hs]; rfl
    rw [hs] at cF
    rw [hT] at cF ⊢
    go_enter Tryd.func11, Tryd.ntmps11
    go_wp2_with (go_at_call 19; refine cF.mono ?_; rintro e w2 ⟨v, rfl, hv, hb2⟩; obtain ⟨tv, av, rfl⟩ := isErr_no hv)
    go_ret2
    exact ⟨rfl, hb2⟩
  · rw [hs] at cF
    generalize (foT (lns ss)).toArray = T at *
    go_enter Tryd.func11, Tryd.ntmps11
    go_wp2_with (go_at_call 19; refine cF.mono ?_; rintro e w2 ⟨v, rfl, hv, hb2⟩; obtain rfl := isErr_yes hv)
    go_ret2
    exact ⟨rfl, hb2⟩
end Go.Proofs.YtdhobemladckjaaDoor
