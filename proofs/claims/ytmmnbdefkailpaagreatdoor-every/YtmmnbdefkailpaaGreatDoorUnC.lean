/- Package lines: unfold. -/
import Derived.Test.YtmmnbdefkailpaaGreatDoorUnA
import Derived.Deep.LoopGhost
import Derived.RegionTactic
import Derived.Maps.AppendAt
import Derived.Laws.AppendOwn

namespace Go.Proofs.YtmmnbdefkailpaaGreatDoor.Ln
open Go.RowKit
set_option linter.unusedVariables false

theorem strInfo' : (Tryz.prog.info? 9).map (fun i => (i.zero, i.size, i.bytes)) = some (some (.string ⟨#[]⟩), 1, 16) := by kernel_rfl

/-- a store into a row of one's own -/
theorem own_set {w : World} {B : Nat} {e : TypeId} {g n cap q : Nat} {xs : List Value} (h : w.ownsRow B e 1 (.slice (some ⟨g, 0, none⟩) n cap) n xs) (hq : q < n) (v : Value) :
    (w.setCell ⟨g, q, none⟩ v).ownsRow B e 1 (.slice (some ⟨g, 0, none⟩) n cap) n (xs.set q v) := by
  obtain ⟨hl, h⟩ := h
  refine ⟨by rw [List.length_set]; exact hl, .inr ?_⟩
  rcases h with ⟨h0, _⟩ | ⟨g', cap', cur, h1, h2, h3, h4, h5, h6, h7⟩
  · simp at h0
  · simp only [Value.slice.injEq, Option.some.injEq, Addr.mk.injEq, and_true, true_and] at h1
    obtain ⟨rfl, rfl⟩ := h1
    refine ⟨g, cap, cur.setIfInBounds q v, rfl, h2, heap_setCell_same w g q cur e v h3, h4, h5, by simpa using h6, ?_⟩
    rw [← h7, Array.toList_setIfInBounds, List.take_set]

theorem own_cells {w : World} {B : Nat} {e : TypeId} {g n cap : Nat} {xs : List Value} (h : w.ownsRow B e 1 (.slice (some ⟨g, 0, none⟩) n cap) n xs) (j : Nat) (u : Value) (hu : xs[j]? = some u) : w.cell? ⟨g, j, none⟩ = some u := by
  have := h.cells (g := g) rfl j u hu
  rw [Addr.add_lit] at this
  simpa using this
theorem own_free {w : World} {B : Nat} {e : TypeId} {g n cap : Nat} {xs : List Value} (h : w.ownsRow B e 1 (.slice (some ⟨g, 0, none⟩) n cap) n xs) (j : Nat) : w.frozen? ⟨g, j, none⟩ = false := by
  obtain ⟨hl, h⟩ := h
  rcases h with ⟨h0, _⟩ | ⟨g', cap', cur, h1, h2, h3, h4, h5, h6, h7⟩
  · simp at h0
  · simp only [Value.slice.injEq, Option.some.injEq, Addr.mk.injEq, and_true, true_and] at h1
    obtain ⟨rfl, rfl⟩ := h1
    exact Lib.frozen_of_heap h3 j

/-- what unfold and Unfold tell of a text -/
def unN (s : List UInt8) : Nat := if 4000 < s.length then 0 else (un 1 [] s).1
def unBad (s : List UInt8) : Bool := decide (4000 < s.length) || decide ((un 1 [] s).1 ≠ 0)

structure Prep3 (w : World) : Prop where
  two : Prep2 w
  eL : ∃ a, w.cell? ⟨1, 0, none⟩ = some (.iface 377 (.pointer (some a)))
theorem Prep3.below {w w' : World} (h : Prep3 w) {B : Nat} (hB : 35 ≤ B) (hb : Below B w w') : Prep3 w' where
  two := h.two.below hB hb
  eL := by obtain ⟨a, h0⟩ := h.eL; exact ⟨a, by rw [hb.cell (p := ⟨1, 0, none⟩) (by show 1 < B; omega)]; exact h0⟩

theorem un_bad {num : Nat} {acc : List (List UInt8)} {s : List UInt8} (hne : s ≠ []) (h : badLine num s = true) : un num acc s = (num, []) := by rw [un_step _ _ _ hne, if_pos h]
theorem un_good {num : Nat} {acc : List (List UInt8)} {s : List UInt8} (hne : s ≠ []) (h : badLine num s = false) :
    un num acc s = un (num + 1) (if goes (s.take (lf s - 1)) = true then onLast acc ((s.take (lf s - 1)).drop 1) else acc ++ [s.take (lf s - 1)]) (s.drop (lf s + 1)) := by
  rw [un_step _ _ _ hne, h]; rfl
theorem bad_goes {s : List UInt8} (h : badLine 1 s = false) : goes (s.take (lf s - 1)) = false := by
  unfold badLine at h
  simp only [Bool.or_eq_false_iff] at h
  have := h.2
  simpa using this

set_option maxRecDepth 100000 in
set_option maxHeartbeats 1000000 in
theorem unfold_long (s : ByteArray) (w : World) (hs : s.size ≤ maxLen) (hp : Prep3 w) (hl : (4000 : Int) < s.size) :
    Calls Tryz.prog 26 #[.string s] w fun e w' => Below w.heap.size w w' ∧ ∃ a, e = .returned (.tuple #[.slice none 0 0, .iface 377 (.pointer (some a))]) := by
  obtain ⟨a, h0⟩ := hp.eL
  unfold maxLen at hs
  go_enter Tryz.func26, Tryz.ntmps26
  go_wp2
  go_quiet (fail)
  go_wp2
  go_ret2
  exact ⟨below_drewN (Below.refl _ _) _, a, rfl⟩

set_option maxRecDepth 100000 in
set_option maxHeartbeats 2000000 in
theorem unfold_short (s : ByteArray) (w : World) (hp : Prep3 w) (hl : s.size ≤ 4000) :
    Calls Tryz.prog 26 #[.string s] w fun e w' => Below w.heap.size w w' ∧
      (((un 1 [] s.data.toList).1 ≠ 0 ∧ ∃ B tv av, w.heap.size ≤ B ∧ e = .returned (.tuple #[.slice none 0 0, .iface 108 (.pointer (some ⟨B, 0, none⟩))]) ∧ w'.heap[B]? = some (.cells #[.int .i64 (un 1 [] s.data.toList).1, .iface tv (.pointer (some av))] 111 (0, 0))) ∨
       ((un 1 [] s.data.toList).1 = 0 ∧ ∃ (v : Value) (ms : List ByteArray), e = .returned (.tuple #[v, .nilIface]) ∧ lns ms = (un 1 [] s.data.toList).2 ∧ w'.ownsRow w.heap.size 9 1 v ms.length (ms.map Value.string))) := by
  obtain ⟨i0, hi, hz0, hz1, hz2⟩ := info_parts strInfo'
  have hl' : ¬ (4000 : Int) < s.size := by omega
  have cC := clone_any s w hl
  go_enter Tryz.func26, Tryz.ntmps26
  go_wp2_with (first | (go_at_call 47; refine cC.mono ?_; rintro e w1 ⟨rfl, hb1⟩) | (go_at_call 46; refine (of_any _ _).mono ?_; rintro e w2 ⟨rfl, hb2⟩))
  have hbw2 : Below w.heap.size w w2 := hb1.trans (hb2.mono hb1.size)
  have hR : w.heap.size ≤ w2.heap.size := hbw2.size
  have h9 := hp.two.size
  have hbA : Below w.heap.size w (w2.alloc (.cells #[.int .i64 0, .string s] 102)) := hbw2.alloc hR _
  have hrA : RdAt w2.heap.size (0 : Nat) s (w2.alloc (.cells #[.int .i64 0, .string s] 102)) := heap_alloc_new w2 _
  have HW : Hid (Below w.heap.size w w2) := hbw2
  clear hb1 hb2 hbw2 cC
  go_loopg [5] (s.size + 1) (fun gk o wr => ∃ (p : Nat) (t : ByteArray) (acc : List ByteArray), t.size < gk ∧ p + t.size ≤ s.size ∧ RdAt w2.heap.size p t wr ∧ Below w.heap.size w wr ∧ wr.ownsRow w.heap.size 9 1 o acc.length (acc.map Value.string) ∧ acc.length ≤ p ∧ tot (lns acc) + t.size ≤ s.size ∧ (0 < p → acc ≠ []) ∧ un 1 [] s.data.toList = un (p + 1) (lns acc) t.data.toList)
  case atStart => exact ⟨0, s, [], Nat.lt_succ_self _, by omega, hrA, hbA, World.ownsRow_nil _ _ _ _, Nat.le_refl _, by simp [tot], fun h => absurd h (by omega), rfl⟩
  case round =>
    obtain ⟨p, t, acc, hgk, hpt, hrd, hbr, hown, hap, htot, hne, hun⟩ := hrel
    have cD := done_any w2.heap.size p t wr hrd
    by_cases h0 : 0 < t.size
    · have hde : t.toList.isEmpty = false := by
        rw [Lib.toList_data]; exact List.isEmpty_eq_false_iff.2 (data_ne t h0)
      have htn := data_ne t h0
      rw [hde] at cD
      have hpr := hp.below h9 hbr
      have cL := line_any w2.heap.size p t wr hrd (by omega) (by omega) (by omega) hpr.two
      cases hbad : badLine (p + 1) t.data.toList
      · have hgo := un_good (acc := lns acc) htn hbad
        have hq := badLine_cln hbad
        obtain ⟨Z, hZ⟩ : ∃ Z : ByteArray, Z = ⟨(t.data.toList.take (lf t.data.toList - 1)).toArray⟩ := ⟨_, rfl⟩
        have hZd : t.data.toList.take (lf t.data.toList - 1) = Z.data.toList := by rw [hZ]
        have hZs : Z.size ≤ t.size := by have := congrArg List.length hZd; rw [len_data, List.length_take, len_data] at this; omega
        have hZm : Z.size ≤ maxLen := by unfold maxLen; omega
        have hlt' : (left' t).data.toList = t.data.toList.drop (lf t.data.toList + 1) := by unfold left'; rw [cut_hit _ hq.2.1]
        have hls : (left' t).size + Z.size < t.size := by
          have h1 := congrArg List.length hlt'; rw [len_data, List.length_drop, len_data] at h1
          have h2 := congrArg List.length hZd; rw [len_data, List.length_take, len_data] at h2
          have h3 := hq.2.1; rw [len_data] at h3
          omega
        rw [hZd, ← hlt'] at hgo
        rw [← hZ] at cL
        have hbg : p = 0 → goes Z.data.toList = false := fun e => by subst e; rw [← hZd]; exact bad_goes hbad
        clear hZ hZd hlt' hq
        generalize left' t = T at *
        cases hg : goes Z.data.toList
        · have HU : Hid (un 1 [] s.data.toList = un (p + 1 + 1) (lns (acc ++ [Z])) T.data.toList) := by
            rw [hg] at hgo
            rw [hun, hgo]
            show un (p + 1 + 1) (lns acc ++ [Z.data.toList]) _ = _
            simp [lns]
          have ht2 : tot (lns (acc ++ [Z])) = tot (lns acc) + Z.size := by
            simp only [lns, List.map_append, List.map_cons, List.map_nil]
            rw [tot_append]; simp [tot]
          clear hun hgo
          have hRne := Lib.ownBlock_ne hown hrd (by decide)
          go_wp2_with (first | (go_at_call 48; refine cD.mono ?_; rintro e wd ⟨rfl, rfl⟩) | (go_at_call 49; refine cL.mono ?_; rintro e w3 ⟨hr3, hg3, he3⟩; obtain ⟨_, rfl⟩ := he3.resolve_left (fun hh => absurd (hbad.symm.trans hh.1) (by simp)); have hown3 := hown.kept hg3 (.inr hRne); have hb3 : Below w.heap.size w w3 := hbr.trans (below_gb hg3 hR (hbr.size))) | (go_at_call 51; refine (goesOn_any _ _ hZm).mono ?_; rintro e w4 ⟨rfl, rfl⟩) | (at_builtin; refine wpList_append_own _ rfl (.tmp 40) (.tmp 42) 43 rfl w.heap.size 9 i0 (.string ⟨#[]⟩) 1 16 Tryz.underlying43 hi hz0 hz1 hz2 rfl (by decide) _ _ _ rfl (hown3.alloc _) ⟨_, 0, none⟩ 1 1 [.string Z] rfl rfl (cell_one_new _ _ _) ?c1 ?c2 ?c3 ?c4 ?_))
          case c1 => intro u hu; simp at hu; subst hu; rfl
          case c2 => unfold maxLen; omega
          case c3 => omega
          case c4 => have := hb3.size; simp; omega
          intro v' w5 hown5 hgrow _
          have hne5 : some w2.heap.size ≠ Value.ownBlock u5 := fun e => hRne e.symm
          have hr5 : RdAt w2.heap.size ((p : Int) + 1) T w5 := by
            unfold RdAt
            rw [hgrow.block w2.heap.size (by have := hr3.lt; simp; omega) hne5, Lib.alloc_old _ _ _ hr3.lt]
            exact hr3
          have hb5 : Below w.heap.size w w5 := (hb3.alloc hb3.size _).grown hgrow (by have := hb3.size; simp; omega) (fun k hk => (hown.lt k hk).1)
          go_wp2
          go_roundg (T.size + 1)
          case measure => omega
          case rel =>
            go_light
            refine ⟨p + 1, T, acc ++ [Z], by omega, by omega, by rw [Int.natCast_add]; exact hr5, hb5, ?_, by simp; omega, by rw [ht2]; omega, fun _ => by simp, HU.out⟩
            simpa using hown5
        · have hp0 : 0 < p := by
            rcases Nat.eq_zero_or_pos p with e | e
            · have := hbg e; rw [hg] at this; exact absurd this (by simp)
            · exact e
          have hane := hne hp0
          obtain ⟨ini, lst, rfl⟩ : ∃ ini lst, acc = ini ++ [lst] := by
            rcases List.eq_nil_or_concat acc with e | ⟨i, a, e⟩
            · exact absurd e hane
            · exact ⟨i, a, by rw [e, List.concat_eq_append]⟩
          have hZ1 : (1 : Int) ≤ Z.size := by
            rcases Nat.eq_zero_or_pos Z.size with e | e
            · have : Z.data.toList = [] := List.length_eq_zero_iff.1 (by rw [len_data]; exact e)
              rw [this] at hg; exact absurd hg (by decide)
            · omega
          have HU : Hid (un 1 [] s.data.toList = un (p + 1 + 1) (lns (ini ++ [lst ++ Z.extract 1 Z.size])) T.data.toList) := by
            rw [hg] at hgo
            rw [hun, hgo]
            have e1 : lns (ini ++ [lst]) = lns ini ++ [lst.data.toList] := by simp [lns]
            have e2 : lns (ini ++ [lst ++ Z.extract 1 Z.size]) = lns ini ++ [lst.data.toList ++ Z.data.toList.drop 1] := by
              simp only [lns, List.map_append, List.map_cons, List.map_nil]
              rw [data_append, data_extract]
            rw [e1, e2]
            simp only [if_true]
            rw [onLast_snoc]
            exact rfl
          clear hun hgo hane hne
          have hRne := Lib.ownBlock_ne hown hrd (by decide)
          have hlen : (ini ++ [lst]).length = ini.length + 1 := by simp
          rw [hlen] at hown hap
          obtain ⟨g, cap, hv⟩ : ∃ g cap, u5 = .slice (some ⟨g, 0, none⟩) (ini.length + 1) cap := by
            rcases hown.2 with ⟨_, h0⟩ | ⟨g, cap, cur, hv, _⟩
            · omega
            · exact ⟨g, cap, hv⟩
          subst hv
          have ht1 : tot (lns (ini ++ [lst])) = tot (lns ini) + lst.size := by
            simp only [lns, List.map_append, List.map_cons, List.map_nil]
            rw [tot_append]; simp [tot]
          have ht2 : tot (lns (ini ++ [lst ++ Z.extract 1 Z.size])) ≤ tot (lns ini) + (lst.size + Z.size) := by
            simp only [lns, List.map_append, List.map_cons, List.map_nil]
            rw [tot_append]
            simp only [tot, Nat.add_zero]
            rw [data_append, data_extract, List.length_append, List.length_drop, len_data, len_data]; omega
          rw [ht1] at htot
          have HT : Hid (tot (lns (ini ++ [lst ++ Z.extract 1 Z.size])) ≤ tot (lns ini) + (lst.size + Z.size)) := ht2
          have hlst : lst.size ≤ 4000 := by omega
          have hZ4 : Z.size ≤ 4000 := by omega
          have hin4 : (ini.length : Int) ≤ 4000 := by omega
          clear ht1 ht2
          have hin : (0 : Int) ≤ ini.length := by omega
          go_wp2_with (first | (go_at_call 48; refine cD.mono ?_; rintro e wd ⟨rfl, rfl⟩) | (go_at_call 49; refine cL.mono ?_; rintro e w3 ⟨hr3, hg3, he3⟩; obtain ⟨_, rfl⟩ := he3.resolve_left (fun hh => absurd (hbad.symm.trans hh.1) (by simp)); have hown3 := hown.kept hg3 (.inr hRne); have hb3 : Below w.heap.size w w3 := hbr.trans (below_gb hg3 hR (hbr.size)); have hc3 := own_cells hown3 ini.length (.string lst) (by simp); have hf3 := own_free hown3 ini.length) | (go_at_call 51; refine (goesOn_any _ _ hZm).mono ?_; rintro e w4 ⟨rfl, rfl⟩))
          go_region
          go_wp2
          go_roundg (T.size + 1)
          case measure => omega
          case rel =>
            go_light
            have hset := own_set hown3 (Nat.lt_succ_self ini.length) (.string (lst ++ Z.extract 1 Z.size))
            have hgR : w2.heap.size ≠ g := fun e => hRne (by rw [e]; rfl)
            refine ⟨p + 1, T, ini ++ [lst ++ Z.extract 1 Z.size], by omega, by omega, ?_, ?_, ?_, by simp; omega, ?_, fun _ => by simp, HU.out⟩
            · rw [Int.natCast_add]
              have h8 : RdAt w2.heap.size ((p : Int) + 1) T (w4.setCell ⟨g, ini.length, none⟩ (.string (lst ++ Z.extract 1 Z.size))) := by
                unfold RdAt; rw [heap_setCell_other _ _ _ _ hgR]; exact hr3
              exact h8
            · exact (hb3.setCell (p := ⟨g, ini.length, none⟩) ((hown3.lt g rfl).1) _).drew
            · have e1 : (ini ++ [lst ++ Z.extract 1 Z.size]).length = ini.length + 1 := by simp
              have e2 : (ini ++ [lst ++ Z.extract 1 Z.size]).map Value.string = ((ini ++ [lst]).map Value.string).set ini.length (.string (lst ++ Z.extract 1 Z.size)) := by
                simp only [List.map_append, List.map_cons, List.map_nil]
                rw [List.set_append_right _ _ (by simp)]
                simp
              rw [e1, e2]
              exact hset
            · have := HT.out; omega
      · have HU : Hid (un 1 [] s.data.toList = (p + 1, [])) := by rw [hun, un_bad htn hbad]; exact rfl
        clear hun
        go_wp2_with (first | (go_at_call 48; refine cD.mono ?_; rintro e wd ⟨rfl, rfl⟩) | (go_at_call 49; refine cL.mono ?_; rintro e w3 ⟨hr3, hg3, he3⟩; obtain ⟨_, s0, tv, av, rfl⟩ := he3.resolve_right (fun hh => absurd (hbad.symm.trans hh.1) (by simp))) | (go_at_call 50; refine (wrong_any _ _ _ _ _ _ hr3).mono ?_; rintro e w4 ⟨rfl, rfl⟩))
        go_ret2
        have hb3 : Below w.heap.size w w3 := hbr.trans (below_gb hg3 hR (hbr.size))
        refine ⟨hb3.alloc hb3.size _, .inl ⟨by rw [HU.out]; simp, w3.heap.size, tv, av, hb3.size, rfl, ?_⟩⟩
        rw [HU.out]
        exact heap_alloc_new w3 _
    · have ht0 : t.data.toList = [] := List.length_eq_zero_iff.1 (by rw [len_data]; omega)
      have hde : t.toList.isEmpty = true := by rw [Lib.toList_data, ht0]; rfl
      rw [hde] at cD
      have HU : Hid (un 1 [] s.data.toList = (0, lns acc)) := by rw [hun, ht0, un_nil]; exact rfl
      clear hun ht0
      go_wp2_with (go_at_call 48; refine cD.mono ?_; rintro e wd ⟨rfl, rfl⟩)
      go_ret2
      exact ⟨hbr, .inr ⟨by rw [HU.out], _, acc, rfl, by rw [HU.out], hown⟩⟩
end Go.Proofs.YtmmnbdefkailpaaGreatDoor.Ln
