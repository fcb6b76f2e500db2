/- Package pieces: the reader: Done, Place, Next, Wrong, Of. -/
import Derived.Test.YtmmnbdefkailpaaGreatDoorProgA
import Derived.Lib.CutLaws
import Derived.Deep.QuietTactic
import Derived.BigQuiet
import Derived.Test.YtmmnbdefkailpaaGreatDoorTxu

namespace Go.Proofs.YtmmnbdefkailpaaGreatDoor.Ln
open Go.RowKit
set_option linter.unusedVariables false

/-- the reader's block -/
def RdAt (R : Nat) (p : Int) (t : ByteArray) (w : World) : Prop := w.heap[R]? = some (.cells #[.int .i64 p, .string t] 102 (0, 0))

theorem RdAt.c0 {R : Nat} {p : Int} {t : ByteArray} {w : World} (h : RdAt R p t w) : w.cell? ⟨R, 0, none⟩ = some (.int .i64 p) := by rw [Lib.cell_of_heap h]; rfl
theorem RdAt.c1 {R : Nat} {p : Int} {t : ByteArray} {w : World} (h : RdAt R p t w) : w.cell? ⟨R, 1, none⟩ = some (.string t) := by rw [Lib.cell_of_heap h]; rfl
theorem RdAt.f0 {R : Nat} {p : Int} {t : ByteArray} {w : World} (h : RdAt R p t w) : w.frozen? ⟨R, 0, none⟩ = false := Lib.frozen_of_heap h 0
theorem RdAt.f1 {R : Nat} {p : Int} {t : ByteArray} {w : World} (h : RdAt R p t w) : w.frozen? ⟨R, 1, none⟩ = false := Lib.frozen_of_heap h 1
theorem RdAt.lt {R : Nat} {p : Int} {t : ByteArray} {w : World} (h : RdAt R p t w) : R < w.heap.size := World.block_lt_of_cell? _ _ h.c0
theorem RdAt.set0 {R : Nat} {p : Int} {t : ByteArray} {w : World} (h : RdAt R p t w) (q : Int) : RdAt R q t (w.setCell ⟨R, 0, none⟩ (.int .i64 q)) := by
  have := heap_setCell_same w R 0 _ 102 (.int .i64 q) h
  exact this
theorem RdAt.set1 {R : Nat} {p : Int} {t : ByteArray} {w : World} (h : RdAt R p t w) (u : ByteArray) : RdAt R p u (w.setCell ⟨R, 1, none⟩ (.string u)) := by
  have := heap_setCell_same w R 1 _ 102 (.string u) h
  exact this

theorem gb_refl (w : World) (r : Option Nat) : w.grownBy w r := ⟨rfl, rfl, rfl, Nat.le_refl _, fun _ _ _ => rfl⟩
theorem gb_trans {a b c : World} {r : Option Nat} (h : a.grownBy b r) (k : b.grownBy c r) : a.grownBy c r :=
  ⟨k.os.trans h.os, k.tape.trans h.tape, k.output.trans h.output, Nat.le_trans h.size k.size, fun i hi hne => (k.block i (Nat.lt_of_lt_of_le hi h.size) hne).trans (h.block i hi hne)⟩
theorem gb_set (w : World) (R o : Nat) (v : Value) : w.grownBy (w.setCell ⟨R, o, none⟩ v) (some R) :=
  ⟨rfl, rfl, rfl, by simp [World.setCell], fun k _ hk => Below.heap_setCell _ _ _ _ (fun e => hk (by simp [e]))⟩
theorem gb_drewN (w : World) (n : Nat) (r : Option Nat) : w.grownBy (w.drewN n) r := ⟨rfl, rfl, rfl, Nat.le_refl _, fun _ _ _ => rfl⟩
theorem gb_below {w w' : World} (h : Below w.heap.size w w') (r : Option Nat) : w.grownBy w' r := ⟨h.os, h.tape, h.output, h.size, fun k hk _ => h.block k hk⟩
theorem below_gb {w w' : World} {R B : Nat} (h : w.grownBy w' (some R)) (hB : B ≤ R) (hs : B ≤ w.heap.size) : Below B w w' :=
  ⟨h.os, h.tape, h.output, h.size, fun k hk => h.block k (by omega) (by intro e; have := Option.some.inj e; omega)⟩
theorem rd_below {R : Nat} {p : Int} {t : ByteArray} {w w' : World} (h : RdAt R p t w) (hb : Below w.heap.size w w') : RdAt R p t w' := by
  unfold RdAt; rw [hb.block R h.lt]; exact h

set_option maxRecDepth 100000 in
set_option maxHeartbeats 1000000 in
theorem done_any (R : Nat) (p : Int) (t : ByteArray) (w : World) (h : RdAt R p t w) :
    Calls Tryz.prog 48 #[.pointer (some ⟨R, 0, none⟩)] w fun e w' => e = .returned (.bool t.toList.isEmpty) ∧ w' = w := by
  have c1 := h.c1
  go_enter Tryz.func48, Tryz.ntmps48
  go_wp2
  go_ret
  exact ⟨rfl, rfl⟩

set_option maxRecDepth 100000 in
set_option maxHeartbeats 1000000 in
theorem place_any (R : Nat) (p : Int) (t : ByteArray) (w : World) (h : RdAt R p t w) :
    Calls Tryz.prog 89 #[.pointer (some ⟨R, 0, none⟩)] w fun e w' => e = .returned (.int .i64 p) ∧ w' = w := by
  have c0 := h.c0
  go_enter Tryz.func89, Tryz.ntmps89
  go_wp2
  go_ret
  exact ⟨rfl, rfl⟩

set_option maxRecDepth 100000 in
set_option maxHeartbeats 1000000 in
theorem next_any (R : Nat) (p : Nat) (t : ByteArray) (m : Int) (w : World) (h : RdAt R p t w) (hp : p ≤ 4000) (ht : t.size ≤ 4000) (hR : 32 < R) (hm : w.cell? ⟨32, 0, none⟩ = some (.int .i64 m)) :
    Calls Tryz.prog 87 #[.pointer (some ⟨R, 0, none⟩), .string ⟨#[10]⟩] w fun e w' => e = .returned (.tuple #[.string ⟨(Lib.cut t.data.toList [10]).1.toArray⟩, .bool (Lib.cut t.data.toList [10]).2.2]) ∧ RdAt R ((p : Int) + 1) ⟨(Lib.cut t.data.toList [10]).2.1.toArray⟩ w' ∧ w.grownBy w' (some R) := by
  have c0 := h.c0
  have c1 := h.c1
  have f0 := h.f0
  have f1 := h.f1
  have cC := Tryz.strings_Cut t ⟨#[10]⟩ m w (by omega) hm
  go_enter Tryz.func87, Tryz.ntmps87
  go_wp2_with (go_at_call 134; refine cC.mono ?_; rintro e w1 ⟨rfl, n1, rfl⟩)
  go_ret2
  exact ⟨rfl, ((h.set0 _).set1 _), gb_trans (gb_trans (gb_set _ _ _ _) (gb_set _ _ _ _)) (gb_drewN _ n1 _)⟩

set_option maxRecDepth 100000 in
set_option maxHeartbeats 1000000 in
theorem wrong_any (R : Nat) (p : Int) (t : ByteArray) (tv : TypeId) (av : Addr) (w : World) (h : RdAt R p t w) :
    Calls Tryz.prog 50 #[.pointer (some ⟨R, 0, none⟩), .iface tv (.pointer (some av))] w fun e w' => e = .returned (.iface 108 (.pointer (some ⟨w.heap.size, 0, none⟩))) ∧ w' = w.alloc (.cells #[.int .i64 p, .iface tv (.pointer (some av))] 111) := by
  have c0 := h.c0
  go_enter Tryz.func50, Tryz.ntmps50
  go_wp2
  go_ret
  exact ⟨rfl, rfl⟩

set_option maxRecDepth 100000 in
set_option maxHeartbeats 1000000 in
theorem of_any (t : ByteArray) (w : World) :
    Calls Tryz.prog 46 #[.string t] w fun e w' => e = .returned (.agg #[.int .i64 0, .string t]) ∧ Below w.heap.size w w' := by
  go_enter Tryz.func46, Tryz.ntmps46
  go_wp2
  exact bodyPost_ret (v := .agg #[.int .i64 0, .string t]) (by simp [results, Tryz.results46, go_sem]) rfl ⟨rfl, (Below.refl _ _).alloc (Nat.le_refl _) _⟩

set_option maxRecDepth 100000 in
set_option maxHeartbeats 1000000 in
theorem clone_any (s : ByteArray) (w : World) (hs : s.size ≤ 4000) :
    Calls Tryz.prog 47 #[.string s] w fun e w' => e = .returned (.string s) ∧ Below w.heap.size w w' := by
  have cC := Tryz.stringslite_Clone s w (by omega)
  go_enter Tryz.func47, Tryz.ntmps47
  go_wp2_with (go_at_call 86; refine cC.mono ?_; rintro e w1 ⟨rfl, hb⟩)
  go_ret
  exact ⟨rfl, hb⟩
end Go.Proofs.YtmmnbdefkailpaaGreatDoor.Ln

/- Package lines: line. -/
namespace Go.Proofs.YtmmnbdefkailpaaGreatDoor.Ln
open Go.RowKit
set_option linter.unusedVariables false

/-- what the package's variables hold, for reading too -/
structure Prep2 (w : World) : Prop where
  one : Prep w
  e1 : ∃ t a, w.cell? ⟨4, 0, none⟩ = some (.iface t (.pointer (some a)))
  ml : ∃ m, w.cell? ⟨32, 0, none⟩ = some (.int .i64 m)
theorem Prep2.below {w w' : World} (h : Prep2 w) {B : Nat} (hB : 35 ≤ B) (hb : Below B w w') : Prep2 w' where
  one := h.one.below (by omega) hb
  e1 := by obtain ⟨t, a, h0⟩ := h.e1; exact ⟨t, a, by rw [hb.cell (p := ⟨4, 0, none⟩) (by show 4 < B; omega)]; exact h0⟩
  ml := by obtain ⟨m, h0⟩ := h.ml; exact ⟨m, by rw [hb.cell (p := ⟨32, 0, none⟩) (by show 32 < B; omega)]; exact h0⟩
theorem Prep2.size {w : World} (h : Prep2 w) : 35 ≤ w.heap.size := h.one.size

/-- what is left behind the line at the front -/
abbrev left' (t : ByteArray) : ByteArray := ⟨(Lib.cut t.data.toList [10]).2.1.toArray⟩

set_option maxRecDepth 100000 in
set_option maxHeartbeats 1000000 in
theorem line_any (R p : Nat) (t : ByteArray) (w : World) (h : RdAt R p t w) (hp : p ≤ 4000) (ht : t.size ≤ 4000) (hR : 35 ≤ R) (hq : Prep2 w) :
    Calls Tryz.prog 49 #[.pointer (some ⟨R, 0, none⟩)] w fun e w' => RdAt R ((p : Int) + 1) (left' t) w' ∧ w.grownBy w' (some R) ∧
      ((badLine (p + 1) t.data.toList = true ∧ ∃ s0 tv av, e = .returned (.tuple #[.string s0, .iface tv (.pointer (some av))])) ∨
       (badLine (p + 1) t.data.toList = false ∧ e = .returned (.tuple #[.string ⟨(t.data.toList.take (lf t.data.toList - 1)).toArray⟩, .nilIface]))) := by
  obtain ⟨m, hm⟩ := hq.ml
  have cN := next_any R p t m w h hp ht (by omega) hm
  have hlf := lf_le t.data.toList
  rw [len_data] at hlf
  by_cases hend : lf t.data.toList = t.data.toList.length
  · have HB := bad_open (num := p + 1) hend
    have hc := cut_miss _ hend
    rw [HB]
    unfold left'
    rw [hc] at cN ⊢
    simp only at cN ⊢
    have hml : t.data.toList.length ≤ 4000 := by rw [len_data]; omega
    generalize hM : t.data.toList = M at *
    have cS := fun w => Tryz.strings_CutSuffix ⟨M.toArray⟩ ⟨#[13]⟩ w (by show M.toArray.size ≤ 9223372036854775807; simp; omega)
    simp only at cS
    generalize Lib.trimSuffix M _ = X at cS
    generalize Lib.hasSuffix M _ = Y at cS
    clear hM hend hc HB hlf
    go_enter Tryz.func49, Tryz.ntmps49
    go_wp2_with (first | (go_at_call 87; refine cN.mono ?_; rintro e w1 ⟨rfl, hr1, hg1⟩; obtain ⟨t1, a1, h1⟩ := (hq.below (B := 35) (by omega) (below_gb hg1 hR hq.size)).e1) | (go_at_call 88; refine (cS _).mono ?_; rintro e w2 ⟨rfl, rfl⟩))
    go_quiet (fail)
    go_wp2
    go_ret2
    exact ⟨hr1, gb_trans hg1 (gb_drewN _ _ _), .inl ⟨trivial, _, _, _, rfl⟩⟩
  · have hend' : lf t.data.toList < t.data.toList.length := by rw [len_data] at hend ⊢; omega
    have hc := cut_hit _ hend'
    unfold left'
    rw [hc] at cN ⊢
    simp only at cN ⊢
    cases hpr : Lib.hasSuffix (t.data.toList.take (lf t.data.toList)) [13]
    · have HB := bad_pair (num := p + 1) hend' hpr
      rw [HB]
      have hml : (t.data.toList.take (lf t.data.toList)).length ≤ 4000 := by rw [List.length_take, len_data]; omega
      generalize (t.data.toList.drop (lf t.data.toList + 1)).toArray = D at *
      have cS := fun w => Tryz.strings_CutSuffix ⟨(t.data.toList.take (lf t.data.toList)).toArray⟩ ⟨#[13]⟩ w (by show (t.data.toList.take (lf t.data.toList)).toArray.size ≤ 9223372036854775807; simp only [List.size_toArray]; omega)
      simp only at cS
      rw [hpr] at cS
      generalize Lib.trimSuffix _ _ = X at cS
      generalize t.data.toList.take (lf t.data.toList) = M at *
      generalize (t.data.toList.take (lf t.data.toList - 1)).toArray = Z at *
      clear hend hend' hc HB hlf hpr
      go_enter Tryz.func49, Tryz.ntmps49
      go_wp2_with (first | (go_at_call 87; refine cN.mono ?_; rintro e w1 ⟨rfl, hr1, hg1⟩; obtain ⟨t1, a1, h1⟩ := (hq.below (B := 35) (by omega) (below_gb hg1 hR hq.size)).e1) | (go_at_call 88; refine (cS _).mono ?_; rintro e w2 ⟨rfl, rfl⟩))
      go_quiet (fail)
      go_wp2
      go_ret2
      exact ⟨hr1, gb_trans hg1 (gb_drewN _ _ _), .inl ⟨trivial, _, _, _, rfl⟩⟩
    · have HB := bad_rest (num := p + 1) hend' hpr
      obtain ⟨ht1, hl0⟩ := trim_eq _ hend' hpr
      have hml : (t.data.toList.take (lf t.data.toList)).length ≤ 4000 := by rw [List.length_take, len_data]; omega
      have hzl : (t.data.toList.take (lf t.data.toList - 1)).length = lf t.data.toList - 1 := by rw [List.length_take, len_data]; omega
      have cS := fun w => Tryz.strings_CutSuffix ⟨(t.data.toList.take (lf t.data.toList)).toArray⟩ ⟨#[13]⟩ w (by show (t.data.toList.take (lf t.data.toList)).toArray.size ≤ 9223372036854775807; simp only [List.size_toArray]; omega)
      simp only at cS
      rw [hpr, ht1] at cS
      generalize (t.data.toList.drop (lf t.data.toList + 1)).toArray = D at *
      generalize t.data.toList.take (lf t.data.toList) = M at *
      obtain ⟨Z, hZ⟩ : ∃ Z : ByteArray, Z = ⟨(t.data.toList.take (lf t.data.toList - 1)).toArray⟩ := ⟨_, rfl⟩
      have hZd : t.data.toList.take (lf t.data.toList - 1) = Z.data.toList := by rw [hZ]
      have hZz : lf t.data.toList - 1 = Z.size := by have := congrArg List.length hZd; rw [len_data, hzl] at this; exact this
      rw [hZd, hZz] at HB
      rw [← hZ] at cS ⊢
      have hZs : Z.size ≤ 4000 := by have := congrArg List.length hZd; rw [len_data] at this; omega
      have hZm : Z.size ≤ maxLen := by unfold maxLen; omega
      clear hend hend' hc hlf hpr ht1 hzl hZd hZ hml hZz hl0
      generalize badLine (p + 1) t.data.toList = bad at *
      by_cases c1 : (75 : Int) < Z.size
      · have hb : bad = true := by rw [HB, decide_eq_true (show 75 < Z.size by omega)]; simp
        clear HB
        subst hb
        go_enter Tryz.func49, Tryz.ntmps49
        go_wp2_with (first | (go_at_call 87; refine cN.mono ?_; rintro e w1 ⟨rfl, hr1, hg1⟩; obtain ⟨t1, a1, h1⟩ := (hq.below (B := 35) (by omega) (below_gb hg1 hR hq.size)).one.e0) | (go_at_call 88; refine (cS _).mono ?_; rintro e w2 ⟨rfl, rfl⟩))
        go_quiet (fail)
        go_wp2
        go_ret2
        exact ⟨hr1, gb_trans hg1 (gb_drewN _ _ _), .inl ⟨trivial, _, _, _, rfl⟩⟩
      · have e75 : decide (75 < Z.size) = false := decide_eq_false (by omega)
        rw [e75, Bool.or_false] at HB
        cases hgo : goes Z.data.toList
        · rw [hgo, Bool.false_and, Bool.or_false] at HB
          subst HB
          have e75i : ¬ (75 : Int) < Z.size := c1
          generalize hcl : cln Z.data.toList = C at *
          go_enter Tryz.func49, Tryz.ntmps49
          go_wp2_with (first | (go_at_call 87; refine cN.mono ?_; rintro e w1 ⟨rfl, hr1, hg1⟩; have hq1 := hq.below (B := 35) (by omega) (below_gb hg1 hR hq.size)) | (go_at_call 88; refine (cS _).mono ?_; rintro e w2 ⟨rfl, rfl⟩) | (go_at_call 89; refine (place_any R _ _ _ hr1).mono ?_; rintro e w3 ⟨rfl, rfl⟩) | (go_at_call 51; refine (goesOn_any _ _ hZm).mono ?_; rintro e w4 ⟨rfl, rfl⟩) | (go_at_call 90; refine (checkBytes_any _ _ hZm hq1.one).mono ?_; rintro e w5 ⟨v, rfl, hv, hb5⟩))
          all_goals
            go_ret2
            refine ⟨rd_below hr1 hb5, gb_trans hg1 (gb_below hb5 _), ?_⟩
            rw [hcl] at hv
            cases C
            · obtain ⟨tv, av, rfl⟩ := isErr_no hv
              exact .inl ⟨rfl, _, _, _, rfl⟩
            · obtain rfl := isErr_yes hv
              exact .inr ⟨rfl, rfl⟩
        · by_cases hp0 : p = 0
          · subst hp0
            have hb : bad = true := by rw [HB, hgo]; simp
            clear HB
            subst hb
            go_enter Tryz.func49, Tryz.ntmps49
            go_wp2_with (first | (go_at_call 87; refine cN.mono ?_; rintro e w1 ⟨rfl, hr1, hg1⟩; have hq1 := hq.below (B := 35) (by omega) (below_gb hg1 hR hq.size)) | (go_at_call 88; refine (cS _).mono ?_; rintro e w2 ⟨rfl, rfl⟩) | (go_at_call 89; refine (place_any R _ _ _ hr1).mono ?_; rintro e w3 ⟨rfl, rfl⟩) | (go_at_call 51; refine (goesOn_any _ _ hZm).mono ?_; rintro e w4 ⟨rfl, rfl⟩) | (go_at_call 90; refine (checkBytes_any _ _ hZm hq1.one).mono ?_; rintro e w5 ⟨v, rfl, hv, hb5⟩))
            obtain ⟨t1, a1, h1⟩ := hq1.one.e2
            go_quiet (fail)
            go_wp2
            go_ret2
            exact ⟨hr1, gb_trans hg1 (gb_drewN _ _ _), .inl ⟨trivial, _, _, _, rfl⟩⟩
          · rw [hgo, decide_eq_false (show ¬ p + 1 = 1 by omega), Bool.and_false, Bool.or_false] at HB
            subst HB
            have hp1 : ((p : Int) + 1 == 1) = false := beq_eq_false_iff_ne.2 (by omega)
            have e75i : ¬ (75 : Int) < Z.size := c1
            generalize hcl : cln Z.data.toList = C at *
            go_enter Tryz.func49, Tryz.ntmps49
            go_wp2_with (first | (go_at_call 87; refine cN.mono ?_; rintro e w1 ⟨rfl, hr1, hg1⟩; have hq1 := hq.below (B := 35) (by omega) (below_gb hg1 hR hq.size)) | (go_at_call 88; refine (cS _).mono ?_; rintro e w2 ⟨rfl, rfl⟩) | (go_at_call 89; refine (place_any R _ _ _ hr1).mono ?_; rintro e w3 ⟨rfl, rfl⟩) | (go_at_call 51; refine (goesOn_any _ _ hZm).mono ?_; rintro e w4 ⟨rfl, rfl⟩) | (go_at_call 90; refine (checkBytes_any _ _ hZm hq1.one).mono ?_; rintro e w5 ⟨v, rfl, hv, hb5⟩))
            all_goals
              go_ret2
              refine ⟨rd_below hr1 hb5, gb_trans hg1 (gb_below hb5 _), ?_⟩
              rw [hcl] at hv
              cases C
              · obtain ⟨tv, av, rfl⟩ := isErr_no hv
                exact .inl ⟨rfl, _, _, _, rfl⟩
              · obtain rfl := isErr_yes hv
                exact .inr ⟨rfl, rfl⟩
end Go.Proofs.YtmmnbdefkailpaaGreatDoor.Ln
