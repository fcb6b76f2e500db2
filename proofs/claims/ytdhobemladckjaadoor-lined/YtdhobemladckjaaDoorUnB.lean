/- Package lines: line. -/
import Derived.Test.YtdhobemladckjaaDoorUnA
import Derived.Test.YtdhobemladckjaaDoorTxw
import Derived.Test.YtdhobemladckjaaDoorProgC
namespace Go.Proofs.YtdhobemladckjaaDoor
open Go.RowKit
set_option linter.unusedVariables false

/-- what the package's variables hold, for reading too -/
structure Prep2 (w : World) : Prop where
  one : Prep w
  e1 : ∃ t a, w.cell? ⟨1, 0, none⟩ = some (.iface t (.pointer (some a)))
  ml : ∃ m, w.cell? ⟨8, 0, none⟩ = some (.int .i64 m)
theorem Prep2.below {w w' : World} (h : Prep2 w) {B : Nat} (hB : 9 ≤ B) (hb : Below B w w') : Prep2 w' where
  one := h.one.below (by omega) hb
  e1 := by obtain ⟨t, a, h0⟩ := h.e1; exact ⟨t, a, by rw [hb.cell (p := ⟨1, 0, none⟩) (by show 1 < B; omega)]; exact h0⟩
  ml := by obtain ⟨m, h0⟩ := h.ml; exact ⟨m, by rw [hb.cell (p := ⟨8, 0, none⟩) (by show 8 < B; omega)]; exact h0⟩
theorem Prep2.size {w : World} (h : Prep2 w) : 9 ≤ w.heap.size := by obtain ⟨m, h0⟩ := h.ml; exact World.block_lt_of_cell? _ _ h0

/-- what is left behind the line at the front -/
abbrev left' (t : ByteArray) : ByteArray := ⟨(Lib.cut t.data.toList [10]).2.1.toArray⟩

set_option maxRecDepth 100000 in
set_option maxHeartbeats 1000000 in
theorem line_any (R p : Nat) (t : ByteArray) (w : World) (h : RdAt R p t w) (hp : p ≤ 4000) (ht : t.size ≤ 4000) (hR : 9 ≤ R) (hq : Prep2 w) :
    Calls Tryd.prog 24 #[.pointer (some ⟨R, 0, none⟩)] w fun e w' => RdAt R ((p : Int) + 1) (left' t) w' ∧ w.grownBy w' (some R) ∧
      ((badLine (p + 1) t.data.toList = true ∧ ∃ s0 tv av, e = .returned (.tuple #[.string s0, .iface tv (.pointer (some av))])) ∨
       (badLine (p + 1) t.data.toList = false ∧ e = .returned (.tuple #[.string ⟨(t.data.toList.take (lf t.data.toList - 1)).toArray⟩, .nilIface]))) := by
  obtain ⟨m, hm⟩ := hq.ml
  have cN := next_any R p t m w h hp ht hR hm
  have hlf := lf_le t.data.toList
  rw [len_data] at hlf
  by_cases hend : lf t.data.toList = t.data.toList.length
  · have HB := bad_open (num := p + 1) hend
    have hc := cut_miss _ hend
    rw [HB]
    unfold left'
    rw [hc] at cN ⊢
    simp only at cN ⊢
    have hml : t.data.toList.length ≤ 4000 := by rw [len_data]; omega
    generalize hM : t.data.toList = M at *
    have cS := fun w => strings_CutSuffix ⟨M.toArray⟩ ⟨#[13]⟩ w (by show M.toArray.size ≤ 9223372036854775807; simp; omega)
    simp only at cS
    generalize Lib.trimSuffix M _ = X at cS
    generalize Lib.hasSuffix M _ = Y at cS
    clear hM hend hc HB hlf
    go_enter Tryd.func24, Tryd.ntmps24
    go_wp2_with (first | (go_at_call 33; refine cN.mono ?_; rintro e w1 ⟨rfl, hr1, hg1⟩; obtain ⟨t1, a1, h1⟩ := (hq.below (B := 9) (by omega) (below_gb hg1 hR hq.size)).e1) | (go_at_call 34; refine (cS _).mono ?_; rintro e w2 ⟨rfl, rfl⟩))
    go_quiet (fail)
    go_wp2
    go_ret2
    exact ⟨hr1, gb_trans hg1 (gb_drewN _ _ _), .inl ⟨trivial, _, _, _, rfl⟩⟩
  · have hend' : lf t.data.toList < t.data.toList.length := by rw [len_data] at hend ⊢; omega
    have hc := cut_hit _ hend'
    unfold left'
    rw [hc] at cN ⊢
    simp only at cN ⊢
    cases hpr : Lib.hasSuffix (t.data.toList.take (lf t.data.toList)) [13]
    · have HB := bad_pair (num := p + 1) hend' hpr
      rw [HB]
      have hml : (t.data.toList.take (lf t.data.toList)).length ≤ 4000 := by rw [List.length_take, len_data]; omega
      generalize (t.data.toList.drop (lf t.data.toList + 1)).toArray = D at *
      have cS := fun w => strings_CutSuffix ⟨(t.data.toList.take (lf t.data.toList)).toArray⟩ ⟨#[13]⟩ w (by show (t.data.toList.take (lf t.data.toList)).toArray.size ≤ 9223372036854775807; simp only [List.size_toArray]; omega)
      simp only at cS
      rw [hpr] at cS
      generalize Lib.trimSuffix _ _ = X at cS
      generalize t.data.toList.take (lf t.data.toList) = M at *
      generalize (t.data.toList.take (lf t.data.toList - 1)).toArray = Z at *
      clear hend hend' hc HB hlf hpr
      go_enter Tryd.func24, Tryd.ntmps24
      go_wp2_with (first | (go_at_call 33; refine cN.mono ?_; rintro e w1 ⟨rfl, hr1, hg1⟩; obtain ⟨t1, a1, h1⟩ := (hq.below (B := 9) (by omega) (below_gb hg1 hR hq.size)).e1) | (go_at_call 34; refine (cS _).mono ?_; rintro e w2 ⟨rfl, rfl⟩))
      go_quiet (fail)
      go_wp2
      go_ret2
      exact ⟨hr1, gb_trans hg1 (gb_drewN _ _ _), .inl ⟨trivial, _, _, _, rfl⟩⟩
    · have HB := bad_rest (num := p + 1) hend' hpr
      obtain ⟨ht1, hl0⟩ := trim_eq _ hend' hpr
      have hml : (t.data.toList.take (lf t.data.toList)).length ≤ 4000 := by rw [List.length_take, len_data]; omega
      have hzl : (t.data.toList.take (lf t.data.toList - 1)).length = lf t.data.toList - 1 := by rw [List.length_take, len_data]; omega
      have cS := fun w => strings_CutSuffix ⟨(t.data.toList.take (lf t.data.toList)).toArray⟩ ⟨#[13]⟩ w (by show (t.data.toList.take (lf t.data.toList)).toArray.size ≤ 9223372036854775807; simp only [List.size_toArray]; omega)
      simp only at cS
      rw [hpr, ht1] at cS
      generalize (t.data.toList.drop (lf t.data.toList + 1)).toArray = D at *
      generalize t.data.toList.take (lf t.data.toList) = M at *
      obtain ⟨Z, hZ⟩ : ∃ Z : ByteArray, Z = ⟨(t.data.toList.take (lf t.data.toList - 1)).toArray⟩ := ⟨_, rfl⟩
      have hZd : t.data.toList.take (lf t.data.toList - 1) = Z.data.toList := by rw [hZ]
      have hZz : lf t.data.toList - 1 = Z.size := by have := congrArg List.length hZd; rw [len_data, hzl] at this; exact this
      rw [hZd, hZz] at HB
      rw [← hZ] at cS ⊢
      have hZs : Z.size ≤ 4000 := by have := congrArg List.length hZd; rw [len_data] at this; omega
      have hZm : Z.size ≤ maxLen := by unfold maxLen; omega
      clear hend hend' hc hlf hpr ht1 hzl hZd hZ hml hZz hl0
      generalize badLine (p + 1) t.data.toList = bad at *
      by_cases c1 : (75 : Int) < Z.size
      · have hb : bad = true := by rw [HB, decide_eq_true (show 75 < Z.size by omega)]; simp
        clear HB
        subst hb
        go_enter Tryd.func24, Tryd.ntmps24
        go_wp2_with (first | (go_at_call 33; refine cN.mono ?_; rintro e w1 ⟨rfl, hr1, hg1⟩; obtain ⟨t1, a1, h1⟩ := (hq.below (B := 9) (by omega) (below_gb hg1 hR hq.size)).one.e0) | (go_at_call 34; refine (cS _).mono ?_; rintro e w2 ⟨rfl, rfl⟩))
        go_quiet (fail)
        go_wp2
        go_ret2
        exact ⟨hr1, gb_trans hg1 (gb_drewN _ _ _), .inl ⟨trivial, _, _, _, rfl⟩⟩
      · have e75 : decide (75 < Z.size) = false := decide_eq_false (by omega)
        rw [e75, Bool.or_false] at HB
        cases hgo : goes Z.data.toList
        · rw [hgo, Bool.false_and, Bool.or_false] at HB
          subst HB
          have e75i : ¬ (75 : Int) < Z.size := c1
          generalize hcl : cln Z.data.toList = C at *
          go_enter Tryd.func24, Tryd.ntmps24
          go_wp2_with (first | (go_at_call 33; refine cN.mono ?_; rintro e w1 ⟨rfl, hr1, hg1⟩; have hq1 := hq.below (B := 9) (by omega) (below_gb hg1 hR hq.size)) | (go_at_call 34; refine (cS _).mono ?_; rintro e w2 ⟨rfl, rfl⟩) | (go_at_call 35; refine (place_any R _ _ _ hr1).mono ?_; rintro e w3 ⟨rfl, rfl⟩) | (go_at_call 26; refine (goesOn_any _ _ hZm).mono ?_; rintro e w4 ⟨rfl, rfl⟩) | (go_at_call 36; refine (checkBytes_any _ _ hZm hq1.one).mono ?_; rintro e w5 ⟨v, rfl, hv, hb5⟩))
          all_goals
            go_ret2
            refine ⟨rd_below hr1 hb5, gb_trans hg1 (gb_below hb5 _), ?_⟩
            rw [hcl] at hv
            cases C
            · obtain ⟨tv, av, rfl⟩ := isErr_no hv
              exact .inl ⟨rfl, _, _, _, rfl⟩
            · obtain rfl := isErr_yes hv
              exact .inr ⟨rfl, rfl⟩
        · by_cases hp0 : p = 0
          · subst hp0
            have hb : bad = true := by rw [HB, hgo]; simp
            clear HB
            subst hb
            go_enter Tryd.func24, Tryd.ntmps24
            go_wp2_with (first | (go_at_call 33; refine cN.mono ?_; rintro e w1 ⟨rfl, hr1, hg1⟩; have hq1 := hq.below (B := 9) (by omega) (below_gb hg1 hR hq.size)) | (go_at_call 34; refine (cS _).mono ?_; rintro e w2 ⟨rfl, rfl⟩) | (go_at_call 35; refine (place_any R _ _ _ hr1).mono ?_; rintro e w3 ⟨rfl, rfl⟩) | (go_at_call 26; refine (goesOn_any _ _ hZm).mono ?_; rintro e w4 ⟨rfl, rfl⟩) | (go_at_call 36; refine (checkBytes_any _ _ hZm hq1.one).mono ?_; rintro e w5 ⟨v, rfl, hv, hb5⟩))
            obtain ⟨t1, a1, h1⟩ := hq1.one.e2
            go_quiet (fail)
            go_wp2
            go_ret2
            exact ⟨hr1, gb_trans hg1 (gb_drewN _ _ _), .inl ⟨trivial, _, _, _, rfl⟩⟩
          · rw [hgo, decide_eq_false (show ¬ p + 1 = 1 by omega), Bool.and_false, Bool.or_false] at HB
            subst HB
            have hp1 : ((p : Int) + 1 == 1) = false := beq_eq_false_iff_ne.2 (by omega)
            have e75i : ¬ (75 : Int) < Z.size := c1
            generalize hcl : cln Z.data.toList = C at *
            go_enter Tryd.func24, Tryd.ntmps24
            go_wp2_with (first | (go_at_call 33; refine cN.mono ?_; rintro e w1 ⟨rfl, hr1, hg1⟩; have hq1 := hq.below (B := 9) (by omega) (below_gb hg1 hR hq.size)) | (go_at_call 34; refine (cS _).mono ?_; rintro e w2 ⟨rfl, rfl⟩) | (go_at_call 35; refine (place_any R _ _ _ hr1).mono ?_; rintro e w3 ⟨rfl, rfl⟩) | (go_at_call 26; refine (goesOn_any _ _ hZm).mono ?_; rintro e w4 ⟨rfl, rfl⟩) | (go_at_call 36; refine (checkBytes_any _ _ hZm hq1.one).mono ?_; rintro e w5 ⟨v, rfl, hv, hb5⟩))
            all_goals
              go_ret2
              refine ⟨rd_below hr1 hb5, gb_trans hg1 (gb_below hb5 _), ?_⟩
              rw [hcl] at hv
              cases C
              · obtain ⟨tv, av, rfl⟩ := isErr_no hv
                exact .inl ⟨rfl, _, _, _, rfl⟩
              · obtain rfl := isErr_yes hv
                exact .inr ⟨rfl, rfl⟩
end Go.Proofs.YtdhobemladckjaaDoor
