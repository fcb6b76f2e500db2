/- The walk of the law Lined. -/
import Derived.Test.YtdhobemladckjaaDoorLnA
namespace Go.Proofs.YtdhobemladckjaaDoor
open Go.RowKit
set_option linter.unusedVariables false

theorem unBad_a : unBad (⟨#[97, 13, 10]⟩ : ByteArray).data.toList = false := by decide +kernel
theorem un_a : (un 1 [] (⟨#[97, 13, 10]⟩ : ByteArray).data.toList).2 = lns [⟨#[97]⟩] := by decide +kernel
theorem len_of_good {s : List UInt8} (h : unBad s = false) : s.length ≤ 4000 := by
  unfold unBad at h; simp only [Bool.or_eq_false_iff, decide_eq_false_iff_not] at h; omega
theorem un_of_good {s : List UInt8} {ls : List (List UInt8)} (h : unBad s = false) (hm : (un 1 [] s).2 = ls) : un 1 [] s = (0, ls) := by
  unfold unBad at h
  simp only [Bool.or_eq_false_iff, decide_eq_false_iff_not, ne_eq, Decidable.not_not] at h
  exact Prod.ext h.2 hm
theorem sizes_of {s : List UInt8} {ms : List ByteArray} (h : un 1 [] s = (0, lns ms)) (hl : s.length ≤ 4000) : ∀ j (h : j < ms.length), (ms[j]).size ≤ maxLen := by
  intro j hj
  have h1 := (un_clean _ _ h).2
  have h2 := tot_mem (lns ms) (ms[j]).data.toList (List.mem_map.2 ⟨ms[j], List.getElem_mem hj, rfl⟩)
  rw [len_data] at h2
  unfold maxLen; omega
theorem good_of {s : List UInt8} {ls : List (List UInt8)} (h : un 1 [] s = (0, ls)) (hl : s.length ≤ 4000) : unBad s = false := by
  unfold unBad; rw [h, decide_eq_false (by omega)]; rfl

set_option maxRecDepth 100000 in
set_option maxHeartbeats 4000000 in
theorem lined_walk (xa : Option Addr) (xb xo xc : Nat) (ss : List ByteArray) (s : ByteArray) (w : World) (hp : Prep4 w) (hxa : 0 < ss.length → xa = some ⟨xb, xo, none⟩)
    (hn : ss.length ≤ maxLen) (hz : ∀ j (h : j < ss.length), (ss[j]).size ≤ maxLen) (hy : ∀ j (h : j < ss.length), w.cell? ⟨xb, xo + j, none⟩ = some (.string ss[j])) (hs : s.size ≤ maxLen) :
    Calls Tryd.prog 5 #[.slice xa ss.length xc, .string s] w fun e w' => e = .returned (.bool true) ∧ Below w.heap.size w w' := by
  have h9 := hp.size
  have hxlt : ∀ j (h : j < ss.length), xb < w.heap.size := fun j h => World.block_lt_of_cell? _ _ (hy j h)
  obtain ⟨ms2, hms2⟩ := lns_of (un 1 [] s.data.toList).2
  have c1 := Unfold_ok ⟨#[97, 13, 10]⟩ [⟨#[97]⟩] w (by show 3 ≤ maxLen; decide) hp unBad_a un_a
  go_enter Tryd.func5, Tryd.ntmps5
  go_wp2_with fail
  refine c1.mono ?_
  rintro e w1 ⟨xa0, g0, cap0, rfl, hsl0, _, hb1⟩
  obtain rfl := hsl0.at' (by simp)
  have hc0 : w1.cell? ⟨g0, 0, none⟩ = some (.string ⟨#[97]⟩) := hsl0.cell 0 (by simp)
  have hp1 : Prep4 w1 := hp.below h9 hb1
  have cF := Fold_any xa xb xo xc ss w1 hp1.three.two.one hxa hn hz (fun j h => by rw [hb1.cell (p := ⟨xb, xo + j, none⟩) (hxlt j h)]; exact hy j h)
  go_wp2_with fail
  cases hfo : fo [] (lns ss) with
  | none =>
    have hT := fo_bad hfo
    rw [hT.1, hT.2] at cF
    clear hT hfo
    refine cF.mono ?_
    rintro e w2 ⟨rfl, hb2⟩
    have hl2 : Below w.heap.size w w2 := hb1.trans (hb2.mono hb1.size)
    go_wp2_with fail
    have hpX : Prep4 (w2) := hp.below h9 hl2
    have hsX : w.heap.size ≤ (w2).heap.size := hl2.size
    cases hbad : unBad s.data.toList
    · have cU := Unfold_ok s ms2 (w2) hs hpX hbad hms2
      refine cU.mono ?_
      rintro e w6 ⟨xa2, g2, cap2, rfl, hsl2, hlen2, hb6⟩
      have hl6 : Below w.heap.size w w6 := hl2.trans (hb6.mono hsX)
      have hp6 : Prep4 w6 := hp.below h9 hl6
      have hu0 : un 1 [] s.data.toList = (0, lns ms2) := un_of_good hbad hms2
      have hs4 : s.data.toList.length ≤ 4000 := len_of_good hbad
      have cF2 := FoldSl xa2 g2 cap2 ms2 w6 hp6.three.two.one hsl2 hlen2 (sizes_of hu0 hs4)
      cases hfo2 : fo [] (lns ms2) with
      | none =>
        have hmor := mor_of hu0 hs4 hfo2
        have hT := fo_bad hfo2
        rw [hT.1, hT.2] at cF2
        have hcnt := un_count s.data.toList
        rw [hms2] at hcnt
        have htot := (un_clean _ _ hu0).2
        have hml : ms2.length ≤ 4000 := by have : (lns ms2).length = ms2.length := by simp
                                           omega
        clear hu0 hbad hfo2 hT
        go_wp2_with fail
        refine cF2.mono ?_
        rintro e w7 ⟨rfl, hb7⟩
        have hsl7 := hsl2.below hb7
        have cM := more_any xa2 g2 cap2 ms2 s w7 hsl7 hml (by omega)
        rw [hmor] at cM
        go_wp2_with (go_at_call 13; refine cM.mono ?_; rintro e w8 ⟨rfl, n8, rfl⟩)
        go_ret
        exact ⟨rfl, below_drewN (hl6.trans (hb7.mono hl6.size)) _⟩
      | some out2 =>
        have hT := fo_good hfo2
        rw [hT.1, hT.2] at cF2
        have hun2 := un_fo _ _ hfo2
        have hle2 := fo_len _ _ _ hfo2 (by simp)
        clear hu0 hbad hfo2 hT
        go_wp2_with fail
        refine cF2.mono ?_
        rintro e w7 ⟨rfl, hb7⟩
        have hsl7 := hsl2.below hb7
        have hl7 : Below w.heap.size w w7 := hl6.trans (hb7.mono hl6.size)
        have hp7 : Prep4 w7 := hp.below h9 hl7
        have cU2 := Unfold_ok ⟨out2.toArray⟩ ms2 w7 (by show out2.toArray.size ≤ maxLen; rw [List.size_toArray]; unfold maxLen; omega) hp7 (good_of hun2 hle2) (by show (un 1 [] out2).2 = _; rw [hun2])
        go_wp2_with fail
        refine cU2.mono ?_
        rintro e w8 ⟨xa3, g3, cap3, rfl, hsl3, hlen3, hb8⟩
        have hsl8 := hsl7.below hb8
        have hl8 : Below w.heap.size w w8 := hl7.trans (hb8.mono hl7.size)
        unfold maxLen at hlen2
        go_wp2
        go_loopw [22] (fun i wr => ∃ k c : Nat, k ≤ ms2.length ∧ i = .int .i64 k ∧ wr = w8.drewN c) (fun i _ => ms2.length - (intOf i).toNat)
        case atStart => exact ⟨0, 0, Nat.zero_le _, rfl, rfl⟩
        case round =>
          obtain ⟨k, c, hk, rfl, rfl⟩ := hrel
          by_cases hlt : k < ms2.length
          · have hlt' : (k : Int) < ms2.length := by omega
            obtain rfl := hsl8.at' (by omega)
            obtain rfl := hsl3.at' (by omega)
            have hc1 := hsl8.cell k hlt
            have hc2 := hsl3.cell k hlt
            rw [Nat.zero_add] at hc1 hc2
            generalize ms2[k] = S at *
            go_wp2
            go_quiet (fail)
            go_wp2
            go_roundw
            case rel => go_light; exact ⟨k + 1, _, by omega, by go_num, rfl⟩
            case measure => go_light; simp [intOf]; omega
          · go_wp2
            go_ret
            exact ⟨rfl, below_drewN hl8 _⟩
    · have cU := Unfold_bad s (w2) hs hpX hbad
      refine cU.mono ?_
      rintro e w6 ⟨rfl, hb6⟩
      have hl6 : Below w.heap.size w w6 := hl2.trans (hb6.mono hsX)
      go_wp2
      go_ret
      exact ⟨rfl, hl6⟩
  | some out =>
    have hT := fo_good hfo
    rw [hT.1, hT.2] at cF
    have hun1 := un_fo _ _ hfo
    have hle1 := fo_len _ _ _ hfo (by simp)
    clear hT hfo
    refine cF.mono ?_
    rintro e w2 ⟨rfl, hb2⟩
    have hl2 : Below w.heap.size w w2 := hb1.trans (hb2.mono hb1.size)
    have hp2 : Prep4 w2 := hp.below h9 hl2
    have cU1 := Unfold_ok ⟨out.toArray⟩ ss w2 (by show out.toArray.size ≤ maxLen; rw [List.size_toArray]; unfold maxLen; omega) hp2 (good_of hun1 hle1) (by show (un 1 [] out).2 = _; rw [hun1])
    have hle1' : (out.length : Int) ≤ 4000 := by omega
    clear hun1 hle1
    go_wp2_with fail
    refine cU1.mono ?_
    rintro e w3 ⟨xa1, g1, cap1, rfl, hsl1, hlen1, hb3⟩
    have hl3 : Below w.heap.size w w3 := hl2.trans (hb3.mono hl2.size)
    have hn' := hn
    unfold maxLen at hn'
    go_wp2
    go_loopw [13] (fun i wr => ∃ k c : Nat, k ≤ ss.length ∧ i = .int .i64 k ∧ wr = w3.drewN c) (fun i _ => ss.length - (intOf i).toNat)
    case atStart => exact ⟨0, 0, Nat.zero_le _, rfl, rfl⟩
    case round =>
      obtain ⟨k, c, hk, rfl, rfl⟩ := hrel
      by_cases hlt : k < ss.length
      · have hlt' : (k : Int) < ss.length := by omega
        obtain rfl := hxa (by omega)
        obtain rfl := hsl1.at' (by omega)
        have hc1 := hsl1.cell k hlt
        rw [Nat.zero_add] at hc1
        have hc2 := (hl3.cell (p := ⟨xb, xo + k, none⟩) (hxlt k hlt)).trans (hy k hlt)
        have HZ : Hid (∀ j (h : j < ss.length), (ss[j]).size ≤ maxLen) := hz
        have HY : Hid (∀ j (h : j < ss.length), w.cell? ⟨xb, xo + j, none⟩ = some (.string ss[j])) := hy
        clear hz hy
        generalize ss[k] = S at *
        go_wp2
        go_quiet (fail)
        go_wp2
        go_roundw
        case rel => go_light; exact ⟨k + 1, _, by omega, by go_num, rfl⟩
        case measure => go_light; simp [intOf]; omega
      · have hl4 : Below w.heap.size w (w3.drewN c) := below_drewN hl3 _
        go_wp2_with fail
        have hpX : Prep4 (w3.drewN c) := hp.below h9 hl4
        have hsX : w.heap.size ≤ (w3.drewN c).heap.size := hl4.size
        cases hbad : unBad s.data.toList
        · have cU := Unfold_ok s ms2 (w3.drewN c) hs hpX hbad hms2
          refine cU.mono ?_
          rintro e w6 ⟨xa2, g2, cap2, rfl, hsl2, hlen2, hb6⟩
          have hl6 : Below w.heap.size w w6 := hl4.trans (hb6.mono hsX)
          have hp6 : Prep4 w6 := hp.below h9 hl6
          have hu0 : un 1 [] s.data.toList = (0, lns ms2) := un_of_good hbad hms2
          have hs4 : s.data.toList.length ≤ 4000 := len_of_good hbad
          have cF2 := FoldSl xa2 g2 cap2 ms2 w6 hp6.three.two.one hsl2 hlen2 (sizes_of hu0 hs4)
          cases hfo2 : fo [] (lns ms2) with
          | none =>
            have hmor := mor_of hu0 hs4 hfo2
            have hT := fo_bad hfo2
            rw [hT.1, hT.2] at cF2
            have hcnt := un_count s.data.toList
            rw [hms2] at hcnt
            have htot := (un_clean _ _ hu0).2
            have hml : ms2.length ≤ 4000 := by have : (lns ms2).length = ms2.length := by simp
                                               omega
            clear hu0 hbad hfo2 hT
            go_wp2_with fail
            refine cF2.mono ?_
            rintro e w7 ⟨rfl, hb7⟩
            have hsl7 := hsl2.below hb7
            have cM := more_any xa2 g2 cap2 ms2 s w7 hsl7 hml (by omega)
            rw [hmor] at cM
            go_wp2_with (go_at_call 13; refine cM.mono ?_; rintro e w8 ⟨rfl, n8, rfl⟩)
            go_ret
            exact ⟨rfl, below_drewN (hl6.trans (hb7.mono hl6.size)) _⟩
          | some out2 =>
            have hT := fo_good hfo2
            rw [hT.1, hT.2] at cF2
            have hun2 := un_fo _ _ hfo2
            have hle2 := fo_len _ _ _ hfo2 (by simp)
            clear hu0 hbad hfo2 hT
            go_wp2_with fail
            refine cF2.mono ?_
            rintro e w7 ⟨rfl, hb7⟩
            have hsl7 := hsl2.below hb7
            have hl7 : Below w.heap.size w w7 := hl6.trans (hb7.mono hl6.size)
            have hp7 : Prep4 w7 := hp.below h9 hl7
            have cU2 := Unfold_ok ⟨out2.toArray⟩ ms2 w7 (by show out2.toArray.size ≤ maxLen; rw [List.size_toArray]; unfold maxLen; omega) hp7 (good_of hun2 hle2) (by show (un 1 [] out2).2 = _; rw [hun2])
            go_wp2_with fail
            refine cU2.mono ?_
            rintro e w8 ⟨xa3, g3, cap3, rfl, hsl3, hlen3, hb8⟩
            have hsl8 := hsl7.below hb8
            have hl8 : Below w.heap.size w w8 := hl7.trans (hb8.mono hl7.size)
            unfold maxLen at hlen2
            go_wp2
            go_loopw [22] (fun i wr => ∃ k c : Nat, k ≤ ms2.length ∧ i = .int .i64 k ∧ wr = w8.drewN c) (fun i _ => ms2.length - (intOf i).toNat)
            case atStart => exact ⟨0, 0, Nat.zero_le _, rfl, rfl⟩
            case round =>
              obtain ⟨k, c, hk, rfl, rfl⟩ := hrel
              by_cases hlt : k < ms2.length
              · have hlt' : (k : Int) < ms2.length := by omega
                obtain rfl := hsl8.at' (by omega)
                obtain rfl := hsl3.at' (by omega)
                have hc1 := hsl8.cell k hlt
                have hc2 := hsl3.cell k hlt
                rw [Nat.zero_add] at hc1 hc2
                generalize ms2[k] = S at *
                go_wp2
                go_quiet (fail)
                go_wp2
                go_roundw
                case rel => go_light; exact ⟨k + 1, _, by omega, by go_num, rfl⟩
                case measure => go_light; simp [intOf]; omega
              · go_wp2
                go_ret
                exact ⟨rfl, below_drewN hl8 _⟩
        · have cU := Unfold_bad s (w3.drewN c) hs hpX hbad
          refine cU.mono ?_
          rintro e w6 ⟨rfl, hb6⟩
          have hl6 : Below w.heap.size w w6 := hl4.trans (hb6.mono hsX)
          go_wp2
          go_ret
          exact ⟨rfl, hl6⟩
end Go.Proofs.YtdhobemladckjaaDoor
