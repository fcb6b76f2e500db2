/-
  PROVED: 'datebookkeep.Lined' answers true at any lines and any text: what lines.Fold folds is unfolded as it was, and what lines.Unfold unfolds is folded to a text that unfolds so, or is refused for a reason; the arguments read behind the call as before. Condition: the package-level variables that the row lists lie as the program's text lays them (tied).
-/
import Derived.Test.YtdhobemladckjaaDoorLinedWalk
import Derived.Test.YtdhobemladckjaaDoorReadRow
import Derived.Test.YtdhobemladckjaaDoorBoth
import Derived.Test.YtdhobemladckjaaDoorTie
import Derived.Test.YtdhobemladckjaaDoorCards
import Derived.Deep.Strs
namespace Go.Proofs.YtdhobemladckjaaDoor
open Go.ChangeShapes Go.WideShapes Go.ChangeAt Go.WideMaps Go.WideElems Go.RowKit Go.Deep
open Go.ChangeMaps (open_string shut_string)
set_option linter.unusedVariables false

set_option maxRecDepth 100000 in
theorem lined_lifted (os : Os) (started : os.Started) (H : Type) (enc : TypeId × Value → H) :
    ReturnsInHanded {} Tryd.checked os 5 .any (fun w args => (Rows.linedSpec.pre enc Tryd.prog Tryd.f5 [] false w args ∧ laidMetH Tryd.prog Rows.linedRow.laid w) ∧ sizedMet enc Tryd.prog Tryd.f5 (OpenSpec.ofChange Rows.linedSpec) false w args)
      (Rows.linedSpec.post enc Tryd.prog Tryd.f5 false true false false) := by
  refine handed_both (C := Tryd.checked) (X := fun w _ => laidMetH Tryd.prog Rows.linedRow.laid w) (fun _ _ _ hh h => h.of_heap hh) own started (by kernel_rfl) Tryd.func5
    (ChangeSpec.witness_shaped (enc := enc) (C := Tryd.checked) (os := os) (X := fun w _ => laidMetH Tryd.prog Rows.linedRow.laid w) false (({ World.holding Tryd.prog os ⟨#[], #[], []⟩ with heap := (World.holding Tryd.prog os ⟨#[], #[], []⟩).heap.setIfInBounds 3 (.cells #[.iface 103 (.agg #[.pointer (some ⟨9, 42, none⟩)])] 90) } : World).layVars Tryd.prog plainLaid) #[.slice none 0 0, .string ⟨#[]⟩] 8 (World.layVars_os _ _ _)
      (World.shaped_of_ZipB (by kernel_rfl) (by kernel_rfl)) (by kernel_rfl) (by kernel_rfl) (by kernel_rfl)
      (start_met os _)) ?_
  intro W base args ds gs before hval0 hW hsized hL hsh
  have hval : ∀ (j : Nat) t v, Tryd.f5.params[j]? = some t → args[j]? = some v → Value.okWide Tryd.prog W .any base t v := hval0
  have hW' := hW
  obtain ⟨p, q, hA0, hV, rfl, _, _⟩ := hW
  have hA : DataW.TrodAll enc Tryd.prog W 0 (fun _ => true) true Tryd.f5.params.toList args.toList ds p := hA0
  rw [Tryd.params5] at hA hval hsized
  obtain ⟨v0, v1, d0, d1, p0, p1, rfl, rfl, rfl, h0, h1⟩ := trodAll_two hA
  obtain ⟨rfl, rfl⟩ := trodVars_none hV
  obtain ⟨ao, len, cap, rfl⟩ := okWide_slice Tryd.underlying22 (hval 0 22 v0 rfl rfl)
  obtain ⟨s, rfl, rfl, rfl, hs⟩ := open_string Tryd.underlying9 (hval 1 9 v1 rfl rfl) h1
  have h0k := h0
  obtain ⟨fuel, hf⟩ := h0
  clear hA0 hval0
  simp only [List.append_nil] at hW'
  have hlt : ∀ x ∈ p0, x.block < W.heap.size := fun x hx => by simpa using hW'.lt x (by simpa using hx)
  have hp : Prep4 W := prep4_of_laid hL hsh
  have fin : ∀ (ss : List ByteArray) (xb xo : Nat), len = ss.length → (0 < ss.length → ao = some ⟨xb, xo, none⟩) → ss.length ≤ maxLen → (∀ j (h : j < ss.length), (ss[j]).size ≤ maxLen) →
      (∀ j (h : j < ss.length), W.cell? ⟨xb, xo + j, none⟩ = some (.string ss[j])) →
      Calls Tryd.checked.prog 5 #[.slice ao len cap, .string s] W fun e W' => ∃ v, e = .returned v ∧ Rows.linedSpec.post enc Tryd.checked.prog Tryd.f5 false true false false W #[.slice ao len cap, .string s] v W' := by
    intro ss xb xo hlen hxa hn hz hy
    subst hlen
    refine (lined_walk ao xb xo cap ss s W hp hxa hn hz hy hs).mono fun e W' ⟨he, hb⟩ => ?_
    subst he
    exact ⟨_, rfl, _, _, _, [], p0 ++ [], [], hW', trodAll_mk1 (shut_bool Tryd.underlying4 _), trodAll_mk2 (Below.trod laidOut' (by kernel_rfl) (of_decide_eq_true (by kernel_rfl)) h0k hb hlt) (shut_string Tryd.underlying9 hs), rfl, hb.frame _, fun h => by cases h⟩
  rcases open_strs Tryd.underlying22 Tryd.underlying9 cells9 hf with ⟨hcs, hx⟩ | ⟨a, len', cap', m, Sx, hcs, _, hl, hm, hmm, hx, hcell⟩
  · simp [Value.cells] at hcs
    obtain ⟨rfl, rfl, rfl⟩ := hcs
    exact fin [] 0 0 rfl (fun h => absurd h (by simp)) (by simp) (fun j h => absurd h (by simp)) (fun j h => absurd h (by simp))
  · simp [Value.cells] at hcs
    obtain ⟨rfl, rfl, rfl⟩ := hcs
    simp only [if_true] at hmm
    obtain rfl : cap = m := hmm.symm
    obtain ⟨b, off, spot⟩ := a
    have hspot : 0 < len → spot = none := fun h => by simpa [Addr.add] using World.cell?_spot (hcell 0 (by omega)).1
    have hcell' : ∀ j, j < len → W.cell? ⟨b, off + j, none⟩ = some (.string (Sx j)) ∧ (Sx j).size ≤ maxLen := fun j hj => by
      have := hspot (by omega)
      subst this
      rw [← add_plain]; exact hcell j (by omega)
    refine fin ((List.range len).map Sx) b off (by simp) (fun h => by rw [hspot (by simpa using h)]) (by simp only [List.length_map, List.length_range]; omega) (fun j h => ?_) (fun j h => ?_)
    · simp only [List.getElem_map, List.getElem_range]; exact (hcell' j (by simpa using h)).2
    · simp only [List.getElem_map, List.getElem_range]; exact (hcell' j (by simpa using h)).1

theorem lined_row_holds : Rows.LinedSaid :=
  OpenClaim.holds_of_wide 5 Tryd.f5 rfl rfl rfl rfl rfl rfl rfl ⟨rfl, rfl, rfl, rfl, rfl⟩ rfl rfl rfl rfl rfl (by kernel_rfl) Tryd.func5 (by kernel_rfl)
    (of_decide_eq_true (by kernel_rfl)) (by unfold Func.isWrapper; first | (rw [if_pos (by decide +kernel)]; kernel_rfl) | (rw [if_neg (by decide +kernel)]; exact ⟨rfl, rfl⟩))
    (fun os started H enc _ => lined_lifted os started H enc)

/-- THE STATEMENT -/
theorem lined_holds : Rows.LinedCardSaid :=
  Claim7.holds_tied_plain_at .later [] [.data, .handle, .sentinel, .sentinel, .sentinel, .sentinel, .sentinel, .pinned] true (true, "a4f98db4b6458f857c93d36e5515efa511ef344eae39385e927791de6d53a3c1") true
    lined_row_holds (fun _ h => by cases h) (by kernel_rfl) (fun _ h => by cases h) lined_row_tie rfl ⟨rfl, rfl⟩ (by kernel_rfl) rfl
    (fun f fn hf hfn => by
      obtain rfl : f = 5 := Option.some.inj ((show Tryd.prog.funcNamed "datebook/datebookkeep.Lined" = some 5 by kernel_rfl).symm.trans hf) |>.symm
      obtain rfl : fn = Tryd.f5 := (Option.some.inj (Tryd.func5.symm.trans hfn)).symm
      exact ⟨by kernel_rfl, fun j t ht => by
        rw [Tryd.params5] at ht
        have hm : t ∈ [22, 9] := by simpa using Array.mem_of_getElem? ht
        have hall : ([22, 9].all fun u => !Tryd.prog.wantsStandIn u) = true := by kernel_rfl
        exact (show Tryd.prog.wantsStandIn t = false by simpa using List.all_eq_true.1 hall t hm)⟩)
    (by kernel_rfl)
#print axioms lined_holds
end Go.Proofs.YtdhobemladckjaaDoor
