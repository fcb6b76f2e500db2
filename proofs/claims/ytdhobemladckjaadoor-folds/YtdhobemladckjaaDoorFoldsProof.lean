/-
  PROVED: 'datebooklaw.Folds' answers true at any lines: lines.Fold answers as the document's own answer does, what is handed in is as it was, its spare room too. Condition: the package-level variables that the row lists lie as the program's text lays them (tied).
-/
import Derived.Test.YtdhobemladckjaaDoorFoldsWalk
import Derived.Test.YtdhobemladckjaaDoorRows
import Derived.Test.YtdhobemladckjaaDoorTie
import Derived.Test.YtdhobemladckjaaDoorCards
import Derived.ProofKit
import Derived.Lay
import Derived.LaidMore
import Derived.OpenShut
import Derived.Deep.Strs
import Derived.Carry
import Derived.SizedLaws
import Derived.Stop.Joined
import Derived.Stop.LaidErr
import Derived.PinnedBridge
import Derived.Lib.LaidU8T
namespace Go.Proofs.YtdhobemladckjaaDoor
open Go.ChangeShapes Go.WideShapes Go.ChangeAt Go.WideMaps Go.WideElems Go.RowKit Go.Deep
set_option linter.unusedVariables false

theorem own : ownKnob Tryd.prog.godebug = none := by kernel_rfl
theorem laidOut' : laidOutB Tryd.prog = true := by kernel_rfl
theorem cells9 : Tryd.prog.cellsOf 9 = 1 := by kernel_rfl
theorem bytes9 : Tryd.prog.bytesOf 9 = 16 := by kernel_rfl
theorem cells149 : Tryd.prog.cellsOf 149 = 1 := by kernel_rfl
theorem star : "*" ++ "errors.errorString" = "*errors.errorString" := by decide
theorem row131 (u : TypeId) (h : Tryd.prog.typeName? 3 u = some "*errors.errorString") : u = 131 :=
  typeName_ptr_named (nm := "errors.errorString") (by rw [star]; kernel_rfl) (by kernel_rfl) (by decide) u (by rw [star]; exact h)
theorem gLong : Tryd.prog.globalNamed "datebook/lines.errLong" = some 0 := by kernel_rfl
theorem gGoes : Tryd.prog.globalNamed "datebook/lines.errGoesOn" = some 2 := by kernel_rfl
theorem gUtf : Tryd.prog.globalNamed "datebook/lines.errUtf8" = some 4 := by kernel_rfl
theorem gByte : Tryd.prog.globalNamed "datebook/lines.errByte" = some 5 := by kernel_rfl
theorem tLong : (Tryd.prog.globals[0]?).map (·.type) = some 42 := by kernel_rfl
theorem tGoes : (Tryd.prog.globals[2]?).map (·.type) = some 42 := by kernel_rfl
theorem tUtf : (Tryd.prog.globals[4]?).map (·.type) = some 42 := by kernel_rfl
theorem tByte : (Tryd.prog.globals[5]?).map (·.type) = some 42 := by kernel_rfl
theorem u8x : U8Extra Tryd.prog lays196_ren := ⟨by kernel_rfl, by kernel_rfl, by kernel_rfl, by kernel_rfl, by kernel_rfl, by kernel_rfl, by kernel_rfl⟩
theorem accept_eq : Rows.laid_unicode_utf8_acceptRanges = Lib.acceptData := by kernel_rfl

theorem prep_of_laid {W : World} (hL : laidMetH Tryd.prog Rows.foldsRow.laid W) : Prep W := by
  rw [MakeChecks.laidMetH_plain _ _ _ (by kernel_rfl)] at hL
  have hT : Lib.Utf8Tabs (lays196_ren.g 3) (lays196_ren.g 4) W := utf8Tabs_of_readsT (U8Types.of196 lays196) u8x (Pinned.utf8First_eq ▸ Lib.laidMet.reads hL (n := "unicode/utf8.first") (d := Rows.laid_unicode_utf8_first) (by simp [Rows.foldsRow])) (accept_eq ▸ Lib.laidMet.reads hL (n := "unicode/utf8.acceptRanges") (d := Rows.laid_unicode_utf8_acceptRanges) (by simp [Rows.foldsRow]))
  obtain ⟨a0, _, h0, _⟩ := laid_sentinel hL.tail gLong tLong Tryd.underlying42 row131 Tryd.underlying131 Tryd.underlying149 rfl rfl Tryd.underlying9 cells149 cells9
  obtain ⟨a2, _, h2, _⟩ := laid_sentinel hL.tail.tail gGoes tGoes Tryd.underlying42 row131 Tryd.underlying131 Tryd.underlying149 rfl rfl Tryd.underlying9 cells149 cells9
  obtain ⟨a4, _, h4, _⟩ := laid_sentinel hL.tail.tail.tail gUtf tUtf Tryd.underlying42 row131 Tryd.underlying131 Tryd.underlying149 rfl rfl Tryd.underlying9 cells149 cells9
  obtain ⟨a5, _, h5, _⟩ := laid_sentinel hL.tail.tail.tail.tail gByte tByte Tryd.underlying42 row131 Tryd.underlying131 Tryd.underlying149 rfl rfl Tryd.underlying9 cells149 cells9
  exact ⟨⟨131, a0, by simpa using World.var?_cell gLong h0 0⟩, ⟨131, a2, by simpa using World.var?_cell gGoes h2 0⟩, ⟨131, a4, by simpa using World.var?_cell gUtf h4 0⟩, ⟨131, a5, by simpa using World.var?_cell gByte h5 0⟩, hT, World.block_lt_of_cell? W ⟨7, 0, none⟩ (hT.2 0 (by decide)).1⟩

set_option maxRecDepth 100000 in
theorem folds_lifted (os : Os) (started : os.Started) (H : Type) (enc : TypeId × Value → H) :
    ReturnsInHanded {} Tryd.checked os 4 .any (fun w args => (Rows.foldsSpec.pre enc Tryd.prog Tryd.f4 [] false w args ∧ laidMetH Tryd.prog Rows.foldsRow.laid w) ∧ sizedMet enc Tryd.prog Tryd.f4 (OpenSpec.ofChange Rows.foldsSpec) false w args)
      (Rows.foldsSpec.post enc Tryd.prog Tryd.f4 false true false false) := by
  refine returnsInHanded_of_change_and (C := Tryd.checked) (X := fun w _ => laidMetH Tryd.prog Rows.foldsRow.laid w) (fun _ _ _ hh h => h.of_heap hh) own started (by kernel_rfl) Tryd.func4
    (ChangeSpec.witness_shaped (enc := enc) (C := Tryd.checked) (os := os) (X := fun w _ => laidMetH Tryd.prog Rows.foldsRow.laid w) false (World.laidAll Tryd.prog os Rows.foldsRow.laid) #[.slice none 0 0] 8 (World.laidAll_os _ _ _)
      (World.shaped_of_ZipB (by kernel_rfl) (by kernel_rfl)) (by kernel_rfl) (by kernel_rfl) (by kernel_rfl)
      (by rw [MakeChecks.laidMetH_plain _ _ _ (by kernel_rfl)]; exact laidMet_laidAll _ (by kernel_rfl) (by kernel_rfl))) ?_
  intro W base args ds gs before hval0 hW _ hsized hL _
  have hval : ∀ (j : Nat) t v, Tryd.f4.params[j]? = some t → args[j]? = some v → Value.okWide Tryd.prog W .any base t v := hval0
  have hW' := hW
  obtain ⟨p, q, hA0, hV, rfl, _, _⟩ := hW
  have hA : DataW.TrodAll enc Tryd.prog W 0 (fun _ => true) true Tryd.f4.params.toList args.toList ds p := hA0
  rw [Tryd.params4] at hA hval hsized
  obtain ⟨v0, d0, rfl, rfl, h0⟩ := trodAll_one hA
  obtain ⟨rfl, rfl⟩ := trodVars_none hV
  obtain ⟨ao, len, cap, rfl⟩ := okWide_slice Tryd.underlying22 (hval 0 22 v0 rfl rfl)
  have h0k := h0
  obtain ⟨fuel, hf⟩ := h0
  clear hA0 hval0
  simp only [List.append_nil] at hW'
  have hlt : ∀ x ∈ p, x.block < W.heap.size := fun x hx => by simpa using hW'.lt x hx
  have hp : Prep W := prep_of_laid hL
  have fin : ∀ (ss : List ByteArray) (xb xo : Nat), len = ss.length → (0 < ss.length → ao = some ⟨xb, xo, none⟩) → 16 * ss.length ≤ 140737488351232 → (∀ j (h : j < ss.length), (ss[j]).size ≤ maxLen) →
      (∀ j (h : j < ss.length), W.cell? ⟨xb, xo + j, none⟩ = some (.string ss[j])) →
      Calls Tryd.checked.prog 4 #[.slice ao len cap] W fun e W' => ∃ v, e = .returned v ∧ Rows.foldsSpec.post enc Tryd.checked.prog Tryd.f4 false true false false W #[.slice ao len cap] v W' := by
    intro ss xb xo hlen hxa hn hz hy
    subst hlen
    refine (folds_walk ao xb xo cap ss W hp hxa hn hz hy).mono fun e W' ⟨he, hb⟩ => ?_
    subst he
    exact ⟨_, rfl, _, _, _, [], p, [], hW', trodAll_mk1 (shut_bool Tryd.underlying4 _), trodAll_mk1 (Below.trod laidOut' (by kernel_rfl) (of_decide_eq_true (by kernel_rfl)) h0k hb hlt), rfl, hb.frame _, fun h => by cases h⟩
  rcases open_strs Tryd.underlying22 Tryd.underlying9 cells9 hf with ⟨hcs, hx⟩ | ⟨a, len', cap', m, Sx, hcs, _, hl, hm, hmm, hx, hcell⟩
  · simp [Value.cells] at hcs
    obtain ⟨rfl, rfl, rfl⟩ := hcs
    exact fin [] 0 0 rfl (fun h => absurd h (by simp)) (by simp) (fun j h => absurd h (by simp)) (fun j h => absurd h (by simp))
  · simp [Value.cells] at hcs
    obtain ⟨rfl, rfl, rfl⟩ := hcs
    simp only [if_true] at hmm
    obtain rfl : cap = m := hmm.symm
    simp only [Prod.mk.injEq] at hx
    obtain ⟨rfl, rfl⟩ := hx
    have hby0 := sized_slice (j := 0) (t := 22) (e := 9) hsized rfl rfl Tryd.underlying22
    have hby : (_ + _) * Tryd.prog.bytesOf 9 ≤ reachBytes := hby0
    rw [bytes9] at hby
    simp only [List.length_map, List.length_range] at hby
    unfold reachBytes at hby
    obtain ⟨b, off, spot⟩ := a
    have hspot : 0 < len → spot = none := fun h => by simpa [Addr.add] using World.cell?_spot (hcell 0 (by omega)).1
    have hcell' : ∀ j, j < len → W.cell? ⟨b, off + j, none⟩ = some (.string (Sx j)) ∧ (Sx j).size ≤ maxLen := fun j hj => by
      have := hspot (by omega)
      subst this
      rw [← add_plain]; exact hcell j (by omega)
    refine fin ((List.range len).map Sx) b off (by simp) (fun h => by rw [hspot (by simpa using h)]) (by simp only [List.length_map, List.length_range]; omega) (fun j h => ?_) (fun j h => ?_)
    · simp only [List.getElem_map, List.getElem_range]; exact (hcell' j (by simpa using h)).2
    · simp only [List.getElem_map, List.getElem_range]; exact (hcell' j (by simpa using h)).1

theorem folds_row_holds : Rows.FoldsSaid :=
  OpenClaim.holds_of_wide 4 Tryd.f4 rfl rfl rfl rfl rfl rfl rfl ⟨rfl, rfl, rfl, rfl, rfl⟩ rfl rfl rfl rfl rfl (by kernel_rfl) Tryd.func4 (by kernel_rfl)
    (of_decide_eq_true (by kernel_rfl)) (by unfold Func.isWrapper; first | (rw [if_pos (by decide +kernel)]; kernel_rfl) | (rw [if_neg (by decide +kernel)]; exact ⟨rfl, rfl⟩))
    (fun os started H enc _ => folds_lifted os started H enc)

/-- THE STATEMENT -/
theorem folds_holds : Rows.FoldsCardSaid :=
  Claim7.holds_tied_plain_at .later [] [.data, .sentinel, .sentinel, .sentinel, .sentinel, .pinned] true (true, "a4f98db4b6458f857c93d36e5515efa511ef344eae39385e927791de6d53a3c1") true
    folds_row_holds (fun _ h => by cases h) (by kernel_rfl) (fun _ h => by cases h) folds_row_tie rfl ⟨rfl, rfl⟩ (by kernel_rfl) rfl
    (fun f fn hf hfn => by
      obtain rfl : f = 4 := Option.some.inj ((show Tryd.prog.funcNamed "datebook/datebooklaw.Folds" = some 4 by kernel_rfl).symm.trans hf) |>.symm
      obtain rfl : fn = Tryd.f4 := (Option.some.inj (Tryd.func4.symm.trans hfn)).symm
      exact ⟨by kernel_rfl, fun j t ht => by
        rw [Tryd.params4] at ht
        have hm : t ∈ [22] := by simpa using Array.mem_of_getElem? ht
        have hall : ([22].all fun u => !Tryd.prog.wantsStandIn u) = true := by kernel_rfl
        exact (show Tryd.prog.wantsStandIn t = false by simpa using List.all_eq_true.1 hall t hm)⟩)
    (by kernel_rfl)
#print axioms folds_holds
end Go.Proofs.YtdhobemladckjaaDoor
