/- Package event: a rule, written. -/
import Derived.Test.YtmmnbdefkailpaaGreatDoorEvY0
import Derived.Maps.AppendAt
import Derived.Laws.AppendOwn

namespace Go.Proofs.YtmmnbdefkailpaaGreatDoor
open Go.RowKit Cal
set_option linter.unusedVariables false

theorem heap_alloc2 (W : World) (o : Obj) (x : Obj) : ((W.alloc o).alloc x).heap[W.heap.size + 1]? = some x := by
  have := heap_alloc_new (W.alloc o) x
  rw [World.size_alloc] at this
  exact this

set_option maxRecDepth 100000 in
set_option maxHeartbeats 8000000 in
theorem writeRule3 (Q : Nat) (k : Nat) (hk1 : 2 ≤ k) (hk : k < 100) (m : Nat) (hm1 : 1 ≤ m) (hm : m < 100) (w : World) (hv : GV w) (h : w.heap[Q]? = some (.cells #[.int .i64 1, .int .i64 k, .int .i64 m, .int .i64 0, .bool false, .slice none 0 0, .slice none 0 0, .slice none 0 0, .slice none 0 0, .int .i64 0, .bool false, .bool false] 131 (0, 0))) :
    Calls Tryz.prog 72 #[.pointer (some ⟨Q, 0, none⟩)] w fun e w' => e = .returned (.string (ba (rule3 k m))) ∧ Below w.heap.size w w' := by
  obtain ⟨i0, hi0, hz0, hz1, hz2⟩ := info_parts strInfo
  have HQ : Hid (∀ wx, Below w.heap.size w wx → wx.heap[Q]? = some (.cells #[.int .i64 1, .int .i64 k, .int .i64 m, .int .i64 0, .bool false, .slice none 0 0, .slice none 0 0, .slice none 0 0, .slice none 0 0, .int .i64 0, .bool false, .bool false] 131 (0, 0))) := fun wx hb => hbel h hb
  have HV : Hid (∀ wx, Below w.heap.size w wx → FN wx) := fun wx hb => (hv.below hb).fn
  have hm2 : (num m).size ≤ 2 := by rw [num_ba hm, ba_size]; exact (dl_all m hm).1
  have hm3 : 1 ≤ (num m).size := by rw [num_ba hm, ba_size]; exact (dl_all m hm).2.1
  have hm4 : (num m).toList.isEmpty = false := by rw [Lib.toList_data]; exact List.isEmpty_eq_false_iff.2 (fun hh => by have := (dl_all m hm).2.1; rw [num_data hm] at hh; rw [hh] at this; simp at this)
  have HC0 : ba [67, 79, 85, 78, 84] ++ ba [61] ++ num m = ba (pC m) := by rw [num_ba hm, ba_app, ba_app]; rfl
  have HC : Hid ((⟨#[67, 79, 85, 78, 84]⟩ : ByteArray) ++ ⟨#[61]⟩ ++ num m = ba (pC m)) := HC0
  clear HC0
  have HF0 : ba [70, 82, 69, 81] ++ ba [61] ++ ba [68, 65, 73, 76, 89] = ba pF := by rw [ba_app, ba_app]; rfl
  have HF : Hid ((⟨#[70, 82, 69, 81]⟩ : ByteArray) ++ ⟨#[61]⟩ ++ ⟨#[68, 65, 73, 76, 89]⟩ = ba pF) := HF0
  clear HF0
  have hk2 : (num k).size ≤ 2 := by rw [num_ba hk, ba_size]; exact (dl_all k hk).1
  have hk3 : 1 ≤ (num k).size := by rw [num_ba hk, ba_size]; exact (dl_all k hk).2.1
  have hk4 : (num k).toList.isEmpty = false := by rw [Lib.toList_data]; exact List.isEmpty_eq_false_iff.2 (fun hh => by have := (dl_all k hk).2.1; rw [num_data hk] at hh; rw [hh] at this; simp at this)
  have HI0 : ba [73, 78, 84, 69, 82, 86, 65, 76] ++ ba [61] ++ num k = ba (pI k) := by rw [num_ba hk, ba_app, ba_app]; rfl
  have HI : Hid ((⟨#[73, 78, 84, 69, 82, 86, 65, 76]⟩ : ByteArray) ++ ⟨#[61]⟩ ++ num k = ba (pI k)) := HI0
  clear HI0
  have HWC : Hid (∀ wx, Below w.heap.size w wx → Calls Tryz.prog 161 #[.pointer (some ⟨Q, 0, none⟩)] wx fun e w' => e = .returned (.string (num m)) ∧ w' = wx) := fun wx hb => wCount Q m hm1 hm _ wx (HQ.out wx hb)
  have HWE : Hid (∀ wx, Below w.heap.size w wx → Calls Tryz.prog 159 #[.pointer (some ⟨Q, 0, none⟩)] wx fun e w' => e = .returned (.string (num k)) ∧ w' = wx) := fun wx hb => wEvery Q k hk1 hk _ wx (HQ.out wx hb)
  have HWF : Hid (∀ wx, Below w.heap.size w wx → Calls Tryz.prog 157 #[.pointer (some ⟨Q, 0, none⟩)] wx fun e w' => e = .returned (.string ⟨#[68, 65, 73, 76, 89]⟩) ∧ w' = wx) := fun wx hb => wFreq Q _ _ wx (HQ.out wx hb) (HV.out wx hb)
  have HW3 : Hid (∀ wx, Below w.heap.size w wx → Calls Tryz.prog 163 #[.pointer (some ⟨Q, 0, none⟩)] wx fun e w' => e = .returned (.string ⟨#[]⟩) ∧ w' = wx) := fun wx hb => wUntil Q _ _ wx (HQ.out wx hb)
  have HW4 : Hid (∀ wx, Below w.heap.size w wx → Calls Tryz.prog 165 #[.pointer (some ⟨Q, 0, none⟩)] wx fun e w' => e = .returned (.string ⟨#[]⟩) ∧ Below wx.heap.size wx w') := fun wx hb => wMonths Q _ _ wx (HQ.out wx hb)
  have HW5 : Hid (∀ wx, Below w.heap.size w wx → Calls Tryz.prog 167 #[.pointer (some ⟨Q, 0, none⟩)] wx fun e w' => e = .returned (.string ⟨#[]⟩) ∧ Below wx.heap.size wx w') := fun wx hb => wMonthDays Q _ _ wx (HQ.out wx hb)
  have HW6 : Hid (∀ wx, Below w.heap.size w wx → Calls Tryz.prog 169 #[.pointer (some ⟨Q, 0, none⟩)] wx fun e w' => e = .returned (.string ⟨#[]⟩) ∧ Below wx.heap.size wx w') := fun wx hb => wWeekdays Q _ _ wx (HQ.out wx hb)
  have HW7 : Hid (∀ wx, Below w.heap.size w wx → Calls Tryz.prog 171 #[.pointer (some ⟨Q, 0, none⟩)] wx fun e w' => e = .returned (.string ⟨#[]⟩) ∧ Below wx.heap.size wx w') := fun wx hb => wPlaces Q _ _ wx (HQ.out wx hb)
  have HW8 : Hid (∀ wx, Below w.heap.size w wx → Calls Tryz.prog 173 #[.pointer (some ⟨Q, 0, none⟩)] wx fun e w' => e = .returned (.string ⟨#[]⟩) ∧ w' = wx) := fun wx hb => wFirst Q _ _ wx (HQ.out wx hb)
  have HJ0 : Lib.join (([ba pF, ba (pI k), ba (pC m)] : List ByteArray).map (·.data.toList)) [59] = rule3 k m := by
    simp only [List.map_cons, List.map_nil, ba_data]
    simp [Lib.join, List.intercalate, rule3]
  have HJ : Hid (Lib.join (([ba pF, ba (pI k), ba (pC m)] : List ByteArray).map (·.data.toList)) [59] = rule3 k m) := HJ0
  clear HJ0
  have hQ := hlt h
  clear h hv
  go_enter Tryz.func72, Tryz.ntmps72
  go_wp2_with (go_at_call 115; refine (parts_any _).mono ?_; rintro e wp ⟨rfl, hbp⟩)
  go_loopg [3, 8] 10 (fun gk s3 s8 wr => ∃ i : Nat, gk + i = 10 ∧ 1 ≤ gk ∧ s8 = .int .i64 i ∧ Below w.heap.size w wr ∧ (match i with | 0 => wr.ownsRow w.heap.size 9 1 s3 0 (([] : List ByteArray).map Value.string) | 1 => wr.ownsRow w.heap.size 9 1 s3 1 (([ba pF] : List ByteArray).map Value.string) | 2 => wr.ownsRow w.heap.size 9 1 s3 2 (([ba pF, ba (pI k)] : List ByteArray).map Value.string) | _ => wr.ownsRow w.heap.size 9 1 s3 3 (([ba pF, ba (pI k), ba (pC m)] : List ByteArray).map Value.string)))
  case atStart => exact ⟨0, rfl, by omega, rfl, hbp, World.ownsRow_nil _ _ _ _⟩
  case round =>
    obtain ⟨i, hi, hgk, rfl, hb, hown⟩ := hrel
    by_cases h9 : i = 9
    · subst h9
      obtain ⟨g, cap, rfl, hcap1, hcap2, hgB⟩ := own_slice hown (by omega)
      have hcl : ∀ (j : Nat) x, ([ba pF, ba (pI k), ba (pC m)] : List ByteArray)[j]? = some x → wr.cell? ⟨g, 0 + j, none⟩ = some (.string x) := fun j x hj => by
        rw [Nat.zero_add]
        exact own_cells hown j _ (by rw [List.getElem?_map, hj]; rfl)
      have hgl : g < wr.heap.size := World.block_lt_of_cell? _ _ (hcl 0 _ rfl)
      have cJ := Tryz.strings_Join g 0 cap [ba pF, ba (pI k), ba (pC m)] ⟨#[59]⟩ wr hcl hgl (by simp) (by simpa using hcap1) (by show (Lib.join _ [59]).length ≤ _; rw [HJ.out]; have := rule3_len hk hm; omega)
      have eJ : (ByteArray.mk (Lib.join (([ba pF, ba (pI k), ba (pC m)] : List ByteArray).map (·.data.toList)) (ByteArray.data ⟨#[59]⟩).toList).toArray) = ba (rule3 k m) := by
        show (ByteArray.mk (Lib.join _ [59]).toArray) = _
        rw [HJ.out]; rfl
      rw [eJ] at cJ
      clear eJ hcl
      go_wp2_with (go_at_call 116; refine cJ.mono ?_; clear cJ; rintro e w3 ⟨rfl, hb3⟩)
      go_ret
      exact ⟨rfl, hb.trans (hb3.mono hb.size)⟩
    · obtain rfl | rfl | rfl | rfl | rfl | rfl | rfl | rfl | rfl := (show i = 0 ∨ i = 1 ∨ i = 2 ∨ i = 3 ∨ i = 4 ∨ i = 5 ∨ i = 6 ∨ i = 7 ∨ i = 8 by omega)
      · have ix : ∀ wx : World, (Instr.index 196 (.agg #[.string ⟨#[70, 82, 69, 81]⟩, .func (.func 156) #[] #[], .func (.func 157) #[] #[], .string ⟨#[73, 78, 84, 69, 82, 86, 65, 76]⟩, .func (.func 158) #[] #[], .func (.func 159) #[] #[], .string ⟨#[67, 79, 85, 78, 84]⟩, .func (.func 160) #[] #[], .func (.func 161) #[] #[], .string ⟨#[85, 78, 84, 73, 76]⟩, .func (.func 162) #[] #[], .func (.func 163) #[] #[], .string ⟨#[66, 89, 77, 79, 78, 84, 72]⟩, .func (.func 164) #[] #[], .func (.func 165) #[] #[], .string ⟨#[66, 89, 77, 79, 78, 84, 72, 68, 65, 89]⟩, .func (.func 166) #[] #[], .func (.func 167) #[] #[], .string ⟨#[66, 89, 68, 65, 89]⟩, .func (.func 168) #[] #[], .func (.func 169) #[] #[], .string ⟨#[66, 89, 83, 69, 84, 80, 79, 83]⟩, .func (.func 170) #[] #[], .func (.func 171) #[] #[], .string ⟨#[87, 75, 83, 84]⟩, .func (.func 172) #[] #[], .func (.func 173) #[] #[]]) (.int .i64 0)).run Tryz.prog wx = .ok (.agg #[.string ⟨#[70, 82, 69, 81]⟩, .func (.func 156) #[] #[], .func (.func 157) #[] #[]]) wx := fun wx => by kernel_rfl
        replace hown : wr.ownsRow w.heap.size 9 1 u3 0 (([] : List ByteArray).map Value.string) := hown
        go_upto_region 4 with fail
        refine wp_region_lit ?_
        refine wpList_plain rfl (fun K hK => ?_)
        go_simp
        refine hK _ _ ?_
        clear hK K ix
        refine wpList_plain rfl (fun K hK => ?_)
        go_simp
        refine hK _ _ ?_
        clear hK K
        refine wpList_store_fresh (by rfl) 195 (.tmp 5) (.tmp 10) (by rfl) #[.string ⟨#[]⟩, .nilFunc, .nilFunc] #[.string ⟨#[70, 82, 69, 81]⟩, .func (.func 156) #[] #[], .func (.func 157) #[] #[]] rfl rfl rfl (by kernel_rfl) (by kernel_rfl) (by kernel_rfl) ?_
        refine wpList_nil ?_
        have hba := hb.alloc hb.size (.cells #[.string ⟨#[70, 82, 69, 81]⟩, .func (.func 156) #[] #[], .func (.func 157) #[] #[]] 195)
        have hoa := hown.alloc (.cells #[.string ⟨#[70, 82, 69, 81]⟩, .func (.func 156) #[] #[], .func (.func 157) #[] #[]] 195)
        have cW := HWF.out _ hba
        go_wp2_with (first | (go_at_call 157; refine cW.mono ?_; clear cW; rintro e wz ⟨rfl, rfl⟩) | (at_builtin; refine wpList_append_own _ rfl (.tmp 17) (.tmp 23) 43 rfl w.heap.size 9 i0 (.string ⟨#[]⟩) 1 16 Tryz.underlying43 hi0 hz0 hz1 hz2 rfl (by decide) _ _ _ rfl (hoa.alloc _) ⟨_, 0, none⟩ 1 1 [.string _] rfl rfl (World.news_of_block (heap_alloc2 _ _ _)) (by intro u hu; simp at hu; subst hu; rfl) (by unfold maxLen; omega) (by omega) (by have := hb.size; simp; omega) ?_; intro v5 w5 hown5 hgrow _))
        go_roundg (9)
        case measure => omega
        case rel =>
          have hb5 : Below w.heap.size w w5 := (hba.alloc hba.size _).grown hgrow (by have := hb.size; simp; omega) (fun q hq => (hown.lt q hq).1)
          exact ⟨1, by omega, by omega, rfl, hb5, by have h5 := hown5; rw [HF.out] at h5; exact h5⟩
      · have ix : ∀ wx : World, (Instr.index 196 (.agg #[.string ⟨#[70, 82, 69, 81]⟩, .func (.func 156) #[] #[], .func (.func 157) #[] #[], .string ⟨#[73, 78, 84, 69, 82, 86, 65, 76]⟩, .func (.func 158) #[] #[], .func (.func 159) #[] #[], .string ⟨#[67, 79, 85, 78, 84]⟩, .func (.func 160) #[] #[], .func (.func 161) #[] #[], .string ⟨#[85, 78, 84, 73, 76]⟩, .func (.func 162) #[] #[], .func (.func 163) #[] #[], .string ⟨#[66, 89, 77, 79, 78, 84, 72]⟩, .func (.func 164) #[] #[], .func (.func 165) #[] #[], .string ⟨#[66, 89, 77, 79, 78, 84, 72, 68, 65, 89]⟩, .func (.func 166) #[] #[], .func (.func 167) #[] #[], .string ⟨#[66, 89, 68, 65, 89]⟩, .func (.func 168) #[] #[], .func (.func 169) #[] #[], .string ⟨#[66, 89, 83, 69, 84, 80, 79, 83]⟩, .func (.func 170) #[] #[], .func (.func 171) #[] #[], .string ⟨#[87, 75, 83, 84]⟩, .func (.func 172) #[] #[], .func (.func 173) #[] #[]]) (.int .i64 1)).run Tryz.prog wx = .ok (.agg #[.string ⟨#[73, 78, 84, 69, 82, 86, 65, 76]⟩, .func (.func 158) #[] #[], .func (.func 159) #[] #[]]) wx := fun wx => by kernel_rfl
        replace hown : wr.ownsRow w.heap.size 9 1 u3 1 (([ba pF] : List ByteArray).map Value.string) := hown
        go_upto_region 4 with fail
        refine wp_region_lit ?_
        refine wpList_plain rfl (fun K hK => ?_)
        go_simp
        refine hK _ _ ?_
        clear hK K ix
        refine wpList_plain rfl (fun K hK => ?_)
        go_simp
        refine hK _ _ ?_
        clear hK K
        refine wpList_store_fresh (by rfl) 195 (.tmp 5) (.tmp 10) (by rfl) #[.string ⟨#[]⟩, .nilFunc, .nilFunc] #[.string ⟨#[73, 78, 84, 69, 82, 86, 65, 76]⟩, .func (.func 158) #[] #[], .func (.func 159) #[] #[]] rfl rfl rfl (by kernel_rfl) (by kernel_rfl) (by kernel_rfl) ?_
        refine wpList_nil ?_
        have hba := hb.alloc hb.size (.cells #[.string ⟨#[73, 78, 84, 69, 82, 86, 65, 76]⟩, .func (.func 158) #[] #[], .func (.func 159) #[] #[]] 195)
        have hoa := hown.alloc (.cells #[.string ⟨#[73, 78, 84, 69, 82, 86, 65, 76]⟩, .func (.func 158) #[] #[], .func (.func 159) #[] #[]] 195)
        have cW := HWE.out _ hba
        go_wp2_with (first | (go_at_call 159; refine cW.mono ?_; clear cW; rintro e wz ⟨rfl, rfl⟩) | (at_builtin; refine wpList_append_own _ rfl (.tmp 17) (.tmp 23) 43 rfl w.heap.size 9 i0 (.string ⟨#[]⟩) 1 16 Tryz.underlying43 hi0 hz0 hz1 hz2 rfl (by decide) _ _ _ rfl (hoa.alloc _) ⟨_, 0, none⟩ 1 1 [.string _] rfl rfl (World.news_of_block (heap_alloc2 _ _ _)) (by intro u hu; simp at hu; subst hu; rfl) (by unfold maxLen; omega) (by omega) (by have := hb.size; simp; omega) ?_; intro v5 w5 hown5 hgrow _))
        go_roundg (8)
        case measure => omega
        case rel =>
          have hb5 : Below w.heap.size w w5 := (hba.alloc hba.size _).grown hgrow (by have := hb.size; simp; omega) (fun q hq => (hown.lt q hq).1)
          exact ⟨2, by omega, by omega, rfl, hb5, by have h5 := hown5; rw [HI.out] at h5; exact h5⟩
      · have ix : ∀ wx : World, (Instr.index 196 (.agg #[.string ⟨#[70, 82, 69, 81]⟩, .func (.func 156) #[] #[], .func (.func 157) #[] #[], .string ⟨#[73, 78, 84, 69, 82, 86, 65, 76]⟩, .func (.func 158) #[] #[], .func (.func 159) #[] #[], .string ⟨#[67, 79, 85, 78, 84]⟩, .func (.func 160) #[] #[], .func (.func 161) #[] #[], .string ⟨#[85, 78, 84, 73, 76]⟩, .func (.func 162) #[] #[], .func (.func 163) #[] #[], .string ⟨#[66, 89, 77, 79, 78, 84, 72]⟩, .func (.func 164) #[] #[], .func (.func 165) #[] #[], .string ⟨#[66, 89, 77, 79, 78, 84, 72, 68, 65, 89]⟩, .func (.func 166) #[] #[], .func (.func 167) #[] #[], .string ⟨#[66, 89, 68, 65, 89]⟩, .func (.func 168) #[] #[], .func (.func 169) #[] #[], .string ⟨#[66, 89, 83, 69, 84, 80, 79, 83]⟩, .func (.func 170) #[] #[], .func (.func 171) #[] #[], .string ⟨#[87, 75, 83, 84]⟩, .func (.func 172) #[] #[], .func (.func 173) #[] #[]]) (.int .i64 2)).run Tryz.prog wx = .ok (.agg #[.string ⟨#[67, 79, 85, 78, 84]⟩, .func (.func 160) #[] #[], .func (.func 161) #[] #[]]) wx := fun wx => by kernel_rfl
        replace hown : wr.ownsRow w.heap.size 9 1 u3 2 (([ba pF, ba (pI k)] : List ByteArray).map Value.string) := hown
        go_upto_region 4 with fail
        refine wp_region_lit ?_
        refine wpList_plain rfl (fun K hK => ?_)
        go_simp
        refine hK _ _ ?_
        clear hK K ix
        refine wpList_plain rfl (fun K hK => ?_)
        go_simp
        refine hK _ _ ?_
        clear hK K
        refine wpList_store_fresh (by rfl) 195 (.tmp 5) (.tmp 10) (by rfl) #[.string ⟨#[]⟩, .nilFunc, .nilFunc] #[.string ⟨#[67, 79, 85, 78, 84]⟩, .func (.func 160) #[] #[], .func (.func 161) #[] #[]] rfl rfl rfl (by kernel_rfl) (by kernel_rfl) (by kernel_rfl) ?_
        refine wpList_nil ?_
        have hba := hb.alloc hb.size (.cells #[.string ⟨#[67, 79, 85, 78, 84]⟩, .func (.func 160) #[] #[], .func (.func 161) #[] #[]] 195)
        have hoa := hown.alloc (.cells #[.string ⟨#[67, 79, 85, 78, 84]⟩, .func (.func 160) #[] #[], .func (.func 161) #[] #[]] 195)
        have cW := HWC.out _ hba
        go_wp2_with (first | (go_at_call 161; refine cW.mono ?_; clear cW; rintro e wz ⟨rfl, rfl⟩) | (at_builtin; refine wpList_append_own _ rfl (.tmp 17) (.tmp 23) 43 rfl w.heap.size 9 i0 (.string ⟨#[]⟩) 1 16 Tryz.underlying43 hi0 hz0 hz1 hz2 rfl (by decide) _ _ _ rfl (hoa.alloc _) ⟨_, 0, none⟩ 1 1 [.string _] rfl rfl (World.news_of_block (heap_alloc2 _ _ _)) (by intro u hu; simp at hu; subst hu; rfl) (by unfold maxLen; omega) (by omega) (by have := hb.size; simp; omega) ?_; intro v5 w5 hown5 hgrow _))
        go_roundg (7)
        case measure => omega
        case rel =>
          have hb5 : Below w.heap.size w w5 := (hba.alloc hba.size _).grown hgrow (by have := hb.size; simp; omega) (fun q hq => (hown.lt q hq).1)
          exact ⟨3, by omega, by omega, rfl, hb5, by have h5 := hown5; rw [HC.out] at h5; exact h5⟩
      · have ix : ∀ wx : World, (Instr.index 196 (.agg #[.string ⟨#[70, 82, 69, 81]⟩, .func (.func 156) #[] #[], .func (.func 157) #[] #[], .string ⟨#[73, 78, 84, 69, 82, 86, 65, 76]⟩, .func (.func 158) #[] #[], .func (.func 159) #[] #[], .string ⟨#[67, 79, 85, 78, 84]⟩, .func (.func 160) #[] #[], .func (.func 161) #[] #[], .string ⟨#[85, 78, 84, 73, 76]⟩, .func (.func 162) #[] #[], .func (.func 163) #[] #[], .string ⟨#[66, 89, 77, 79, 78, 84, 72]⟩, .func (.func 164) #[] #[], .func (.func 165) #[] #[], .string ⟨#[66, 89, 77, 79, 78, 84, 72, 68, 65, 89]⟩, .func (.func 166) #[] #[], .func (.func 167) #[] #[], .string ⟨#[66, 89, 68, 65, 89]⟩, .func (.func 168) #[] #[], .func (.func 169) #[] #[], .string ⟨#[66, 89, 83, 69, 84, 80, 79, 83]⟩, .func (.func 170) #[] #[], .func (.func 171) #[] #[], .string ⟨#[87, 75, 83, 84]⟩, .func (.func 172) #[] #[], .func (.func 173) #[] #[]]) (.int .i64 3)).run Tryz.prog wx = .ok (.agg #[.string ⟨#[85, 78, 84, 73, 76]⟩, .func (.func 162) #[] #[], .func (.func 163) #[] #[]]) wx := fun wx => by kernel_rfl
        replace hown : wr.ownsRow w.heap.size 9 1 u3 3 (([ba pF, ba (pI k), ba (pC m)] : List ByteArray).map Value.string) := hown
        go_upto_region 4 with fail
        refine wp_region_lit ?_
        refine wpList_plain rfl (fun K hK => ?_)
        go_simp
        refine hK _ _ ?_
        clear hK K ix
        refine wpList_plain rfl (fun K hK => ?_)
        go_simp
        refine hK _ _ ?_
        clear hK K
        refine wpList_store_fresh (by rfl) 195 (.tmp 5) (.tmp 10) (by rfl) #[.string ⟨#[]⟩, .nilFunc, .nilFunc] #[.string ⟨#[85, 78, 84, 73, 76]⟩, .func (.func 162) #[] #[], .func (.func 163) #[] #[]] rfl rfl rfl (by kernel_rfl) (by kernel_rfl) (by kernel_rfl) ?_
        refine wpList_nil ?_
        have hba := hb.alloc hb.size (.cells #[.string ⟨#[85, 78, 84, 73, 76]⟩, .func (.func 162) #[] #[], .func (.func 163) #[] #[]] 195)
        have hoa := hown.alloc (.cells #[.string ⟨#[85, 78, 84, 73, 76]⟩, .func (.func 162) #[] #[], .func (.func 163) #[] #[]] 195)
        have cW := HW3.out _ hba
        go_wp2_with (go_at_call 163; refine cW.mono ?_; clear cW; rintro e wz ⟨rfl, rfl⟩)
        go_roundg (6)
        case measure => omega
        case rel => exact ⟨4, by omega, by omega, rfl, hba, hoa⟩
      · have ix : ∀ wx : World, (Instr.index 196 (.agg #[.string ⟨#[70, 82, 69, 81]⟩, .func (.func 156) #[] #[], .func (.func 157) #[] #[], .string ⟨#[73, 78, 84, 69, 82, 86, 65, 76]⟩, .func (.func 158) #[] #[], .func (.func 159) #[] #[], .string ⟨#[67, 79, 85, 78, 84]⟩, .func (.func 160) #[] #[], .func (.func 161) #[] #[], .string ⟨#[85, 78, 84, 73, 76]⟩, .func (.func 162) #[] #[], .func (.func 163) #[] #[], .string ⟨#[66, 89, 77, 79, 78, 84, 72]⟩, .func (.func 164) #[] #[], .func (.func 165) #[] #[], .string ⟨#[66, 89, 77, 79, 78, 84, 72, 68, 65, 89]⟩, .func (.func 166) #[] #[], .func (.func 167) #[] #[], .string ⟨#[66, 89, 68, 65, 89]⟩, .func (.func 168) #[] #[], .func (.func 169) #[] #[], .string ⟨#[66, 89, 83, 69, 84, 80, 79, 83]⟩, .func (.func 170) #[] #[], .func (.func 171) #[] #[], .string ⟨#[87, 75, 83, 84]⟩, .func (.func 172) #[] #[], .func (.func 173) #[] #[]]) (.int .i64 4)).run Tryz.prog wx = .ok (.agg #[.string ⟨#[66, 89, 77, 79, 78, 84, 72]⟩, .func (.func 164) #[] #[], .func (.func 165) #[] #[]]) wx := fun wx => by kernel_rfl
        replace hown : wr.ownsRow w.heap.size 9 1 u3 3 (([ba pF, ba (pI k), ba (pC m)] : List ByteArray).map Value.string) := hown
        go_upto_region 4 with fail
        refine wp_region_lit ?_
        refine wpList_plain rfl (fun K hK => ?_)
        go_simp
        refine hK _ _ ?_
        clear hK K ix
        refine wpList_plain rfl (fun K hK => ?_)
        go_simp
        refine hK _ _ ?_
        clear hK K
        refine wpList_store_fresh (by rfl) 195 (.tmp 5) (.tmp 10) (by rfl) #[.string ⟨#[]⟩, .nilFunc, .nilFunc] #[.string ⟨#[66, 89, 77, 79, 78, 84, 72]⟩, .func (.func 164) #[] #[], .func (.func 165) #[] #[]] rfl rfl rfl (by kernel_rfl) (by kernel_rfl) (by kernel_rfl) ?_
        refine wpList_nil ?_
        have hba := hb.alloc hb.size (.cells #[.string ⟨#[66, 89, 77, 79, 78, 84, 72]⟩, .func (.func 164) #[] #[], .func (.func 165) #[] #[]] 195)
        have hoa := hown.alloc (.cells #[.string ⟨#[66, 89, 77, 79, 78, 84, 72]⟩, .func (.func 164) #[] #[], .func (.func 165) #[] #[]] 195)
        have cW := HW4.out _ hba
        go_wp2_with (go_at_call 165; refine cW.mono ?_; clear cW; rintro e w3 ⟨rfl, hb3⟩; have hbb := hba.trans (hb3.mono hba.size); have hob := hoa.kept (gb_of_below hb3 none) (Classical.em _))
        go_roundg (5)
        case measure => omega
        case rel => exact ⟨5, by omega, by omega, rfl, hbb, hob⟩
      · have ix : ∀ wx : World, (Instr.index 196 (.agg #[.string ⟨#[70, 82, 69, 81]⟩, .func (.func 156) #[] #[], .func (.func 157) #[] #[], .string ⟨#[73, 78, 84, 69, 82, 86, 65, 76]⟩, .func (.func 158) #[] #[], .func (.func 159) #[] #[], .string ⟨#[67, 79, 85, 78, 84]⟩, .func (.func 160) #[] #[], .func (.func 161) #[] #[], .string ⟨#[85, 78, 84, 73, 76]⟩, .func (.func 162) #[] #[], .func (.func 163) #[] #[], .string ⟨#[66, 89, 77, 79, 78, 84, 72]⟩, .func (.func 164) #[] #[], .func (.func 165) #[] #[], .string ⟨#[66, 89, 77, 79, 78, 84, 72, 68, 65, 89]⟩, .func (.func 166) #[] #[], .func (.func 167) #[] #[], .string ⟨#[66, 89, 68, 65, 89]⟩, .func (.func 168) #[] #[], .func (.func 169) #[] #[], .string ⟨#[66, 89, 83, 69, 84, 80, 79, 83]⟩, .func (.func 170) #[] #[], .func (.func 171) #[] #[], .string ⟨#[87, 75, 83, 84]⟩, .func (.func 172) #[] #[], .func (.func 173) #[] #[]]) (.int .i64 5)).run Tryz.prog wx = .ok (.agg #[.string ⟨#[66, 89, 77, 79, 78, 84, 72, 68, 65, 89]⟩, .func (.func 166) #[] #[], .func (.func 167) #[] #[]]) wx := fun wx => by kernel_rfl
        replace hown : wr.ownsRow w.heap.size 9 1 u3 3 (([ba pF, ba (pI k), ba (pC m)] : List ByteArray).map Value.string) := hown
        go_upto_region 4 with fail
        refine wp_region_lit ?_
        refine wpList_plain rfl (fun K hK => ?_)
        go_simp
        refine hK _ _ ?_
        clear hK K ix
        refine wpList_plain rfl (fun K hK => ?_)
        go_simp
        refine hK _ _ ?_
        clear hK K
        refine wpList_store_fresh (by rfl) 195 (.tmp 5) (.tmp 10) (by rfl) #[.string ⟨#[]⟩, .nilFunc, .nilFunc] #[.string ⟨#[66, 89, 77, 79, 78, 84, 72, 68, 65, 89]⟩, .func (.func 166) #[] #[], .func (.func 167) #[] #[]] rfl rfl rfl (by kernel_rfl) (by kernel_rfl) (by kernel_rfl) ?_
        refine wpList_nil ?_
        have hba := hb.alloc hb.size (.cells #[.string ⟨#[66, 89, 77, 79, 78, 84, 72, 68, 65, 89]⟩, .func (.func 166) #[] #[], .func (.func 167) #[] #[]] 195)
        have hoa := hown.alloc (.cells #[.string ⟨#[66, 89, 77, 79, 78, 84, 72, 68, 65, 89]⟩, .func (.func 166) #[] #[], .func (.func 167) #[] #[]] 195)
        have cW := HW5.out _ hba
        go_wp2_with (go_at_call 167; refine cW.mono ?_; clear cW; rintro e w3 ⟨rfl, hb3⟩; have hbb := hba.trans (hb3.mono hba.size); have hob := hoa.kept (gb_of_below hb3 none) (Classical.em _))
        go_roundg (4)
        case measure => omega
        case rel => exact ⟨6, by omega, by omega, rfl, hbb, hob⟩
      · have ix : ∀ wx : World, (Instr.index 196 (.agg #[.string ⟨#[70, 82, 69, 81]⟩, .func (.func 156) #[] #[], .func (.func 157) #[] #[], .string ⟨#[73, 78, 84, 69, 82, 86, 65, 76]⟩, .func (.func 158) #[] #[], .func (.func 159) #[] #[], .string ⟨#[67, 79, 85, 78, 84]⟩, .func (.func 160) #[] #[], .func (.func 161) #[] #[], .string ⟨#[85, 78, 84, 73, 76]⟩, .func (.func 162) #[] #[], .func (.func 163) #[] #[], .string ⟨#[66, 89, 77, 79, 78, 84, 72]⟩, .func (.func 164) #[] #[], .func (.func 165) #[] #[], .string ⟨#[66, 89, 77, 79, 78, 84, 72, 68, 65, 89]⟩, .func (.func 166) #[] #[], .func (.func 167) #[] #[], .string ⟨#[66, 89, 68, 65, 89]⟩, .func (.func 168) #[] #[], .func (.func 169) #[] #[], .string ⟨#[66, 89, 83, 69, 84, 80, 79, 83]⟩, .func (.func 170) #[] #[], .func (.func 171) #[] #[], .string ⟨#[87, 75, 83, 84]⟩, .func (.func 172) #[] #[], .func (.func 173) #[] #[]]) (.int .i64 6)).run Tryz.prog wx = .ok (.agg #[.string ⟨#[66, 89, 68, 65, 89]⟩, .func (.func 168) #[] #[], .func (.func 169) #[] #[]]) wx := fun wx => by kernel_rfl
        replace hown : wr.ownsRow w.heap.size 9 1 u3 3 (([ba pF, ba (pI k), ba (pC m)] : List ByteArray).map Value.string) := hown
        go_upto_region 4 with fail
        refine wp_region_lit ?_
        refine wpList_plain rfl (fun K hK => ?_)
        go_simp
        refine hK _ _ ?_
        clear hK K ix
        refine wpList_plain rfl (fun K hK => ?_)
        go_simp
        refine hK _ _ ?_
        clear hK K
        refine wpList_store_fresh (by rfl) 195 (.tmp 5) (.tmp 10) (by rfl) #[.string ⟨#[]⟩, .nilFunc, .nilFunc] #[.string ⟨#[66, 89, 68, 65, 89]⟩, .func (.func 168) #[] #[], .func (.func 169) #[] #[]] rfl rfl rfl (by kernel_rfl) (by kernel_rfl) (by kernel_rfl) ?_
        refine wpList_nil ?_
        have hba := hb.alloc hb.size (.cells #[.string ⟨#[66, 89, 68, 65, 89]⟩, .func (.func 168) #[] #[], .func (.func 169) #[] #[]] 195)
        have hoa := hown.alloc (.cells #[.string ⟨#[66, 89, 68, 65, 89]⟩, .func (.func 168) #[] #[], .func (.func 169) #[] #[]] 195)
        have cW := HW6.out _ hba
        go_wp2_with (go_at_call 169; refine cW.mono ?_; clear cW; rintro e w3 ⟨rfl, hb3⟩; have hbb := hba.trans (hb3.mono hba.size); have hob := hoa.kept (gb_of_below hb3 none) (Classical.em _))
        go_roundg (3)
        case measure => omega
        case rel => exact ⟨7, by omega, by omega, rfl, hbb, hob⟩
      · have ix : ∀ wx : World, (Instr.index 196 (.agg #[.string ⟨#[70, 82, 69, 81]⟩, .func (.func 156) #[] #[], .func (.func 157) #[] #[], .string ⟨#[73, 78, 84, 69, 82, 86, 65, 76]⟩, .func (.func 158) #[] #[], .func (.func 159) #[] #[], .string ⟨#[67, 79, 85, 78, 84]⟩, .func (.func 160) #[] #[], .func (.func 161) #[] #[], .string ⟨#[85, 78, 84, 73, 76]⟩, .func (.func 162) #[] #[], .func (.func 163) #[] #[], .string ⟨#[66, 89, 77, 79, 78, 84, 72]⟩, .func (.func 164) #[] #[], .func (.func 165) #[] #[], .string ⟨#[66, 89, 77, 79, 78, 84, 72, 68, 65, 89]⟩, .func (.func 166) #[] #[], .func (.func 167) #[] #[], .string ⟨#[66, 89, 68, 65, 89]⟩, .func (.func 168) #[] #[], .func (.func 169) #[] #[], .string ⟨#[66, 89, 83, 69, 84, 80, 79, 83]⟩, .func (.func 170) #[] #[], .func (.func 171) #[] #[], .string ⟨#[87, 75, 83, 84]⟩, .func (.func 172) #[] #[], .func (.func 173) #[] #[]]) (.int .i64 7)).run Tryz.prog wx = .ok (.agg #[.string ⟨#[66, 89, 83, 69, 84, 80, 79, 83]⟩, .func (.func 170) #[] #[], .func (.func 171) #[] #[]]) wx := fun wx => by kernel_rfl
        replace hown : wr.ownsRow w.heap.size 9 1 u3 3 (([ba pF, ba (pI k), ba (pC m)] : List ByteArray).map Value.string) := hown
        go_upto_region 4 with fail
        refine wp_region_lit ?_
        refine wpList_plain rfl (fun K hK => ?_)
        go_simp
        refine hK _ _ ?_
        clear hK K ix
        refine wpList_plain rfl (fun K hK => ?_)
        go_simp
        refine hK _ _ ?_
        clear hK K
        refine wpList_store_fresh (by rfl) 195 (.tmp 5) (.tmp 10) (by rfl) #[.string ⟨#[]⟩, .nilFunc, .nilFunc] #[.string ⟨#[66, 89, 83, 69, 84, 80, 79, 83]⟩, .func (.func 170) #[] #[], .func (.func 171) #[] #[]] rfl rfl rfl (by kernel_rfl) (by kernel_rfl) (by kernel_rfl) ?_
        refine wpList_nil ?_
        have hba := hb.alloc hb.size (.cells #[.string ⟨#[66, 89, 83, 69, 84, 80, 79, 83]⟩, .func (.func 170) #[] #[], .func (.func 171) #[] #[]] 195)
        have hoa := hown.alloc (.cells #[.string ⟨#[66, 89, 83, 69, 84, 80, 79, 83]⟩, .func (.func 170) #[] #[], .func (.func 171) #[] #[]] 195)
        have cW := HW7.out _ hba
        go_wp2_with (go_at_call 171; refine cW.mono ?_; clear cW; rintro e w3 ⟨rfl, hb3⟩; have hbb := hba.trans (hb3.mono hba.size); have hob := hoa.kept (gb_of_below hb3 none) (Classical.em _))
        go_roundg (2)
        case measure => omega
        case rel => exact ⟨8, by omega, by omega, rfl, hbb, hob⟩
      · have ix : ∀ wx : World, (Instr.index 196 (.agg #[.string ⟨#[70, 82, 69, 81]⟩, .func (.func 156) #[] #[], .func (.func 157) #[] #[], .string ⟨#[73, 78, 84, 69, 82, 86, 65, 76]⟩, .func (.func 158) #[] #[], .func (.func 159) #[] #[], .string ⟨#[67, 79, 85, 78, 84]⟩, .func (.func 160) #[] #[], .func (.func 161) #[] #[], .string ⟨#[85, 78, 84, 73, 76]⟩, .func (.func 162) #[] #[], .func (.func 163) #[] #[], .string ⟨#[66, 89, 77, 79, 78, 84, 72]⟩, .func (.func 164) #[] #[], .func (.func 165) #[] #[], .string ⟨#[66, 89, 77, 79, 78, 84, 72, 68, 65, 89]⟩, .func (.func 166) #[] #[], .func (.func 167) #[] #[], .string ⟨#[66, 89, 68, 65, 89]⟩, .func (.func 168) #[] #[], .func (.func 169) #[] #[], .string ⟨#[66, 89, 83, 69, 84, 80, 79, 83]⟩, .func (.func 170) #[] #[], .func (.func 171) #[] #[], .string ⟨#[87, 75, 83, 84]⟩, .func (.func 172) #[] #[], .func (.func 173) #[] #[]]) (.int .i64 8)).run Tryz.prog wx = .ok (.agg #[.string ⟨#[87, 75, 83, 84]⟩, .func (.func 172) #[] #[], .func (.func 173) #[] #[]]) wx := fun wx => by kernel_rfl
        replace hown : wr.ownsRow w.heap.size 9 1 u3 3 (([ba pF, ba (pI k), ba (pC m)] : List ByteArray).map Value.string) := hown
        go_upto_region 4 with fail
        refine wp_region_lit ?_
        refine wpList_plain rfl (fun K hK => ?_)
        go_simp
        refine hK _ _ ?_
        clear hK K ix
        refine wpList_plain rfl (fun K hK => ?_)
        go_simp
        refine hK _ _ ?_
        clear hK K
        refine wpList_store_fresh (by rfl) 195 (.tmp 5) (.tmp 10) (by rfl) #[.string ⟨#[]⟩, .nilFunc, .nilFunc] #[.string ⟨#[87, 75, 83, 84]⟩, .func (.func 172) #[] #[], .func (.func 173) #[] #[]] rfl rfl rfl (by kernel_rfl) (by kernel_rfl) (by kernel_rfl) ?_
        refine wpList_nil ?_
        have hba := hb.alloc hb.size (.cells #[.string ⟨#[87, 75, 83, 84]⟩, .func (.func 172) #[] #[], .func (.func 173) #[] #[]] 195)
        have hoa := hown.alloc (.cells #[.string ⟨#[87, 75, 83, 84]⟩, .func (.func 172) #[] #[], .func (.func 173) #[] #[]] 195)
        have cW := HW8.out _ hba
        go_wp2_with (go_at_call 173; refine cW.mono ?_; clear cW; rintro e wz ⟨rfl, rfl⟩)
        go_roundg (1)
        case measure => omega
        case rel => exact ⟨9, by omega, by omega, rfl, hba, hoa⟩
set_option maxRecDepth 100000 in
set_option maxHeartbeats 8000000 in
theorem writeRule2 (Q : Nat)  (m : Nat) (hm1 : 1 ≤ m) (hm : m < 100) (w : World) (hv : GV w) (h : w.heap[Q]? = some (.cells #[.int .i64 1, .int .i64 1, .int .i64 m, .int .i64 0, .bool false, .slice none 0 0, .slice none 0 0, .slice none 0 0, .slice none 0 0, .int .i64 0, .bool false, .bool false] 131 (0, 0))) :
    Calls Tryz.prog 72 #[.pointer (some ⟨Q, 0, none⟩)] w fun e w' => e = .returned (.string (ba (rule2 m))) ∧ Below w.heap.size w w' := by
  obtain ⟨i0, hi0, hz0, hz1, hz2⟩ := info_parts strInfo
  have HQ : Hid (∀ wx, Below w.heap.size w wx → wx.heap[Q]? = some (.cells #[.int .i64 1, .int .i64 1, .int .i64 m, .int .i64 0, .bool false, .slice none 0 0, .slice none 0 0, .slice none 0 0, .slice none 0 0, .int .i64 0, .bool false, .bool false] 131 (0, 0))) := fun wx hb => hbel h hb
  have HV : Hid (∀ wx, Below w.heap.size w wx → FN wx) := fun wx hb => (hv.below hb).fn
  have hm2 : (num m).size ≤ 2 := by rw [num_ba hm, ba_size]; exact (dl_all m hm).1
  have hm3 : 1 ≤ (num m).size := by rw [num_ba hm, ba_size]; exact (dl_all m hm).2.1
  have hm4 : (num m).toList.isEmpty = false := by rw [Lib.toList_data]; exact List.isEmpty_eq_false_iff.2 (fun hh => by have := (dl_all m hm).2.1; rw [num_data hm] at hh; rw [hh] at this; simp at this)
  have HC0 : ba [67, 79, 85, 78, 84] ++ ba [61] ++ num m = ba (pC m) := by rw [num_ba hm, ba_app, ba_app]; rfl
  have HC : Hid ((⟨#[67, 79, 85, 78, 84]⟩ : ByteArray) ++ ⟨#[61]⟩ ++ num m = ba (pC m)) := HC0
  clear HC0
  have HF0 : ba [70, 82, 69, 81] ++ ba [61] ++ ba [68, 65, 73, 76, 89] = ba pF := by rw [ba_app, ba_app]; rfl
  have HF : Hid ((⟨#[70, 82, 69, 81]⟩ : ByteArray) ++ ⟨#[61]⟩ ++ ⟨#[68, 65, 73, 76, 89]⟩ = ba pF) := HF0
  clear HF0
  have HWC : Hid (∀ wx, Below w.heap.size w wx → Calls Tryz.prog 161 #[.pointer (some ⟨Q, 0, none⟩)] wx fun e w' => e = .returned (.string (num m)) ∧ w' = wx) := fun wx hb => wCount Q m hm1 hm _ wx (HQ.out wx hb)
  have HWE : Hid (∀ wx, Below w.heap.size w wx → Calls Tryz.prog 159 #[.pointer (some ⟨Q, 0, none⟩)] wx fun e w' => e = .returned (.string ⟨#[]⟩) ∧ w' = wx) := fun wx hb => wEvery1 Q _ wx (HQ.out wx hb)
  have HWF : Hid (∀ wx, Below w.heap.size w wx → Calls Tryz.prog 157 #[.pointer (some ⟨Q, 0, none⟩)] wx fun e w' => e = .returned (.string ⟨#[68, 65, 73, 76, 89]⟩) ∧ w' = wx) := fun wx hb => wFreq Q _ _ wx (HQ.out wx hb) (HV.out wx hb)
  have HW3 : Hid (∀ wx, Below w.heap.size w wx → Calls Tryz.prog 163 #[.pointer (some ⟨Q, 0, none⟩)] wx fun e w' => e = .returned (.string ⟨#[]⟩) ∧ w' = wx) := fun wx hb => wUntil Q _ _ wx (HQ.out wx hb)
  have HW4 : Hid (∀ wx, Below w.heap.size w wx → Calls Tryz.prog 165 #[.pointer (some ⟨Q, 0, none⟩)] wx fun e w' => e = .returned (.string ⟨#[]⟩) ∧ Below wx.heap.size wx w') := fun wx hb => wMonths Q _ _ wx (HQ.out wx hb)
  have HW5 : Hid (∀ wx, Below w.heap.size w wx → Calls Tryz.prog 167 #[.pointer (some ⟨Q, 0, none⟩)] wx fun e w' => e = .returned (.string ⟨#[]⟩) ∧ Below wx.heap.size wx w') := fun wx hb => wMonthDays Q _ _ wx (HQ.out wx hb)
  have HW6 : Hid (∀ wx, Below w.heap.size w wx → Calls Tryz.prog 169 #[.pointer (some ⟨Q, 0, none⟩)] wx fun e w' => e = .returned (.string ⟨#[]⟩) ∧ Below wx.heap.size wx w') := fun wx hb => wWeekdays Q _ _ wx (HQ.out wx hb)
  have HW7 : Hid (∀ wx, Below w.heap.size w wx → Calls Tryz.prog 171 #[.pointer (some ⟨Q, 0, none⟩)] wx fun e w' => e = .returned (.string ⟨#[]⟩) ∧ Below wx.heap.size wx w') := fun wx hb => wPlaces Q _ _ wx (HQ.out wx hb)
  have HW8 : Hid (∀ wx, Below w.heap.size w wx → Calls Tryz.prog 173 #[.pointer (some ⟨Q, 0, none⟩)] wx fun e w' => e = .returned (.string ⟨#[]⟩) ∧ w' = wx) := fun wx hb => wFirst Q _ _ wx (HQ.out wx hb)
  have HJ0 : Lib.join (([ba pF, ba (pC m)] : List ByteArray).map (·.data.toList)) [59] = rule2 m := by
    simp only [List.map_cons, List.map_nil, ba_data]
    simp [Lib.join, List.intercalate, rule2]
  have HJ : Hid (Lib.join (([ba pF, ba (pC m)] : List ByteArray).map (·.data.toList)) [59] = rule2 m) := HJ0
  clear HJ0
  have hQ := hlt h
  clear h hv
  go_enter Tryz.func72, Tryz.ntmps72
  go_wp2_with (go_at_call 115; refine (parts_any _).mono ?_; rintro e wp ⟨rfl, hbp⟩)
  go_loopg [3, 8] 10 (fun gk s3 s8 wr => ∃ i : Nat, gk + i = 10 ∧ 1 ≤ gk ∧ s8 = .int .i64 i ∧ Below w.heap.size w wr ∧ (match i with | 0 => wr.ownsRow w.heap.size 9 1 s3 0 (([] : List ByteArray).map Value.string) | 1 => wr.ownsRow w.heap.size 9 1 s3 1 (([ba pF] : List ByteArray).map Value.string) | 2 => wr.ownsRow w.heap.size 9 1 s3 1 (([ba pF] : List ByteArray).map Value.string) | _ => wr.ownsRow w.heap.size 9 1 s3 2 (([ba pF, ba (pC m)] : List ByteArray).map Value.string)))
  case atStart => exact ⟨0, rfl, by omega, rfl, hbp, World.ownsRow_nil _ _ _ _⟩
  case round =>
    obtain ⟨i, hi, hgk, rfl, hb, hown⟩ := hrel
    by_cases h9 : i = 9
    · subst h9
      obtain ⟨g, cap, rfl, hcap1, hcap2, hgB⟩ := own_slice hown (by omega)
      have hcl : ∀ (j : Nat) x, ([ba pF, ba (pC m)] : List ByteArray)[j]? = some x → wr.cell? ⟨g, 0 + j, none⟩ = some (.string x) := fun j x hj => by
        rw [Nat.zero_add]
        exact own_cells hown j _ (by rw [List.getElem?_map, hj]; rfl)
      have hgl : g < wr.heap.size := World.block_lt_of_cell? _ _ (hcl 0 _ rfl)
      have cJ := Tryz.strings_Join g 0 cap [ba pF, ba (pC m)] ⟨#[59]⟩ wr hcl hgl (by simp) (by simpa using hcap1) (by show (Lib.join _ [59]).length ≤ _; rw [HJ.out]; have := rule2_len hm; omega)
      have eJ : (ByteArray.mk (Lib.join (([ba pF, ba (pC m)] : List ByteArray).map (·.data.toList)) (ByteArray.data ⟨#[59]⟩).toList).toArray) = ba (rule2 m) := by
        show (ByteArray.mk (Lib.join _ [59]).toArray) = _
        rw [HJ.out]; rfl
      rw [eJ] at cJ
      clear eJ hcl
      go_wp2_with (go_at_call 116; refine cJ.mono ?_; clear cJ; rintro e w3 ⟨rfl, hb3⟩)
      go_ret
      exact ⟨rfl, hb.trans (hb3.mono hb.size)⟩
    · obtain rfl | rfl | rfl | rfl | rfl | rfl | rfl | rfl | rfl := (show i = 0 ∨ i = 1 ∨ i = 2 ∨ i = 3 ∨ i = 4 ∨ i = 5 ∨ i = 6 ∨ i = 7 ∨ i = 8 by omega)
      · have ix : ∀ wx : World, (Instr.index 196 (.agg #[.string ⟨#[70, 82, 69, 81]⟩, .func (.func 156) #[] #[], .func (.func 157) #[] #[], .string ⟨#[73, 78, 84, 69, 82, 86, 65, 76]⟩, .func (.func 158) #[] #[], .func (.func 159) #[] #[], .string ⟨#[67, 79, 85, 78, 84]⟩, .func (.func 160) #[] #[], .func (.func 161) #[] #[], .string ⟨#[85, 78, 84, 73, 76]⟩, .func (.func 162) #[] #[], .func (.func 163) #[] #[], .string ⟨#[66, 89, 77, 79, 78, 84, 72]⟩, .func (.func 164) #[] #[], .func (.func 165) #[] #[], .string ⟨#[66, 89, 77, 79, 78, 84, 72, 68, 65, 89]⟩, .func (.func 166) #[] #[], .func (.func 167) #[] #[], .string ⟨#[66, 89, 68, 65, 89]⟩, .func (.func 168) #[] #[], .func (.func 169) #[] #[], .string ⟨#[66, 89, 83, 69, 84, 80, 79, 83]⟩, .func (.func 170) #[] #[], .func (.func 171) #[] #[], .string ⟨#[87, 75, 83, 84]⟩, .func (.func 172) #[] #[], .func (.func 173) #[] #[]]) (.int .i64 0)).run Tryz.prog wx = .ok (.agg #[.string ⟨#[70, 82, 69, 81]⟩, .func (.func 156) #[] #[], .func (.func 157) #[] #[]]) wx := fun wx => by kernel_rfl
        replace hown : wr.ownsRow w.heap.size 9 1 u3 0 (([] : List ByteArray).map Value.string) := hown
        go_upto_region 4 with fail
        refine wp_region_lit ?_
        refine wpList_plain rfl (fun K hK => ?_)
        go_simp
        refine hK _ _ ?_
        clear hK K ix
        refine wpList_plain rfl (fun K hK => ?_)
        go_simp
        refine hK _ _ ?_
        clear hK K
        refine wpList_store_fresh (by rfl) 195 (.tmp 5) (.tmp 10) (by rfl) #[.string ⟨#[]⟩, .nilFunc, .nilFunc] #[.string ⟨#[70, 82, 69, 81]⟩, .func (.func 156) #[] #[], .func (.func 157) #[] #[]] rfl rfl rfl (by kernel_rfl) (by kernel_rfl) (by kernel_rfl) ?_
        refine wpList_nil ?_
        have hba := hb.alloc hb.size (.cells #[.string ⟨#[70, 82, 69, 81]⟩, .func (.func 156) #[] #[], .func (.func 157) #[] #[]] 195)
        have hoa := hown.alloc (.cells #[.string ⟨#[70, 82, 69, 81]⟩, .func (.func 156) #[] #[], .func (.func 157) #[] #[]] 195)
        have cW := HWF.out _ hba
        go_wp2_with (first | (go_at_call 157; refine cW.mono ?_; clear cW; rintro e wz ⟨rfl, rfl⟩) | (at_builtin; refine wpList_append_own _ rfl (.tmp 17) (.tmp 23) 43 rfl w.heap.size 9 i0 (.string ⟨#[]⟩) 1 16 Tryz.underlying43 hi0 hz0 hz1 hz2 rfl (by decide) _ _ _ rfl (hoa.alloc _) ⟨_, 0, none⟩ 1 1 [.string _] rfl rfl (World.news_of_block (heap_alloc2 _ _ _)) (by intro u hu; simp at hu; subst hu; rfl) (by unfold maxLen; omega) (by omega) (by have := hb.size; simp; omega) ?_; intro v5 w5 hown5 hgrow _))
        go_roundg (9)
        case measure => omega
        case rel =>
          have hb5 : Below w.heap.size w w5 := (hba.alloc hba.size _).grown hgrow (by have := hb.size; simp; omega) (fun q hq => (hown.lt q hq).1)
          exact ⟨1, by omega, by omega, rfl, hb5, by have h5 := hown5; rw [HF.out] at h5; exact h5⟩
      · have ix : ∀ wx : World, (Instr.index 196 (.agg #[.string ⟨#[70, 82, 69, 81]⟩, .func (.func 156) #[] #[], .func (.func 157) #[] #[], .string ⟨#[73, 78, 84, 69, 82, 86, 65, 76]⟩, .func (.func 158) #[] #[], .func (.func 159) #[] #[], .string ⟨#[67, 79, 85, 78, 84]⟩, .func (.func 160) #[] #[], .func (.func 161) #[] #[], .string ⟨#[85, 78, 84, 73, 76]⟩, .func (.func 162) #[] #[], .func (.func 163) #[] #[], .string ⟨#[66, 89, 77, 79, 78, 84, 72]⟩, .func (.func 164) #[] #[], .func (.func 165) #[] #[], .string ⟨#[66, 89, 77, 79, 78, 84, 72, 68, 65, 89]⟩, .func (.func 166) #[] #[], .func (.func 167) #[] #[], .string ⟨#[66, 89, 68, 65, 89]⟩, .func (.func 168) #[] #[], .func (.func 169) #[] #[], .string ⟨#[66, 89, 83, 69, 84, 80, 79, 83]⟩, .func (.func 170) #[] #[], .func (.func 171) #[] #[], .string ⟨#[87, 75, 83, 84]⟩, .func (.func 172) #[] #[], .func (.func 173) #[] #[]]) (.int .i64 1)).run Tryz.prog wx = .ok (.agg #[.string ⟨#[73, 78, 84, 69, 82, 86, 65, 76]⟩, .func (.func 158) #[] #[], .func (.func 159) #[] #[]]) wx := fun wx => by kernel_rfl
        replace hown : wr.ownsRow w.heap.size 9 1 u3 1 (([ba pF] : List ByteArray).map Value.string) := hown
        go_upto_region 4 with fail
        refine wp_region_lit ?_
        refine wpList_plain rfl (fun K hK => ?_)
        go_simp
        refine hK _ _ ?_
        clear hK K ix
        refine wpList_plain rfl (fun K hK => ?_)
        go_simp
        refine hK _ _ ?_
        clear hK K
        refine wpList_store_fresh (by rfl) 195 (.tmp 5) (.tmp 10) (by rfl) #[.string ⟨#[]⟩, .nilFunc, .nilFunc] #[.string ⟨#[73, 78, 84, 69, 82, 86, 65, 76]⟩, .func (.func 158) #[] #[], .func (.func 159) #[] #[]] rfl rfl rfl (by kernel_rfl) (by kernel_rfl) (by kernel_rfl) ?_
        refine wpList_nil ?_
        have hba := hb.alloc hb.size (.cells #[.string ⟨#[73, 78, 84, 69, 82, 86, 65, 76]⟩, .func (.func 158) #[] #[], .func (.func 159) #[] #[]] 195)
        have hoa := hown.alloc (.cells #[.string ⟨#[73, 78, 84, 69, 82, 86, 65, 76]⟩, .func (.func 158) #[] #[], .func (.func 159) #[] #[]] 195)
        have cW := HWE.out _ hba
        go_wp2_with (go_at_call 159; refine cW.mono ?_; clear cW; rintro e wz ⟨rfl, rfl⟩)
        go_roundg (8)
        case measure => omega
        case rel => exact ⟨2, by omega, by omega, rfl, hba, hoa⟩
      · have ix : ∀ wx : World, (Instr.index 196 (.agg #[.string ⟨#[70, 82, 69, 81]⟩, .func (.func 156) #[] #[], .func (.func 157) #[] #[], .string ⟨#[73, 78, 84, 69, 82, 86, 65, 76]⟩, .func (.func 158) #[] #[], .func (.func 159) #[] #[], .string ⟨#[67, 79, 85, 78, 84]⟩, .func (.func 160) #[] #[], .func (.func 161) #[] #[], .string ⟨#[85, 78, 84, 73, 76]⟩, .func (.func 162) #[] #[], .func (.func 163) #[] #[], .string ⟨#[66, 89, 77, 79, 78, 84, 72]⟩, .func (.func 164) #[] #[], .func (.func 165) #[] #[], .string ⟨#[66, 89, 77, 79, 78, 84, 72, 68, 65, 89]⟩, .func (.func 166) #[] #[], .func (.func 167) #[] #[], .string ⟨#[66, 89, 68, 65, 89]⟩, .func (.func 168) #[] #[], .func (.func 169) #[] #[], .string ⟨#[66, 89, 83, 69, 84, 80, 79, 83]⟩, .func (.func 170) #[] #[], .func (.func 171) #[] #[], .string ⟨#[87, 75, 83, 84]⟩, .func (.func 172) #[] #[], .func (.func 173) #[] #[]]) (.int .i64 2)).run Tryz.prog wx = .ok (.agg #[.string ⟨#[67, 79, 85, 78, 84]⟩, .func (.func 160) #[] #[], .func (.func 161) #[] #[]]) wx := fun wx => by kernel_rfl
        replace hown : wr.ownsRow w.heap.size 9 1 u3 1 (([ba pF] : List ByteArray).map Value.string) := hown
        go_upto_region 4 with fail
        refine wp_region_lit ?_
        refine wpList_plain rfl (fun K hK => ?_)
        go_simp
        refine hK _ _ ?_
        clear hK K ix
        refine wpList_plain rfl (fun K hK => ?_)
        go_simp
        refine hK _ _ ?_
        clear hK K
        refine wpList_store_fresh (by rfl) 195 (.tmp 5) (.tmp 10) (by rfl) #[.string ⟨#[]⟩, .nilFunc, .nilFunc] #[.string ⟨#[67, 79, 85, 78, 84]⟩, .func (.func 160) #[] #[], .func (.func 161) #[] #[]] rfl rfl rfl (by kernel_rfl) (by kernel_rfl) (by kernel_rfl) ?_
        refine wpList_nil ?_
        have hba := hb.alloc hb.size (.cells #[.string ⟨#[67, 79, 85, 78, 84]⟩, .func (.func 160) #[] #[], .func (.func 161) #[] #[]] 195)
        have hoa := hown.alloc (.cells #[.string ⟨#[67, 79, 85, 78, 84]⟩, .func (.func 160) #[] #[], .func (.func 161) #[] #[]] 195)
        have cW := HWC.out _ hba
        go_wp2_with (first | (go_at_call 161; refine cW.mono ?_; clear cW; rintro e wz ⟨rfl, rfl⟩) | (at_builtin; refine wpList_append_own _ rfl (.tmp 17) (.tmp 23) 43 rfl w.heap.size 9 i0 (.string ⟨#[]⟩) 1 16 Tryz.underlying43 hi0 hz0 hz1 hz2 rfl (by decide) _ _ _ rfl (hoa.alloc _) ⟨_, 0, none⟩ 1 1 [.string _] rfl rfl (World.news_of_block (heap_alloc2 _ _ _)) (by intro u hu; simp at hu; subst hu; rfl) (by unfold maxLen; omega) (by omega) (by have := hb.size; simp; omega) ?_; intro v5 w5 hown5 hgrow _))
        go_roundg (7)
        case measure => omega
        case rel =>
          have hb5 : Below w.heap.size w w5 := (hba.alloc hba.size _).grown hgrow (by have := hb.size; simp; omega) (fun q hq => (hown.lt q hq).1)
          exact ⟨3, by omega, by omega, rfl, hb5, by have h5 := hown5; rw [HC.out] at h5; exact h5⟩
      · have ix : ∀ wx : World, (Instr.index 196 (.agg #[.string ⟨#[70, 82, 69, 81]⟩, .func (.func 156) #[] #[], .func (.func 157) #[] #[], .string ⟨#[73, 78, 84, 69, 82, 86, 65, 76]⟩, .func (.func 158) #[] #[], .func (.func 159) #[] #[], .string ⟨#[67, 79, 85, 78, 84]⟩, .func (.func 160) #[] #[], .func (.func 161) #[] #[], .string ⟨#[85, 78, 84, 73, 76]⟩, .func (.func 162) #[] #[], .func (.func 163) #[] #[], .string ⟨#[66, 89, 77, 79, 78, 84, 72]⟩, .func (.func 164) #[] #[], .func (.func 165) #[] #[], .string ⟨#[66, 89, 77, 79, 78, 84, 72, 68, 65, 89]⟩, .func (.func 166) #[] #[], .func (.func 167) #[] #[], .string ⟨#[66, 89, 68, 65, 89]⟩, .func (.func 168) #[] #[], .func (.func 169) #[] #[], .string ⟨#[66, 89, 83, 69, 84, 80, 79, 83]⟩, .func (.func 170) #[] #[], .func (.func 171) #[] #[], .string ⟨#[87, 75, 83, 84]⟩, .func (.func 172) #[] #[], .func (.func 173) #[] #[]]) (.int .i64 3)).run Tryz.prog wx = .ok (.agg #[.string ⟨#[85, 78, 84, 73, 76]⟩, .func (.func 162) #[] #[], .func (.func 163) #[] #[]]) wx := fun wx => by kernel_rfl
        replace hown : wr.ownsRow w.heap.size 9 1 u3 2 (([ba pF, ba (pC m)] : List ByteArray).map Value.string) := hown
        go_upto_region 4 with fail
        refine wp_region_lit ?_
        refine wpList_plain rfl (fun K hK => ?_)
        go_simp
        refine hK _ _ ?_
        clear hK K ix
        refine wpList_plain rfl (fun K hK => ?_)
        go_simp
        refine hK _ _ ?_
        clear hK K
        refine wpList_store_fresh (by rfl) 195 (.tmp 5) (.tmp 10) (by rfl) #[.string ⟨#[]⟩, .nilFunc, .nilFunc] #[.string ⟨#[85, 78, 84, 73, 76]⟩, .func (.func 162) #[] #[], .func (.func 163) #[] #[]] rfl rfl rfl (by kernel_rfl) (by kernel_rfl) (by kernel_rfl) ?_
        refine wpList_nil ?_
        have hba := hb.alloc hb.size (.cells #[.string ⟨#[85, 78, 84, 73, 76]⟩, .func (.func 162) #[] #[], .func (.func 163) #[] #[]] 195)
        have hoa := hown.alloc (.cells #[.string ⟨#[85, 78, 84, 73, 76]⟩, .func (.func 162) #[] #[], .func (.func 163) #[] #[]] 195)
        have cW := HW3.out _ hba
        go_wp2_with (go_at_call 163; refine cW.mono ?_; clear cW; rintro e wz ⟨rfl, rfl⟩)
        go_roundg (6)
        case measure => omega
        case rel => exact ⟨4, by omega, by omega, rfl, hba, hoa⟩
      · have ix : ∀ wx : World, (Instr.index 196 (.agg #[.string ⟨#[70, 82, 69, 81]⟩, .func (.func 156) #[] #[], .func (.func 157) #[] #[], .string ⟨#[73, 78, 84, 69, 82, 86, 65, 76]⟩, .func (.func 158) #[] #[], .func (.func 159) #[] #[], .string ⟨#[67, 79, 85, 78, 84]⟩, .func (.func 160) #[] #[], .func (.func 161) #[] #[], .string ⟨#[85, 78, 84, 73, 76]⟩, .func (.func 162) #[] #[], .func (.func 163) #[] #[], .string ⟨#[66, 89, 77, 79, 78, 84, 72]⟩, .func (.func 164) #[] #[], .func (.func 165) #[] #[], .string ⟨#[66, 89, 77, 79, 78, 84, 72, 68, 65, 89]⟩, .func (.func 166) #[] #[], .func (.func 167) #[] #[], .string ⟨#[66, 89, 68, 65, 89]⟩, .func (.func 168) #[] #[], .func (.func 169) #[] #[], .string ⟨#[66, 89, 83, 69, 84, 80, 79, 83]⟩, .func (.func 170) #[] #[], .func (.func 171) #[] #[], .string ⟨#[87, 75, 83, 84]⟩, .func (.func 172) #[] #[], .func (.func 173) #[] #[]]) (.int .i64 4)).run Tryz.prog wx = .ok (.agg #[.string ⟨#[66, 89, 77, 79, 78, 84, 72]⟩, .func (.func 164) #[] #[], .func (.func 165) #[] #[]]) wx := fun wx => by kernel_rfl
        replace hown : wr.ownsRow w.heap.size 9 1 u3 2 (([ba pF, ba (pC m)] : List ByteArray).map Value.string) := hown
        go_upto_region 4 with fail
        refine wp_region_lit ?_
        refine wpList_plain rfl (fun K hK => ?_)
        go_simp
        refine hK _ _ ?_
        clear hK K ix
        refine wpList_plain rfl (fun K hK => ?_)
        go_simp
        refine hK _ _ ?_
        clear hK K
        refine wpList_store_fresh (by rfl) 195 (.tmp 5) (.tmp 10) (by rfl) #[.string ⟨#[]⟩, .nilFunc, .nilFunc] #[.string ⟨#[66, 89, 77, 79, 78, 84, 72]⟩, .func (.func 164) #[] #[], .func (.func 165) #[] #[]] rfl rfl rfl (by kernel_rfl) (by kernel_rfl) (by kernel_rfl) ?_
        refine wpList_nil ?_
        have hba := hb.alloc hb.size (.cells #[.string ⟨#[66, 89, 77, 79, 78, 84, 72]⟩, .func (.func 164) #[] #[], .func (.func 165) #[] #[]] 195)
        have hoa := hown.alloc (.cells #[.string ⟨#[66, 89, 77, 79, 78, 84, 72]⟩, .func (.func 164) #[] #[], .func (.func 165) #[] #[]] 195)
        have cW := HW4.out _ hba
        go_wp2_with (go_at_call 165; refine cW.mono ?_; clear cW; rintro e w3 ⟨rfl, hb3⟩; have hbb := hba.trans (hb3.mono hba.size); have hob := hoa.kept (gb_of_below hb3 none) (Classical.em _))
        go_roundg (5)
        case measure => omega
        case rel => exact ⟨5, by omega, by omega, rfl, hbb, hob⟩
      · have ix : ∀ wx : World, (Instr.index 196 (.agg #[.string ⟨#[70, 82, 69, 81]⟩, .func (.func 156) #[] #[], .func (.func 157) #[] #[], .string ⟨#[73, 78, 84, 69, 82, 86, 65, 76]⟩, .func (.func 158) #[] #[], .func (.func 159) #[] #[], .string ⟨#[67, 79, 85, 78, 84]⟩, .func (.func 160) #[] #[], .func (.func 161) #[] #[], .string ⟨#[85, 78, 84, 73, 76]⟩, .func (.func 162) #[] #[], .func (.func 163) #[] #[], .string ⟨#[66, 89, 77, 79, 78, 84, 72]⟩, .func (.func 164) #[] #[], .func (.func 165) #[] #[], .string ⟨#[66, 89, 77, 79, 78, 84, 72, 68, 65, 89]⟩, .func (.func 166) #[] #[], .func (.func 167) #[] #[], .string ⟨#[66, 89, 68, 65, 89]⟩, .func (.func 168) #[] #[], .func (.func 169) #[] #[], .string ⟨#[66, 89, 83, 69, 84, 80, 79, 83]⟩, .func (.func 170) #[] #[], .func (.func 171) #[] #[], .string ⟨#[87, 75, 83, 84]⟩, .func (.func 172) #[] #[], .func (.func 173) #[] #[]]) (.int .i64 5)).run Tryz.prog wx = .ok (.agg #[.string ⟨#[66, 89, 77, 79, 78, 84, 72, 68, 65, 89]⟩, .func (.func 166) #[] #[], .func (.func 167) #[] #[]]) wx := fun wx => by kernel_rfl
        replace hown : wr.ownsRow w.heap.size 9 1 u3 2 (([ba pF, ba (pC m)] : List ByteArray).map Value.string) := hown
        go_upto_region 4 with fail
        refine wp_region_lit ?_
        refine wpList_plain rfl (fun K hK => ?_)
        go_simp
        refine hK _ _ ?_
        clear hK K ix
        refine wpList_plain rfl (fun K hK => ?_)
        go_simp
        refine hK _ _ ?_
        clear hK K
        refine wpList_store_fresh (by rfl) 195 (.tmp 5) (.tmp 10) (by rfl) #[.string ⟨#[]⟩, .nilFunc, .nilFunc] #[.string ⟨#[66, 89, 77, 79, 78, 84, 72, 68, 65, 89]⟩, .func (.func 166) #[] #[], .func (.func 167) #[] #[]] rfl rfl rfl (by kernel_rfl) (by kernel_rfl) (by kernel_rfl) ?_
        refine wpList_nil ?_
        have hba := hb.alloc hb.size (.cells #[.string ⟨#[66, 89, 77, 79, 78, 84, 72, 68, 65, 89]⟩, .func (.func 166) #[] #[], .func (.func 167) #[] #[]] 195)
        have hoa := hown.alloc (.cells #[.string ⟨#[66, 89, 77, 79, 78, 84, 72, 68, 65, 89]⟩, .func (.func 166) #[] #[], .func (.func 167) #[] #[]] 195)
        have cW := HW5.out _ hba
        go_wp2_with (go_at_call 167; refine cW.mono ?_; clear cW; rintro e w3 ⟨rfl, hb3⟩; have hbb := hba.trans (hb3.mono hba.size); have hob := hoa.kept (gb_of_below hb3 none) (Classical.em _))
        go_roundg (4)
        case measure => omega
        case rel => exact ⟨6, by omega, by omega, rfl, hbb, hob⟩
      · have ix : ∀ wx : World, (Instr.index 196 (.agg #[.string ⟨#[70, 82, 69, 81]⟩, .func (.func 156) #[] #[], .func (.func 157) #[] #[], .string ⟨#[73, 78, 84, 69, 82, 86, 65, 76]⟩, .func (.func 158) #[] #[], .func (.func 159) #[] #[], .string ⟨#[67, 79, 85, 78, 84]⟩, .func (.func 160) #[] #[], .func (.func 161) #[] #[], .string ⟨#[85, 78, 84, 73, 76]⟩, .func (.func 162) #[] #[], .func (.func 163) #[] #[], .string ⟨#[66, 89, 77, 79, 78, 84, 72]⟩, .func (.func 164) #[] #[], .func (.func 165) #[] #[], .string ⟨#[66, 89, 77, 79, 78, 84, 72, 68, 65, 89]⟩, .func (.func 166) #[] #[], .func (.func 167) #[] #[], .string ⟨#[66, 89, 68, 65, 89]⟩, .func (.func 168) #[] #[], .func (.func 169) #[] #[], .string ⟨#[66, 89, 83, 69, 84, 80, 79, 83]⟩, .func (.func 170) #[] #[], .func (.func 171) #[] #[], .string ⟨#[87, 75, 83, 84]⟩, .func (.func 172) #[] #[], .func (.func 173) #[] #[]]) (.int .i64 6)).run Tryz.prog wx = .ok (.agg #[.string ⟨#[66, 89, 68, 65, 89]⟩, .func (.func 168) #[] #[], .func (.func 169) #[] #[]]) wx := fun wx => by kernel_rfl
        replace hown : wr.ownsRow w.heap.size 9 1 u3 2 (([ba pF, ba (pC m)] : List ByteArray).map Value.string) := hown
        go_upto_region 4 with fail
        refine wp_region_lit ?_
        refine wpList_plain rfl (fun K hK => ?_)
        go_simp
        refine hK _ _ ?_
        clear hK K ix
        refine wpList_plain rfl (fun K hK => ?_)
        go_simp
        refine hK _ _ ?_
        clear hK K
        refine wpList_store_fresh (by rfl) 195 (.tmp 5) (.tmp 10) (by rfl) #[.string ⟨#[]⟩, .nilFunc, .nilFunc] #[.string ⟨#[66, 89, 68, 65, 89]⟩, .func (.func 168) #[] #[], .func (.func 169) #[] #[]] rfl rfl rfl (by kernel_rfl) (by kernel_rfl) (by kernel_rfl) ?_
        refine wpList_nil ?_
        have hba := hb.alloc hb.size (.cells #[.string ⟨#[66, 89, 68, 65, 89]⟩, .func (.func 168) #[] #[], .func (.func 169) #[] #[]] 195)
        have hoa := hown.alloc (.cells #[.string ⟨#[66, 89, 68, 65, 89]⟩, .func (.func 168) #[] #[], .func (.func 169) #[] #[]] 195)
        have cW := HW6.out _ hba
        go_wp2_with (go_at_call 169; refine cW.mono ?_; clear cW; rintro e w3 ⟨rfl, hb3⟩; have hbb := hba.trans (hb3.mono hba.size); have hob := hoa.kept (gb_of_below hb3 none) (Classical.em _))
        go_roundg (3)
        case measure => omega
        case rel => exact ⟨7, by omega, by omega, rfl, hbb, hob⟩
      · have ix : ∀ wx : World, (Instr.index 196 (.agg #[.string ⟨#[70, 82, 69, 81]⟩, .func (.func 156) #[] #[], .func (.func 157) #[] #[], .string ⟨#[73, 78, 84, 69, 82, 86, 65, 76]⟩, .func (.func 158) #[] #[], .func (.func 159) #[] #[], .string ⟨#[67, 79, 85, 78, 84]⟩, .func (.func 160) #[] #[], .func (.func 161) #[] #[], .string ⟨#[85, 78, 84, 73, 76]⟩, .func (.func 162) #[] #[], .func (.func 163) #[] #[], .string ⟨#[66, 89, 77, 79, 78, 84, 72]⟩, .func (.func 164) #[] #[], .func (.func 165) #[] #[], .string ⟨#[66, 89, 77, 79, 78, 84, 72, 68, 65, 89]⟩, .func (.func 166) #[] #[], .func (.func 167) #[] #[], .string ⟨#[66, 89, 68, 65, 89]⟩, .func (.func 168) #[] #[], .func (.func 169) #[] #[], .string ⟨#[66, 89, 83, 69, 84, 80, 79, 83]⟩, .func (.func 170) #[] #[], .func (.func 171) #[] #[], .string ⟨#[87, 75, 83, 84]⟩, .func (.func 172) #[] #[], .func (.func 173) #[] #[]]) (.int .i64 7)).run Tryz.prog wx = .ok (.agg #[.string ⟨#[66, 89, 83, 69, 84, 80, 79, 83]⟩, .func (.func 170) #[] #[], .func (.func 171) #[] #[]]) wx := fun wx => by kernel_rfl
        replace hown : wr.ownsRow w.heap.size 9 1 u3 2 (([ba pF, ba (pC m)] : List ByteArray).map Value.string) := hown
        go_upto_region 4 with fail
        refine wp_region_lit ?_
        refine wpList_plain rfl (fun K hK => ?_)
        go_simp
        refine hK _ _ ?_
        clear hK K ix
        refine wpList_plain rfl (fun K hK => ?_)
        go_simp
        refine hK _ _ ?_
        clear hK K
        refine wpList_store_fresh (by rfl) 195 (.tmp 5) (.tmp 10) (by rfl) #[.string ⟨#[]⟩, .nilFunc, .nilFunc] #[.string ⟨#[66, 89, 83, 69, 84, 80, 79, 83]⟩, .func (.func 170) #[] #[], .func (.func 171) #[] #[]] rfl rfl rfl (by kernel_rfl) (by kernel_rfl) (by kernel_rfl) ?_
        refine wpList_nil ?_
        have hba := hb.alloc hb.size (.cells #[.string ⟨#[66, 89, 83, 69, 84, 80, 79, 83]⟩, .func (.func 170) #[] #[], .func (.func 171) #[] #[]] 195)
        have hoa := hown.alloc (.cells #[.string ⟨#[66, 89, 83, 69, 84, 80, 79, 83]⟩, .func (.func 170) #[] #[], .func (.func 171) #[] #[]] 195)
        have cW := HW7.out _ hba
        go_wp2_with (go_at_call 171; refine cW.mono ?_; clear cW; rintro e w3 ⟨rfl, hb3⟩; have hbb := hba.trans (hb3.mono hba.size); have hob := hoa.kept (gb_of_below hb3 none) (Classical.em _))
        go_roundg (2)
        case measure => omega
        case rel => exact ⟨8, by omega, by omega, rfl, hbb, hob⟩
      · have ix : ∀ wx : World, (Instr.index 196 (.agg #[.string ⟨#[70, 82, 69, 81]⟩, .func (.func 156) #[] #[], .func (.func 157) #[] #[], .string ⟨#[73, 78, 84, 69, 82, 86, 65, 76]⟩, .func (.func 158) #[] #[], .func (.func 159) #[] #[], .string ⟨#[67, 79, 85, 78, 84]⟩, .func (.func 160) #[] #[], .func (.func 161) #[] #[], .string ⟨#[85, 78, 84, 73, 76]⟩, .func (.func 162) #[] #[], .func (.func 163) #[] #[], .string ⟨#[66, 89, 77, 79, 78, 84, 72]⟩, .func (.func 164) #[] #[], .func (.func 165) #[] #[], .string ⟨#[66, 89, 77, 79, 78, 84, 72, 68, 65, 89]⟩, .func (.func 166) #[] #[], .func (.func 167) #[] #[], .string ⟨#[66, 89, 68, 65, 89]⟩, .func (.func 168) #[] #[], .func (.func 169) #[] #[], .string ⟨#[66, 89, 83, 69, 84, 80, 79, 83]⟩, .func (.func 170) #[] #[], .func (.func 171) #[] #[], .string ⟨#[87, 75, 83, 84]⟩, .func (.func 172) #[] #[], .func (.func 173) #[] #[]]) (.int .i64 8)).run Tryz.prog wx = .ok (.agg #[.string ⟨#[87, 75, 83, 84]⟩, .func (.func 172) #[] #[], .func (.func 173) #[] #[]]) wx := fun wx => by kernel_rfl
        replace hown : wr.ownsRow w.heap.size 9 1 u3 2 (([ba pF, ba (pC m)] : List ByteArray).map Value.string) := hown
        go_upto_region 4 with fail
        refine wp_region_lit ?_
        refine wpList_plain rfl (fun K hK => ?_)
        go_simp
        refine hK _ _ ?_
        clear hK K ix
        refine wpList_plain rfl (fun K hK => ?_)
        go_simp
        refine hK _ _ ?_
        clear hK K
        refine wpList_store_fresh (by rfl) 195 (.tmp 5) (.tmp 10) (by rfl) #[.string ⟨#[]⟩, .nilFunc, .nilFunc] #[.string ⟨#[87, 75, 83, 84]⟩, .func (.func 172) #[] #[], .func (.func 173) #[] #[]] rfl rfl rfl (by kernel_rfl) (by kernel_rfl) (by kernel_rfl) ?_
        refine wpList_nil ?_
        have hba := hb.alloc hb.size (.cells #[.string ⟨#[87, 75, 83, 84]⟩, .func (.func 172) #[] #[], .func (.func 173) #[] #[]] 195)
        have hoa := hown.alloc (.cells #[.string ⟨#[87, 75, 83, 84]⟩, .func (.func 172) #[] #[], .func (.func 173) #[] #[]] 195)
        have cW := HW8.out _ hba
        go_wp2_with (go_at_call 173; refine cW.mono ?_; clear cW; rintro e wz ⟨rfl, rfl⟩)
        go_roundg (1)
        case measure => omega
        case rel => exact ⟨9, by omega, by omega, rfl, hba, hoa⟩
end Go.Proofs.YtmmnbdefkailpaaGreatDoor
