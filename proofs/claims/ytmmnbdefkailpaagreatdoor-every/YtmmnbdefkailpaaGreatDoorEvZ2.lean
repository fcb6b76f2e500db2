/- Print of an event that comes again by days. -/
import Derived.Test.YtmmnbdefkailpaaGreatDoorEvZ0

namespace Go.Proofs.YtmmnbdefkailpaaGreatDoor
open Go.RowKit Cal
set_option linter.unusedVariables false

set_option maxRecDepth 100000 in
set_option maxHeartbeats 8000000 in
theorem Print_in (T ev ct : Int) (s : ByteArray) (w : World)
    (cW : ∀ wx, Below w.heap.size w wx → Calls Tryz.prog 32 #[.agg #[.string ⟨#[120]⟩, .string ⟨#[]⟩, .int .i64 T, .bool false, .bool false, .int .i64 0, .int .i64 1, .int .i64 ev, .int .i64 ct, .int .i64 0, .bool false, .slice none 0 0, .slice none 0 0, .slice none 0 0, .slice none 0 0, .int .i64 0, .slice none 0 0, .slice none 0 0]] wx fun e w' => (∃ v, e = .returned v ∧ (Calls Tryz.prog 31 #[v] w' fun e w'' => e = .returned (.tuple #[.string s, .int .i64 0]) ∧ Below w'.heap.size w' w'')) ∧ Below wx.heap.size wx w')
    (cP : ∀ wx, Below w.heap.size w wx → Calls Tryz.prog 8 #[.string s] wx fun e w' => e = .returned (.tuple #[.agg #[.string ⟨#[120]⟩, .string ⟨#[]⟩, .int .i64 T, .bool false, .bool false, .int .i64 0, .int .i64 1, .int .i64 ev, .int .i64 ct, .int .i64 0, .bool false, .slice none 0 0, .slice none 0 0, .slice none 0 0, .slice none 0 0, .int .i64 0, .slice none 0 0, .slice none 0 0], .int .i64 0, .int .i64 0]) ∧ Below wx.heap.size wx w') :
    Calls Tryz.prog 16 #[.agg #[.string ⟨#[120]⟩, .string ⟨#[]⟩, .int .i64 T, .bool false, .bool false, .int .i64 0, .int .i64 1, .int .i64 ev, .int .i64 ct, .int .i64 0, .bool false, .slice none 0 0, .slice none 0 0, .slice none 0 0, .slice none 0 0, .int .i64 0, .slice none 0 0, .slice none 0 0]] w fun e w' => e = .returned (.tuple #[.string s, .int .i64 0]) ∧ Below w.heap.size w w' := by
  have CW : Hid (∀ wx, Below w.heap.size w wx → Calls Tryz.prog 32 #[.agg #[.string ⟨#[120]⟩, .string ⟨#[]⟩, .int .i64 T, .bool false, .bool false, .int .i64 0, .int .i64 1, .int .i64 ev, .int .i64 ct, .int .i64 0, .bool false, .slice none 0 0, .slice none 0 0, .slice none 0 0, .slice none 0 0, .int .i64 0, .slice none 0 0, .slice none 0 0]] wx fun e w' => (∃ v, e = .returned v ∧ (Calls Tryz.prog 31 #[v] w' fun e w'' => e = .returned (.tuple #[.string s, .int .i64 0]) ∧ Below w'.heap.size w' w'')) ∧ Below wx.heap.size wx w') := cW
  have CP : Hid (∀ wx, Below w.heap.size w wx → Calls Tryz.prog 8 #[.string s] wx fun e w' => e = .returned (.tuple #[.agg #[.string ⟨#[120]⟩, .string ⟨#[]⟩, .int .i64 T, .bool false, .bool false, .int .i64 0, .int .i64 1, .int .i64 ev, .int .i64 ct, .int .i64 0, .bool false, .slice none 0 0, .slice none 0 0, .slice none 0 0, .slice none 0 0, .int .i64 0, .slice none 0 0, .slice none 0 0], .int .i64 0, .int .i64 0]) ∧ Below wx.heap.size wx w') := cP
  clear cW cP
  go_enter Tryz.func16, Tryz.ntmps16
  go_upto_region 1 with fail
  have hE0 := heap_alloc_new w (.cells #[.string ⟨#[120]⟩, .string ⟨#[]⟩, .int .i64 T, .bool false, .bool false, .int .i64 0, .int .i64 1, .int .i64 ev, .int .i64 ct, .int .i64 0, .bool false, .slice none 0 0, .slice none 0 0, .slice none 0 0, .slice none 0 0, .int .i64 0, .slice none 0 0, .slice none 0 0] 32)
  have hbw0 : Below w.heap.size w (w.alloc (.cells #[.string ⟨#[120]⟩, .string ⟨#[]⟩, .int .i64 T, .bool false, .bool false, .int .i64 0, .int .i64 1, .int .i64 ev, .int .i64 ct, .int .i64 0, .bool false, .slice none 0 0, .slice none 0 0, .slice none 0 0, .slice none 0 0, .int .i64 0, .slice none 0 0, .slice none 0 0] 32)) := (Below.refl _ _).alloc (Nat.le_refl _) _
  revert hE0 hbw0
  generalize w.alloc (.cells #[.string ⟨#[120]⟩, .string ⟨#[]⟩, .int .i64 T, .bool false, .bool false, .int .i64 0, .int .i64 1, .int .i64 ev, .int .i64 ct, .int .i64 0, .bool false, .slice none 0 0, .slice none 0 0, .slice none 0 0, .slice none 0 0, .int .i64 0, .slice none 0 0, .slice none 0 0] 32) = W0
  intro hE0 hbw0
  have hr0 := range_app [] [.string ⟨#[120]⟩, .string ⟨#[]⟩, .int .i64 T, .bool false, .bool false, .int .i64 0, .int .i64 1, .int .i64 ev, .int .i64 ct, .int .i64 0, .bool false, .slice none 0 0, .slice none 0 0, .slice none 0 0, .slice none 0 0, .int .i64 0, .slice none 0 0, .slice none 0 0] hE0
  refine wp_region_lit ?_
  refine wpList_load_mid (by rfl) 32 (.tmp 1) (by rfl) w.heap.size 0 (by rfl) [.string ⟨#[120]⟩, .string ⟨#[]⟩, .int .i64 T, .bool false, .bool false, .int .i64 0, .int .i64 1, .int .i64 ev, .int .i64 ct, .int .i64 0, .bool false, .slice none 0 0, .slice none 0 0, .slice none 0 0, .slice none 0 0, .int .i64 0, .slice none 0 0, .slice none 0 0] _ hr0 Tryz.underlying32 rfl (by kernel_rfl) ?_
  simp only [Act.put, List.setIfInBounds_toArray, List.set_cons_zero, List.set_cons_succ]
  clear hr0
  go_upto_region 3 with (go_at_call 30; refine (isSmall_yes T ev ct _).mono ?_; rintro e w1 ⟨rfl, hb1⟩; have hE1 := hbel hE0 hb1; have hbw1 : Below w.heap.size w w1 := hbw0.trans (hb1.mono hbw0.size); clear hb1 hE0 hbw0)
  have hr1 := range_app [] [.string ⟨#[120]⟩, .string ⟨#[]⟩, .int .i64 T, .bool false, .bool false, .int .i64 0, .int .i64 1, .int .i64 ev, .int .i64 ct, .int .i64 0, .bool false, .slice none 0 0, .slice none 0 0, .slice none 0 0, .slice none 0 0, .int .i64 0, .slice none 0 0, .slice none 0 0] hE1
  refine wp_region_lit ?_
  refine wpList_load_mid (by rfl) 32 (.tmp 1) (by rfl) w.heap.size 0 (by rfl) [.string ⟨#[120]⟩, .string ⟨#[]⟩, .int .i64 T, .bool false, .bool false, .int .i64 0, .int .i64 1, .int .i64 ev, .int .i64 ct, .int .i64 0, .bool false, .slice none 0 0, .slice none 0 0, .slice none 0 0, .slice none 0 0, .int .i64 0, .slice none 0 0, .slice none 0 0] _ hr1 Tryz.underlying32 rfl (by kernel_rfl) ?_
  simp only [Act.put, List.setIfInBounds_toArray, List.set_cons_zero, List.set_cons_succ]
  clear hr1
  go_upto_region 6 with (first
    | (go_at_call 32; refine (CW.out _ hbw1).mono ?_; rintro e w2 ⟨⟨v, rfl, c31⟩, hb2⟩; have hE2 := hbel hE1 hb2; have hbw2 : Below w.heap.size w w2 := hbw1.trans (hb2.mono hbw1.size); clear hb2 hE1 hbw1)
    | (go_at_call 31; refine c31.mono ?_; clear c31; rintro e w3 ⟨rfl, hb3⟩; have hE3 := hbel hE2 hb3; have hbw3 : Below w.heap.size w w3 := hbw2.trans (hb3.mono hbw2.size); clear hb3 hE2 hbw2))
  refine wp_region_lit ?_
  refine wpList_plain rfl (fun K hK => ?_)
  go_simp
  refine hK _ _ ?_
  clear hK K
  refine wpList_plain rfl (fun K hK => ?_)
  go_simp
  refine (CP.out _ hbw3).mono ?_
  rintro e w4 ⟨rfl, hb4⟩
  go_simp
  refine hK _ _ ?_
  clear hK K
  refine wpList_plain rfl (fun K hK => ?_)
  go_simp
  refine hK _ _ ?_
  clear hK K
  refine wpList_plain rfl (fun K hK => ?_)
  go_simp
  refine hK _ _ ?_
  clear hK K
  refine wpList_plain rfl (fun K hK => ?_)
  go_simp
  refine hK _ _ ?_
  clear hK K
  refine wpList_plain rfl (fun K hK => ?_)
  go_simp
  refine hK _ _ ?_
  clear hK K
  refine wpList_plain rfl (fun K hK => ?_)
  go_simp
  refine hK _ _ ?_
  clear hK K
  refine wpList_store_fresh (by rfl) 32 (.tmp 6) (.tmp 24) (by rfl) #[.string ⟨#[]⟩, .string ⟨#[]⟩, .int .i64 0, .bool false, .bool false, .int .i64 0, .int .i64 0, .int .i64 0, .int .i64 0, .int .i64 0, .bool false, .slice none 0 0, .slice none 0 0, .slice none 0 0, .slice none 0 0, .int .i64 0, .slice none 0 0, .slice none 0 0] #[.string ⟨#[120]⟩, .string ⟨#[]⟩, .int .i64 T, .bool false, .bool false, .int .i64 0, .int .i64 1, .int .i64 ev, .int .i64 ct, .int .i64 0, .bool false, .slice none 0 0, .slice none 0 0, .slice none 0 0, .slice none 0 0, .int .i64 0, .slice none 0 0, .slice none 0 0] (by rfl) (by rfl) rfl (by kernel_rfl) (by kernel_rfl) (by kernel_rfl) ?_
  refine wpList_plain rfl (fun K hK => ?_)
  go_simp
  refine hK _ _ ?_
  clear hK K
  refine wpList_plain rfl (fun K hK => ?_)
  go_simp
  refine hK _ _ ?_
  clear hK K
  refine wpList_nil ?_
  have hE4 := hbel hE3 hb4
  have hbw4 : Below w.heap.size w w4 := hbw3.trans (hb4.mono hbw3.size)
  clear hb4 hE3 hbw3 CW CP
  have hN := heap_alloc_new w4 (.cells #[.string ⟨#[120]⟩, .string ⟨#[]⟩, .int .i64 T, .bool false, .bool false, .int .i64 0, .int .i64 1, .int .i64 ev, .int .i64 ct, .int .i64 0, .bool false, .slice none 0 0, .slice none 0 0, .slice none 0 0, .slice none 0 0, .int .i64 0, .slice none 0 0, .slice none 0 0] 32)
  have hE5 := (Below.heap_alloc w4 (.cells #[.string ⟨#[120]⟩, .string ⟨#[]⟩, .int .i64 T, .bool false, .bool false, .int .i64 0, .int .i64 1, .int .i64 ev, .int .i64 ct, .int .i64 0, .bool false, .slice none 0 0, .slice none 0 0, .slice none 0 0, .slice none 0 0, .int .i64 0, .slice none 0 0, .slice none 0 0] 32) w.heap.size (hlt hE4)).trans hE4
  have hbw5 := hbw4.alloc hbw4.size (.cells #[.string ⟨#[120]⟩, .string ⟨#[]⟩, .int .i64 T, .bool false, .bool false, .int .i64 0, .int .i64 1, .int .i64 ev, .int .i64 ct, .int .i64 0, .bool false, .slice none 0 0, .slice none 0 0, .slice none 0 0, .slice none 0 0, .int .i64 0, .slice none 0 0, .slice none 0 0] 32)
  revert hN hE5 hbw5
  generalize w4.alloc (.cells #[.string ⟨#[120]⟩, .string ⟨#[]⟩, .int .i64 T, .bool false, .bool false, .int .i64 0, .int .i64 1, .int .i64 ev, .int .i64 ct, .int .i64 0, .bool false, .slice none 0 0, .slice none 0 0, .slice none 0 0, .slice none 0 0, .int .i64 0, .slice none 0 0, .slice none 0 0] 32) = W
  intro hN hE5 hbw5
  clear hE4
  have hr := range_app [] [.string ⟨#[120]⟩, .string ⟨#[]⟩, .int .i64 T, .bool false, .bool false, .int .i64 0, .int .i64 1, .int .i64 ev, .int .i64 ct, .int .i64 0, .bool false, .slice none 0 0, .slice none 0 0, .slice none 0 0, .slice none 0 0, .int .i64 0, .slice none 0 0, .slice none 0 0] hE5
  have hr2 := range_app [] [.string ⟨#[120]⟩, .string ⟨#[]⟩, .int .i64 T, .bool false, .bool false, .int .i64 0, .int .i64 1, .int .i64 ev, .int .i64 ct, .int .i64 0, .bool false, .slice none 0 0, .slice none 0 0, .slice none 0 0, .slice none 0 0, .int .i64 0, .slice none 0 0, .slice none 0 0] hN
  go_upto_region 7 with fail
  refine wp_region_lit ?_
  refine wpList_plain rfl (fun K hK => ?_)
  go_simp
  refine hK _ _ ?_
  clear hK K
  refine wpList_plain rfl (fun K hK => ?_)
  go_simp
  refine hK _ _ ?_
  clear hK K
  refine wpList_plain rfl (fun K hK => ?_)
  go_simp
  refine hK _ _ ?_
  clear hK K
  refine wpList_step (fun K hK => ?_)
  rw [if_pos (by rfl)]
  refine wp_load_mid 32 (.tmp 1) (by rfl) w.heap.size 0 (by rfl) [.string ⟨#[120]⟩, .string ⟨#[]⟩, .int .i64 T, .bool false, .bool false, .int .i64 0, .int .i64 1, .int .i64 ev, .int .i64 ct, .int .i64 0, .bool false, .slice none 0 0, .slice none 0 0, .slice none 0 0, .slice none 0 0, .int .i64 0, .slice none 0 0, .slice none 0 0] _ hr Tryz.underlying32 rfl (by kernel_rfl) ?_
  simp only [Act.put, List.setIfInBounds_toArray, List.set_cons_zero, List.set_cons_succ]
  refine hK _ _ ?_
  clear hK K
  refine wpList_step (fun K hK => ?_)
  rw [if_pos (by rfl)]
  refine wp_load_mid 32 (.tmp 6) (by rfl) w4.heap.size 0 (by rfl) [.string ⟨#[120]⟩, .string ⟨#[]⟩, .int .i64 T, .bool false, .bool false, .int .i64 0, .int .i64 1, .int .i64 ev, .int .i64 ct, .int .i64 0, .bool false, .slice none 0 0, .slice none 0 0, .slice none 0 0, .slice none 0 0, .int .i64 0, .slice none 0 0, .slice none 0 0] _ hr2 Tryz.underlying32 rfl (by kernel_rfl) ?_
  simp only [Act.put, List.setIfInBounds_toArray, List.set_cons_zero, List.set_cons_succ]
  refine hK _ _ ?_
  clear hK K
  go_wp2_with (go_at_call 33; refine (same_yes T ev ct _).mono ?_; rintro e w6 ⟨rfl, hb6⟩)
  go_ret2
  exact ⟨rfl, hbw5.trans (hb6.mono hbw5.size)⟩
end Go.Proofs.YtmmnbdefkailpaaGreatDoor

/- Print of an event that comes again by days: the text that it was read from, or the one without an interval. -/
namespace Go.Proofs.YtmmnbdefkailpaaGreatDoor
open Go.RowKit Cal
set_option linter.unusedVariables false

theorem str_uid : (⟨#[85, 73, 68, 58]⟩ : ByteArray) ++ ⟨#[120]⟩ = ba lUid := ba_app [85, 73, 68, 58] [120]
theorem str_start (y m d : Nat) : (⟨#[68, 84, 83, 84, 65, 82, 84]⟩ : ByteArray) ++ ⟨#[58]⟩ ++ ba (date8 y m d ++ [84, 49, 50, 48, 48, 48, 48]) = ba (lStart y m d) := by
  show ba [68, 84, 83, 84, 65, 82, 84] ++ ba [58] ++ ba _ = _
  rw [ba_app, ba_app]; rfl
theorem str_rule (r : List UInt8) : (⟨#[82, 82, 85, 76, 69, 58]⟩ : ByteArray) ++ ba r = ba (lRule r) := ba_app [82, 82, 85, 76, 69, 58] r

theorem Fold_lines {y m d : Nat} {r : List UInt8} (hy : y < 10000) (hm : m < 100) (hd : d < 100) (hr : Asc r) (hrl : r.length ≤ 60) (B : Nat) (v : Value) (w : World) (hv : GV w)
    (ho : w.ownsRow B 9 1 v 5 [.string (ba lBeg), .string (ba lUid), .string (ba (lStart y m d)), .string (ba (lRule r)), .string (ba lEnd)]) :
    Calls Tryz.prog 31 #[v] w fun e w' => e = .returned (.tuple #[.string (ba (evT y m d r)), .int .i64 0]) ∧ Below w.heap.size w w' := by
  obtain ⟨g, cap, rfl, _, _, _⟩ := own_slice ho (by omega)
  have hss : Ln.lns [ba lBeg, ba lUid, ba (lStart y m d), ba (lRule r), ba lEnd] = evL y m d r := by
    simp only [Ln.lns, List.map_cons, List.map_nil, ba_data]; rfl
  have hfo := evT_fo hy hm hd hr hrl
  obtain ⟨f1, f2⟩ := Ln.fo_good hfo
  have hok := evL_ok hy hm hd hr hrl
  have := Ln.Fold_any (some ⟨g, 0, none⟩) g 0 cap [ba lBeg, ba lUid, ba (lStart y m d), ba (lRule r), ba lEnd] w hv.prep.two.one (fun _ => rfl) (by simp [maxLen]) ?_ ?_
  · rw [hss, f1, f2] at this
    exact this
  · intro j hj
    have hmem : ∀ x ∈ [ba lBeg, ba lUid, ba (lStart y m d), ba (lRule r), ba lEnd], x.size ≤ 75 := by
      intro x hx
      simp only [List.mem_cons, List.not_mem_nil, or_false] at hx
      rcases hx with rfl | rfl | rfl | rfl | rfl <;> (rw [ba_size]; exact (hok _ (by simp [evL])).2.2)
    have := hmem _ (List.getElem_mem hj)
    unfold maxLen; omega
  · intro j hj
    rw [Nat.zero_add]
    refine own_cells ho j _ ?_
    have e : ([.string (ba lBeg), .string (ba lUid), .string (ba (lStart y m d)), .string (ba (lRule r)), .string (ba lEnd)] : List Value) = [ba lBeg, ba lUid, ba (lStart y m d), ba (lRule r), ba lEnd].map Value.string := rfl
    rw [e, List.getElem?_map, List.getElem?_eq_getElem hj]; rfl

theorem Print_good {n : Int} (hn1 : -25567 ≤ n) (hn2 : n ≤ 84005) {y m d : Nat} (ey : dY n = y) (em : dM n = m) (ed : dD n = d) (hy1 : 1000 ≤ y) (hy : y < 10000) (hm : m < 100) (hd : d < 100) {r : List UInt8} (hr : Asc r) (hrl : r.length ≤ 60) {ev ct : Int} (hct1 : 1 ≤ ct) (hct2 : ct ≤ 999) (H7 : RuleOk (ba (restR r)) ev ct)
    (HR : ∀ Q wx, GV wx → wx.heap[Q]? = some (.cells #[.int .i64 1, .int .i64 ev, .int .i64 ct, .int .i64 0, .bool false, .slice none 0 0, .slice none 0 0, .slice none 0 0, .slice none 0 0, .int .i64 0, .bool false, .bool false] 131 (0, 0)) → Calls Tryz.prog 72 #[.pointer (some ⟨Q, 0, none⟩)] wx fun e w' => e = .returned (.string (ba r)) ∧ Below wx.heap.size wx w')
    (w : World) (hw : GW w) :
    Calls Tryz.prog 16 #[.agg (evA n ev ct)] w fun e w' => e = .returned (.tuple #[.string (ba (evT y m d r)), .int .i64 0]) ∧ Below w.heap.size w w' := by
  refine Print_in (n * 86400 + 43200) ev ct _ w ?_ ?_
  · intro wx hb
    have hwx := hw.below hb
    refine (write_in (n * 86400 + 43200) ev ct (ba (date8 y m d ++ [84, 49, 50, 48, 48, 48, 48])) (ba r) (by rw [ba_size, List.length_append, date_len]; show 15 ≤ 100; omega) (by rw [ba_size]; omega) wx
      (fun wy hby => fwrite hn1 hn2 ey em ed hy1 hy hm hd wy (hwx.below hby)) (fun Q wy hby hq => HR Q wy (hwx.gv.below hby) hq)).mono ?_
    rintro e w' ⟨⟨v, rfl, ho⟩, hb'⟩
    rw [str_uid, str_start, str_rule] at ho
    exact ⟨⟨v, rfl, Fold_lines hy hm hd hr hrl _ v w' (hwx.gv.below hb') ho⟩, hb'⟩
  · intro wx hb
    exact Parse_good hn1 hn2 ey em ed hy hm hd hr hrl hct1 hct2 H7 wx (hw.gv.below hb)

theorem Print3 {n : Int} (hn1 : -25567 ≤ n) (hn2 : n ≤ 84005) {y mo d : Nat} (ey : dY n = y) (em : dM n = mo) (ed : dD n = d) (hy1 : 1000 ≤ y) (hy : y < 10000) (hm : mo < 100) (hd : d < 100) {k m : Nat} (hk1 : 2 ≤ k) (hk : k < 100) (hm1 : 1 ≤ m) (hm2 : m < 100) (w : World) (hw : GW w) :
    Calls Tryz.prog 16 #[.agg (evA n k m)] w fun e w' => (∃ s, e = .returned (.tuple #[.string s, .int .i64 0])) ∧ Below w.heap.size w w' := by
  refine (Print_good hn1 hn2 ey em ed hy1 hy hm hd (asc_rule3 hk hm2) (by have := rule3_len hk hm2; omega) (by omega) (by omega) (rule_ok3 (by omega) hk hm1 hm2) (fun Q wx hv hq => writeRule3 Q k hk1 hk m hm1 hm2 wx hv hq) w hw).mono ?_
  rintro e w' ⟨rfl, hb⟩
  exact ⟨⟨_, rfl⟩, hb⟩
theorem Print2 {n : Int} (hn1 : -25567 ≤ n) (hn2 : n ≤ 84005) {y mo d : Nat} (ey : dY n = y) (em : dM n = mo) (ed : dD n = d) (hy1 : 1000 ≤ y) (hy : y < 10000) (hm : mo < 100) (hd : d < 100) {m : Nat} (hm1 : 1 ≤ m) (hm2 : m < 100) (w : World) (hw : GW w) :
    Calls Tryz.prog 16 #[.agg (evA n 1 m)] w fun e w' => (∃ s, e = .returned (.tuple #[.string s, .int .i64 0])) ∧ Below w.heap.size w w' := by
  refine (Print_good hn1 hn2 ey em ed hy1 hy hm hd (asc_rule2 hm2) (by have := rule2_len hm2; omega) (by omega) (by omega) (rule_ok2 hm1 hm2) (fun Q wx hv hq => writeRule2 Q m hm1 hm2 wx hv hq) w hw).mono ?_
  rintro e w' ⟨rfl, hb⟩
  exact ⟨⟨_, rfl⟩, hb⟩
end Go.Proofs.YtmmnbdefkailpaaGreatDoor

/- Small things of Expand. -/
namespace Go.Proofs.YtmmnbdefkailpaaGreatDoor
open Go.RowKit Cal
set_option linter.unusedVariables false

set_option maxRecDepth 100000 in
theorem isDay_yes (n : Int) (w : World) (h1 : -25567 ≤ n) (h2 : n ≤ 84005) : Calls Tryz.prog 10 #[.int .i64 n] w fun e w' => e = .returned (.bool true) ∧ w' = w := by
  go_enter Tryz.func10, Tryz.ntmps10
  go_wp2_with (first | (go_at_call 19; refine (first_any _).mono ?_; rintro e w ⟨rfl, rfl⟩) | (go_at_call 20; refine (last_any _).mono ?_; rintro e w ⟨rfl, rfl⟩))
  go_ret
  exact ⟨rfl, rfl⟩
set_option maxRecDepth 100000 in
theorem isTime_yes (n c : Int) (w : World) (h1 : -25567 ≤ n) (h2 : n ≤ 84005) (h3 : 0 ≤ c) (h4 : c < 86400) : Calls Tryz.prog 17 #[.int .i64 (n * 86400 + c)] w fun e w' => e = .returned (.bool true) ∧ w' = w := by
  have HS : Hid (∀ wx, Calls Tryz.prog 34 #[.int .i64 (n * 86400 + c)] wx fun e w' => e = .returned (.tuple #[.int .i64 n, .int .i64 c]) ∧ w' = wx) := fun wx => split_any n c wx (by omega) (by omega) h3 h4
  have HD : Hid (∀ wx, Calls Tryz.prog 10 #[.int .i64 n] wx fun e w' => e = .returned (.bool true) ∧ w' = wx) := fun wx => isDay_yes n wx h1 h2
  clear h1 h2 h3 h4
  generalize n * 86400 + c = T at *
  go_enter Tryz.func17, Tryz.ntmps17
  go_wp2_with (first | (go_at_call 34; refine (HS.out _).mono ?_; rintro e wz ⟨rfl, rfl⟩) | (go_at_call 10; refine (HD.out _).mono ?_; rintro e wz ⟨rfl, rfl⟩))
  go_ret
  exact ⟨rfl, rfl⟩

/-- is a time in the window? (without a length) -/
def inW (f t a : Int) : Bool := decide (a < t) && decide (f ≤ a)
set_option maxRecDepth 100000 in
theorem whas (f t a : Int) (w : World) (ha1 : -20000000000 ≤ a) (ha2 : a ≤ 20000000000) : Calls Tryz.prog 36 #[.agg #[.int .i64 f, .int .i64 t], .int .i64 a, .int .i64 0] w fun e w' => e = .returned (.bool (inW f t a)) ∧ Below w.heap.size w w' := by
  unfold inW
  by_cases h1 : a < t
  · by_cases h2 : f ≤ a
    · have e1 : decide (a < t) = true := decide_eq_true h1
      have e2 : decide (f ≤ a) = true := decide_eq_true h2
      rw [e1, e2]
      clear e1 e2
      go_enter Tryz.func36, Tryz.ntmps36
      go_wp2
      go_ret
      exact ⟨rfl, (Below.refl _ _).alloc (Nat.le_refl _) _⟩
    · have e1 : decide (a < t) = true := decide_eq_true h1
      have e2 : decide (f ≤ a) = false := decide_eq_false h2
      rw [e1, e2]
      clear e1 e2
      have h3 : a < f := by omega
      have h4 : ¬ f < a := by omega
      go_enter Tryz.func36, Tryz.ntmps36
      go_wp2
      go_ret
      exact ⟨rfl, (Below.refl _ _).alloc (Nat.le_refl _) _⟩
  · have e1 : decide (a < t) = false := decide_eq_false h1
    rw [e1]
    clear e1
    go_enter Tryz.func36, Tryz.ntmps36
    go_wp2
    go_ret
    exact ⟨rfl, (Below.refl _ _).alloc (Nat.le_refl _) _⟩

set_option maxRecDepth 100000 in
theorem skipped_no (Q : Nat) (ev ct n y m d wd c : Value) (k : Int) (nf cf : Int) (h1 : -200000 ≤ nf) (h2 : nf ≤ 200000) (h3 : 0 ≤ cf) (h4 : cf < 86400) (hk : 1 ≤ k) (w : World) (h : w.heap[Q]? = some (.cells (serA ev (.int .i64 k) n y m d wd c) 206 (0, 0))) :
    Calls Tryz.prog 176 #[.pointer (some ⟨Q, 0, none⟩), .int .i64 (nf * 86400 + cf)] w fun e w' => e = .returned (.int .i64 0) ∧ w' = w := by
  have c2 := hc h 2 rfl
  have HS : Hid (∀ wx, Calls Tryz.prog 34 #[.int .i64 (nf * 86400 + cf)] wx fun e w' => e = .returned (.tuple #[.int .i64 nf, .int .i64 cf]) ∧ w' = wx) := fun wx => split_any nf cf wx h1 h2 h3 h4
  clear h h1 h2 h3 h4
  generalize nf * 86400 + cf = T at *
  go_enter Tryz.func176, Tryz.ntmps176
  go_wp2_with (go_at_call 34; refine (HS.out _).mono ?_; rintro e wz ⟨rfl, rfl⟩)
  go_ret
  exact ⟨rfl, rfl⟩

set_option maxRecDepth 100000 in
theorem days_at (Q : Nat) (T : Int) (w : World) : Calls Tryz.prog 121 #[.pointer (some ⟨Q, 0, none⟩), .int .i64 T] w fun e w' => e = .returned (.func (.func 175) #[] #[.pointer (some ⟨w.heap.size, 0, none⟩), .pointer (some ⟨w.heap.size + 1, 0, none⟩)]) ∧ w' = (w.alloc (.cells #[.pointer (some ⟨Q, 0, none⟩)] 202)).alloc (.cells #[.int .i64 T] 3) := by
  go_enter Tryz.func121, Tryz.ntmps121
  go_wp2
  go_ret
  exact ⟨rfl, rfl⟩
end Go.Proofs.YtmmnbdefkailpaaGreatDoor
