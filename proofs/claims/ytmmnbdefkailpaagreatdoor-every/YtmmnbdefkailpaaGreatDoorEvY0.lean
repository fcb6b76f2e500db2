/- Package event: numbers and dates, written. -/
import Derived.Test.YtmmnbdefkailpaaGreatDoorEvV
import Derived.Test.YtmmnbdefkailpaaGreatDoorShelfAll
import Derived.Lib.AppendIntMem

namespace Go.Proofs.YtmmnbdefkailpaaGreatDoor
open Go.RowKit Cal
set_option linter.unusedVariables false

theorem TabIs_bel {n : String} {g : Nat} {k : IntKind} {zs : List Int} {w w' : World} (hg : Tryz.prog.globalNamed n = some g) (hg2 : g < w.heap.size) (h : Lib.TabIs Tryz.prog w n k zs) (hb : Below w.heap.size w w') : Lib.TabIs Tryz.prog w' n k zs := by
  unfold Lib.TabIs at h ⊢
  unfold World.var? at h ⊢
  rw [hg] at h ⊢
  simpa [hb.block g hg2] using h

/-- what the packages' variables hold, for writing too -/
structure GW (w : World) : Prop where
  gv : GV w
  pw : Lib.TabIs Tryz.prog w "internal/strconv.uint64pow10" .u64 Lib.pow10Tab
theorem GW.below {w w' : World} (h : GW w) (hb : Below w.heap.size w w') : GW w' := ⟨h.gv.below hb, TabIs_bel (g := 3) (by kernel_rfl) (by have := h.gv.size; omega) h.pw hb⟩

theorem ba_app (a b : List UInt8) : ba a ++ ba b = ba (a ++ b) := by
  apply ByteArray.ext
  apply Array.toList_inj.1
  rw [Ln.data_append, ba_data, ba_data, ba_data]
theorem num_ba {k : Nat} (h : k < 100) : num k = ba (dl k) := by
  unfold num ba; rw [dec_dl h]
theorem dec_d4 {y : Nat} (h1 : 1000 ≤ y) (h2 : y < 10000) : Lib.decDigits y = d4 y := by
  have s : ∀ k, ¬ k < 10 → Lib.decDigits k = Lib.decDigits (k / 10) ++ [UInt8.ofNat (48 + k % 10)] := fun k hk => by
    rw [Lib.decDigits, dif_neg hk]
  rw [s y (by omega), s (y / 10) (by omega), s (y / 10 / 10) (by omega), dec_lt10 (by omega)]
  have e1 : y / 10 / 10 / 10 = y / 1000 := by omega
  have e2 : y / 10 / 10 % 10 = y / 100 % 10 := by omega
  rw [e1, e2]; rfl
theorem itoa_year {y : Nat} (h1 : 1000 ≤ y) (h2 : y < 10000) (w : World) (hw : GW w) : Calls Tryz.prog 6 #[.int .i64 y] w fun e w' => e = .returned (.string (ba (d4 y))) ∧ Below w.heap.size w w' := by
  refine (Tryz.strconv_Itoa y (by omega) (by omega) w hw.pw).mono ?_
  rintro e w' ⟨rfl, k, os, rfl⟩
  refine ⟨?_, Lib.below_grow _ _ (Nat.le_refl _) _ _⟩
  have : Lib.itoa (y : Int) = d4 y := by unfold Lib.itoa; rw [if_neg (by omega), ← dec_d4 h1 h2]; rfl
  rw [this]; rfl
theorem dl_two {m : Nat} (h1 : 10 ≤ m) (h2 : m < 100) : dl m = d2 m := by unfold dl d2; rw [if_neg (by omega)]
theorem dl_one {m : Nat} (h1 : m < 10) : 48 :: dl m = d2 m := by
  unfold dl d2
  rw [if_pos h1]
  have e1 : m / 10 = 0 := by omega
  have e2 : m % 10 = m := by omega
  rw [e1, e2]; rfl

set_option maxRecDepth 100000 in
set_option maxHeartbeats 2000000 in
theorem padded2 {m : Nat} (h : m < 100) (w : World) : Calls Tryz.prog 114 #[.int .i64 m, .int .i64 2] w fun e w' => e = .returned (.string (ba (d2 m))) ∧ w' = w := by
  have cI : ∀ wx, Calls Tryz.prog 6 #[.int .i64 m] wx fun e w' => e = .returned (.string (ba (dl m))) ∧ w' = wx := fun wx => by rw [← num_ba h]; exact itoa_num m h wx
  have CI : Hid (∀ wx, Calls Tryz.prog 6 #[.int .i64 m] wx fun e w' => e = .returned (.string (ba (dl m))) ∧ w' = wx) := cI
  clear cI
  by_cases h1 : m < 10
  · have hz : (ba (dl m)).size = 1 := by rw [ba_size]; unfold dl; rw [if_pos h1]; rfl
    have HD : Hid (ba [48] ++ ba (dl m) = ba (d2 m)) := by rw [ba_app, ← dl_one h1]; rfl
    generalize ba (dl m) = S at *
    go_enter Tryz.func114, Tryz.ntmps114
    go_wp2_with (first | (go_at_call 6; refine (CI.out _).mono ?_; rintro e wz ⟨rfl, rfl⟩) | (go_at_call 155; refine (Tryz.strings_Repeat_one _ _).mono ?_; rintro e wz ⟨rfl, rfl⟩))
    go_ret
    exact ⟨by rw [← HD.out]; rfl, rfl⟩
  · have hz : (ba (dl m)).size = 2 := by rw [ba_size]; unfold dl; rw [if_neg h1]; rfl
    have HD : Hid (ba [] ++ ba (dl m) = ba (d2 m)) := by rw [ba_app, ← dl_two (by omega) h]; rfl
    generalize ba (dl m) = S at *
    go_enter Tryz.func114, Tryz.ntmps114
    go_wp2_with (first | (go_at_call 6; refine (CI.out _).mono ?_; rintro e wz ⟨rfl, rfl⟩) | (go_at_call 155; refine (Tryz.strings_Repeat_zero _ _).mono ?_; rintro e wz ⟨rfl, rfl⟩))
    go_ret
    exact ⟨by rw [← HD.out]; rfl, rfl⟩

set_option maxRecDepth 100000 in
set_option maxHeartbeats 2000000 in
theorem padded4 {y : Nat} (h1 : 1000 ≤ y) (h2 : y < 10000) (w : World) (hw : GW w) : Calls Tryz.prog 114 #[.int .i64 y, .int .i64 4] w fun e w' => e = .returned (.string (ba (d4 y))) ∧ Below w.heap.size w w' := by
  have cI := itoa_year h1 h2 w hw
  have hz : (ba (d4 y)).size = 4 := by rw [ba_size]; rfl
  have HD : Hid (ba [] ++ ba (d4 y) = ba (d4 y)) := by rw [ba_app]; rfl
  clear hw
  generalize ba (d4 y) = S at *
  go_enter Tryz.func114, Tryz.ntmps114
  go_wp2_with (first | (go_at_call 6; refine cI.mono ?_; clear cI; rintro e w3 ⟨rfl, hb3⟩) | (go_at_call 155; refine (Tryz.strings_Repeat_zero _ _).mono ?_; rintro e wz ⟨rfl, rfl⟩))
  go_ret
  exact ⟨by rw [← HD.out]; rfl, hb3⟩
end Go.Proofs.YtmmnbdefkailpaaGreatDoor

/- Package event: a date written; the event is small, has no length to tell, is the same. -/
namespace Go.Proofs.YtmmnbdefkailpaaGreatDoor
open Go.RowKit Cal
set_option linter.unusedVariables false

theorem date_written (y m d : Nat) : ba (d4 y) ++ ba (d2 m) ++ ba (d2 d) ++ (ba [84] ++ ba (d2 12) ++ ba (d2 0) ++ ba (d2 0)) = ba (date8 y m d ++ [84, 49, 50, 48, 48, 48, 48]) := by
  simp only [ba_app]
  congr 1

set_option maxRecDepth 100000 in
set_option maxHeartbeats 4000000 in
theorem fwrite {n : Int} (hn1 : -25567 ≤ n) (hn2 : n ≤ 84005) {y m d : Nat} (ey : dY n = y) (em : dM n = m) (ed : dD n = d) (hy1 : 1000 ≤ y) (hy : y < 10000) (hm : m < 100) (hd : d < 100) (w : World) (hw : GW w) :
    Calls Tryz.prog 70 #[.agg #[.bool false, .bool false], .int .i64 (n * 86400 + 43200)] w fun e w' => e = .returned (.string (ba (date8 y m d ++ [84, 49, 50, 48, 48, 48, 48]))) ∧ Below w.heap.size w w' := by
  have hE : dE n = 0 := by unfold dE; rw [if_pos (day_mk hn1 hn2)]
  have HS : Hid (∀ wx, Calls Tryz.prog 34 #[.int .i64 (n * 86400 + 43200)] wx fun e w' => e = .returned (.tuple #[.int .i64 n, .int .i64 43200]) ∧ w' = wx) := fun wx => split_any n 43200 wx (by omega) (by omega) (by omega) (by omega)
  have HD : Hid (∀ wx, Below w.heap.size w wx → Calls Tryz.prog 5 #[.int .i64 n] wx fun e w' => e = .returned (.tuple #[.int .i64 y, .int .i64 m, .int .i64 d, .int .i64 0]) ∧ Below wx.heap.size wx w') := fun wx hb => by
    have := date_any n wx (hw.gv.below hb).tab
    rw [ey, em, ed, hE] at this
    exact this
  have HY : Hid (∀ wx, Below w.heap.size w wx → Calls Tryz.prog 114 #[.int .i64 y, .int .i64 4] wx fun e w' => e = .returned (.string (ba (d4 y))) ∧ Below wx.heap.size wx w') := fun wx hb => padded4 hy1 hy wx (hw.below hb)
  have HM : Hid (∀ wx, Calls Tryz.prog 114 #[.int .i64 m, .int .i64 2] wx fun e w' => e = .returned (.string (ba (d2 m))) ∧ w' = wx) := fun wx => padded2 hm wx
  have HDD : Hid (∀ wx, Calls Tryz.prog 114 #[.int .i64 d, .int .i64 2] wx fun e w' => e = .returned (.string (ba (d2 d))) ∧ w' = wx) := fun wx => padded2 hd wx
  have H12 : Hid (∀ wx, Calls Tryz.prog 114 #[.int .i64 12, .int .i64 2] wx fun e w' => e = .returned (.string (ba (d2 12))) ∧ w' = wx) := fun wx => padded2 (m := 12) (by omega) wx
  have H0 : Hid (∀ wx, Calls Tryz.prog 114 #[.int .i64 0, .int .i64 2] wx fun e w' => e = .returned (.string (ba (d2 0))) ∧ w' = wx) := fun wx => padded2 (m := 0) (by omega) wx
  have HR : Hid (ba (d4 y) ++ ba (d2 m) ++ ba (d2 d) ++ (ba [84] ++ ba (d2 12) ++ ba (d2 0) ++ ba (d2 0)) = ba (date8 y m d ++ [84, 49, 50, 48, 48, 48, 48])) := date_written y m d
  clear hw hE ey em ed hn1 hn2 hy1 hy hm hd
  generalize n * 86400 + 43200 = T at *
  have zY : (ba (d4 y)).size = 4 := by rw [ba_size]; rfl
  have zM : (ba (d2 m)).size = 2 := by rw [ba_size]; rfl
  have zD : (ba (d2 d)).size = 2 := by rw [ba_size]; rfl
  have z12 : (ba (d2 12)).size = 2 := by rw [ba_size]; rfl
  have z0 : (ba (d2 0)).size = 2 := by rw [ba_size]; rfl
  generalize ba (d4 y) = Y at *
  generalize ba (d2 m) = M at *
  generalize ba (d2 d) = D at *
  generalize ba (d2 12) = D12 at *
  generalize ba (d2 0) = D0 at *
  generalize (y : Int) = yi at *
  generalize (m : Int) = mi at *
  generalize (d : Int) = di at *
  go_enter Tryz.func70, Tryz.ntmps70
  go_wp2_with (first
    | (go_at_call 34; refine (HS.out _).mono ?_; rintro e wz ⟨rfl, rfl⟩)
    | (go_at_call 5; refine (HD.out _ ((Below.refl _ _).alloc (Nat.le_refl _) _)).mono ?_; rintro e w3 ⟨rfl, hb3⟩; have hb4 : Below w.heap.size w w3 := ((Below.refl _ _).alloc (Nat.le_refl _) _).trans (hb3.mono (by simp)); have h3 := hbel (heap_alloc_new w (.cells #[.bool false, .bool false] 63)) hb3)
    | (go_at_call 114; refine (HY.out _ hb4).mono ?_; clear HY; rintro e w5 ⟨rfl, hb5⟩; have q0 := hc (hbel h3 hb5) 0 rfl; have q1 := hc (hbel h3 hb5) 1 rfl)
    | (go_at_call 114; refine (HM.out _).mono ?_; clear HM; rintro e wz ⟨rfl, rfl⟩)
    | (go_at_call 114; refine (HDD.out _).mono ?_; clear HDD; rintro e wz ⟨rfl, rfl⟩)
    | (go_at_call 114; refine (H12.out _).mono ?_; clear H12; rintro e wz ⟨rfl, rfl⟩)
    | (go_at_call 114; refine (H0.out _).mono ?_; rintro e wz ⟨rfl, rfl⟩))
  go_ret
  exact ⟨by rw [← HR.out]; rfl, hb4.trans (hb5.mono hb4.size)⟩
end Go.Proofs.YtmmnbdefkailpaaGreatDoor

/- Package event: the event is small, has no length to tell, is the same. -/
namespace Go.Proofs.YtmmnbdefkailpaaGreatDoor
open Go.RowKit Cal
set_option linter.unusedVariables false

set_option maxRecDepth 100000 in
set_option maxHeartbeats 4000000 in
theorem isSmall_yes (T ev ct : Int) (w : World) : Calls Tryz.prog 30 #[.agg #[.string ⟨#[120]⟩, .string ⟨#[]⟩, .int .i64 T, .bool false, .bool false, .int .i64 0, .int .i64 1, .int .i64 ev, .int .i64 ct, .int .i64 0, .bool false, .slice none 0 0, .slice none 0 0, .slice none 0 0, .slice none 0 0, .int .i64 0, .slice none 0 0, .slice none 0 0]] w fun e w' => e = .returned (.bool true) ∧ Below w.heap.size w w' := by
  have mx : ∀ wx : World, (Builtin.max_ #[3, 3, 3, 3, 3, 3] 3 #[.int .i64 0, .int .i64 0, .int .i64 0, .int .i64 0, .int .i64 0, .int .i64 0]).run Tryz.prog wx = .ok (.int .i64 0) wx := fun wx => by kernel_rfl
  go_enter Tryz.func30, Tryz.ntmps30
  go_wp2
  go_ret
  exact ⟨rfl, (Below.refl _ _).alloc (Nat.le_refl _) _⟩

set_option maxRecDepth 100000 in
set_option maxHeartbeats 4000000 in
theorem writeDuration_no (T ev ct : Int) (w : World) : Calls Tryz.prog 71 #[.agg #[.string ⟨#[120]⟩, .string ⟨#[]⟩, .int .i64 T, .bool false, .bool false, .int .i64 0, .int .i64 1, .int .i64 ev, .int .i64 ct, .int .i64 0, .bool false, .slice none 0 0, .slice none 0 0, .slice none 0 0, .slice none 0 0, .int .i64 0, .slice none 0 0, .slice none 0 0]] w fun e w' => e = .returned (.string ⟨#[]⟩) ∧ Below w.heap.size w w' := by
  go_enter Tryz.func71, Tryz.ntmps71
  go_wp2
  go_ret
  exact ⟨rfl, (Below.refl _ _).alloc (Nat.le_refl _) _⟩

theorem equal_none (w : World) : Calls Tryz.prog 74 #[.slice none 0 0, .slice none 0 0] w fun e w' => e = .returned (.bool true) ∧ w' = w := Tryz.slices_Equal_int_empty none none 0 0 0 w (by decide)

set_option maxRecDepth 100000 in
set_option maxHeartbeats 4000000 in
theorem equalW_none (w : World) : Calls Tryz.prog 117 #[.slice none 0 0, .slice none 0 0] w fun e w' => e = .returned (.bool true) ∧ w' = w := by
  go_enter Tryz.func117, Tryz.ntmps117
  go_wp2
  refine wp_loop_rounds 1 ?_
  rw [rounds_succ]
  go_wp2
  go_ret
  exact ⟨rfl, rfl⟩

set_option maxRecDepth 100000 in
set_option maxHeartbeats 8000000 in
theorem sameRule_yes (ev ct : Int) (w : World) : Calls Tryz.prog 75 #[.agg #[.int .i64 1, .int .i64 ev, .int .i64 ct, .int .i64 0, .bool false, .slice none 0 0, .slice none 0 0, .slice none 0 0, .slice none 0 0, .int .i64 0], .agg #[.int .i64 1, .int .i64 ev, .int .i64 ct, .int .i64 0, .bool false, .slice none 0 0, .slice none 0 0, .slice none 0 0, .slice none 0 0, .int .i64 0]] w fun e w' => e = .returned (.bool true) ∧ Below w.heap.size w w' := by
  go_enter Tryz.func75, Tryz.ntmps75
  go_wp2_with (first | (go_at_call 74; refine (equal_none _).mono ?_; rintro e wz ⟨rfl, rfl⟩) | (go_at_call 117; refine (equalW_none _).mono ?_; rintro e wz ⟨rfl, rfl⟩))
  go_ret
  exact ⟨rfl, ((Below.refl _ _).alloc (Nat.le_refl _) _).alloc (by simp) _⟩

set_option maxRecDepth 100000 in
set_option maxHeartbeats 8000000 in
theorem same_yes (T ev ct : Int) (w : World) : Calls Tryz.prog 33 #[.agg #[.string ⟨#[120]⟩, .string ⟨#[]⟩, .int .i64 T, .bool false, .bool false, .int .i64 0, .int .i64 1, .int .i64 ev, .int .i64 ct, .int .i64 0, .bool false, .slice none 0 0, .slice none 0 0, .slice none 0 0, .slice none 0 0, .int .i64 0, .slice none 0 0, .slice none 0 0], .agg #[.string ⟨#[120]⟩, .string ⟨#[]⟩, .int .i64 T, .bool false, .bool false, .int .i64 0, .int .i64 1, .int .i64 ev, .int .i64 ct, .int .i64 0, .bool false, .slice none 0 0, .slice none 0 0, .slice none 0 0, .slice none 0 0, .int .i64 0, .slice none 0 0, .slice none 0 0]] w fun e w' => e = .returned (.bool true) ∧ Below w.heap.size w w' := by
  go_enter Tryz.func33, Tryz.ntmps33
  go_wp2_with (first | (go_at_call 74; refine (equal_none _).mono ?_; rintro e wz ⟨rfl, rfl⟩) | (go_at_call 75; refine (sameRule_yes ev ct _).mono ?_; rintro e w3 ⟨rfl, hb3⟩))
  go_ret
  exact ⟨rfl, (((Below.refl _ _).alloc (Nat.le_refl _) _).alloc (by simp) _).trans (hb3.mono (by simp; omega))⟩
end Go.Proofs.YtmmnbdefkailpaaGreatDoor

/- Package event: the parts of a rule, written. -/
namespace Go.Proofs.YtmmnbdefkailpaaGreatDoor
open Go.RowKit Cal
set_option linter.unusedVariables false

set_option maxRecDepth 100000 in
set_option maxHeartbeats 4000000 in
theorem writeList_none (fv : Value) (w : World) : Calls Tryz.prog 73 #[.slice none 0 0, fv] w fun e w' => e = .returned (.string ⟨#[]⟩) ∧ Below w.heap.size w w' := by
  have mk : ∀ wx : World, (Instr.makeSlice 43 (.int .i64 0) (.int .i64 0)).run Tryz.prog wx = .ok (.slice (some ⟨wx.heap.size, 0, none⟩) 0 0) (wx.alloc (.cells #[] 9)) := fun wx => by kernel_rfl
  go_enter Tryz.func73, Tryz.ntmps73
  go_wp2
  refine wp_loop_rounds 1 ?_
  rw [rounds_succ]
  go_wp2_with (go_at_call 116; refine (Tryz.strings_Join_none _ _ _ _).mono ?_; rintro e wz ⟨rfl, rfl⟩)
  go_ret
  exact ⟨rfl, (Below.refl _ _).alloc (Nat.le_refl _) _⟩
set_option maxRecDepth 100000 in
set_option maxHeartbeats 4000000 in
theorem writeListW_none (fv : Value) (w : World) : Calls Tryz.prog 214 #[.slice none 0 0, fv] w fun e w' => e = .returned (.string ⟨#[]⟩) ∧ Below w.heap.size w w' := by
  have mk : ∀ wx : World, (Instr.makeSlice 43 (.int .i64 0) (.int .i64 0)).run Tryz.prog wx = .ok (.slice (some ⟨wx.heap.size, 0, none⟩) 0 0) (wx.alloc (.cells #[] 9)) := fun wx => by kernel_rfl
  go_enter Tryz.func214, Tryz.ntmps214
  go_wp2
  refine wp_loop_rounds 1 ?_
  rw [rounds_succ]
  go_wp2_with (go_at_call 116; refine (Tryz.strings_Join_none _ _ _ _).mono ?_; rintro e wz ⟨rfl, rfl⟩)
  go_ret
  exact ⟨rfl, (Below.refl _ _).alloc (Nat.le_refl _) _⟩

set_option maxRecDepth 100000 in
theorem wFreq (Q : Nat) (ev ct : Int) (w : World) (h : w.heap[Q]? = some (.cells #[.int .i64 1, .int .i64 ev, .int .i64 ct, .int .i64 0, .bool false, .slice none 0 0, .slice none 0 0, .slice none 0 0, .slice none 0 0, .int .i64 0, .bool false, .bool false] 131 (0, 0))) (hf : FN w) : Calls Tryz.prog 157 #[.pointer (some ⟨Q, 0, none⟩)] w fun e w' => e = .returned (.string ⟨#[68, 65, 73, 76, 89]⟩) ∧ w' = w := by
  have c0 := hc h 0 rfl
  have n0 := hf.n0
  clear h hf
  go_enter Tryz.func157, Tryz.ntmps157
  go_wp2
  go_ret
  exact ⟨rfl, rfl⟩
set_option maxRecDepth 100000 in
theorem wEvery1 (Q : Nat) (ct : Int) (w : World) (h : w.heap[Q]? = some (.cells #[.int .i64 1, .int .i64 1, .int .i64 ct, .int .i64 0, .bool false, .slice none 0 0, .slice none 0 0, .slice none 0 0, .slice none 0 0, .int .i64 0, .bool false, .bool false] 131 (0, 0))) : Calls Tryz.prog 159 #[.pointer (some ⟨Q, 0, none⟩)] w fun e w' => e = .returned (.string ⟨#[]⟩) ∧ w' = w := by
  have c0 := hc h 1 rfl
  clear h
  go_enter Tryz.func159, Tryz.ntmps159
  go_wp2
  go_ret
  exact ⟨rfl, rfl⟩
set_option maxRecDepth 100000 in
theorem wEvery (Q : Nat) (k : Nat) (hk1 : 2 ≤ k) (hk : k < 100) (ct : Int) (w : World) (h : w.heap[Q]? = some (.cells #[.int .i64 1, .int .i64 k, .int .i64 ct, .int .i64 0, .bool false, .slice none 0 0, .slice none 0 0, .slice none 0 0, .slice none 0 0, .int .i64 0, .bool false, .bool false] 131 (0, 0))) : Calls Tryz.prog 159 #[.pointer (some ⟨Q, 0, none⟩)] w fun e w' => e = .returned (.string (num k)) ∧ w' = w := by
  have c0 := hc h 1 rfl
  have hk2 : (2 : Int) ≤ k := by omega
  have CI : Hid (∀ wx, Calls Tryz.prog 6 #[.int .i64 k] wx fun e w' => e = .returned (.string (num k)) ∧ w' = wx) := fun wx => itoa_num k hk wx
  clear h hk
  go_enter Tryz.func159, Tryz.ntmps159
  go_wp2_with (go_at_call 6; refine (CI.out _).mono ?_; rintro e wz ⟨rfl, rfl⟩)
  go_ret
  exact ⟨rfl, rfl⟩
set_option maxRecDepth 100000 in
theorem wCount (Q : Nat) (k : Nat) (hk1 : 1 ≤ k) (hk : k < 100) (ev : Int) (w : World) (h : w.heap[Q]? = some (.cells #[.int .i64 1, .int .i64 ev, .int .i64 k, .int .i64 0, .bool false, .slice none 0 0, .slice none 0 0, .slice none 0 0, .slice none 0 0, .int .i64 0, .bool false, .bool false] 131 (0, 0))) : Calls Tryz.prog 161 #[.pointer (some ⟨Q, 0, none⟩)] w fun e w' => e = .returned (.string (num k)) ∧ w' = w := by
  have c0 := hc h 2 rfl
  have hk2 : (1 : Int) ≤ k := by omega
  have CI : Hid (∀ wx, Calls Tryz.prog 6 #[.int .i64 k] wx fun e w' => e = .returned (.string (num k)) ∧ w' = wx) := fun wx => itoa_num k hk wx
  clear h hk
  go_enter Tryz.func161, Tryz.ntmps161
  go_wp2_with (go_at_call 6; refine (CI.out _).mono ?_; rintro e wz ⟨rfl, rfl⟩)
  go_ret
  exact ⟨rfl, rfl⟩
set_option maxRecDepth 100000 in
theorem wUntil (Q : Nat) (ev ct : Int) (w : World) (h : w.heap[Q]? = some (.cells #[.int .i64 1, .int .i64 ev, .int .i64 ct, .int .i64 0, .bool false, .slice none 0 0, .slice none 0 0, .slice none 0 0, .slice none 0 0, .int .i64 0, .bool false, .bool false] 131 (0, 0))) : Calls Tryz.prog 163 #[.pointer (some ⟨Q, 0, none⟩)] w fun e w' => e = .returned (.string ⟨#[]⟩) ∧ w' = w := by
  have c0 := hc h 4 rfl
  clear h
  go_enter Tryz.func163, Tryz.ntmps163
  go_wp2
  go_ret
  exact ⟨rfl, rfl⟩
set_option maxRecDepth 100000 in
theorem wFirst (Q : Nat) (ev ct : Int) (w : World) (h : w.heap[Q]? = some (.cells #[.int .i64 1, .int .i64 ev, .int .i64 ct, .int .i64 0, .bool false, .slice none 0 0, .slice none 0 0, .slice none 0 0, .slice none 0 0, .int .i64 0, .bool false, .bool false] 131 (0, 0))) : Calls Tryz.prog 173 #[.pointer (some ⟨Q, 0, none⟩)] w fun e w' => e = .returned (.string ⟨#[]⟩) ∧ w' = w := by
  have c0 := hc h 9 rfl
  clear h
  go_enter Tryz.func173, Tryz.ntmps173
  go_wp2
  go_ret
  exact ⟨rfl, rfl⟩
set_option maxRecDepth 100000 in
theorem wMonths (Q : Nat) (ev ct : Int) (w : World) (h : w.heap[Q]? = some (.cells #[.int .i64 1, .int .i64 ev, .int .i64 ct, .int .i64 0, .bool false, .slice none 0 0, .slice none 0 0, .slice none 0 0, .slice none 0 0, .int .i64 0, .bool false, .bool false] 131 (0, 0))) : Calls Tryz.prog 165 #[.pointer (some ⟨Q, 0, none⟩)] w fun e w' => e = .returned (.string ⟨#[]⟩) ∧ Below w.heap.size w w' := by
  have c0 := hc h 5 rfl
  clear h
  go_enter Tryz.func165, Tryz.ntmps165
  go_wp2_with (go_at_call 73; refine (writeList_none _ _).mono ?_; rintro e w3 ⟨rfl, hb3⟩)
  go_ret
  exact ⟨rfl, hb3⟩
set_option maxRecDepth 100000 in
theorem wMonthDays (Q : Nat) (ev ct : Int) (w : World) (h : w.heap[Q]? = some (.cells #[.int .i64 1, .int .i64 ev, .int .i64 ct, .int .i64 0, .bool false, .slice none 0 0, .slice none 0 0, .slice none 0 0, .slice none 0 0, .int .i64 0, .bool false, .bool false] 131 (0, 0))) : Calls Tryz.prog 167 #[.pointer (some ⟨Q, 0, none⟩)] w fun e w' => e = .returned (.string ⟨#[]⟩) ∧ Below w.heap.size w w' := by
  have c0 := hc h 6 rfl
  clear h
  go_enter Tryz.func167, Tryz.ntmps167
  go_wp2_with (go_at_call 73; refine (writeList_none _ _).mono ?_; rintro e w3 ⟨rfl, hb3⟩)
  go_ret
  exact ⟨rfl, hb3⟩
set_option maxRecDepth 100000 in
theorem wWeekdays (Q : Nat) (ev ct : Int) (w : World) (h : w.heap[Q]? = some (.cells #[.int .i64 1, .int .i64 ev, .int .i64 ct, .int .i64 0, .bool false, .slice none 0 0, .slice none 0 0, .slice none 0 0, .slice none 0 0, .int .i64 0, .bool false, .bool false] 131 (0, 0))) : Calls Tryz.prog 169 #[.pointer (some ⟨Q, 0, none⟩)] w fun e w' => e = .returned (.string ⟨#[]⟩) ∧ Below w.heap.size w w' := by
  have c0 := hc h 7 rfl
  clear h
  go_enter Tryz.func169, Tryz.ntmps169
  go_wp2_with (go_at_call 214; refine (writeListW_none _ _).mono ?_; rintro e w3 ⟨rfl, hb3⟩)
  go_ret
  exact ⟨rfl, hb3⟩
set_option maxRecDepth 100000 in
theorem wPlaces (Q : Nat) (ev ct : Int) (w : World) (h : w.heap[Q]? = some (.cells #[.int .i64 1, .int .i64 ev, .int .i64 ct, .int .i64 0, .bool false, .slice none 0 0, .slice none 0 0, .slice none 0 0, .slice none 0 0, .int .i64 0, .bool false, .bool false] 131 (0, 0))) : Calls Tryz.prog 171 #[.pointer (some ⟨Q, 0, none⟩)] w fun e w' => e = .returned (.string ⟨#[]⟩) ∧ Below w.heap.size w w' := by
  have c0 := hc h 8 rfl
  clear h
  go_enter Tryz.func171, Tryz.ntmps171
  go_wp2_with (go_at_call 73; refine (writeList_none _ _).mono ?_; rintro e w3 ⟨rfl, hb3⟩)
  go_ret
  exact ⟨rfl, hb3⟩
end Go.Proofs.YtmmnbdefkailpaaGreatDoor
