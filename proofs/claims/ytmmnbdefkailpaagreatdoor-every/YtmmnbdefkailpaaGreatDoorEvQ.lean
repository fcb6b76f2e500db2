/- Package recur: whether a daily rule has the start. -/
import Derived.Test.YtmmnbdefkailpaaGreatDoorEvN
import Derived.Deep.RegionHeld3

namespace Go.Proofs.YtmmnbdefkailpaaGreatDoor
open Go.RowKit Cal
set_option linter.unusedVariables false

abbrev rulA (ev ct : Int) : Value := .agg #[.int .i64 1, .int .i64 ev, .int .i64 ct, .int .i64 0, .bool false, .slice none 0 0, .slice none 0 0, .slice none 0 0, .slice none 0 0, .int .i64 0]

theorem at_days (n : Int) (h1 : -25567 ≤ n) (h2 : n ≤ 84005) : ∃ Y M D : Int, (∀ w, Tab w → Calls Tryz.prog 11 #[.int .i64 n] w fun e w' => e = .returned (.agg #[.int .i64 n, .int .i64 Y, .int .i64 M, .int .i64 D, .int .i64 ((n + 3) % 7)]) ∧ Below w.heap.size w w') :=
  ⟨_, _, _, fun w ht => by have hA := at_any n w ht h1 h2; rw [Int.sub_zero] at hA; exact hA⟩

set_option maxRecDepth 100000 in
set_option maxHeartbeats 4000000 in
theorem newSeries_daily (ev ct n c : Int) (w : World) (ht : Tab w) (h1 : -25567 ≤ n) (h2 : n ≤ 84005) (h3 : 0 ≤ c) (h4 : c < 86400) :
    Calls Tryz.prog 119 #[.int .i64 (n * 86400 + c), rulA ev ct] w fun e w' => ∃ Q y m d wd, e = .returned (.pointer (some ⟨Q, 0, none⟩)) ∧ w'.heap[Q]? = some (.cells (serA (.int .i64 ev) (.int .i64 ct) (.int .i64 n) y m d wd (.int .i64 c)) 206 (0, 0)) ∧ w.heap.size ≤ Q ∧ Below w.heap.size w w' := by
  obtain ⟨Y, M, D, hA⟩ := at_days n h1 h2
  have HA : Hid (∀ w, Tab w → Calls Tryz.prog 11 #[.int .i64 n] w fun e w' => e = .returned (.agg #[.int .i64 n, .int .i64 Y, .int .i64 M, .int .i64 D, .int .i64 ((n + 3) % 7)]) ∧ Below w.heap.size w w') := hA
  have HS : Hid (∀ wx, Calls Tryz.prog 34 #[.int .i64 (n * 86400 + c)] wx fun e w' => e = .returned (.tuple #[.int .i64 n, .int .i64 c]) ∧ w' = wx) := fun wx => split_any n c wx (by omega) (by omega) h3 h4
  have HT : Hid (∀ wx, Below w.heap.size w wx → Tab wx) := fun wx hb => ht.below hb
  clear hA ht h1 h2 h3 h4
  generalize n * 86400 + c = T at *
  generalize (n + 3) % 7 = wd0 at *
  go_enter Tryz.func119, Tryz.ntmps119
  go_wp2_with (go_at_call 34; refine (HS.out _).mono ?_; rintro e wz ⟨rfl, rfl⟩)
  have hN := heap_alloc_new w (.cells #[.int .i64 1, .int .i64 ev, .int .i64 ct, .int .i64 0, .bool false, .slice none 0 0, .slice none 0 0, .slice none 0 0, .slice none 0 0, .int .i64 0] 30)
  have HbW : Hid (Below w.heap.size w (w.alloc (.cells #[.int .i64 1, .int .i64 ev, .int .i64 ct, .int .i64 0, .bool false, .slice none 0 0, .slice none 0 0, .slice none 0 0, .slice none 0 0, .int .i64 0] 30))) := (Below.refl _ _).alloc (Nat.le_refl _) _
  have hzW : (w.alloc (.cells #[.int .i64 1, .int .i64 ev, .int .i64 ct, .int .i64 0, .bool false, .slice none 0 0, .slice none 0 0, .slice none 0 0, .slice none 0 0, .int .i64 0] 30)).heap.size = w.heap.size + 1 := by simp
  revert hN HbW hzW
  generalize w.alloc (.cells #[.int .i64 1, .int .i64 ev, .int .i64 ct, .int .i64 0, .bool false, .slice none 0 0, .slice none 0 0, .slice none 0 0, .slice none 0 0, .int .i64 0] 30) = W0
  intro hN HbW hzW
  have HK : Hid (∀ w', Below W0.heap.size W0 w' → w'.cell? ⟨w.heap.size, 0, none⟩ = some (.int .i64 1) ∧ w'.cell? ⟨w.heap.size, 1, none⟩ = some (.int .i64 ev) ∧ w'.cell? ⟨w.heap.size, 2, none⟩ = some (.int .i64 ct) ∧ w'.cell? ⟨w.heap.size, 3, none⟩ = some (.int .i64 0) ∧ w'.cell? ⟨w.heap.size, 4, none⟩ = some (.bool false) ∧ w'.cell? ⟨w.heap.size, 5, none⟩ = some (.slice none 0 0) ∧ w'.cell? ⟨w.heap.size, 6, none⟩ = some (.slice none 0 0) ∧ w'.cell? ⟨w.heap.size, 7, none⟩ = some (.slice none 0 0) ∧ w'.cell? ⟨w.heap.size, 8, none⟩ = some (.slice none 0 0) ∧ w'.cell? ⟨w.heap.size, 9, none⟩ = some (.int .i64 0)) := fun wx hb => by
    have h9 := hbel hN hb
    exact ⟨hc h9 0 rfl, hc h9 1 rfl, hc h9 2 rfl, hc h9 3 rfl, hc h9 4 rfl, hc h9 5 rfl, hc h9 6 rfl, hc h9 7 rfl, hc h9 8 rfl, hc h9 9 rfl⟩
  clear hN
  go_region_held3 (fun w' => w'.cell? ⟨w.heap.size, 0, none⟩ = some (.int .i64 1) ∧ w'.cell? ⟨w.heap.size, 1, none⟩ = some (.int .i64 ev) ∧ w'.cell? ⟨w.heap.size, 2, none⟩ = some (.int .i64 ct) ∧ w'.cell? ⟨w.heap.size, 3, none⟩ = some (.int .i64 0) ∧ w'.cell? ⟨w.heap.size, 4, none⟩ = some (.bool false) ∧ w'.cell? ⟨w.heap.size, 5, none⟩ = some (.slice none 0 0) ∧ w'.cell? ⟨w.heap.size, 6, none⟩ = some (.slice none 0 0) ∧ w'.cell? ⟨w.heap.size, 7, none⟩ = some (.slice none 0 0) ∧ w'.cell? ⟨w.heap.size, 8, none⟩ = some (.slice none 0 0) ∧ w'.cell? ⟨w.heap.size, 9, none⟩ = some (.int .i64 0)) (first | exact HK.out _ (Below.refl _ _).drew | exact HK.out _ hb4 | exact HK.out _ (hb4.alloc hb4.size _)) ((go_at_call 11; refine (HA.out _ (HT.out _ (HbW.out.trans (Below.refl w.heap.size W0).drew))).mono ?_; rintro e w3 ⟨rfl, hb3⟩; have hb4 : Below W0.heap.size W0 w3 := (Below.refl W0.heap.size W0).drew.trans hb3))
  go_wp2
  go_ret
  have hb5 : Below w.heap.size w w3 := HbW.out.trans (hb4.mono (by omega))
  exact ⟨w3.heap.size, _, _, _, _, rfl, heap_alloc_new w3 _, hb5.size, hb5.alloc hb5.size _⟩

set_option maxRecDepth 100000 in
set_option maxHeartbeats 4000000 in
theorem begins_daily (ev ct n c : Int) (w : World) (ht : Tab w) (h1 : -25567 ≤ n) (h2 : n ≤ 84005) (h3 : 0 ≤ c) (h4 : c < 86400) :
    Calls Tryz.prog 105 #[.int .i64 (n * 86400 + c), rulA ev ct] w fun e w' => e = .returned (.bool true) ∧ Below w.heap.size w w' := by
  have HN : Hid (∀ wx, Tab wx → Calls Tryz.prog 119 #[.int .i64 (n * 86400 + c), rulA ev ct] wx fun e w' => ∃ Q y m d wd, e = .returned (.pointer (some ⟨Q, 0, none⟩)) ∧ w'.heap[Q]? = some (.cells (serA (.int .i64 ev) (.int .i64 ct) (.int .i64 n) y m d wd (.int .i64 c)) 206 (0, 0)) ∧ wx.heap.size ≤ Q ∧ Below wx.heap.size wx w') := fun wx hx => newSeries_daily ev ct n c wx hx h1 h2 h3 h4
  have HT : Hid (∀ wx, Below w.heap.size w wx → Tab wx) := fun wx hb => ht.below hb
  have HP : Hid (∀ Q y m d wd wx, wx.heap[Q]? = some (.cells (serA (.int .i64 ev) (.int .i64 ct) (.int .i64 n) y m d wd (.int .i64 c)) 206 (0, 0)) → Calls Tryz.prog 150 #[.pointer (some ⟨Q, 0, none⟩), .int .i64 0] wx fun e w' => e = .returned (.tuple #[.int .i64 n, .int .i64 n]) ∧ w' = wx) := fun Q y m d wd wx hx => by
    have := period_daily Q _ _ y m d wd _ n 0 wx hx (by omega) (by omega) h1 h2
    rw [Int.add_zero] at this
    exact this
  have HD : Hid (∀ Q y m d wd wx, Tab wx → wx.heap[Q]? = some (.cells (serA (.int .i64 ev) (.int .i64 ct) (.int .i64 n) y m d wd (.int .i64 c)) 206 (0, 0)) → Calls Tryz.prog 151 #[.pointer (some ⟨Q, 0, none⟩), .int .i64 n, .int .i64 n] wx fun e w' => ∃ g cap, e = .returned (.slice (some ⟨g, 0, none⟩) 1 cap) ∧ w'.cell? ⟨g, 0, none⟩ = some (.int .i64 n) ∧ wx.heap.size ≤ g ∧ Below wx.heap.size wx w') := fun Q y m d wd wx ht' hx => set_daily Q _ _ _ y m d wd _ n wx ht' hx h1 h2
  have HC : Hid (∀ g cap wx, wx.cell? ⟨g, 0, none⟩ = some (.int .i64 n) → Calls Tryz.prog 37 #[.slice (some ⟨g, 0, none⟩) 1 cap, .int .i64 n] wx fun e w' => e = .returned (.bool true) ∧ w' = wx) := fun g cap wx hx => by
    refine (Tryz.slices_Contains_int g 0 1 cap [n] n wx (by simp) (by omega) (fun j hj => ?_)).mono ?_
    · have : j = 0 := by simpa using hj
      subst this; exact hx
    · rintro e w' ⟨rfl, rfl⟩
      exact ⟨by simp, rfl⟩
  clear ht h1 h2 h3 h4
  generalize n * 86400 + c = T at *
  go_enter Tryz.func105, Tryz.ntmps105
  go_wp2_with (first | (go_at_call 119; refine (HN.out _ (HT.out _ ((Below.refl _ _).alloc (Nat.le_refl _) _))).mono ?_; rintro e w3 ⟨Q, y, m, d, wd, rfl, hQ, hQz, hb3⟩) | (go_at_call 150; refine (HP.out _ _ _ _ _ _ hQ).mono ?_; rintro e w3 ⟨rfl, rfl⟩))
  have hb4 : Below w.heap.size w w3 := ((Below.refl _ _).alloc (Nat.le_refl _) _).trans (hb3.mono (by simp))
  clear hb3
  have HK : Hid (∀ w', Below w3.heap.size w3 w' → w'.cell? ⟨Q, 10, none⟩ = some (.int .i64 n) ∧ w'.cell? ⟨Q, 4, none⟩ = some (.bool false)) := fun wx hb => by
    have h9 := hbel hQ hb
    exact ⟨hc h9 10 rfl, hc h9 4 rfl⟩
  have cD := HD.out Q y m d wd w3.drew (HT.out _ hb4.drew) hQ
  clear HN HP HD hQ
  refine wp_region_noPanic ?_
  refine wp_region_held_drew (S := fun w' => w'.cell? ⟨Q, 10, none⟩ = some (.int .i64 n) ∧ w'.cell? ⟨Q, 4, none⟩ = some (.bool false)) (by kernel_rfl) (HK.out _ (Below.refl _ _).drew) (fun hHeld => ?_)
  refine wpAnyH_take (i := 0) (oi := ({ dst := some 16, op := Op.move (Operand.tmp 5), type := 202, pos := "recur.go:37", after := #[], guard := none } : Oper)) (v := ?tv1) rfl (by kernel_rfl) (by kernel_rfl) (by kernel_rfl) (fun _ _ _ h => h) (Or.inl ⟨by rfl, ?ty1⟩) hHeld ?tr1
  case ty1 => (intro w hSw; (try dsimp only at hSw); go_simp; first | done | with_reducible rfl)
  try simp only [Act.put, List.setIfInBounds_toArray, List.set_cons_zero, List.set_cons_succ]
  refine wpAnyH_take (i := 1) (oi := ({ dst := some 17, op := Op.move (Operand.tmp 6), type := 3, pos := "recur.go:37", after := #[], guard := none } : Oper)) (v := ?tv2) rfl (by kernel_rfl) (by kernel_rfl) (by kernel_rfl) (fun _ _ _ h => h) (Or.inl ⟨by rfl, ?ty2⟩) hHeld ?tr2
  case ty2 => (intro w hSw; (try dsimp only at hSw); go_simp; first | done | with_reducible rfl)
  try simp only [Act.put, List.setIfInBounds_toArray, List.set_cons_zero, List.set_cons_succ]
  refine wpAnyH_take (i := 2) (oi := ({ dst := some 18, op := Op.move (Operand.tmp 7), type := 3, pos := "recur.go:37", after := #[], guard := none } : Oper)) (v := ?tv3) rfl (by kernel_rfl) (by kernel_rfl) (by kernel_rfl) (fun _ _ _ h => h) (Or.inl ⟨by rfl, ?ty3⟩) hHeld ?tr3
  case ty3 => (intro w hSw; (try dsimp only at hSw); go_simp; first | done | with_reducible rfl)
  try simp only [Act.put, List.setIfInBounds_toArray, List.set_cons_zero, List.set_cons_succ]
  refine wpAnyH_take (i := 4) (oi := ({ dst := some 20, op := Op.move (Operand.tmp 5), type := 202, pos := "recur.go:37", after := #[], guard := none } : Oper)) (v := ?tv4) rfl (by kernel_rfl) (by kernel_rfl) (by kernel_rfl) (fun _ _ _ h => h) (Or.inl ⟨by rfl, ?ty4⟩) hHeld ?tr4
  case ty4 => (intro w hSw; (try dsimp only at hSw); go_simp; first | done | with_reducible rfl)
  try simp only [Act.put, List.setIfInBounds_toArray, List.set_cons_zero, List.set_cons_succ]
  refine wpAnyH_take (i := 5) (oi := ({ dst := some 21, op := Op.nilCheck (Operand.tmp 20), type := 0, pos := "recur.go:37", after := #[{ on := 4, ground := Ground.data }], guard := none } : Oper)) (v := ?tv5) rfl (by kernel_rfl) (by kernel_rfl) (by kernel_rfl) (fun _ _ _ h => h) (Or.inl ⟨by rfl, ?ty5⟩) hHeld ?tr5
  case ty5 => (intro w hSw; (try dsimp only at hSw); go_simp; first | done | with_reducible rfl)
  try simp only [Act.put, List.setIfInBounds_toArray, List.set_cons_zero, List.set_cons_succ]
  refine wpAnyH_take (i := 6) (oi := ({ dst := some 22, op := Op.fieldAddr 206 (Operand.tmp 21) 1, type := 0, pos := "recur.go:37", after := #[{ on := 5, ground := Ground.data }], guard := none } : Oper)) (v := ?tv6) rfl (by kernel_rfl) (by kernel_rfl) (by kernel_rfl) (fun _ _ _ h => h) (Or.inl ⟨by rfl, ?ty6⟩) hHeld ?tr6
  case ty6 => (intro w hSw; (try dsimp only at hSw); go_simp; first | done | with_reducible rfl)
  try simp only [Act.put, List.setIfInBounds_toArray, List.set_cons_zero, List.set_cons_succ]
  refine wpAnyH_take (i := 7) (oi := ({ dst := some 23, op := Op.fieldAddr 40 (Operand.tmp 22) 0, type := 0, pos := "recur.go:37", after := #[{ on := 6, ground := Ground.data }], guard := none } : Oper)) (v := ?tv7) rfl (by kernel_rfl) (by kernel_rfl) (by kernel_rfl) (fun _ _ _ h => h) (Or.inl ⟨by rfl, ?ty7⟩) hHeld ?tr7
  case ty7 => (intro w hSw; (try dsimp only at hSw); go_simp; first | done | with_reducible rfl)
  try simp only [Act.put, List.setIfInBounds_toArray, List.set_cons_zero, List.set_cons_succ]
  refine wpAnyH_take (i := 8) (oi := ({ dst := some 24, op := Op.load 3 (Operand.tmp 23), type := 3, pos := "recur.go:37", after := #[{ on := 7, ground := Ground.data }], guard := none } : Oper)) (v := ?tv8) rfl (by kernel_rfl) (by kernel_rfl) (by kernel_rfl) (fun _ _ _ h => h) (Or.inl ⟨by rfl, ?ty8⟩) hHeld ?tr8
  case ty8 => (intro w hSw; (try dsimp only at hSw); go_simp; first | done | with_reducible rfl)
  try simp only [Act.put, List.setIfInBounds_toArray, List.set_cons_zero, List.set_cons_succ]
  refine wpAnyH_ready (rs := [3]) (by kernel_rfl) (by simp) ?_
  refine AllReadyH.cons (o := ({ dst := some 19, op := Op.call { callee := Callee.value (Operand.func 151), args := #[Operand.tmp 16, Operand.tmp 17, Operand.tmp 18], argTypes := #[202, 3, 3] }, type := 27, pos := "recur.go:37", after := #[{ on := 0, ground := Ground.data }, { on := 1, ground := Ground.data }, { on := 2, ground := Ground.data }], guard := none } : Oper)) rfl (fun K hK => ?_) AllReadyH.nil
  go_simp
  refine cD.mono ?_
  clear cD
  rintro e w5 ⟨g, cap, rfl, hg, hgz, hb5⟩
  have hb6 : Below w3.heap.size w3 w5 := (Below.refl w3.heap.size w3).drew.trans hb5
  go_wp2_with fail
  refine hK.out _ _ (HK.out _ hb6) (fun hHeld => ?_)
  clear hK K
  try simp only [Act.put, List.setIfInBounds_toArray, List.set_cons_zero, List.set_cons_succ]
  refine wpAnyH_ready (rs := [9]) (by kernel_rfl) (by simp) ?_
  refine AllReadyH.cons (o := ({ dst := some 25, op := Op.call { callee := Callee.value (Operand.func 37), args := #[Operand.tmp 19, Operand.tmp 24], argTypes := #[27, 3] }, type := 4, pos := "recur.go:37", after := #[{ on := 3, ground := Ground.data }, { on := 8, ground := Ground.data }, { on := 3, ground := Ground.chain }], guard := none } : Oper)) rfl (fun K hK => ?_) AllReadyH.nil
  go_simp
  refine (HC.out _ _ _ hg).mono ?_
  rintro e w6 ⟨rfl, rfl⟩
  go_wp2_with fail
  refine hK.out _ _ (HK.out _ hb6) (fun hHeld => ?_)
  clear hK K
  try simp only [Act.put, List.setIfInBounds_toArray, List.set_cons_zero, List.set_cons_succ]
  refine wpAnyH_take (i := 10) (oi := ({ dst := some 26, op := Op.move (Operand.tmp 25), type := 4, pos := "recur.go:37", after := #[{ on := 9, ground := Ground.data }, { on := 9, ground := Ground.chain }], guard := none } : Oper)) (v := ?tv9) rfl (by kernel_rfl) (by kernel_rfl) (by kernel_rfl) (fun _ _ _ h => h) (Or.inl ⟨by rfl, ?ty9⟩) hHeld ?tr9
  case ty9 => (intro w hSw; (try dsimp only at hSw); go_simp; first | done | with_reducible rfl)
  try simp only [Act.put, List.setIfInBounds_toArray, List.set_cons_zero, List.set_cons_succ]
  refine wpAnyH_take (i := 11) (oi := ({ dst := some 27, op := Op.move (Operand.tmp 5), type := 202, pos := "recur.go:37", after := #[{ on := 10, ground := Ground.guard }], guard := some (10, true) } : Oper)) (v := ?tv10) rfl (by kernel_rfl) (by kernel_rfl) (by kernel_rfl) (fun _ _ _ h => h) (Or.inl ⟨by rfl, ?ty10⟩) hHeld ?tr10
  case ty10 => (intro w hSw; (try dsimp only at hSw); go_simp; first | done | with_reducible rfl)
  try simp only [Act.put, List.setIfInBounds_toArray, List.set_cons_zero, List.set_cons_succ]
  refine wpAnyH_take (i := 12) (oi := ({ dst := some 28, op := Op.nilCheck (Operand.tmp 27), type := 0, pos := "recur.go:37", after := #[{ on := 11, ground := Ground.data }, { on := 10, ground := Ground.guard }], guard := some (10, true) } : Oper)) (v := ?tv11) rfl (by kernel_rfl) (by kernel_rfl) (by kernel_rfl) (fun _ _ _ h => h) (Or.inl ⟨by rfl, ?ty11⟩) hHeld ?tr11
  case ty11 => (intro w hSw; (try dsimp only at hSw); go_simp; first | done | with_reducible rfl)
  try simp only [Act.put, List.setIfInBounds_toArray, List.set_cons_zero, List.set_cons_succ]
  refine wpAnyH_take (i := 13) (oi := ({ dst := some 29, op := Op.fieldAddr 206 (Operand.tmp 28) 0, type := 0, pos := "recur.go:37", after := #[{ on := 12, ground := Ground.data }, { on := 10, ground := Ground.guard }], guard := some (10, true) } : Oper)) (v := ?tv12) rfl (by kernel_rfl) (by kernel_rfl) (by kernel_rfl) (fun _ _ _ h => h) (Or.inl ⟨by rfl, ?ty12⟩) hHeld ?tr12
  case ty12 => (intro w hSw; (try dsimp only at hSw); go_simp; first | done | with_reducible rfl)
  try simp only [Act.put, List.setIfInBounds_toArray, List.set_cons_zero, List.set_cons_succ]
  refine wpAnyH_take (i := 14) (oi := ({ dst := some 30, op := Op.fieldAddr 30 (Operand.tmp 29) 4, type := 0, pos := "recur.go:37", after := #[{ on := 13, ground := Ground.data }, { on := 10, ground := Ground.guard }], guard := some (10, true) } : Oper)) (v := ?tv13) rfl (by kernel_rfl) (by kernel_rfl) (by kernel_rfl) (fun _ _ _ h => h) (Or.inl ⟨by rfl, ?ty13⟩) hHeld ?tr13
  case ty13 => (intro w hSw; (try dsimp only at hSw); go_simp; first | done | with_reducible rfl)
  try simp only [Act.put, List.setIfInBounds_toArray, List.set_cons_zero, List.set_cons_succ]
  refine wpAnyH_take (i := 15) (oi := ({ dst := some 31, op := Op.load 4 (Operand.tmp 30), type := 4, pos := "recur.go:37", after := #[{ on := 14, ground := Ground.data }, { on := 10, ground := Ground.guard }], guard := some (10, true) } : Oper)) (v := ?tv14) rfl (by kernel_rfl) (by kernel_rfl) (by kernel_rfl) (fun _ _ _ h => h) (Or.inl ⟨by rfl, ?ty14⟩) hHeld ?tr14
  case ty14 => (intro w hSw; (try dsimp only at hSw); go_simp; first | done | with_reducible rfl)
  try simp only [Act.put, List.setIfInBounds_toArray, List.set_cons_zero, List.set_cons_succ]
  refine wpAnyH_take (i := 16) (oi := ({ dst := some 32, op := Op.unOp UnOp.not 4 (Operand.tmp 31), type := 4, pos := "recur.go:37", after := #[{ on := 15, ground := Ground.data }, { on := 10, ground := Ground.guard }], guard := some (10, true) } : Oper)) (v := ?tv15) rfl (by kernel_rfl) (by kernel_rfl) (by kernel_rfl) (fun _ _ _ h => h) (Or.inl ⟨by rfl, ?ty15⟩) hHeld ?tr15
  case ty15 => (intro w hSw; (try dsimp only at hSw); go_simp; first | done | with_reducible rfl)
  try simp only [Act.put, List.setIfInBounds_toArray, List.set_cons_zero, List.set_cons_succ]
  refine wpAnyH_take (i := 17) (oi := ({ dst := some 33, op := Op.move (Operand.tmp 32), type := 4, pos := "recur.go:37", after := #[{ on := 16, ground := Ground.data }, { on := 10, ground := Ground.chain }, { on := 10, ground := Ground.guard }], guard := some (10, true) } : Oper)) (v := ?tv16) rfl (by kernel_rfl) (by kernel_rfl) (by kernel_rfl) (fun _ _ _ h => h) (Or.inl ⟨by rfl, ?ty16⟩) hHeld ?tr16
  case ty16 => (intro w hSw; (try dsimp only at hSw); go_simp; first | done | with_reducible rfl)
  try simp only [Act.put, List.setIfInBounds_toArray, List.set_cons_zero, List.set_cons_succ]
  refine wpAnyH_take (i := 18) (oi := ({ dst := some 34, op := Op.move (Operand.tmp 0), type := 3, pos := "recur.go:37", after := #[{ on := 17, ground := Ground.guard }], guard := some (17, false) } : Oper)) (v := undef) rfl (by kernel_rfl) (by kernel_rfl) (by kernel_rfl) (fun _ _ _ h => h) (Or.inr ⟨by rfl, rfl⟩) hHeld ?_
  try simp only [Act.put, List.setIfInBounds_toArray, List.set_cons_zero, List.set_cons_succ]
  refine wpAnyH_take (i := 19) (oi := ({ dst := some 35, op := Op.move (Operand.tmp 5), type := 202, pos := "recur.go:37", after := #[{ on := 17, ground := Ground.guard }], guard := some (17, false) } : Oper)) (v := undef) rfl (by kernel_rfl) (by kernel_rfl) (by kernel_rfl) (fun _ _ _ h => h) (Or.inr ⟨by rfl, rfl⟩) hHeld ?_
  try simp only [Act.put, List.setIfInBounds_toArray, List.set_cons_zero, List.set_cons_succ]
  refine wpAnyH_take (i := 20) (oi := ({ dst := some 36, op := Op.nilCheck (Operand.tmp 35), type := 0, pos := "recur.go:37", after := #[{ on := 19, ground := Ground.data }, { on := 17, ground := Ground.guard }], guard := some (17, false) } : Oper)) (v := undef) rfl (by kernel_rfl) (by kernel_rfl) (by kernel_rfl) (fun _ _ _ h => h) (Or.inr ⟨by rfl, rfl⟩) hHeld ?_
  try simp only [Act.put, List.setIfInBounds_toArray, List.set_cons_zero, List.set_cons_succ]
  refine wpAnyH_take (i := 21) (oi := ({ dst := some 37, op := Op.fieldAddr 206 (Operand.tmp 36) 0, type := 0, pos := "recur.go:37", after := #[{ on := 20, ground := Ground.data }, { on := 17, ground := Ground.guard }], guard := some (17, false) } : Oper)) (v := undef) rfl (by kernel_rfl) (by kernel_rfl) (by kernel_rfl) (fun _ _ _ h => h) (Or.inr ⟨by rfl, rfl⟩) hHeld ?_
  try simp only [Act.put, List.setIfInBounds_toArray, List.set_cons_zero, List.set_cons_succ]
  refine wpAnyH_take (i := 22) (oi := ({ dst := some 38, op := Op.fieldAddr 30 (Operand.tmp 37) 3, type := 0, pos := "recur.go:37", after := #[{ on := 21, ground := Ground.data }, { on := 17, ground := Ground.guard }], guard := some (17, false) } : Oper)) (v := undef) rfl (by kernel_rfl) (by kernel_rfl) (by kernel_rfl) (fun _ _ _ h => h) (Or.inr ⟨by rfl, rfl⟩) hHeld ?_
  try simp only [Act.put, List.setIfInBounds_toArray, List.set_cons_zero, List.set_cons_succ]
  refine wpAnyH_take (i := 23) (oi := ({ dst := some 39, op := Op.load 3 (Operand.tmp 38), type := 3, pos := "recur.go:37", after := #[{ on := 22, ground := Ground.data }, { on := 17, ground := Ground.guard }], guard := some (17, false) } : Oper)) (v := undef) rfl (by kernel_rfl) (by kernel_rfl) (by kernel_rfl) (fun _ _ _ h => h) (Or.inr ⟨by rfl, rfl⟩) hHeld ?_
  try simp only [Act.put, List.setIfInBounds_toArray, List.set_cons_zero, List.set_cons_succ]
  refine wpAnyH_take (i := 24) (oi := ({ dst := some 40, op := Op.binOp BinOp.leq 3 (Operand.tmp 34) (Operand.tmp 39) 3, type := 4, pos := "recur.go:37", after := #[{ on := 18, ground := Ground.data }, { on := 23, ground := Ground.data }, { on := 17, ground := Ground.guard }], guard := some (17, false) } : Oper)) (v := undef) rfl (by kernel_rfl) (by kernel_rfl) (by kernel_rfl) (fun _ _ _ h => h) (Or.inr ⟨by rfl, rfl⟩) hHeld ?_
  try simp only [Act.put, List.setIfInBounds_toArray, List.set_cons_zero, List.set_cons_succ]
  refine wpAnyH_take (i := 25) (oi := ({ dst := some 41, op := Op.pick (Operand.tmp 33) (Operand.const (Value.bool true)) (Operand.tmp 40), type := 4, pos := "recur.go:37", after := #[{ on := 17, ground := Ground.data }, { on := 24, ground := Ground.data }, { on := 10, ground := Ground.guard }], guard := some (10, true) } : Oper)) (v := ?tv17) rfl (by kernel_rfl) (by kernel_rfl) (by kernel_rfl) (fun _ _ _ h => h) (Or.inl ⟨by rfl, ?ty17⟩) hHeld ?tr17
  case ty17 => (intro w hSw; (try dsimp only at hSw); go_simp; first | done | with_reducible rfl)
  try simp only [Act.put, List.setIfInBounds_toArray, List.set_cons_zero, List.set_cons_succ]
  refine wpAnyH_take (i := 26) (oi := ({ dst := some 42, op := Op.pick (Operand.tmp 26) (Operand.tmp 41) (Operand.const (Value.bool false)), type := 4, pos := "recur.go:37", after := #[{ on := 10, ground := Ground.data }, { on := 25, ground := Ground.data }], guard := none } : Oper)) (v := ?tv18) rfl (by kernel_rfl) (by kernel_rfl) (by kernel_rfl) (fun _ _ _ h => h) (Or.inl ⟨by rfl, ?ty18⟩) hHeld ?tr18
  case ty18 => (intro w hSw; (try dsimp only at hSw); go_simp; first | done | with_reducible rfl)
  try simp only [Act.put, List.setIfInBounds_toArray, List.set_cons_zero, List.set_cons_succ]
  refine wpAnyH_take (i := 27) (oi := ({ dst := some 4, op := Op.assign (Operand.tmp 42), type := 4, pos := "recur.go:37", after := #[{ on := 26, ground := Ground.data }, { on := 17, ground := Ground.chain }, { on := 0, ground := Ground.phase }, { on := 1, ground := Ground.phase }, { on := 2, ground := Ground.phase }, { on := 3, ground := Ground.phase }, { on := 4, ground := Ground.phase }, { on := 5, ground := Ground.phase }, { on := 6, ground := Ground.phase }, { on := 7, ground := Ground.phase }, { on := 8, ground := Ground.phase }, { on := 9, ground := Ground.phase }, { on := 10, ground := Ground.phase }, { on := 11, ground := Ground.phase }, { on := 12, ground := Ground.phase }, { on := 13, ground := Ground.phase }, { on := 14, ground := Ground.phase }, { on := 15, ground := Ground.phase }, { on := 16, ground := Ground.phase }, { on := 17, ground := Ground.phase }, { on := 18, ground := Ground.phase }, { on := 19, ground := Ground.phase }, { on := 20, ground := Ground.phase }, { on := 21, ground := Ground.phase }, { on := 22, ground := Ground.phase }, { on := 23, ground := Ground.phase }, { on := 24, ground := Ground.phase }, { on := 25, ground := Ground.phase }, { on := 26, ground := Ground.phase }], guard := none } : Oper)) (v := ?tv19) rfl (by kernel_rfl) (by kernel_rfl) (by kernel_rfl) (fun _ _ _ h => h) (Or.inl ⟨by rfl, ?ty19⟩) hHeld ?tr19
  case ty19 => (intro w hSw; (try dsimp only at hSw); go_simp; first | done | with_reducible rfl)
  try simp only [Act.put, List.setIfInBounds_toArray, List.set_cons_zero, List.set_cons_succ]
  refine wpAnyH_done (by kernel_rfl) ?_ _
  refine NoPanic.normal ?_
  go_wp2
  go_ret
  exact ⟨rfl, hb4.trans (hb6.mono hb4.size)⟩
end Go.Proofs.YtmmnbdefkailpaaGreatDoor
