/- Package event: the lines of an event, written. -/
import Derived.Test.YtmmnbdefkailpaaGreatDoorEvY4

namespace Go.Proofs.YtmmnbdefkailpaaGreatDoor
open Go.RowKit Cal
set_option linter.unusedVariables false

theorem own_two (W : World) (B : Nat) (hB : B ≤ W.heap.size) (a b : Value) : (W.alloc (.cells #[a, b] 9)).ownsRow B 9 1 (.slice (some ⟨W.heap.size, 0, none⟩) 2 2) 2 [a, b] :=
  ⟨rfl, .inr ⟨W.heap.size, 2, #[a, b], rfl, hB, heap_alloc_new W _, Nat.le_refl _, by unfold maxLen; omega, rfl, rfl⟩⟩

set_option maxRecDepth 100000 in
set_option maxHeartbeats 8000000 in
theorem write_in (T ev ct : Int) (S rl : ByteArray) (hS : S.size ≤ 100) (hrl : rl.size ≤ 100) (w : World)
    (cF : ∀ wx, Below w.heap.size w wx → Calls Tryz.prog 70 #[.agg #[.bool false, .bool false], .int .i64 T] wx fun e w' => e = .returned (.string S) ∧ Below wx.heap.size wx w')
    (cR : ∀ Q wx, Below w.heap.size w wx → wx.heap[Q]? = some (.cells #[.int .i64 1, .int .i64 ev, .int .i64 ct, .int .i64 0, .bool false, .slice none 0 0, .slice none 0 0, .slice none 0 0, .slice none 0 0, .int .i64 0, .bool false, .bool false] 131 (0, 0)) → Calls Tryz.prog 72 #[.pointer (some ⟨Q, 0, none⟩)] wx fun e w' => e = .returned (.string rl) ∧ Below wx.heap.size wx w') :
    Calls Tryz.prog 32 #[.agg #[.string ⟨#[120]⟩, .string ⟨#[]⟩, .int .i64 T, .bool false, .bool false, .int .i64 0, .int .i64 1, .int .i64 ev, .int .i64 ct, .int .i64 0, .bool false, .slice none 0 0, .slice none 0 0, .slice none 0 0, .slice none 0 0, .int .i64 0, .slice none 0 0, .slice none 0 0]] w fun e w' => (∃ v, e = .returned v ∧ w'.ownsRow w.heap.size 9 1 v 5 [.string ⟨#[66, 69, 71, 73, 78, 58, 86, 69, 86, 69, 78, 84]⟩, .string (⟨#[85, 73, 68, 58]⟩ ++ ⟨#[120]⟩), .string (⟨#[68, 84, 83, 84, 65, 82, 84]⟩ ++ ⟨#[58]⟩ ++ S), .string (⟨#[82, 82, 85, 76, 69, 58]⟩ ++ rl), .string ⟨#[69, 78, 68, 58, 86, 69, 86, 69, 78, 84]⟩]) ∧ Below w.heap.size w w' := by
  obtain ⟨i0, hi0, hz0, hz1, hz2⟩ := info_parts strInfo
  have CF : Hid (∀ wx, Below w.heap.size w wx → Calls Tryz.prog 70 #[.agg #[.bool false, .bool false], .int .i64 T] wx fun e w' => e = .returned (.string S) ∧ Below wx.heap.size wx w') := cF
  have CR : Hid (∀ Q wx, Below w.heap.size w wx → wx.heap[Q]? = some (.cells #[.int .i64 1, .int .i64 ev, .int .i64 ct, .int .i64 0, .bool false, .slice none 0 0, .slice none 0 0, .slice none 0 0, .slice none 0 0, .int .i64 0, .bool false, .bool false] 131 (0, 0)) → Calls Tryz.prog 72 #[.pointer (some ⟨Q, 0, none⟩)] wx fun e w' => e = .returned (.string rl) ∧ Below wx.heap.size wx w') := cR
  clear cF cR
  go_enter Tryz.func32, Tryz.ntmps32
  go_upto_region 5 with fail
  have zS : ¬ 9223372036854775807 < 8 + S.size := by omega
  have zR : ¬ 9223372036854775807 < 6 + rl.size := by omega
  have hE0 : (((w.alloc (.cells #[.string ⟨#[120]⟩, .string ⟨#[]⟩, .int .i64 T, .bool false, .bool false, .int .i64 0, .int .i64 1, .int .i64 ev, .int .i64 ct, .int .i64 0, .bool false, .slice none 0 0, .slice none 0 0, .slice none 0 0, .slice none 0 0, .int .i64 0, .slice none 0 0, .slice none 0 0] 32)).alloc (.cells #[.bool false, .bool false] 63)).alloc (.cells #[.string ⟨#[66, 69, 71, 73, 78, 58, 86, 69, 86, 69, 78, 84]⟩, .string (⟨#[85, 73, 68, 58]⟩ ++ ⟨#[120]⟩)] 9)).heap[w.heap.size]? = some (.cells #[.string ⟨#[120]⟩, .string ⟨#[]⟩, .int .i64 T, .bool false, .bool false, .int .i64 0, .int .i64 1, .int .i64 ev, .int .i64 ct, .int .i64 0, .bool false, .slice none 0 0, .slice none 0 0, .slice none 0 0, .slice none 0 0, .int .i64 0, .slice none 0 0, .slice none 0 0] 32 (0, 0)) :=
    (Below.heap_alloc _ _ _ (by simp; omega)).trans ((Below.heap_alloc _ _ _ (by simp)).trans (heap_alloc_new w _))
  have hF0 : (((w.alloc (.cells #[.string ⟨#[120]⟩, .string ⟨#[]⟩, .int .i64 T, .bool false, .bool false, .int .i64 0, .int .i64 1, .int .i64 ev, .int .i64 ct, .int .i64 0, .bool false, .slice none 0 0, .slice none 0 0, .slice none 0 0, .slice none 0 0, .int .i64 0, .slice none 0 0, .slice none 0 0] 32)).alloc (.cells #[.bool false, .bool false] 63)).alloc (.cells #[.string ⟨#[66, 69, 71, 73, 78, 58, 86, 69, 86, 69, 78, 84]⟩, .string (⟨#[85, 73, 68, 58]⟩ ++ ⟨#[120]⟩)] 9)).heap[w.heap.size + 1]? = some (.cells #[.bool false, .bool false] 63 (0, 0)) :=
    (Below.heap_alloc _ _ _ (by simp)).trans (heap_alloc2 w _ _)
  have ho0 : (((w.alloc (.cells #[.string ⟨#[120]⟩, .string ⟨#[]⟩, .int .i64 T, .bool false, .bool false, .int .i64 0, .int .i64 1, .int .i64 ev, .int .i64 ct, .int .i64 0, .bool false, .slice none 0 0, .slice none 0 0, .slice none 0 0, .slice none 0 0, .int .i64 0, .slice none 0 0, .slice none 0 0] 32)).alloc (.cells #[.bool false, .bool false] 63)).alloc (.cells #[.string ⟨#[66, 69, 71, 73, 78, 58, 86, 69, 86, 69, 78, 84]⟩, .string (⟨#[85, 73, 68, 58]⟩ ++ ⟨#[120]⟩)] 9)).ownsRow (w.heap.size + 2) 9 1 (.slice (some ⟨w.heap.size + 1 + 1, 0, none⟩) 2 2) 2 [.string ⟨#[66, 69, 71, 73, 78, 58, 86, 69, 86, 69, 78, 84]⟩, .string (⟨#[85, 73, 68, 58]⟩ ++ ⟨#[120]⟩)] := by
    have := own_two ((w.alloc (.cells #[.string ⟨#[120]⟩, .string ⟨#[]⟩, .int .i64 T, .bool false, .bool false, .int .i64 0, .int .i64 1, .int .i64 ev, .int .i64 ct, .int .i64 0, .bool false, .slice none 0 0, .slice none 0 0, .slice none 0 0, .slice none 0 0, .int .i64 0, .slice none 0 0, .slice none 0 0] 32)).alloc (.cells #[.bool false, .bool false] 63)) (w.heap.size + 2) (by simp) (.string ⟨#[66, 69, 71, 73, 78, 58, 86, 69, 86, 69, 78, 84]⟩) (.string (⟨#[85, 73, 68, 58]⟩ ++ ⟨#[120]⟩))
    simpa using this
  have hb0 : Below w.heap.size w (((w.alloc (.cells #[.string ⟨#[120]⟩, .string ⟨#[]⟩, .int .i64 T, .bool false, .bool false, .int .i64 0, .int .i64 1, .int .i64 ev, .int .i64 ct, .int .i64 0, .bool false, .slice none 0 0, .slice none 0 0, .slice none 0 0, .slice none 0 0, .int .i64 0, .slice none 0 0, .slice none 0 0] 32)).alloc (.cells #[.bool false, .bool false] 63)).alloc (.cells #[.string ⟨#[66, 69, 71, 73, 78, 58, 86, 69, 86, 69, 78, 84]⟩, .string (⟨#[85, 73, 68, 58]⟩ ++ ⟨#[120]⟩)] 9)) := (((Below.refl _ _).alloc (Nat.le_refl _) _).alloc (by simp) _).alloc (by simp; omega) _
  have hz0' : (((w.alloc (.cells #[.string ⟨#[120]⟩, .string ⟨#[]⟩, .int .i64 T, .bool false, .bool false, .int .i64 0, .int .i64 1, .int .i64 ev, .int .i64 ct, .int .i64 0, .bool false, .slice none 0 0, .slice none 0 0, .slice none 0 0, .slice none 0 0, .int .i64 0, .slice none 0 0, .slice none 0 0] 32)).alloc (.cells #[.bool false, .bool false] 63)).alloc (.cells #[.string ⟨#[66, 69, 71, 73, 78, 58, 86, 69, 86, 69, 78, 84]⟩, .string (⟨#[85, 73, 68, 58]⟩ ++ ⟨#[120]⟩)] 9)).heap.size = w.heap.size + 3 := by simp
  revert hE0 hF0 ho0 hb0 hz0'
  generalize (((w.alloc (.cells #[.string ⟨#[120]⟩, .string ⟨#[]⟩, .int .i64 T, .bool false, .bool false, .int .i64 0, .int .i64 1, .int .i64 ev, .int .i64 ct, .int .i64 0, .bool false, .slice none 0 0, .slice none 0 0, .slice none 0 0, .slice none 0 0, .int .i64 0, .slice none 0 0, .slice none 0 0] 32)).alloc (.cells #[.bool false, .bool false] 63)).alloc (.cells #[.string ⟨#[66, 69, 71, 73, 78, 58, 86, 69, 86, 69, 78, 84]⟩, .string (⟨#[85, 73, 68, 58]⟩ ++ ⟨#[120]⟩)] 9)) = W0
  intro hE0 hF0 ho0 hb0 hz0'
  have HZ : Hid (W0.heap.size = w.heap.size + 3) := hz0'
  have HE : Hid (∀ w', Below (w.heap.size + 2) W0 w' → w'.heap[w.heap.size]? = some (.cells #[.string ⟨#[120]⟩, .string ⟨#[]⟩, .int .i64 T, .bool false, .bool false, .int .i64 0, .int .i64 1, .int .i64 ev, .int .i64 ct, .int .i64 0, .bool false, .slice none 0 0, .slice none 0 0, .slice none 0 0, .slice none 0 0, .int .i64 0, .slice none 0 0, .slice none 0 0] 32 (0, 0)) ∧ w'.heap[w.heap.size + 1]? = some (.cells #[.bool false, .bool false] 63 (0, 0)) ∧ Below w.heap.size w w') := fun w' hb => ⟨(hb.block _ (by omega)).trans hE0, (hb.block _ (by omega)).trans hF0, hb0.trans (hb.mono (by omega))⟩
  have HK : Hid (∀ w', Below (w.heap.size + 2) W0 w' → w'.cell? ⟨w.heap.size, 2, none⟩ = some (.int .i64 T) ∧ w'.cell? ⟨w.heap.size + 1, 0, none⟩ = some (.bool false) ∧ w'.cell? ⟨w.heap.size + 1, 1, none⟩ = some (.bool false)) := fun w' hb => ⟨hc (HE.out w' hb).1 2 rfl, hc (HE.out w' hb).2.1 0 rfl, hc (HE.out w' hb).2.1 1 rfl⟩
  clear hE0 hF0 hb0 hz0'
  refine wp_region_noPanic ?_
  refine wp_region_held_drew (S := fun w' => w'.cell? ⟨w.heap.size, 2, none⟩ = some (.int .i64 T) ∧ w'.cell? ⟨w.heap.size + 1, 0, none⟩ = some (.bool false) ∧ w'.cell? ⟨w.heap.size + 1, 1, none⟩ = some (.bool false)) (by kernel_rfl) (HK.out _ (Below.refl _ _).drew) (fun hHeld => ?_)
  refine wpAnyH_take (i := 0) (oi := ({ dst := some 25, op := Op.move (Operand.tmp 4), type := 43, pos := "print.go:29", after := #[], guard := none } : Oper)) (v := ?tv1) rfl (by kernel_rfl) (by kernel_rfl) (by kernel_rfl) (fun _ _ _ h => h) (Or.inl ⟨by rfl, ?ty1⟩) hHeld ?tr1
  case ty1 => (intro w hSw; (try dsimp only at hSw); go_simp; first | done | with_reducible rfl)
  try simp only [Act.put, List.setIfInBounds_toArray, List.set_cons_zero, List.set_cons_succ]
  refine wpAnyH_take (i := 1) (oi := ({ dst := some 26, op := Op.load 63 (Operand.tmp 3), type := 63, pos := "print.go:29", after := #[], guard := none } : Oper)) (v := ?tv2) rfl (by kernel_rfl) (by kernel_rfl) (by kernel_rfl) (fun _ _ _ h => h) (Or.inl ⟨by rfl, ?ty2⟩) hHeld ?tr2
  case ty2 => (intro w hSw; (try dsimp only at hSw); go_simp; first | done | with_reducible rfl)
  try simp only [Act.put, List.setIfInBounds_toArray, List.set_cons_zero, List.set_cons_succ]
  refine wpAnyH_take (i := 4) (oi := ({ dst := some 29, op := Op.load 63 (Operand.tmp 3), type := 63, pos := "print.go:29", after := #[], guard := none } : Oper)) (v := ?tv3) rfl (by kernel_rfl) (by kernel_rfl) (by kernel_rfl) (fun _ _ _ h => h) (Or.inl ⟨by rfl, ?ty3⟩) hHeld ?tr3
  case ty3 => (intro w hSw; (try dsimp only at hSw); go_simp; first | done | with_reducible rfl)
  try simp only [Act.put, List.setIfInBounds_toArray, List.set_cons_zero, List.set_cons_succ]
  refine wpAnyH_take (i := 5) (oi := ({ dst := some 30, op := Op.fieldAddr 32 (Operand.tmp 1) 2, type := 0, pos := "print.go:29", after := #[], guard := none } : Oper)) (v := ?tv4) rfl (by kernel_rfl) (by kernel_rfl) (by kernel_rfl) (fun _ _ _ h => h) (Or.inl ⟨by rfl, ?ty4⟩) hHeld ?tr4
  case ty4 => (intro w hSw; (try dsimp only at hSw); go_simp; first | done | with_reducible rfl)
  try simp only [Act.put, List.setIfInBounds_toArray, List.set_cons_zero, List.set_cons_succ]
  refine wpAnyH_take (i := 6) (oi := ({ dst := some 31, op := Op.load 3 (Operand.tmp 30), type := 3, pos := "print.go:29", after := #[{ on := 5, ground := Ground.data }], guard := none } : Oper)) (v := ?tv5) rfl (by kernel_rfl) (by kernel_rfl) (by kernel_rfl) (fun _ _ _ h => h) (Or.inl ⟨by rfl, ?ty5⟩) hHeld ?tr5
  case ty5 => (intro w hSw; (try dsimp only at hSw); go_simp; first | done | with_reducible rfl)
  try simp only [Act.put, List.setIfInBounds_toArray, List.set_cons_zero, List.set_cons_succ]
  refine wpAnyH_ready (rs := [2]) (by kernel_rfl) (by simp) ?_
  refine AllReadyH.cons (o := ({ dst := some 27, op := Op.call { callee := Callee.value (Operand.func 69), args := #[Operand.tmp 26], argTypes := #[63] }, type := 9, pos := "print.go:29", after := #[{ on := 1, ground := Ground.data }], guard := none } : Oper)) rfl (fun K hK => ?_) AllReadyH.nil
  go_simp
  refine (mark_no _).mono ?_
  rintro e w3 ⟨rfl, hb3⟩
  have hb4 : Below W0.heap.size W0 w3 := (Below.refl W0.heap.size W0).drew.trans hb3
  have hb5 : Below (w.heap.size + 2) W0 w3 := hb4.mono (by have := HZ.out; omega)
  clear hb3
  go_wp2_with fail
  refine hK.out _ _ (HK.out _ hb5) (fun hHeld => ?_)
  clear hK K
  try simp only [Act.put, List.setIfInBounds_toArray, List.set_cons_zero, List.set_cons_succ]
  refine wpAnyH_take (i := 3) (oi := ({ dst := some 28, op := Op.binOp BinOp.add 9 (Operand.const (Value.string { data := #[68, 84, 83, 84, 65, 82, 84] })) (Operand.tmp 27) 9, type := 9, pos := "print.go:29", after := #[{ on := 2, ground := Ground.data }], guard := none } : Oper)) (v := ?tv6) rfl (by kernel_rfl) (by kernel_rfl) (by kernel_rfl) (fun _ _ _ h => h) (Or.inl ⟨by rfl, ?ty6⟩) hHeld ?tr6
  case ty6 => (intro w hSw; (try dsimp only at hSw); go_simp; first | done | with_reducible rfl)
  try simp only [Act.put, List.setIfInBounds_toArray, List.set_cons_zero, List.set_cons_succ]
  refine wpAnyH_ready (rs := [7]) (by kernel_rfl) (by simp) ?_
  refine AllReadyH.cons (o := ({ dst := some 32, op := Op.call { callee := Callee.value (Operand.func 70), args := #[Operand.tmp 29, Operand.tmp 31], argTypes := #[63, 3] }, type := 9, pos := "print.go:29", after := #[{ on := 4, ground := Ground.data }, { on := 6, ground := Ground.data }, { on := 2, ground := Ground.chain }], guard := none } : Oper)) rfl (fun K hK => ?_) AllReadyH.nil
  go_simp
  refine (CF.out _ (HE.out _ hb5).2.2).mono ?_
  rintro e w6 ⟨rfl, hb6⟩
  have hb7 : Below W0.heap.size W0 w6 := hb4.trans (hb6.mono hb4.size)
  have hb8 : Below (w.heap.size + 2) W0 w6 := hb7.mono (by have := HZ.out; omega)
  clear hb6
  go_wp2_with fail
  refine hK.out _ _ (HK.out _ hb8) (fun hHeld => ?_)
  clear hK K
  try simp only [Act.put, List.setIfInBounds_toArray, List.set_cons_zero, List.set_cons_succ]
  refine wpAnyH_take (i := 8) (oi := ({ dst := some 33, op := Op.binOp BinOp.add 9 (Operand.tmp 28) (Operand.tmp 32) 9, type := 9, pos := "print.go:29", after := #[{ on := 3, ground := Ground.data }, { on := 7, ground := Ground.data }], guard := none } : Oper)) (v := ?tv7) rfl (by kernel_rfl) (by kernel_rfl) (by kernel_rfl) (fun _ _ _ h => h) (Or.inl ⟨by rfl, ?ty7⟩) hHeld ?tr7
  case ty7 => (intro w hSw; (try dsimp only at hSw); go_simp; first | done | with_reducible rfl)
  try simp only [Act.put, List.setIfInBounds_toArray, List.set_cons_zero, List.set_cons_succ]
  have hb9 : Below W0.heap.size W0 (w6.alloc (.cells #[.string (⟨#[68, 84, 83, 84, 65, 82, 84]⟩ ++ ⟨#[58]⟩ ++ S)] 9)) := hb7.alloc hb7.size _
  have hb10 : Below (w.heap.size + 2) W0 (w6.alloc (.cells #[.string (⟨#[68, 84, 83, 84, 65, 82, 84]⟩ ++ ⟨#[58]⟩ ++ S)] 9)) := hb9.mono (by have := HZ.out; omega)
  refine wpAnyH_ready (rs := [9]) (by kernel_rfl) (by simp) ?_
  refine AllReadyH.cons (o := ({ dst := some 34, op := Op.buildSlice 43 1 #[(0, Operand.tmp 33)], type := 43, pos := "print.go:29", after := #[{ on := 8, ground := Ground.data }], guard := none } : Oper)) rfl (fun K hK => ?_) AllReadyH.nil
  go_simp
  refine hK.out _ _ (HK.out _ hb10) (fun hHeld => ?_)
  clear hK K
  try simp only [Act.put, List.setIfInBounds_toArray, List.set_cons_zero, List.set_cons_succ]
  have ho9 := ho0.kept (gb_of_below hb9 none) (Classical.em _)
  refine wpAnyH_ready (rs := [10]) (by kernel_rfl) (by simp) ?_
  refine AllReadyH.cons (o := ({ dst := some 35, op := Op.call { callee := Callee.builtin Builtin.append, args := #[Operand.tmp 25, Operand.tmp 34], argTypes := #[43, 43] }, type := 43, pos := "print.go:29", after := #[{ on := 0, ground := Ground.data }, { on := 9, ground := Ground.data }, { on := 7, ground := Ground.chain }], guard := none } : Oper)) rfl (fun K hK => ?_) AllReadyH.nil
  rw [if_pos (by rfl)]
  refine wp_append_own _ (.tmp 25) (.tmp 34) 43 rfl (w.heap.size + 2) 9 i0 (.string ⟨#[]⟩) 1 16 Tryz.underlying43 hi0 hz0 hz1 hz2 rfl (by decide) _ _ _ rfl ho9 ⟨w6.heap.size, 0, none⟩ 1 1 [.string (⟨#[68, 84, 83, 84, 65, 82, 84]⟩ ++ ⟨#[58]⟩ ++ S)] rfl rfl (World.news_of_block (heap_alloc_new _ _)) (by intro u hu; simp at hu; subst hu; rfl) (by unfold maxLen; omega) (by omega) (by have := hb7.size; have := HZ.out; simp; omega) ?_
  intro v5 w5 ho5 hg5 _
  have hb11 : Below (w.heap.size + 2) W0 w5 := hb10.grown hg5 (by have := hb7.size; have := HZ.out; simp; omega) (fun q hq => (ho9.lt q hq).1)
  refine hK.out _ _ (HK.out _ hb11) (fun hHeld => ?_)
  clear hK K
  try simp only [Act.put, List.setIfInBounds_toArray, List.set_cons_zero, List.set_cons_succ]
  refine wpAnyH_take (i := 11) (oi := ({ dst := some 4, op := Op.assign (Operand.tmp 35), type := 43, pos := "print.go:29", after := #[{ on := 10, ground := Ground.data }, { on := 10, ground := Ground.chain }, { on := 0, ground := Ground.phase }, { on := 1, ground := Ground.phase }, { on := 2, ground := Ground.phase }, { on := 3, ground := Ground.phase }, { on := 4, ground := Ground.phase }, { on := 5, ground := Ground.phase }, { on := 6, ground := Ground.phase }, { on := 7, ground := Ground.phase }, { on := 8, ground := Ground.phase }, { on := 9, ground := Ground.phase }, { on := 10, ground := Ground.phase }], guard := none } : Oper)) (v := ?tv8) rfl (by kernel_rfl) (by kernel_rfl) (by kernel_rfl) (fun _ _ _ h => h) (Or.inl ⟨by rfl, ?ty8⟩) hHeld ?tr8
  case ty8 => (intro w hSw; (try dsimp only at hSw); go_simp; first | done | with_reducible rfl)
  try simp only [Act.put, List.setIfInBounds_toArray, List.set_cons_zero, List.set_cons_succ]
  refine wpAnyH_done (by kernel_rfl) ?_ _
  refine NoPanic.normal ?_
  clear ho9 hb9 hb10 ho0 hb4 hb5 hb7 hb8 hg5 hHeld
  have hE5 := (HE.out _ hb11).1
  have hF5 := (HE.out _ hb11).2.1
  have hbw := (HE.out _ hb11).2.2
  have e0 := hc hE5 0 rfl
  have e1 := hc hE5 1 rfl
  have e2 := hc hE5 2 rfl
  have e3 := hc hE5 3 rfl
  have e4 := hc hE5 4 rfl
  have e5 := hc hE5 5 rfl
  have e6 := hc hE5 6 rfl
  have e7 := hc hE5 7 rfl
  have e8 := hc hE5 8 rfl
  have e9 := hc hE5 9 rfl
  have e10 := hc hE5 10 rfl
  have e11 := hc hE5 11 rfl
  have e12 := hc hE5 12 rfl
  have e13 := hc hE5 13 rfl
  have e14 := hc hE5 14 rfl
  have e15 := hc hE5 15 rfl
  have e16 := hc hE5 16 rfl
  have e17 := hc hE5 17 rfl
  go_wp2_with (first
    | (go_at_call 71; refine (writeDuration_no T ev ct _).mono ?_; rintro e w7 ⟨rfl, hb7⟩; clear e0 e1 e2 e3 e4 e5 e6 e7 e8 e9 e10 e11 e12 e13 e14 e15 e16 e17; have hbb7 : Below (w.heap.size + 2) W0 w7 := hb11.trans (hb7.mono (by have := hb11.size; have := HZ.out; omega)); have ho7 := ho5.kept (gb_of_below hb7 none) (Classical.em _); have hE7 := (HE.out _ hbb7).1; have hF7 := (HE.out _ hbb7).2.1; have hbw7 := (HE.out _ hbb7).2.2; have hz7 : w.heap.size + 2 ≤ w7.heap.size := (by have := hb7.size; have := hb11.size; have := HZ.out; omega); have e0 := hc hE7 0 rfl; have e1 := hc hE7 1 rfl; have e2 := hc hE7 2 rfl; have e3 := hc hE7 3 rfl; have e4 := hc hE7 4 rfl; have e5 := hc hE7 5 rfl; have e6 := hc hE7 6 rfl; have e7 := hc hE7 7 rfl; have e8 := hc hE7 8 rfl; have e9 := hc hE7 9 rfl; have e10 := hc hE7 10 rfl; have e11 := hc hE7 11 rfl; have e12 := hc hE7 12 rfl; have e13 := hc hE7 13 rfl; have e14 := hc hE7 14 rfl; have e15 := hc hE7 15 rfl; have e16 := hc hE7 16 rfl; have e17 := hc hE7 17 rfl; have f0 := hc hF7 0 rfl; have f1 := hc hF7 1 rfl; have hlE : w.heap.size < w7.heap.size := (by omega); have hlF : w.heap.size + 1 < w7.heap.size := (by omega))
    | (go_at_call 72; refine (CR.out _ _ (hbw7.alloc hbw7.size _) (heap_alloc_new w7 _)).mono ?_; rintro e w8 ⟨rfl, hb8⟩; have ho8 := (ho7.alloc (.cells #[.int .i64 1, .int .i64 ev, .int .i64 ct, .int .i64 0, .bool false, .slice none 0 0, .slice none 0 0, .slice none 0 0, .slice none 0 0, .int .i64 0, .bool false, .bool false] 131)).kept (gb_of_below hb8 none) (Classical.em _); have hbb8 : Below (w.heap.size + 2) W0 w8 := (hbb7.alloc hz7 _).trans (hb8.mono (by simp; omega)); have hz8 : w.heap.size + 2 ≤ w8.heap.size := (by have := hb8.size; simp at this; omega))
    | (at_builtin; refine wpList_append_own _ rfl (.tmp 49) (.tmp 57) 43 rfl (w.heap.size + 2) 9 i0 (.string ⟨#[]⟩) 1 16 Tryz.underlying43 hi0 hz0 hz1 hz2 rfl (by decide) _ _ _ rfl (ho8.alloc _) ⟨w8.heap.size, 0, none⟩ 1 1 [.string (⟨#[82, 82, 85, 76, 69, 58]⟩ ++ rl)] rfl rfl (World.news_of_block (heap_alloc_new _ _)) (by intro u hu; simp at hu; subst hu; rfl) (by unfold maxLen; omega) (by omega) (by simp; omega) ?_; intro v9 w9 ho9 hg9 _; have hbb9 : Below (w.heap.size + 2) W0 w9 := (hbb8.alloc hz8 _).grown hg9 (by simp; omega) (fun q hq => (ho8.lt q hq).1); have hE9 := (HE.out _ hbb9).1; have hbw9 := (HE.out _ hbb9).2.2; have g16 := hc hE9 16 rfl; have g17 := hc hE9 17 rfl; have hz9 : w.heap.size + 2 ≤ w9.heap.size := (by have := hg9.size; simp at this; omega))
    | (at_builtin; refine wpList_append_own _ rfl (.tmp 91) (.tmp 92) 43 rfl (w.heap.size + 2) 9 i0 (.string ⟨#[]⟩) 1 16 Tryz.underlying43 hi0 hz0 hz1 hz2 rfl (by decide) _ _ _ rfl (ho9.alloc _) ⟨w9.heap.size, 0, none⟩ 1 1 [.string ⟨#[69, 78, 68, 58, 86, 69, 86, 69, 78, 84]⟩] rfl rfl (World.news_of_block (heap_alloc_new _ _)) (by intro u hu; simp at hu; subst hu; rfl) (by unfold maxLen; omega) (by omega) (by simp; omega) ?_; intro v10 w10 ho10 hg10 _))
  go_ret
  have hbw10 : Below w.heap.size w w10 := (hbw9.alloc hbw9.size _).grown hg10 (by simp; omega) (fun q hq => by have := (ho9.lt q hq).1; omega)
  refine ⟨⟨_, rfl, ?_⟩, hbw10⟩
  obtain ⟨hl, hh⟩ := ho10
  refine ⟨rfl, ?_⟩
  rcases hh with hh | ⟨g, cap, cur, a1, a2, a3, a4, a5, a6, a7⟩
  · exact .inl hh
  · exact .inr ⟨g, cap, cur, a1, by omega, a3, a4, a5, a6, a7⟩
end Go.Proofs.YtmmnbdefkailpaaGreatDoor
