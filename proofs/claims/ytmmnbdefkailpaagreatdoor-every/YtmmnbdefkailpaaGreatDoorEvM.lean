/- Package event: the rule. -/
import Derived.Test.YtmmnbdefkailpaaGreatDoorEvM0

namespace Go.Proofs.YtmmnbdefkailpaaGreatDoor
open Go.RowKit Cal Go.Shelf
set_option linter.unusedVariables false
attribute [local go_sem] Oper.semAt_some

theorem fin_last (W : World) (o : Obj) (x : Array Value) : ((W.alloc o).alloc (.cells x 165)).drew.heap[W.heap.size + 1]? = some (.cells x 165 (0, 0)) := by
  have := heap_alloc_new (W.alloc o) (.cells x 165)
  rw [World.size_alloc] at this
  exact this
theorem fin_first (W : World) (o : Obj) (x : Array Value) : ((W.alloc (.cells x 165)).alloc o).drew.heap[W.heap.size]? = some (.cells x 165 (0, 0)) :=
  (Below.heap_alloc _ _ _ (by simp)).trans (heap_alloc_new W (.cells x 165))
theorem wp_st_last {op : Oper} {a : Act} {K : Act → World → Prop} {Q : Exit → Act → World → Prop} (x y : Operand) (ho : op.op = .store 165 x y) (v : ByteArray) (W : World) (o : Obj) (hx : a.eval x = .pointer (some ⟨W.heap.size + 1, 0, none⟩)) (hy : a.eval y = .agg #[.int .i64 0, .string v, .int .i64 0, .int .i64 0, .int .i64 0, .int .i64 0, .bool false, .slice none 0 0, .slice none 0 0, .slice none 0 0, .slice none 0 0, .int .i64 0, .bool false, .bool false, .bool false, .bool false, .bool false, .bool false, .bool false, .bool false, .bool false, .bool false, .bool false])
    (h : K (a.put op.dst undef) (((W.alloc o).alloc (.cells #[.int .i64 0, .string v, .int .i64 0, .int .i64 0, .int .i64 0, .int .i64 0, .bool false, .slice none 0 0, .slice none 0 0, .slice none 0 0, .slice none 0 0, .int .i64 0, .bool false, .bool false, .bool false, .bool false, .bool false, .bool false, .bool false, .bool false, .bool false, .bool false, .bool false] 165)).drew)) : op.wp Tryz.prog a (((W.alloc o).alloc (.cells #[.int .i64 0, .string ⟨#[]⟩, .int .i64 0, .int .i64 0, .int .i64 0, .int .i64 0, .bool false, .slice none 0 0, .slice none 0 0, .slice none 0 0, .slice none 0 0, .int .i64 0, .bool false, .bool false, .bool false, .bool false, .bool false, .bool false, .bool false, .bool false, .bool false, .bool false, .bool false] 165)).drew) K Q := by
  have e : W.heap.size + 1 = (W.alloc o).heap.size := by simp
  rw [e] at hx
  refine wp_store_mid 165 x y ho _ 0 #[.int .i64 0, .string v, .int .i64 0, .int .i64 0, .int .i64 0, .int .i64 0, .bool false, .slice none 0 0, .slice none 0 0, .slice none 0 0, .slice none 0 0, .int .i64 0, .bool false, .bool false, .bool false, .bool false, .bool false, .bool false, .bool false, .bool false, .bool false, .bool false, .bool false] hx hy (there_drew' (there_new _ _ _ _ (by rfl))) (by kernel_rfl) (by kernel_rfl) ?_
  rw [setCells_drew, setCells_new, setFrom165]
  exact h
theorem wp_st_first {op : Oper} {a : Act} {K : Act → World → Prop} {Q : Exit → Act → World → Prop} (x y : Operand) (ho : op.op = .store 165 x y) (v : ByteArray) (W : World) (o : Obj) (hx : a.eval x = .pointer (some ⟨W.heap.size, 0, none⟩)) (hy : a.eval y = .agg #[.int .i64 0, .string v, .int .i64 0, .int .i64 0, .int .i64 0, .int .i64 0, .bool false, .slice none 0 0, .slice none 0 0, .slice none 0 0, .slice none 0 0, .int .i64 0, .bool false, .bool false, .bool false, .bool false, .bool false, .bool false, .bool false, .bool false, .bool false, .bool false, .bool false])
    (h : K (a.put op.dst undef) (((W.alloc (.cells #[.int .i64 0, .string v, .int .i64 0, .int .i64 0, .int .i64 0, .int .i64 0, .bool false, .slice none 0 0, .slice none 0 0, .slice none 0 0, .slice none 0 0, .int .i64 0, .bool false, .bool false, .bool false, .bool false, .bool false, .bool false, .bool false, .bool false, .bool false, .bool false, .bool false] 165)).alloc o).drew)) : op.wp Tryz.prog a (((W.alloc (.cells #[.int .i64 0, .string ⟨#[]⟩, .int .i64 0, .int .i64 0, .int .i64 0, .int .i64 0, .bool false, .slice none 0 0, .slice none 0 0, .slice none 0 0, .slice none 0 0, .int .i64 0, .bool false, .bool false, .bool false, .bool false, .bool false, .bool false, .bool false, .bool false, .bool false, .bool false, .bool false] 165)).alloc o).drew) K Q := by
  refine wp_store_mid 165 x y ho _ 0 #[.int .i64 0, .string v, .int .i64 0, .int .i64 0, .int .i64 0, .int .i64 0, .bool false, .slice none 0 0, .slice none 0 0, .slice none 0 0, .slice none 0 0, .int .i64 0, .bool false, .bool false, .bool false, .bool false, .bool false, .bool false, .bool false, .bool false, .bool false, .bool false, .bool false] hx hy (there_drew' (World.there_alloc (there_new _ _ _ _ (by rfl)) _)) (by kernel_rfl) (by kernel_rfl) ?_
  rw [setCells_drew, setCells_past (W.alloc (.cells #[.int .i64 0, .string ⟨#[]⟩, .int .i64 0, .int .i64 0, .int .i64 0, .int .i64 0, .bool false, .slice none 0 0, .slice none 0 0, .slice none 0 0, .slice none 0 0, .int .i64 0, .bool false, .bool false, .bool false, .bool false, .bool false, .bool false, .bool false, .bool false, .bool false, .bool false, .bool false] 165)) o _ (by simp) _ _ _ rfl, setCells_new, setFrom165]
  exact h

set_option maxRecDepth 100000 in
theorem of_any (t : ByteArray) (w : World) :
    Calls Tryz.prog 46 #[.string t] w fun e w' => e = .returned (.agg #[.int .i64 0, .string t]) ∧ w' = w.alloc (.cells #[.int .i64 0, .string t] 98) := by
  go_enter Tryz.func46, Tryz.ntmps46
  go_wp2
  exact bodyPost_ret (v := .agg #[.int .i64 0, .string t]) (by simp [results, Tryz.results46, go_sem]) rfl ⟨rfl, rfl⟩

/-- what the pieces of a rule make of the reader's block -/
structure RuleCells (cs : Value → Value → Nat → Array Value) (N : Nat) (ev ct : Int) : Prop where
  first : ∀ p t, cs p t 0 = #[p, t, .int .i64 0, .int .i64 1, .int .i64 0, .int .i64 0, .bool false, .slice none 0 0, .slice none 0 0, .slice none 0 0, .slice none 0 0, .int .i64 0, .bool false, .bool false, .bool false, .bool false, .bool false, .bool false, .bool false, .bool false, .bool false, .bool false, .bool false]
  last : ∃ s0 s1 s2 s3 s4 s5 s6 s7 s8 : Value, ∀ p t, cs p t N = #[p, t, .int .i64 1, .int .i64 ev, .int .i64 ct, .int .i64 0, .bool false, .slice none 0 0, .slice none 0 0, .slice none 0 0, .slice none 0 0, .int .i64 0, .bool false, .bool false, s0, s1, s2, s3, s4, s5, s6, s7, s8]
  set0 : ∀ p t j x, (cs p t j).setIfInBounds 0 x = cs x t j
  set1 : ∀ p t j x, (cs p t j).setIfInBounds 1 x = cs p x j
  at0 : ∀ p t j, (cs p t j)[0]? = some p
  at1 : ∀ p t j, (cs p t j)[1]? = some t

theorem kp_trans {R X Y : Nat} {A B C : World} (h : KpR R X Y A B) (k : KpR R X Y B C) : KpR R X Y A C := ⟨k.c0.trans h.c0, k.c1.trans h.c1, k.f0.trans h.f0, k.f1.trans h.f1, k.x.trans h.x, k.y.trans h.y, k.m.trans h.m⟩
theorem kp_refl (R X Y : Nat) (A : World) : KpR R X Y A A := ⟨rfl, rfl, rfl, rfl, rfl, rfl, rfl⟩
theorem kp_put {R X Y l : Nat} (W : World) (o : Obj) (h1 : l ≠ R) (h2 : l ≠ X) (h3 : l ≠ Y) (h4 : l ≠ 32) : KpR R X Y W (W.putObj l o) :=
  ⟨World.cell?_of_block (World.putObj_heap_other (fun e => h1 e.symm)), World.cell?_of_block (World.putObj_heap_other (fun e => h1 e.symm)), World.frozen?_of_block (World.putObj_heap_other (fun e => h1 e.symm)), World.frozen?_of_block (World.putObj_heap_other (fun e => h1 e.symm)),
    World.cell?_of_block (World.putObj_heap_other (fun e => h2 e.symm)), World.cell?_of_block (World.putObj_heap_other (fun e => h3 e.symm)), World.cell?_of_block (World.putObj_heap_other (fun e => h4 e.symm))⟩

set_option maxRecDepth 100000 in
set_option maxHeartbeats 8000000 in
theorem readRule_in (B g c N : Nat) (a0 a1 a2 a3 a4 a5 a7 a8 a11 a12 a13 a14 a15 a16 a17 a18 a19 a20 a21 a22 a23 a24 a25 a26 a27 a28 : Value) (r v : ByteArray) (pc L : Nat → ByteArray) (cs : Value → Value → Nat → Array Value) (ev ct : Int) (mm : Int) (w : World)
    (h : w.heap[B]? = some (.cells #[a0, a1, a2, a3, a4, a5, .slice (some ⟨g, 0, none⟩) 1 c, a7, a8, .bool false, .bool false, a11, a12, a13, a14, a15, a16, a17, a18, a19, a20, a21, a22, a23, a24, a25, a26, a27, a28] 65 (0, 0))) (hgB : g ≠ B) (hg : w.cell? ⟨g, 0, none⟩ = some (.string r)) (hf : FN w) (hm : w.cell? ⟨32, 0, none⟩ = some (.int .i64 mm)) (hB35 : 35 ≤ B)
    (cV : ∀ wx, wx.cell? ⟨B, 6, none⟩ = some (.slice (some ⟨g, 0, none⟩) 1 c) → wx.cell? ⟨g, 0, none⟩ = some (.string r) → Calls Tryz.prog 93 #[.pointer (some ⟨B, 0, none⟩), .int .i64 5] wx fun e w' => e = .returned (.string v) ∧ w' = wx)
    (hC : RuleCells cs N ev ct) (hN : 1 ≤ N) (hN2 : N ≤ 100) (hL0 : L 0 = v) (hL : ∀ j, (L j).size ≤ 4000) (hcut2 : ∀ j, j < N → Lib.cut (L j).data.toList [59] = ((pc j).data.toList, (L (j + 1)).data.toList, decide (j + 1 < N)))
    (cP : ∀ R, 35 ≤ R → ∀ j, j < N → ∀ p t wx, FN wx → wx.cell? ⟨32, 0, none⟩ = some (.int .i64 mm) → wx.heap[R]? = some (.cells (cs p t j) 165 (0, 0)) → Calls Tryz.prog 102 #[.pointer (some ⟨R, 0, none⟩), .string (pc j)] wx fun e w' => e = .returned .nilIface ∧ w'.heap[R]? = some (.cells (cs p t (j + 1)) 165 (0, 0)) ∧ wx.grownBy w' (some R)) :
    CallsIn Fence.wide 9 Tryz.prog 59 #[.pointer (some ⟨B, 0, none⟩)] w fun e w' => e = .returned .nilIface ∧ w'.heap[B]? = some (.cells #[a0, a1, a2, a3, a4, a5, .slice (some ⟨g, 0, none⟩) 1 c, a7, a8, .bool false, .bool false, a11, a12, a13, a14, a15, a16, .int .i64 1, .int .i64 ev, .int .i64 ct, .int .i64 0, .bool false, .slice none 0 0, .slice none 0 0, .slice none 0 0, .slice none 0 0, .int .i64 0, a27, a28] 65 (0, 0)) ∧ w.grownBy w' (some B) := by
  have h6 := hc h 6 rfl
  have h9 := hc h 9 rfl
  have h10 := hc h 10 rfl
  have HB : Hid (w.heap[B]? = some (.cells #[a0, a1, a2, a3, a4, a5, .slice (some ⟨g, 0, none⟩) 1 c, a7, a8, .bool false, .bool false, a11, a12, a13, a14, a15, a16, a17, a18, a19, a20, a21, a22, a23, a24, a25, a26, a27, a28] 65 (0, 0))) := h
  have HF : Hid (FN w) := hf
  have HM : Hid (w.cell? ⟨32, 0, none⟩ = some (.int .i64 mm)) := hm
  have HC2 : Hid _ := hcut2
  have HP : Hid _ := cP
  clear h hf hm hcut2 cP
  have hBl : B < w.heap.size := World.block_lt_of_cell? _ _ h9
  have hgl : g < w.heap.size := World.block_lt_of_cell? _ _ hg
  have c0 : Hid (∀ wx, wx.cell? ⟨B, 6, none⟩ = some (.slice (some ⟨g, 0, none⟩) 1 c) → Calls Tryz.prog 92 #[.pointer (some ⟨B, 0, none⟩), .int .i64 5] wx fun e w' => e = .returned (.bool true) ∧ w' = wx) := fun wx hx => has5 B _ 1 c wx (by omega) hx
  refine callsIn_of_wp_marks Tryz.func59 rfl trivial ?_ rfl
  simp only [Tryz.ntmps59, List.size_toArray, List.length_cons, List.length_nil, Nat.reduceAdd, Nat.reduceSub, Array.replicate_succ, Array.replicate_zero, List.push_toArray, List.append_toArray, List.nil_append, List.cons_append]
  refine wpIn_wide.2 ?_
  have k6 : (w.alloc (.cells #[.nilIface] 47)).cell? ⟨B, 6, none⟩ = some (.slice (some ⟨g, 0, none⟩) 1 c) := by rw [World.cell?_alloc_lt _ _ _ hBl]; exact h6
  have kg : (w.alloc (.cells #[.nilIface] 47)).cell? ⟨g, 0, none⟩ = some (.string r) := by rw [World.cell?_alloc_lt _ _ _ hgl]; exact hg
  have k9 : (w.alloc (.cells #[.nilIface] 47)).cell? ⟨B, 9, none⟩ = some (.bool false) := by rw [World.cell?_alloc_lt _ _ _ hBl]; exact h9
  have k10 : (w.alloc (.cells #[.nilIface] 47)).cell? ⟨B, 10, none⟩ = some (.bool false) := by rw [World.cell?_alloc_lt _ _ _ hBl]; exact h10
  have c1 := c0.out _ k6
  have CV : Hid (∀ wx, wx.cell? ⟨B, 6, none⟩ = some (.slice (some ⟨g, 0, none⟩) 1 c) → wx.cell? ⟨g, 0, none⟩ = some (.string r) → Calls Tryz.prog 93 #[.pointer (some ⟨B, 0, none⟩), .int .i64 5] wx fun e w' => e = .returned (.string v) ∧ w' = wx) := cV
  clear cV c0
  go_wp2_with (go_at_call 92; refine c1.mono ?_; clear c1; rintro e wz ⟨rfl, hz⟩; subst hz)
  obtain ⟨W0, hW0⟩ : ∃ W0, w.alloc (.cells #[.nilIface] 47) = W0 := ⟨_, rfl⟩
  rw [hW0] at k6 kg k9 k10 ⊢
  go_cut [3] from 9 to 17 (fun t wx => ∃ R, t = .pointer (some ⟨R, 0, none⟩) ∧ wx.heap[R]? = some (.cells #[.int .i64 0, .string v, .int .i64 0, .int .i64 0, .int .i64 0, .int .i64 0, .bool false, .slice none 0 0, .slice none 0 0, .slice none 0 0, .slice none 0 0, .int .i64 0, .bool false, .bool false, .bool false, .bool false, .bool false, .bool false, .bool false, .bool false, .bool false, .bool false, .bool false] 165 (0, 0)) ∧ Below W0.heap.size W0 wx ∧ W0.heap.size ≤ R)
  case first =>
    have hB0 : B < W0.heap.size := World.block_lt_of_cell? _ _ k9
    have hg0 : g < W0.heap.size := World.block_lt_of_cell? _ _ kg
    have KS : ∀ wx, Below W0.heap.size W0 wx → wx.cell? ⟨B, 6, none⟩ = some (.slice (some ⟨g, 0, none⟩) 1 c) ∧ wx.cell? ⟨g, 0, none⟩ = some (.string r) ∧ wx.cell? ⟨B, 9, none⟩ = some (.bool false) ∧ wx.cell? ⟨B, 10, none⟩ = some (.bool false) := fun wx hb =>
      ⟨(hb.cell (p := ⟨B, 6, none⟩) hB0).trans k6, (hb.cell (p := ⟨g, 0, none⟩) hg0).trans kg, (hb.cell (p := ⟨B, 9, none⟩) hB0).trans k9, (hb.cell (p := ⟨B, 10, none⟩) hB0).trans k10⟩
    have HKS : Hid _ := KS
    clear KS
    refine wp_region_noPanic ?_
    refine wp_region_held_drew (S := fun w' => w'.cell? ⟨B, 6, none⟩ = some (.slice (some ⟨g, 0, none⟩) 1 c) ∧ w'.cell? ⟨g, 0, none⟩ = some (.string r) ∧ w'.cell? ⟨B, 9, none⟩ = some (.bool false) ∧ w'.cell? ⟨B, 10, none⟩ = some (.bool false)) (by kernel_rfl) (HKS.out _ (Below.refl _ _).drew) (fun hHeld => ?_)
    refine wpAnyH_take (i := 0) (oi := (⟨some 9, .move (.tmp 0), 71, "rule.go:50", #[], none⟩ : Oper)) (v := .pointer (some ⟨B, 0, none⟩)) rfl (by kernel_rfl) (by kernel_rfl) (by kernel_rfl) (fun _ _ _ h => h) (Or.inl ⟨by rfl, by intro w hSw; (try dsimp only at hSw); go_simp⟩) hHeld ?_
    simp only [Act.put, List.setIfInBounds_toArray, List.set_cons_zero, List.set_cons_succ]
    refine wpAnyH_take (i := 3) (oi := (⟨some 12, .move (.tmp 0), 71, "rule.go:50", #[], none⟩ : Oper)) (v := .pointer (some ⟨B, 0, none⟩)) rfl (by kernel_rfl) (by kernel_rfl) (by kernel_rfl) (fun _ _ _ h => h) (Or.inl ⟨by rfl, by intro w hSw; (try dsimp only at hSw); go_simp⟩) hHeld ?_
    simp only [Act.put, List.setIfInBounds_toArray, List.set_cons_zero, List.set_cons_succ]
    refine wpAnyH_take (i := 4) (oi := (⟨some 13, .nilCheck (.tmp 12), 0, "rule.go:50", #[⟨3, Ground.data⟩], none⟩ : Oper)) (v := .pointer (some ⟨B, 0, none⟩)) rfl (by kernel_rfl) (by kernel_rfl) (by kernel_rfl) (fun _ _ _ h => h) (Or.inl ⟨by rfl, by intro w hSw; (try dsimp only at hSw); go_simp⟩) hHeld ?_
    simp only [Act.put, List.setIfInBounds_toArray, List.set_cons_zero, List.set_cons_succ]
    refine wpAnyH_take (i := 5) (oi := (⟨some 14, .fieldAddr 65 (.tmp 13) 2, 0, "rule.go:50", #[⟨4, Ground.data⟩], none⟩ : Oper)) (v := .pointer (some ⟨B, 9, none⟩)) rfl (by kernel_rfl) (by kernel_rfl) (by kernel_rfl) (fun _ _ _ h => h) (Or.inl ⟨by rfl, by intro w hSw; (try dsimp only at hSw); go_simp⟩) hHeld ?_
    simp only [Act.put, List.setIfInBounds_toArray, List.set_cons_zero, List.set_cons_succ]
    refine wpAnyH_take (i := 6) (oi := (⟨some 15, .load 63 (.tmp 14), 63, "rule.go:50", #[⟨5, Ground.data⟩], none⟩ : Oper)) (v := .agg #[.bool false, .bool false]) rfl (by kernel_rfl) (by kernel_rfl) (by kernel_rfl) (fun _ _ _ h => h) (Or.inl ⟨by rfl, by intro w hSw; (try dsimp only at hSw); go_simp⟩) hHeld ?_
    simp only [Act.put, List.setIfInBounds_toArray, List.set_cons_zero, List.set_cons_succ]
    refine wpAnyH_take (i := 7) (oi := (⟨some 16, .build 131 #[(1, .tmp 15)], 131, "rule.go:50", #[⟨6, Ground.data⟩], none⟩ : Oper)) (v := .agg #[.int .i64 0, .int .i64 0, .int .i64 0, .int .i64 0, .bool false, .slice none 0 0, .slice none 0 0, .slice none 0 0, .slice none 0 0, .int .i64 0, .bool false, .bool false]) rfl (by kernel_rfl) (by kernel_rfl) (by kernel_rfl) (fun _ _ _ h => h) (Or.inl ⟨by rfl, by intro w hSw; (try dsimp only at hSw); go_simp⟩) hHeld ?_
    simp only [Act.put, List.setIfInBounds_toArray, List.set_cons_zero, List.set_cons_succ]
    refine wpAnyH_ready (rs := [1, 9]) (by kernel_rfl) (by simp) ?_
    refine AllReadyH.cons (o := (⟨some 10, .call { callee := .value (.func 93), args := #[.tmp 9, .const (.int .i64 5)], argTypes := #[71, 3] }, 9, "rule.go:50", #[⟨0, Ground.data⟩], none⟩ : Oper)) rfl (fun K hK => ?_) ?_
    · go_simp
      refine (CV.out _ hHeld.1 hHeld.2.1).mono ?_
      rintro e wz ⟨rfl, rfl⟩
      go_wp2_with fail
      refine hK.out _ _ (by first | exact HKS.out _ (Below.refl _ _).drew | exact HKS.out _ ((Below.refl _ _).alloc (Nat.le_refl _) _).drew | exact HKS.out _ (((Below.refl _ _).alloc (Nat.le_refl _) _).alloc (by simp) _).drew) (fun hHeld => ?_)
      clear hK K
      try simp only [Act.put, List.setIfInBounds_toArray, List.set_cons_zero, List.set_cons_succ]
      refine wpAnyH_ready (rs := [2, 9]) (by kernel_rfl) (by simp) ?_
      refine AllReadyH.cons (o := (⟨some 11, .call { callee := .value (.func 46), args := #[.tmp 10], argTypes := #[9] }, 98, "rule.go:50", #[⟨1, Ground.data⟩, ⟨1, Ground.chain⟩], none⟩ : Oper)) rfl (fun K hK => ?_) ?_
      · go_simp
        refine (of_any _ _).mono ?_
        rintro e wz ⟨rfl, rfl⟩
        go_wp2_with fail
        refine hK.out _ _ (by first | exact HKS.out _ (Below.refl _ _).drew | exact HKS.out _ ((Below.refl _ _).alloc (Nat.le_refl _) _).drew | exact HKS.out _ (((Below.refl _ _).alloc (Nat.le_refl _) _).alloc (by simp) _).drew) (fun hHeld => ?_)
        clear hK K
        try simp only [Act.put, List.setIfInBounds_toArray, List.set_cons_zero, List.set_cons_succ]
        refine wpAnyH_take (i := 8) (oi := (⟨some 17, .build 165 #[(0, .tmp 11), (1, .tmp 16)], 165, "rule.go:50", #[⟨2, Ground.data⟩, ⟨7, Ground.data⟩], none⟩ : Oper)) (v := .agg #[.int .i64 0, .string v, .int .i64 0, .int .i64 0, .int .i64 0, .int .i64 0, .bool false, .slice none 0 0, .slice none 0 0, .slice none 0 0, .slice none 0 0, .int .i64 0, .bool false, .bool false, .bool false, .bool false, .bool false, .bool false, .bool false, .bool false, .bool false, .bool false, .bool false]) rfl (by kernel_rfl) (by kernel_rfl) (by kernel_rfl) (fun _ _ _ h => h) (Or.inl ⟨by rfl, by intro w hSw; (try dsimp only at hSw); go_simp⟩) hHeld ?_
        simp only [Act.put, List.setIfInBounds_toArray, List.set_cons_zero, List.set_cons_succ]
        refine wpAnyH_ready (rs := [9]) (by kernel_rfl) (by simp) ?_
        refine AllReadyH.cons (o := (⟨some 3, .alloc 165, 0, "rule.go:50", #[], none⟩ : Oper)) rfl (fun K hK => ?_) ?_
        · go_simp
          refine hK.out _ _ (by first | exact HKS.out _ (Below.refl _ _).drew | exact HKS.out _ ((Below.refl _ _).alloc (Nat.le_refl _) _).drew | exact HKS.out _ (((Below.refl _ _).alloc (Nat.le_refl _) _).alloc (by simp) _).drew) (fun hHeld => ?_)
          clear hK K
          try simp only [Act.put, List.setIfInBounds_toArray, List.set_cons_zero, List.set_cons_succ]
          refine wpAnyH_ready (rs := [10]) (by kernel_rfl) (by simp) ?_
          refine AllReadyH.cons (o := (⟨none, .store 165 (.tmp 3) (.tmp 17), 0, "rule.go:50", #[⟨9, Ground.data⟩, ⟨8, Ground.data⟩, ⟨2, Ground.chain⟩, ⟨0, Ground.phase⟩, ⟨1, Ground.phase⟩, ⟨2, Ground.phase⟩, ⟨3, Ground.phase⟩, ⟨4, Ground.phase⟩, ⟨5, Ground.phase⟩, ⟨6, Ground.phase⟩, ⟨7, Ground.phase⟩, ⟨8, Ground.phase⟩, ⟨9, Ground.phase⟩], none⟩ : Oper)) rfl (fun K hK => ?_) ?_
          · rw [if_pos (by rfl)]
            first | refine wp_st_last _ _ rfl v W0 _ rfl rfl ?_ | refine wp_st_first _ _ rfl v W0 _ rfl rfl ?_
            refine hK.out _ _ (by first | exact HKS.out _ (Below.refl _ _).drew | exact HKS.out _ ((Below.refl _ _).alloc (Nat.le_refl _) _).drew | exact HKS.out _ (((Below.refl _ _).alloc (Nat.le_refl _) _).alloc (by simp) _).drew) (fun hHeld => ?_)
            clear hK K
            refine wpAnyH_done (by kernel_rfl) ?_ _
            refine NoPanic.normal ?_
            go_wp2
            go_meet
            case rel => first | exact ⟨_, rfl, fin_last _ _ _, (((Below.refl _ _).alloc (Nat.le_refl _) _).alloc (by simp) _).drew, by simp⟩ | exact ⟨_, rfl, fin_first _ _ _, (((Below.refl _ _).alloc (Nat.le_refl _) _).alloc (by simp) _).drew, Nat.le_refl _⟩
          · exact AllReadyH.nil
        · exact AllReadyH.nil
      · refine AllReadyH.cons (o := (⟨some 3, .alloc 165, 0, "rule.go:50", #[], none⟩ : Oper)) rfl (fun K hK => ?_) ?_
        · go_simp
          refine hK.out _ _ (by first | exact HKS.out _ (Below.refl _ _).drew | exact HKS.out _ ((Below.refl _ _).alloc (Nat.le_refl _) _).drew | exact HKS.out _ (((Below.refl _ _).alloc (Nat.le_refl _) _).alloc (by simp) _).drew) (fun hHeld => ?_)
          clear hK K
          try simp only [Act.put, List.setIfInBounds_toArray, List.set_cons_zero, List.set_cons_succ]
          refine wpAnyH_ready (rs := [2]) (by kernel_rfl) (by simp) ?_
          refine AllReadyH.cons (o := (⟨some 11, .call { callee := .value (.func 46), args := #[.tmp 10], argTypes := #[9] }, 98, "rule.go:50", #[⟨1, Ground.data⟩, ⟨1, Ground.chain⟩], none⟩ : Oper)) rfl (fun K hK => ?_) ?_
          · go_simp
            refine (of_any _ _).mono ?_
            rintro e wz ⟨rfl, rfl⟩
            go_wp2_with fail
            refine hK.out _ _ (by first | exact HKS.out _ (Below.refl _ _).drew | exact HKS.out _ ((Below.refl _ _).alloc (Nat.le_refl _) _).drew | exact HKS.out _ (((Below.refl _ _).alloc (Nat.le_refl _) _).alloc (by simp) _).drew) (fun hHeld => ?_)
            clear hK K
            try simp only [Act.put, List.setIfInBounds_toArray, List.set_cons_zero, List.set_cons_succ]
            refine wpAnyH_take (i := 8) (oi := (⟨some 17, .build 165 #[(0, .tmp 11), (1, .tmp 16)], 165, "rule.go:50", #[⟨2, Ground.data⟩, ⟨7, Ground.data⟩], none⟩ : Oper)) (v := .agg #[.int .i64 0, .string v, .int .i64 0, .int .i64 0, .int .i64 0, .int .i64 0, .bool false, .slice none 0 0, .slice none 0 0, .slice none 0 0, .slice none 0 0, .int .i64 0, .bool false, .bool false, .bool false, .bool false, .bool false, .bool false, .bool false, .bool false, .bool false, .bool false, .bool false]) rfl (by kernel_rfl) (by kernel_rfl) (by kernel_rfl) (fun _ _ _ h => h) (Or.inl ⟨by rfl, by intro w hSw; (try dsimp only at hSw); go_simp⟩) hHeld ?_
            simp only [Act.put, List.setIfInBounds_toArray, List.set_cons_zero, List.set_cons_succ]
            refine wpAnyH_ready (rs := [10]) (by kernel_rfl) (by simp) ?_
            refine AllReadyH.cons (o := (⟨none, .store 165 (.tmp 3) (.tmp 17), 0, "rule.go:50", #[⟨9, Ground.data⟩, ⟨8, Ground.data⟩, ⟨2, Ground.chain⟩, ⟨0, Ground.phase⟩, ⟨1, Ground.phase⟩, ⟨2, Ground.phase⟩, ⟨3, Ground.phase⟩, ⟨4, Ground.phase⟩, ⟨5, Ground.phase⟩, ⟨6, Ground.phase⟩, ⟨7, Ground.phase⟩, ⟨8, Ground.phase⟩, ⟨9, Ground.phase⟩], none⟩ : Oper)) rfl (fun K hK => ?_) ?_
            · rw [if_pos (by rfl)]
              first | refine wp_st_last _ _ rfl v W0 _ rfl rfl ?_ | refine wp_st_first _ _ rfl v W0 _ rfl rfl ?_
              refine hK.out _ _ (by first | exact HKS.out _ (Below.refl _ _).drew | exact HKS.out _ ((Below.refl _ _).alloc (Nat.le_refl _) _).drew | exact HKS.out _ (((Below.refl _ _).alloc (Nat.le_refl _) _).alloc (by simp) _).drew) (fun hHeld => ?_)
              clear hK K
              refine wpAnyH_done (by kernel_rfl) ?_ _
              refine NoPanic.normal ?_
              go_wp2
              go_meet
              case rel => first | exact ⟨_, rfl, fin_last _ _ _, (((Below.refl _ _).alloc (Nat.le_refl _) _).alloc (by simp) _).drew, by simp⟩ | exact ⟨_, rfl, fin_first _ _ _, (((Below.refl _ _).alloc (Nat.le_refl _) _).alloc (by simp) _).drew, Nat.le_refl _⟩
            · exact AllReadyH.nil
          · exact AllReadyH.nil
        · exact AllReadyH.nil
    · refine AllReadyH.cons (o := (⟨some 3, .alloc 165, 0, "rule.go:50", #[], none⟩ : Oper)) rfl (fun K hK => ?_) ?_
      · go_simp
        refine hK.out _ _ (by first | exact HKS.out _ (Below.refl _ _).drew | exact HKS.out _ ((Below.refl _ _).alloc (Nat.le_refl _) _).drew | exact HKS.out _ (((Below.refl _ _).alloc (Nat.le_refl _) _).alloc (by simp) _).drew) (fun hHeld => ?_)
        clear hK K
        try simp only [Act.put, List.setIfInBounds_toArray, List.set_cons_zero, List.set_cons_succ]
        refine wpAnyH_ready (rs := [1]) (by kernel_rfl) (by simp) ?_
        refine AllReadyH.cons (o := (⟨some 10, .call { callee := .value (.func 93), args := #[.tmp 9, .const (.int .i64 5)], argTypes := #[71, 3] }, 9, "rule.go:50", #[⟨0, Ground.data⟩], none⟩ : Oper)) rfl (fun K hK => ?_) ?_
        · go_simp
          refine (CV.out _ hHeld.1 hHeld.2.1).mono ?_
          rintro e wz ⟨rfl, rfl⟩
          go_wp2_with fail
          refine hK.out _ _ (by first | exact HKS.out _ (Below.refl _ _).drew | exact HKS.out _ ((Below.refl _ _).alloc (Nat.le_refl _) _).drew | exact HKS.out _ (((Below.refl _ _).alloc (Nat.le_refl _) _).alloc (by simp) _).drew) (fun hHeld => ?_)
          clear hK K
          try simp only [Act.put, List.setIfInBounds_toArray, List.set_cons_zero, List.set_cons_succ]
          refine wpAnyH_ready (rs := [2]) (by kernel_rfl) (by simp) ?_
          refine AllReadyH.cons (o := (⟨some 11, .call { callee := .value (.func 46), args := #[.tmp 10], argTypes := #[9] }, 98, "rule.go:50", #[⟨1, Ground.data⟩, ⟨1, Ground.chain⟩], none⟩ : Oper)) rfl (fun K hK => ?_) ?_
          · go_simp
            refine (of_any _ _).mono ?_
            rintro e wz ⟨rfl, rfl⟩
            go_wp2_with fail
            refine hK.out _ _ (by first | exact HKS.out _ (Below.refl _ _).drew | exact HKS.out _ ((Below.refl _ _).alloc (Nat.le_refl _) _).drew | exact HKS.out _ (((Below.refl _ _).alloc (Nat.le_refl _) _).alloc (by simp) _).drew) (fun hHeld => ?_)
            clear hK K
            try simp only [Act.put, List.setIfInBounds_toArray, List.set_cons_zero, List.set_cons_succ]
            refine wpAnyH_take (i := 8) (oi := (⟨some 17, .build 165 #[(0, .tmp 11), (1, .tmp 16)], 165, "rule.go:50", #[⟨2, Ground.data⟩, ⟨7, Ground.data⟩], none⟩ : Oper)) (v := .agg #[.int .i64 0, .string v, .int .i64 0, .int .i64 0, .int .i64 0, .int .i64 0, .bool false, .slice none 0 0, .slice none 0 0, .slice none 0 0, .slice none 0 0, .int .i64 0, .bool false, .bool false, .bool false, .bool false, .bool false, .bool false, .bool false, .bool false, .bool false, .bool false, .bool false]) rfl (by kernel_rfl) (by kernel_rfl) (by kernel_rfl) (fun _ _ _ h => h) (Or.inl ⟨by rfl, by intro w hSw; (try dsimp only at hSw); go_simp⟩) hHeld ?_
            simp only [Act.put, List.setIfInBounds_toArray, List.set_cons_zero, List.set_cons_succ]
            refine wpAnyH_ready (rs := [10]) (by kernel_rfl) (by simp) ?_
            refine AllReadyH.cons (o := (⟨none, .store 165 (.tmp 3) (.tmp 17), 0, "rule.go:50", #[⟨9, Ground.data⟩, ⟨8, Ground.data⟩, ⟨2, Ground.chain⟩, ⟨0, Ground.phase⟩, ⟨1, Ground.phase⟩, ⟨2, Ground.phase⟩, ⟨3, Ground.phase⟩, ⟨4, Ground.phase⟩, ⟨5, Ground.phase⟩, ⟨6, Ground.phase⟩, ⟨7, Ground.phase⟩, ⟨8, Ground.phase⟩, ⟨9, Ground.phase⟩], none⟩ : Oper)) rfl (fun K hK => ?_) ?_
            · rw [if_pos (by rfl)]
              first | refine wp_st_last _ _ rfl v W0 _ rfl rfl ?_ | refine wp_st_first _ _ rfl v W0 _ rfl rfl ?_
              refine hK.out _ _ (by first | exact HKS.out _ (Below.refl _ _).drew | exact HKS.out _ ((Below.refl _ _).alloc (Nat.le_refl _) _).drew | exact HKS.out _ (((Below.refl _ _).alloc (Nat.le_refl _) _).alloc (by simp) _).drew) (fun hHeld => ?_)
              clear hK K
              refine wpAnyH_done (by kernel_rfl) ?_ _
              refine NoPanic.normal ?_
              go_wp2
              go_meet
              case rel => first | exact ⟨_, rfl, fin_last _ _ _, (((Below.refl _ _).alloc (Nat.le_refl _) _).alloc (by simp) _).drew, by simp⟩ | exact ⟨_, rfl, fin_first _ _ _, (((Below.refl _ _).alloc (Nat.le_refl _) _).alloc (by simp) _).drew, Nat.le_refl _⟩
            · exact AllReadyH.nil
          · exact AllReadyH.nil
        · exact AllReadyH.nil
      · exact AllReadyH.nil
  case rest =>
    obtain ⟨R, rfl, hR, hbR, hRw⟩ := hcut
    have r3 := hc hR 3 rfl
    have f3 := Lib.frozen_of_heap hR 3
    have hRl := hlt hR
    have hz0 : W0.heap.size = w.heap.size + 1 := by rw [← hW0]; simp
    have HbW : Hid (Below w.heap.size w W0) := by rw [← hW0]; exact (Below.refl _ _).alloc (Nat.le_refl _) _
    have HcR : Hid (W0.heap[w.heap.size]? = some (.cells #[.nilIface] 47 (0, 0))) := by rw [← hW0]; exact heap_alloc_new w _
    go_wp2_with (go_at_call 101; refine (all_at R _ _).mono ?_; rintro e wz ⟨rfl, rfl⟩)
    have hX : (((wc.setCell ⟨R, 3, none⟩ (.int .i64 1)).alloc (.cells #[.pointer (some ⟨R, 0, none⟩)] 145)).alloc (.cells #[.string ⟨#[59]⟩] 9)).heap[wc.heap.size]? = some (.cells #[.pointer (some ⟨R, 0, none⟩)] 145 (0, 0)) := by
      refine (Below.heap_alloc _ _ _ (by simp [World.setCell])).trans ?_
      have := heap_alloc_new (wc.setCell ⟨R, 3, none⟩ (.int .i64 1)) (.cells #[.pointer (some ⟨R, 0, none⟩)] 145)
      simpa [World.setCell] using this
    have hY : (((wc.setCell ⟨R, 3, none⟩ (.int .i64 1)).alloc (.cells #[.pointer (some ⟨R, 0, none⟩)] 145)).alloc (.cells #[.string ⟨#[59]⟩] 9)).heap[wc.heap.size + 1]? = some (.cells #[.string ⟨#[59]⟩] 9 (0, 0)) := by
      have := heap_alloc_new ((wc.setCell ⟨R, 3, none⟩ (.int .i64 1)).alloc (.cells #[.pointer (some ⟨R, 0, none⟩)] 145)) (.cells #[.string ⟨#[59]⟩] 9)
      simpa [World.setCell] using this
    have hzz : (((wc.setCell ⟨R, 3, none⟩ (.int .i64 1)).alloc (.cells #[.pointer (some ⟨R, 0, none⟩)] 145)).alloc (.cells #[.string ⟨#[59]⟩] 9)).heap.size = wc.heap.size + 2 := by simp [World.setCell]
    have gR : wc.grownBy (((wc.setCell ⟨R, 3, none⟩ (.int .i64 1)).alloc (.cells #[.pointer (some ⟨R, 0, none⟩)] 145)).alloc (.cells #[.string ⟨#[59]⟩] 9)) (some R) :=
      gb_trans (gb_trans (gb_set _ _ _ _) (World.grownBy_alloc _ _ _)) (World.grownBy_alloc _ _ _)
    have hRR : (((wc.setCell ⟨R, 3, none⟩ (.int .i64 1)).alloc (.cells #[.pointer (some ⟨R, 0, none⟩)] 145)).alloc (.cells #[.string ⟨#[59]⟩] 9)).heap[R]? = some (.cells (cs (.int .i64 0) (.string v) 0) 165 (0, 0)) := by
      rw [hC.first]
      exact (Below.heap_alloc _ _ _ (by simp [World.setCell]; omega)).trans ((Below.heap_alloc _ _ _ (by simpa [World.setCell] using hRl)).trans (hset hR 3 _))
    revert hX hY hzz gR hRR
    generalize (((wc.setCell ⟨R, 3, none⟩ (.int .i64 1)).alloc (.cells #[.pointer (some ⟨R, 0, none⟩)] 145)).alloc (.cells #[.string ⟨#[59]⟩] 9)) = WR
    intro hX hY hzz gR hRR
    have hR35 : 35 ≤ R := by have := hlt HB.out; omega
    have hwR : w.grownBy WR (some R) := by
      have a1 : w.grownBy wc (some R) := by
        have b1 := HbW.out
        refine ⟨hbR.os.trans b1.os, hbR.tape.trans b1.tape, hbR.output.trans b1.output, Nat.le_trans b1.size hbR.size, fun k hk _ => (hbR.block k (by omega)).trans (b1.block k hk)⟩
      exact gb_trans a1 gR
    have hFR : Hid (FN WR) := FNg HF.out hwR hR35
    have hMR : WR.cell? ⟨32, 0, none⟩ = some (.int .i64 mm) := gcell hwR HM.out (by simp; omega)
    refine (wpIn_wide (n := 4)).1 ?_
    refine wpIn_rangeFunc_raw (α := ByteArray) (gf := 147) (lb := #[.pointer (some ⟨wc.heap.size, 0, none⟩), .pointer (some ⟨wc.heap.size + 1, 0, none⟩)]) rfl (by omega) rfl trivial (enters_of Tryz.func147 (by kernel_rfl) rfl)
      (encs := fun x : ByteArray => #[.string x]) (Pre := fun pre x => pre.length < N ∧ x = pc pre.length) (Kp := KpR R wc.heap.size (wc.heap.size + 1)) (S := fun xs => xs.length = N) (Sp := fun _ => True)
      (fun pre W => (∃ p t, W.heap[R]? = some (.cells (cs p t pre.length) 165 (0, 0))) ∧ WR.grownBy W (some R)) (fun _ _ _ => False) ?hI (fun _ _ _ _ _ hs _ _ => hs) ⟨⟨_, _, hRR⟩, ⟨rfl, rfl, rfl, Nat.le_refl _, fun _ _ _ => rfl⟩⟩
      ?hseq kp_trans (fun W o o' h1 _ _ => kp_put W o' (by omega) (by omega) (by omega) (by omega)) (fun _ => rfl)
      (fun x a' _ => a' = { tmps := #[.pointer (some ⟨B, 0, none⟩), undef, .pointer (some ⟨w.heap.size, 0, none⟩), .pointer (some ⟨R, 0, none⟩), .string x, undef, .pointer (some ⟨B, 0, none⟩), .bool true, .bool false, u9, u10, u11, u12, u13, u14, u15, u16, u17, .pointer (some ⟨R, 2, none⟩), .pointer (some ⟨R, 2, none⟩), .pointer (some ⟨R, 3, none⟩), .pointer (some ⟨R, 0, none⟩), .func (.func 147) #[] #[.pointer (some ⟨wc.heap.size, 0, none⟩), .pointer (some ⟨wc.heap.size + 1, 0, none⟩)], .string x, undef, undef, undef, undef, undef, undef, undef, undef, undef, undef, undef, undef, undef, undef, undef, undef, undef, undef, undef, undef, undef, undef, undef], defers := [] }) (fun _ _ _ _ _ _ hs _ _ => hs) ?assign ?body ?done ?stop
    case hI =>
      rintro s W W' row ⟨⟨p, t, hp⟩, hgw⟩ hgr hrow
      have hne : some R ≠ row := fun e => by have := (hrow R e.symm).1; omega
      refine ⟨⟨p, t, (hgr.block R (hlt hp) hne).trans hp⟩, ⟨hgr.os.trans hgw.os, hgr.tape.trans hgw.tape, hgr.output.trans hgw.output, Nat.le_trans hgw.size hgr.size, fun k hk hkR => (hgr.block k (Nat.lt_of_lt_of_le hk hgw.size) (fun e => by have := (hrow k e.symm).1; omega)).trans (hgw.block k hk hkR)⟩⟩
    case hseq =>
      intro W1 oR oD oX hr1 hr2 hd1 hd2 hxx hb1 hz1
      have hR1 : W1.heap[R]? = some (.cells (cs (.int .i64 0) (.string v) 0) 165 (0, 0)) := (hb1.block R (hlt hRR)).trans hRR
      refine all1_in _ R wc.heap.size (wc.heap.size + 1) N pc L mm _ _ W1 (by omega) (by omega) (by omega) hN hN2 ((hb1.cell (p := ⟨wc.heap.size, 0, none⟩) (by show wc.heap.size < _; omega)).trans (hc hX 0 rfl)) ((hb1.cell (p := ⟨wc.heap.size + 1, 0, none⟩) (by show wc.heap.size + 1 < _; omega)).trans (hc hY 0 rfl)) ((hb1.cell (p := ⟨32, 0, none⟩) (by show 32 < _; omega)).trans hMR)
        (hc hR1 0 (hC.at0 _ _ _)) (by rw [hL0]; exact hc hR1 1 (hC.at1 _ _ _)) (Lib.frozen_of_heap hR1 0) (Lib.frozen_of_heap hR1 1) hL HC2.out ?_
      rintro pre W p t q ⟨⟨⟨p0, t0, hp⟩, hgw⟩, ho1, ho2⟩
      have h2 := hset (hset hp 0 (.int .i64 p)) 1 (.string t)
      rw [hC.set0, hC.set1] at h2
      refine ⟨⟨⟨_, _, h2⟩, gb_trans (gb_trans (gb_trans hgw (gb_set _ _ _ _)) (gb_set _ _ _ _)) (gb_drewN _ _ _)⟩, ?_, ?_⟩
      · exact ((gb_trans (gb_set W R 0 (.int .i64 p)) (gb_set _ R 1 (.string t))).block _ (hlt ho1) (by simp; omega)).trans ho1
      · exact ((gb_trans (gb_set W R 0 (.int .i64 p)) (gb_set _ R 1 (.string t))).block _ (hlt ho2) (by simp; omega)).trans ho2
    case assign =>
      intro l pre x W K hIp hPre hK
      clear hPre
      gi_wp2
      exact hK _ W (KeepsFrom.refl _ _) (kp_refl _ _ _ _) hIp rfl
    case body =>
      rintro l pre x a' W hzl hloop ⟨⟨p, t, hp⟩, hgw⟩ rfl ⟨hltN, rfl⟩
      have cc := HP.out R hR35 pre.length hltN p t W (FNg hFR.out hgw hR35) (gcell hgw hMR (by simp; omega)) hp
      gi_wp2_with fail
      refine ⟨trivial, ?_⟩
      gi_at_call 102
      refine (CallsIn.inRound l (callsIn_wide.2 cc)).mono ?_
      clear cc
      rintro e w3 ⟨rfl, hp3, hg3⟩
      gi_wp2
      have hzW := hgw.size
      refine ⟨KeepsFrom.of_grownBy hg3 (fun j e => by cases e; omega), ⟨(hc hp3 0 (hC.at0 _ _ _)).trans (hc hp 0 (hC.at0 _ _ _)).symm, (hc hp3 1 (hC.at1 _ _ _)).trans (hc hp 1 (hC.at1 _ _ _)).symm, (Lib.frozen_of_heap hp3 0).trans (Lib.frozen_of_heap hp 0).symm, (Lib.frozen_of_heap hp3 1).trans (Lib.frozen_of_heap hp 1).symm,
        World.cell?_of_block (hg3.block _ (by show wc.heap.size < _; omega) (by simp; omega)), World.cell?_of_block (hg3.block _ (by show wc.heap.size + 1 < _; omega) (by simp; omega)), World.cell?_of_block (hg3.block _ (by show 32 < _; omega) (by simp; omega))⟩, ⟨p, t, by rw [List.length_append]; exact hp3⟩, gb_trans hgw hg3⟩
    case done =>
      rintro D xs W hDz hlen ⟨⟨p, t, hp⟩, hgw⟩ hK
      rw [hlen] at hp
      obtain ⟨s0, s1, s2, s3, s4, s5, s6, s7, s8, hl⟩ := hC.last
      rw [hl] at hp
      clear hl
      have hwW : w.grownBy W (some R) := gb_trans hwR hgw
      have hBl0 := hlt HB.out
      have hB1 := (hwW.block B hBl0 (by simp; omega)).trans HB.out
      have hE1 : W.heap[w.heap.size]? = some (.cells #[.nilIface] 47 (0, 0)) := (hgw.block _ (by omega) (by simp; omega)).trans ((gR.block _ (by have := hbR.size; omega) (by simp; omega)).trans ((hbR.block _ (by omega)).trans HcR.out))
      have q2 := hc hp 2 rfl
      have q3 := hc hp 3 rfl
      have q4 := hc hp 4 rfl
      have q5 := hc hp 5 rfl
      have q6 := hc hp 6 rfl
      have q7 := hc hp 7 rfl
      have q8 := hc hp 8 rfl
      have q9 := hc hp 9 rfl
      have q10 := hc hp 10 rfl
      have q11 := hc hp 11 rfl
      have b17 := hc hB1 17 rfl
      have c17 := Lib.frozen_of_heap hB1 17
      have b18 := hc hB1 18 rfl
      have c18 := Lib.frozen_of_heap hB1 18
      have b19 := hc hB1 19 rfl
      have c19 := Lib.frozen_of_heap hB1 19
      have b20 := hc hB1 20 rfl
      have c20 := Lib.frozen_of_heap hB1 20
      have b21 := hc hB1 21 rfl
      have c21 := Lib.frozen_of_heap hB1 21
      have b22 := hc hB1 22 rfl
      have c22 := Lib.frozen_of_heap hB1 22
      have b23 := hc hB1 23 rfl
      have c23 := Lib.frozen_of_heap hB1 23
      have b24 := hc hB1 24 rfl
      have c24 := Lib.frozen_of_heap hB1 24
      have b25 := hc hB1 25 rfl
      have c25 := Lib.frozen_of_heap hB1 25
      have b26 := hc hB1 26 rfl
      have c26 := Lib.frozen_of_heap hB1 26
      have e0 := hc hE1 0 rfl
      have d0 := Lib.frozen_of_heap hE1 0
      have hRB : R ≠ B := by omega
      have hEB : w.heap.size ≠ B := by omega
      go_wp2
      have hB2 := (hset (hset (hset (hset (hset (hset (hset (hset (hset (hset hB1 17 (.int .i64 1)) 18 (.int .i64 ev)) 19 (.int .i64 ct)) 20 (.int .i64 0)) 21 (.bool false)) 22 (.slice none 0 0)) 23 (.slice none 0 0)) 24 (.slice none 0 0)) 25 (.slice none 0 0)) 26 (.int .i64 0))
      simp only [List.setIfInBounds_toArray, List.set_cons_zero, List.set_cons_succ] at hB2
      have gB2 : W.grownBy ((((((((((W.setCell ⟨B, 17, none⟩ (.int .i64 1)).setCell ⟨B, 18, none⟩ (.int .i64 ev)).setCell ⟨B, 19, none⟩ (.int .i64 ct)).setCell ⟨B, 20, none⟩ (.int .i64 0)).setCell ⟨B, 21, none⟩ (.bool false)).setCell ⟨B, 22, none⟩ (.slice none 0 0)).setCell ⟨B, 23, none⟩ (.slice none 0 0)).setCell ⟨B, 24, none⟩ (.slice none 0 0)).setCell ⟨B, 25, none⟩ (.slice none 0 0)).setCell ⟨B, 26, none⟩ (.int .i64 0)) (some B) := (gb_trans (gb_trans (gb_trans (gb_trans (gb_trans (gb_trans (gb_trans (gb_trans (gb_trans (gb_set _ _ _ _) (gb_set _ _ _ _)) (gb_set _ _ _ _)) (gb_set _ _ _ _)) (gb_set _ _ _ _)) (gb_set _ _ _ _)) (gb_set _ _ _ _)) (gb_set _ _ _ _)) (gb_set _ _ _ _)) (gb_set _ _ _ _))
      revert hB2 gB2
      generalize ((((((((((W.setCell ⟨B, 17, none⟩ (.int .i64 1)).setCell ⟨B, 18, none⟩ (.int .i64 ev)).setCell ⟨B, 19, none⟩ (.int .i64 ct)).setCell ⟨B, 20, none⟩ (.int .i64 0)).setCell ⟨B, 21, none⟩ (.bool false)).setCell ⟨B, 22, none⟩ (.slice none 0 0)).setCell ⟨B, 23, none⟩ (.slice none 0 0)).setCell ⟨B, 24, none⟩ (.slice none 0 0)).setCell ⟨B, 25, none⟩ (.slice none 0 0)).setCell ⟨B, 26, none⟩ (.int .i64 0)) = W2
      intro hB2 gB2
      have hE2 := (gB2.block _ (hlt hE1) (by simp; omega)).trans hE1
      have hD2 := (gB2.block _ (hlt hK) (by simp; omega)).trans hK
      have hE3 := hset hE2 0 .nilIface
      have gE3 := gb_set W2 w.heap.size 0 .nilIface
      have hB3 := (gE3.block _ (hlt hB2) (by simp; omega)).trans hB2
      have hD3 := (gE3.block _ (hlt hD2) (by simp; omega)).trans hD2
      have hw3 : w.grownBy (W2.setCell ⟨w.heap.size, 0, none⟩ .nilIface) (some B) :=
        ⟨gE3.os.trans (gB2.os.trans hwW.os), gE3.tape.trans (gB2.tape.trans hwW.tape), gE3.output.trans (gB2.output.trans hwW.output), Nat.le_trans hwW.size (Nat.le_trans gB2.size gE3.size), fun k hk hkB => (gE3.block k (Nat.lt_of_lt_of_le hk (Nat.le_trans hwW.size gB2.size)) (by simp; omega)).trans ((gB2.block k (Nat.lt_of_lt_of_le hk hwW.size) hkB).trans (hwW.block k hk (by simp; omega)))⟩
      revert hE3 hB3 hD3 hw3
      generalize W2.setCell ⟨w.heap.size, 0, none⟩ .nilIface = W3
      intro hE3 hB3 hD3 hw3
      refine ⟨by simp, .inl ⟨_, _, rfl, run_takeDeferred hD3, ?_⟩⟩
      have hE4 : (W3.putObj D (.deferred none)).cell? ⟨w.heap.size, 0, none⟩ = some .nilIface := (World.cell?_of_block (World.putObj_heap_other (by show w.heap.size ≠ D; omega))).trans (hc hE3 0 rfl)
      exact ⟨.nilIface, by simp [results, Tryz.results59, go_sem, hE4], rfl, (World.putObj_heap_other (by omega)).trans hB3, ⟨hw3.os, hw3.tape, hw3.output, by simpa [World.putObj] using hw3.size, fun k hk hkB => (World.putObj_heap_other (by omega)).trans (hw3.block k hk hkB)⟩⟩
    case stop =>
      rintro D cx pre W _ _ hfalse _
      exact hfalse.elim
end Go.Proofs.YtmmnbdefkailpaaGreatDoor
