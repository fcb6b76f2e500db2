/- Package event: parse: the steps, one behind the other. -/
import Derived.Test.YtmmnbdefkailpaaGreatDoorEvR

namespace Go.Proofs.YtmmnbdefkailpaaGreatDoor
open Go.RowKit Cal
set_option linter.unusedVariables false

theorem wpList_store_fresh {ops : Array Oper} {rest : List Oper} {op : Oper} {a : Act} {w : World} {Q : Exit → Act → World → Prop} (hgd : op.guard = none) (T : TypeId) (x y : Operand) (ho : op.op = .store T x y)
    (old new : Array Value) (hx : a.eval x = .pointer (some ⟨w.heap.size, 0, none⟩)) (hy : a.eval y = .agg new) (hsz : new.size = old.size) (hsf : setFrom old 0 new.toList = new) (hi : (Tryz.prog.info? T).map (·.size) = some new.size) (h1 : new.all (·.oneCell') = true)
    (h : wpList Tryz.prog ops Q rest (a.put op.dst undef) (w.alloc (.cells new T))) : wpList Tryz.prog ops Q (op :: rest) a (w.alloc (.cells old T)) := by
  refine wpList_store_mid hgd T x y ho w.heap.size 0 new hx hy (there_new _ _ _ _ hsz) hi h1 ?_
  rw [setCells_new, hsf]; exact h

abbrev stepsA : Array Value := #[.int .i64 1, .func (.func 52) #[] #[], .int .i64 2, .func (.func 53) #[] #[], .int .i64 3, .func (.func 54) #[] #[], .int .i64 4, .func (.func 55) #[] #[], .int .i64 5, .func (.func 56) #[] #[], .int .i64 6, .func (.func 57) #[] #[], .int .i64 7, .func (.func 58) #[] #[], .int .i64 8, .func (.func 59) #[] #[], .int .i64 9, .func (.func 60) #[] #[], .int .i64 10, .func (.func 61) #[] #[], .int .i64 11, .func (.func 62) #[] #[]]

set_option maxRecDepth 100000 in
set_option maxHeartbeats 2000000 in
theorem steps_any (w : World) : Calls Tryz.prog 28 #[] w fun e w' => e = .returned (.slice (some ⟨w.heap.size, 0, none⟩) 11 11) ∧ w' = w.alloc (.cells stepsA 70) := by
  go_enter Tryz.func28, Tryz.ntmps28
  go_wp2
  go_ret
  exact ⟨rfl, rfl⟩

theorem below_gb2 {w wa w3 : World} {B : Nat} (ha : Below w.heap.size w wa) (hg : wa.grownBy w3 (some B)) (hB : w.heap.size ≤ B) : Below w.heap.size w w3 :=
  ⟨hg.os.trans ha.os, hg.tape.trans ha.tape, hg.output.trans ha.output, Nat.le_trans ha.size hg.size, fun j hj => (hg.block j (Nat.lt_of_lt_of_le hj ha.size) (by simp; omega)).trans (ha.block j hj)⟩
theorem range_app {w : World} {B : Nat} {T : TypeId} {fr : Nat × Nat} (pre cs : List Value) (h : w.heap[B]? = some (.cells (pre ++ cs).toArray T fr)) : w.rangeAt B pre.length cs := fun j v hv =>
  hc h (pre.length + j) (by rw [List.getElem?_toArray, List.getElem?_append_right (by omega)]; simpa using hv)
theorem there_heap {w : World} {B : Nat} {cs : Array Value} {T : TypeId} (h : w.heap[B]? = some (.cells cs T (0, 0))) (n : Nat) (hn : n = cs.size) : w.there B 0 n := fun j hj => by
  have hj' : j < cs.size := by omega
  refine ⟨?_, Lib.frozen_of_heap h (0 + j)⟩
  rw [hc h (0 + j) (v := cs[j]) (by simp [hj'])]; rfl
theorem results_cell_tmp {fn : Func} {t u : Tmp} {ty : TypeId} (h : fn.results = #[.cell t ty, .tmp u]) (tmps : Array Value) (P : Program) (w : World) (a : Addr) (v : Value) (ht : tmps[t]?.getD undef = .pointer (some a)) (hl : (loadVar ty a).run P w = .ok v w) :
    (results fn tmps).run P w = .ok (.tuple #[v, tmps[u]?.getD undef]) w := by
  have ha : (asAddr (.pointer (some a))).run P w = .ok a w := rfl
  simp [results, h, ht, ha, hl, Result.andThen]

set_option maxRecDepth 100000 in
set_option maxHeartbeats 8000000 in
theorem parse_in (g cap : Nat) (u : ByteArray) (T ev ct : Int) (St : Nat → World → Nat → Prop)  (w : World)
    (hSt : ∀ i w1 w2 B, St i w1 B → Below w1.heap.size w1 w2 → St i w2 B)
    (hfirst : ∀ w1 B, w.heap.size ≤ B → Below w.heap.size w w1 → w1.heap[B]? = some (.cells #[.slice (some ⟨g, 0, none⟩) 5 cap, .slice none 0 0, .slice none 0 0, .slice none 0 0, .slice none 0 0, .slice none 0 0, .slice none 0 0, .slice none 0 0, .slice none 0 0, .bool false, .bool false, .string ⟨#[]⟩, .string ⟨#[]⟩, .int .i64 0, .bool false, .bool false, .int .i64 0, .int .i64 0, .int .i64 0, .int .i64 0, .int .i64 0, .bool false, .slice none 0 0, .slice none 0 0, .slice none 0 0, .slice none 0 0, .int .i64 0, .slice none 0 0, .slice none 0 0] 65 (0, 0)) → St 0 w1 B)
    (hstep : ∀ i, i < 11 → ∀ B wx, w.heap.size ≤ B → Below w.heap.size w wx → St i wx B → Calls Tryz.prog (52 + i) #[.pointer (some ⟨B, 0, none⟩)] wx fun e w' => e = .returned .nilIface ∧ St (i + 1) w' B ∧ wx.grownBy w' (some B))
    (hlast : ∀ wx B, St 11 wx B → ∃ f0 f1 f2 f3 f4 f5 f6 f7 f8 f9 f10 : Value, wx.heap[B]? = some (.cells #[f0, f1, f2, f3, f4, f5, f6, f7, f8, f9, f10, .string u, .string ⟨#[]⟩, .int .i64 T, .bool false, .bool false, .int .i64 0, .int .i64 1, .int .i64 ev, .int .i64 ct, .int .i64 0, .bool false, .slice none 0 0, .slice none 0 0, .slice none 0 0, .slice none 0 0, .int .i64 0, .slice none 0 0, .slice none 0 0] 65 (0, 0))) :
    Calls Tryz.prog 14 #[.slice (some ⟨g, 0, none⟩) 5 cap] w fun e w' => e = .returned (.tuple #[.agg #[.string u, .string ⟨#[]⟩, .int .i64 T, .bool false, .bool false, .int .i64 0, .int .i64 1, .int .i64 ev, .int .i64 ct, .int .i64 0, .bool false, .slice none 0 0, .slice none 0 0, .slice none 0 0, .slice none 0 0, .int .i64 0, .slice none 0 0, .slice none 0 0], .nilIface]) ∧ Below w.heap.size w w' := by
  go_enter Tryz.func14, Tryz.ntmps14
  go_upto_region 1 with fail
  refine wp_region_lit ?_
  refine wpList_plain rfl (fun K hK => ?_)
  go_simp
  refine hK _ _ ?_
  clear hK K
  refine wpList_plain rfl (fun K hK => ?_)
  go_simp
  refine hK _ _ ?_
  clear hK K
  refine wpList_plain rfl (fun K hK => ?_)
  go_simp
  refine hK _ _ ?_
  clear hK K
  refine wpList_store_fresh (by rfl) 65 (.tmp 4) (.tmp 9) (by rfl) #[.slice none 0 0, .slice none 0 0, .slice none 0 0, .slice none 0 0, .slice none 0 0, .slice none 0 0, .slice none 0 0, .slice none 0 0, .slice none 0 0, .bool false, .bool false, .string ⟨#[]⟩, .string ⟨#[]⟩, .int .i64 0, .bool false, .bool false, .int .i64 0, .int .i64 0, .int .i64 0, .int .i64 0, .int .i64 0, .bool false, .slice none 0 0, .slice none 0 0, .slice none 0 0, .slice none 0 0, .int .i64 0, .slice none 0 0, .slice none 0 0] #[.slice (some ⟨g, 0, none⟩) 5 cap, .slice none 0 0, .slice none 0 0, .slice none 0 0, .slice none 0 0, .slice none 0 0, .slice none 0 0, .slice none 0 0, .slice none 0 0, .bool false, .bool false, .string ⟨#[]⟩, .string ⟨#[]⟩, .int .i64 0, .bool false, .bool false, .int .i64 0, .int .i64 0, .int .i64 0, .int .i64 0, .int .i64 0, .bool false, .slice none 0 0, .slice none 0 0, .slice none 0 0, .slice none 0 0, .int .i64 0, .slice none 0 0, .slice none 0 0] (by show Value.pointer (some ⟨w.heap.size + 1, 0, none⟩) = _; rw [World.size_alloc]) rfl rfl (by kernel_rfl) (by kernel_rfl) (by kernel_rfl) ?_
  refine wpList_nil ?_
  obtain ⟨W0, hW0⟩ : ∃ W0, (w.alloc (.cells #[.string ⟨#[]⟩, .string ⟨#[]⟩, .int .i64 0, .bool false, .bool false, .int .i64 0, .int .i64 0, .int .i64 0, .int .i64 0, .int .i64 0, .bool false, .slice none 0 0, .slice none 0 0, .slice none 0 0, .slice none 0 0, .int .i64 0, .slice none 0 0, .slice none 0 0] 32)).alloc (.cells #[.slice (some ⟨g, 0, none⟩) 5 cap, .slice none 0 0, .slice none 0 0, .slice none 0 0, .slice none 0 0, .slice none 0 0, .slice none 0 0, .slice none 0 0, .slice none 0 0, .bool false, .bool false, .string ⟨#[]⟩, .string ⟨#[]⟩, .int .i64 0, .bool false, .bool false, .int .i64 0, .int .i64 0, .int .i64 0, .int .i64 0, .int .i64 0, .bool false, .slice none 0 0, .slice none 0 0, .slice none 0 0, .slice none 0 0, .int .i64 0, .slice none 0 0, .slice none 0 0] 65) = W0 := ⟨_, rfl⟩
  rw [hW0]
  go_wp2_with (go_at_call 28; refine (steps_any _).mono ?_; rintro e wz ⟨rfl, rfl⟩)
  have hB0 : W0.heap[w.heap.size + 1]? = some (.cells #[.slice (some ⟨g, 0, none⟩) 5 cap, .slice none 0 0, .slice none 0 0, .slice none 0 0, .slice none 0 0, .slice none 0 0, .slice none 0 0, .slice none 0 0, .slice none 0 0, .bool false, .bool false, .string ⟨#[]⟩, .string ⟨#[]⟩, .int .i64 0, .bool false, .bool false, .int .i64 0, .int .i64 0, .int .i64 0, .int .i64 0, .int .i64 0, .bool false, .slice none 0 0, .slice none 0 0, .slice none 0 0, .slice none 0 0, .int .i64 0, .slice none 0 0, .slice none 0 0] 65 (0, 0)) := by
    rw [← hW0]
    have := heap_alloc_new (w.alloc (.cells #[.string ⟨#[]⟩, .string ⟨#[]⟩, .int .i64 0, .bool false, .bool false, .int .i64 0, .int .i64 0, .int .i64 0, .int .i64 0, .int .i64 0, .bool false, .slice none 0 0, .slice none 0 0, .slice none 0 0, .slice none 0 0, .int .i64 0, .slice none 0 0, .slice none 0 0] 32)) (.cells #[.slice (some ⟨g, 0, none⟩) 5 cap, .slice none 0 0, .slice none 0 0, .slice none 0 0, .slice none 0 0, .slice none 0 0, .slice none 0 0, .slice none 0 0, .slice none 0 0, .bool false, .bool false, .string ⟨#[]⟩, .string ⟨#[]⟩, .int .i64 0, .bool false, .bool false, .int .i64 0, .int .i64 0, .int .i64 0, .int .i64 0, .int .i64 0, .bool false, .slice none 0 0, .slice none 0 0, .slice none 0 0, .slice none 0 0, .int .i64 0, .slice none 0 0, .slice none 0 0] 65)
    rw [World.size_alloc] at this
    exact this
  have hE0 : W0.heap[w.heap.size]? = some (.cells #[.string ⟨#[]⟩, .string ⟨#[]⟩, .int .i64 0, .bool false, .bool false, .int .i64 0, .int .i64 0, .int .i64 0, .int .i64 0, .int .i64 0, .bool false, .slice none 0 0, .slice none 0 0, .slice none 0 0, .slice none 0 0, .int .i64 0, .slice none 0 0, .slice none 0 0] 32 (0, 0)) := by
    rw [← hW0]
    exact (Below.heap_alloc _ _ _ (by simp)).trans (heap_alloc_new w (.cells #[.string ⟨#[]⟩, .string ⟨#[]⟩, .int .i64 0, .bool false, .bool false, .int .i64 0, .int .i64 0, .int .i64 0, .int .i64 0, .int .i64 0, .bool false, .slice none 0 0, .slice none 0 0, .slice none 0 0, .slice none 0 0, .int .i64 0, .slice none 0 0, .slice none 0 0] 32))
  have hb0 : Below w.heap.size w W0 := by rw [← hW0]; exact ((Below.refl _ _).alloc (Nat.le_refl _) _).alloc (by simp) _
  have hz0 : W0.heap.size = w.heap.size + 2 := by rw [← hW0]; simp
  have hst0 : St 0 (W0.alloc (.cells stepsA 70)) (w.heap.size + 1) := hfirst _ _ (by omega) (hb0.alloc hb0.size _) ((Below.heap_alloc _ _ _ (by omega)).trans hB0)
  have HSt : Hid _ := hSt
  have HStep : Hid _ := hstep
  have HZ : Hid (W0.heap.size = w.heap.size + 2) := hz0
  have hS0 : (W0.alloc (.cells stepsA 70)).heap[w.heap.size + 2]? = some (.cells stepsA 70 (0, 0)) := by rw [← hz0]; exact heap_alloc_new W0 _
  rw [hz0]
  have hE1 := (Below.heap_alloc W0 (.cells stepsA 70) w.heap.size (by omega)).trans hE0
  have hb1 := hb0.alloc hb0.size (.cells stepsA 70)
  clear hSt hstep hfirst hW0 hz0
  go_loopg [12] 12 (fun gk s12 wr => ∃ i : Nat, gk + i = 12 ∧ 1 ≤ gk ∧ s12 = .int .i64 i ∧ St i wr (w.heap.size + 1) ∧ wr.heap[w.heap.size + 2]? = some (.cells stepsA 70 (0, 0)) ∧ Below w.heap.size w wr ∧ wr.heap[w.heap.size]? = some (.cells #[.string ⟨#[]⟩, .string ⟨#[]⟩, .int .i64 0, .bool false, .bool false, .int .i64 0, .int .i64 0, .int .i64 0, .int .i64 0, .int .i64 0, .bool false, .slice none 0 0, .slice none 0 0, .slice none 0 0, .slice none 0 0, .int .i64 0, .slice none 0 0, .slice none 0 0] 32 (0, 0)))
  case atStart => exact ⟨0, rfl, by omega, rfl, hst0, hS0, hb1, hE1⟩
  case round =>
    obtain ⟨i, hi, hgk, rfl, hst, hS, hb, hE⟩ := hrel
    by_cases h11 : i = 11
    · subst h11
      obtain ⟨f0, f1, f2, f3, f4, f5, f6, f7, f8, f9, f10, hF⟩ := hlast _ _ hst
      have hr := range_app [f0, f1, f2, f3, f4, f5, f6, f7, f8, f9, f10] [.string u, .string ⟨#[]⟩, .int .i64 T, .bool false, .bool false, .int .i64 0, .int .i64 1, .int .i64 ev, .int .i64 ct, .int .i64 0, .bool false, .slice none 0 0, .slice none 0 0, .slice none 0 0, .slice none 0 0, .int .i64 0, .slice none 0 0, .slice none 0 0] hF
      have ht := there_heap hE 18 rfl
      clear hF
      go_upto_region 9 with fail
      refine wp_region_lit ?_
      refine wpList_plain rfl (fun K hK => ?_)
      go_simp
      refine hK _ _ ?_
      clear hK K
      refine wpList_load_mid (by rfl) 32 (.tmp 29) (by rfl) (w.heap.size + 1) 11 (by rfl) [.string u, .string ⟨#[]⟩, .int .i64 T, .bool false, .bool false, .int .i64 0, .int .i64 1, .int .i64 ev, .int .i64 ct, .int .i64 0, .bool false, .slice none 0 0, .slice none 0 0, .slice none 0 0, .slice none 0 0, .int .i64 0, .slice none 0 0, .slice none 0 0] _ hr Tryz.underlying32 rfl (by kernel_rfl) ?_
      try simp only [Act.put, List.setIfInBounds_toArray, List.set_cons_zero, List.set_cons_succ]
      refine wpList_store_mid (by rfl) 32 (.tmp 2) (.tmp 30) (by rfl) w.heap.size 0 #[.string u, .string ⟨#[]⟩, .int .i64 T, .bool false, .bool false, .int .i64 0, .int .i64 1, .int .i64 ev, .int .i64 ct, .int .i64 0, .bool false, .slice none 0 0, .slice none 0 0, .slice none 0 0, .slice none 0 0, .int .i64 0, .slice none 0 0, .slice none 0 0] (by rfl) (by rfl) ht (by kernel_rfl) (by kernel_rfl) ?_
      go_wp2
      refine bodyPost_ret (v := .tuple #[.agg #[.string u, .string ⟨#[]⟩, .int .i64 T, .bool false, .bool false, .int .i64 0, .int .i64 1, .int .i64 ev, .int .i64 ct, .int .i64 0, .bool false, .slice none 0 0, .slice none 0 0, .slice none 0 0, .slice none 0 0, .int .i64 0, .slice none 0 0, .slice none 0 0], .nilIface]) ?_ rfl ⟨rfl, below_setCells _ _ _ hb (Nat.le_refl _)⟩
      have hl := run_loadVar_mid (P := Tryz.prog) _ w.heap.size 0 32 [.string u, .string ⟨#[]⟩, .int .i64 T, .bool false, .bool false, .int .i64 0, .int .i64 1, .int .i64 ev, .int .i64 ct, .int .i64 0, .bool false, .slice none 0 0, .slice none 0 0, .slice none 0 0, .slice none 0 0, .int .i64 0, .slice none 0 0, .slice none 0 0] _ (World.rangeAt_setCells_same wr w.heap.size 0 [.string u, .string ⟨#[]⟩, .int .i64 T, .bool false, .bool false, .int .i64 0, .int .i64 1, .int .i64 ev, .int .i64 ct, .int .i64 0, .bool false, .slice none 0 0, .slice none 0 0, .slice none 0 0, .slice none 0 0, .int .i64 0, .slice none 0 0, .slice none 0 0] ht) Tryz.underlying32 rfl (by kernel_rfl)
      exact results_cell_tmp (fn := Tryz.f14) (t := 2) (u := 3) (ty := 32) rfl _ _ _ ⟨w.heap.size, 0, none⟩ _ (by rfl) hl
    · obtain rfl | rfl | rfl | rfl | rfl | rfl | rfl | rfl | rfl | rfl | rfl := (show i = 0 ∨ i = 1 ∨ i = 2 ∨ i = 3 ∨ i = 4 ∨ i = 5 ∨ i = 6 ∨ i = 7 ∨ i = 8 ∨ i = 9 ∨ i = 10 by omega)
      · have s0 := hc hS 0 rfl
        have s1 := hc hS 1 rfl
        go_upto_region 4 with fail
        refine wp_region_lit ?_
        refine wpList_plain rfl (fun K hK => ?_)
        go_simp
        refine hK _ _ ?_
        clear hK K
        refine wpList_plain rfl (fun K hK => ?_)
        go_simp
        refine hK _ _ ?_
        clear hK K
        refine wpList_plain rfl (fun K hK => ?_)
        go_simp
        refine hK _ _ ?_
        clear hK K
        refine wpList_store_fresh (by rfl) 70 (.tmp 6) (.tmp 15) (by rfl) #[.int .i64 0, .nilFunc] #[.int .i64 1, .func (.func 52) #[] #[]] rfl rfl rfl (by kernel_rfl) (by kernel_rfl) (by kernel_rfl) ?_
        refine wpList_nil ?_
        have cS := HStep.out 0 (by omega) (w.heap.size + 1) _ (by omega) (hb.alloc hb.size (.cells #[.int .i64 1, .func (.func 52) #[] #[]] 70)) (HSt.out 0 _ _ _ hst ((Below.refl _ _).alloc (Nat.le_refl _) _))
        go_wp2_with (go_at_call 52; refine cS.mono ?_; clear cS; rintro e w3 ⟨rfl, hst3, hg3⟩)
        go_roundg (11)
        case measure => omega
        case rel => exact ⟨1, by omega, by omega, rfl, hst3, (hg3.block _ (by have := hlt hS; simp; omega) (by simp)).trans ((Below.heap_alloc _ _ _ (hlt hS)).trans hS), below_gb2 (hb.alloc hb.size _) hg3 (by omega), (hg3.block _ (by have := hlt hE; simp; omega) (by simp)).trans ((Below.heap_alloc _ _ _ (hlt hE)).trans hE)⟩
      · have s0 := hc hS 2 rfl
        have s1 := hc hS 3 rfl
        go_upto_region 4 with fail
        refine wp_region_lit ?_
        refine wpList_plain rfl (fun K hK => ?_)
        go_simp
        refine hK _ _ ?_
        clear hK K
        refine wpList_plain rfl (fun K hK => ?_)
        go_simp
        refine hK _ _ ?_
        clear hK K
        refine wpList_plain rfl (fun K hK => ?_)
        go_simp
        refine hK _ _ ?_
        clear hK K
        refine wpList_store_fresh (by rfl) 70 (.tmp 6) (.tmp 15) (by rfl) #[.int .i64 0, .nilFunc] #[.int .i64 2, .func (.func 53) #[] #[]] rfl rfl rfl (by kernel_rfl) (by kernel_rfl) (by kernel_rfl) ?_
        refine wpList_nil ?_
        have cS := HStep.out 1 (by omega) (w.heap.size + 1) _ (by omega) (hb.alloc hb.size (.cells #[.int .i64 2, .func (.func 53) #[] #[]] 70)) (HSt.out 1 _ _ _ hst ((Below.refl _ _).alloc (Nat.le_refl _) _))
        go_wp2_with (go_at_call 53; refine cS.mono ?_; clear cS; rintro e w3 ⟨rfl, hst3, hg3⟩)
        go_roundg (10)
        case measure => omega
        case rel => exact ⟨2, by omega, by omega, rfl, hst3, (hg3.block _ (by have := hlt hS; simp; omega) (by simp)).trans ((Below.heap_alloc _ _ _ (hlt hS)).trans hS), below_gb2 (hb.alloc hb.size _) hg3 (by omega), (hg3.block _ (by have := hlt hE; simp; omega) (by simp)).trans ((Below.heap_alloc _ _ _ (hlt hE)).trans hE)⟩
      · have s0 := hc hS 4 rfl
        have s1 := hc hS 5 rfl
        go_upto_region 4 with fail
        refine wp_region_lit ?_
        refine wpList_plain rfl (fun K hK => ?_)
        go_simp
        refine hK _ _ ?_
        clear hK K
        refine wpList_plain rfl (fun K hK => ?_)
        go_simp
        refine hK _ _ ?_
        clear hK K
        refine wpList_plain rfl (fun K hK => ?_)
        go_simp
        refine hK _ _ ?_
        clear hK K
        refine wpList_store_fresh (by rfl) 70 (.tmp 6) (.tmp 15) (by rfl) #[.int .i64 0, .nilFunc] #[.int .i64 3, .func (.func 54) #[] #[]] rfl rfl rfl (by kernel_rfl) (by kernel_rfl) (by kernel_rfl) ?_
        refine wpList_nil ?_
        have cS := HStep.out 2 (by omega) (w.heap.size + 1) _ (by omega) (hb.alloc hb.size (.cells #[.int .i64 3, .func (.func 54) #[] #[]] 70)) (HSt.out 2 _ _ _ hst ((Below.refl _ _).alloc (Nat.le_refl _) _))
        go_wp2_with (go_at_call 54; refine cS.mono ?_; clear cS; rintro e w3 ⟨rfl, hst3, hg3⟩)
        go_roundg (9)
        case measure => omega
        case rel => exact ⟨3, by omega, by omega, rfl, hst3, (hg3.block _ (by have := hlt hS; simp; omega) (by simp)).trans ((Below.heap_alloc _ _ _ (hlt hS)).trans hS), below_gb2 (hb.alloc hb.size _) hg3 (by omega), (hg3.block _ (by have := hlt hE; simp; omega) (by simp)).trans ((Below.heap_alloc _ _ _ (hlt hE)).trans hE)⟩
      · have s0 := hc hS 6 rfl
        have s1 := hc hS 7 rfl
        go_upto_region 4 with fail
        refine wp_region_lit ?_
        refine wpList_plain rfl (fun K hK => ?_)
        go_simp
        refine hK _ _ ?_
        clear hK K
        refine wpList_plain rfl (fun K hK => ?_)
        go_simp
        refine hK _ _ ?_
        clear hK K
        refine wpList_plain rfl (fun K hK => ?_)
        go_simp
        refine hK _ _ ?_
        clear hK K
        refine wpList_store_fresh (by rfl) 70 (.tmp 6) (.tmp 15) (by rfl) #[.int .i64 0, .nilFunc] #[.int .i64 4, .func (.func 55) #[] #[]] rfl rfl rfl (by kernel_rfl) (by kernel_rfl) (by kernel_rfl) ?_
        refine wpList_nil ?_
        have cS := HStep.out 3 (by omega) (w.heap.size + 1) _ (by omega) (hb.alloc hb.size (.cells #[.int .i64 4, .func (.func 55) #[] #[]] 70)) (HSt.out 3 _ _ _ hst ((Below.refl _ _).alloc (Nat.le_refl _) _))
        go_wp2_with (go_at_call 55; refine cS.mono ?_; clear cS; rintro e w3 ⟨rfl, hst3, hg3⟩)
        go_roundg (8)
        case measure => omega
        case rel => exact ⟨4, by omega, by omega, rfl, hst3, (hg3.block _ (by have := hlt hS; simp; omega) (by simp)).trans ((Below.heap_alloc _ _ _ (hlt hS)).trans hS), below_gb2 (hb.alloc hb.size _) hg3 (by omega), (hg3.block _ (by have := hlt hE; simp; omega) (by simp)).trans ((Below.heap_alloc _ _ _ (hlt hE)).trans hE)⟩
      · have s0 := hc hS 8 rfl
        have s1 := hc hS 9 rfl
        go_upto_region 4 with fail
        refine wp_region_lit ?_
        refine wpList_plain rfl (fun K hK => ?_)
        go_simp
        refine hK _ _ ?_
        clear hK K
        refine wpList_plain rfl (fun K hK => ?_)
        go_simp
        refine hK _ _ ?_
        clear hK K
        refine wpList_plain rfl (fun K hK => ?_)
        go_simp
        refine hK _ _ ?_
        clear hK K
        refine wpList_store_fresh (by rfl) 70 (.tmp 6) (.tmp 15) (by rfl) #[.int .i64 0, .nilFunc] #[.int .i64 5, .func (.func 56) #[] #[]] rfl rfl rfl (by kernel_rfl) (by kernel_rfl) (by kernel_rfl) ?_
        refine wpList_nil ?_
        have cS := HStep.out 4 (by omega) (w.heap.size + 1) _ (by omega) (hb.alloc hb.size (.cells #[.int .i64 5, .func (.func 56) #[] #[]] 70)) (HSt.out 4 _ _ _ hst ((Below.refl _ _).alloc (Nat.le_refl _) _))
        go_wp2_with (go_at_call 56; refine cS.mono ?_; clear cS; rintro e w3 ⟨rfl, hst3, hg3⟩)
        go_roundg (7)
        case measure => omega
        case rel => exact ⟨5, by omega, by omega, rfl, hst3, (hg3.block _ (by have := hlt hS; simp; omega) (by simp)).trans ((Below.heap_alloc _ _ _ (hlt hS)).trans hS), below_gb2 (hb.alloc hb.size _) hg3 (by omega), (hg3.block _ (by have := hlt hE; simp; omega) (by simp)).trans ((Below.heap_alloc _ _ _ (hlt hE)).trans hE)⟩
      · have s0 := hc hS 10 rfl
        have s1 := hc hS 11 rfl
        go_upto_region 4 with fail
        refine wp_region_lit ?_
        refine wpList_plain rfl (fun K hK => ?_)
        go_simp
        refine hK _ _ ?_
        clear hK K
        refine wpList_plain rfl (fun K hK => ?_)
        go_simp
        refine hK _ _ ?_
        clear hK K
        refine wpList_plain rfl (fun K hK => ?_)
        go_simp
        refine hK _ _ ?_
        clear hK K
        refine wpList_store_fresh (by rfl) 70 (.tmp 6) (.tmp 15) (by rfl) #[.int .i64 0, .nilFunc] #[.int .i64 6, .func (.func 57) #[] #[]] rfl rfl rfl (by kernel_rfl) (by kernel_rfl) (by kernel_rfl) ?_
        refine wpList_nil ?_
        have cS := HStep.out 5 (by omega) (w.heap.size + 1) _ (by omega) (hb.alloc hb.size (.cells #[.int .i64 6, .func (.func 57) #[] #[]] 70)) (HSt.out 5 _ _ _ hst ((Below.refl _ _).alloc (Nat.le_refl _) _))
        go_wp2_with (go_at_call 57; refine cS.mono ?_; clear cS; rintro e w3 ⟨rfl, hst3, hg3⟩)
        go_roundg (6)
        case measure => omega
        case rel => exact ⟨6, by omega, by omega, rfl, hst3, (hg3.block _ (by have := hlt hS; simp; omega) (by simp)).trans ((Below.heap_alloc _ _ _ (hlt hS)).trans hS), below_gb2 (hb.alloc hb.size _) hg3 (by omega), (hg3.block _ (by have := hlt hE; simp; omega) (by simp)).trans ((Below.heap_alloc _ _ _ (hlt hE)).trans hE)⟩
      · have s0 := hc hS 12 rfl
        have s1 := hc hS 13 rfl
        go_upto_region 4 with fail
        refine wp_region_lit ?_
        refine wpList_plain rfl (fun K hK => ?_)
        go_simp
        refine hK _ _ ?_
        clear hK K
        refine wpList_plain rfl (fun K hK => ?_)
        go_simp
        refine hK _ _ ?_
        clear hK K
        refine wpList_plain rfl (fun K hK => ?_)
        go_simp
        refine hK _ _ ?_
        clear hK K
        refine wpList_store_fresh (by rfl) 70 (.tmp 6) (.tmp 15) (by rfl) #[.int .i64 0, .nilFunc] #[.int .i64 7, .func (.func 58) #[] #[]] rfl rfl rfl (by kernel_rfl) (by kernel_rfl) (by kernel_rfl) ?_
        refine wpList_nil ?_
        have cS := HStep.out 6 (by omega) (w.heap.size + 1) _ (by omega) (hb.alloc hb.size (.cells #[.int .i64 7, .func (.func 58) #[] #[]] 70)) (HSt.out 6 _ _ _ hst ((Below.refl _ _).alloc (Nat.le_refl _) _))
        go_wp2_with (go_at_call 58; refine cS.mono ?_; clear cS; rintro e w3 ⟨rfl, hst3, hg3⟩)
        go_roundg (5)
        case measure => omega
        case rel => exact ⟨7, by omega, by omega, rfl, hst3, (hg3.block _ (by have := hlt hS; simp; omega) (by simp)).trans ((Below.heap_alloc _ _ _ (hlt hS)).trans hS), below_gb2 (hb.alloc hb.size _) hg3 (by omega), (hg3.block _ (by have := hlt hE; simp; omega) (by simp)).trans ((Below.heap_alloc _ _ _ (hlt hE)).trans hE)⟩
      · have s0 := hc hS 14 rfl
        have s1 := hc hS 15 rfl
        go_upto_region 4 with fail
        refine wp_region_lit ?_
        refine wpList_plain rfl (fun K hK => ?_)
        go_simp
        refine hK _ _ ?_
        clear hK K
        refine wpList_plain rfl (fun K hK => ?_)
        go_simp
        refine hK _ _ ?_
        clear hK K
        refine wpList_plain rfl (fun K hK => ?_)
        go_simp
        refine hK _ _ ?_
        clear hK K
        refine wpList_store_fresh (by rfl) 70 (.tmp 6) (.tmp 15) (by rfl) #[.int .i64 0, .nilFunc] #[.int .i64 8, .func (.func 59) #[] #[]] rfl rfl rfl (by kernel_rfl) (by kernel_rfl) (by kernel_rfl) ?_
        refine wpList_nil ?_
        have cS := HStep.out 7 (by omega) (w.heap.size + 1) _ (by omega) (hb.alloc hb.size (.cells #[.int .i64 8, .func (.func 59) #[] #[]] 70)) (HSt.out 7 _ _ _ hst ((Below.refl _ _).alloc (Nat.le_refl _) _))
        go_wp2_with (go_at_call 59; refine cS.mono ?_; clear cS; rintro e w3 ⟨rfl, hst3, hg3⟩)
        go_roundg (4)
        case measure => omega
        case rel => exact ⟨8, by omega, by omega, rfl, hst3, (hg3.block _ (by have := hlt hS; simp; omega) (by simp)).trans ((Below.heap_alloc _ _ _ (hlt hS)).trans hS), below_gb2 (hb.alloc hb.size _) hg3 (by omega), (hg3.block _ (by have := hlt hE; simp; omega) (by simp)).trans ((Below.heap_alloc _ _ _ (hlt hE)).trans hE)⟩
      · have s0 := hc hS 16 rfl
        have s1 := hc hS 17 rfl
        go_upto_region 4 with fail
        refine wp_region_lit ?_
        refine wpList_plain rfl (fun K hK => ?_)
        go_simp
        refine hK _ _ ?_
        clear hK K
        refine wpList_plain rfl (fun K hK => ?_)
        go_simp
        refine hK _ _ ?_
        clear hK K
        refine wpList_plain rfl (fun K hK => ?_)
        go_simp
        refine hK _ _ ?_
        clear hK K
        refine wpList_store_fresh (by rfl) 70 (.tmp 6) (.tmp 15) (by rfl) #[.int .i64 0, .nilFunc] #[.int .i64 9, .func (.func 60) #[] #[]] rfl rfl rfl (by kernel_rfl) (by kernel_rfl) (by kernel_rfl) ?_
        refine wpList_nil ?_
        have cS := HStep.out 8 (by omega) (w.heap.size + 1) _ (by omega) (hb.alloc hb.size (.cells #[.int .i64 9, .func (.func 60) #[] #[]] 70)) (HSt.out 8 _ _ _ hst ((Below.refl _ _).alloc (Nat.le_refl _) _))
        go_wp2_with (go_at_call 60; refine cS.mono ?_; clear cS; rintro e w3 ⟨rfl, hst3, hg3⟩)
        go_roundg (3)
        case measure => omega
        case rel => exact ⟨9, by omega, by omega, rfl, hst3, (hg3.block _ (by have := hlt hS; simp; omega) (by simp)).trans ((Below.heap_alloc _ _ _ (hlt hS)).trans hS), below_gb2 (hb.alloc hb.size _) hg3 (by omega), (hg3.block _ (by have := hlt hE; simp; omega) (by simp)).trans ((Below.heap_alloc _ _ _ (hlt hE)).trans hE)⟩
      · have s0 := hc hS 18 rfl
        have s1 := hc hS 19 rfl
        go_upto_region 4 with fail
        refine wp_region_lit ?_
        refine wpList_plain rfl (fun K hK => ?_)
        go_simp
        refine hK _ _ ?_
        clear hK K
        refine wpList_plain rfl (fun K hK => ?_)
        go_simp
        refine hK _ _ ?_
        clear hK K
        refine wpList_plain rfl (fun K hK => ?_)
        go_simp
        refine hK _ _ ?_
        clear hK K
        refine wpList_store_fresh (by rfl) 70 (.tmp 6) (.tmp 15) (by rfl) #[.int .i64 0, .nilFunc] #[.int .i64 10, .func (.func 61) #[] #[]] rfl rfl rfl (by kernel_rfl) (by kernel_rfl) (by kernel_rfl) ?_
        refine wpList_nil ?_
        have cS := HStep.out 9 (by omega) (w.heap.size + 1) _ (by omega) (hb.alloc hb.size (.cells #[.int .i64 10, .func (.func 61) #[] #[]] 70)) (HSt.out 9 _ _ _ hst ((Below.refl _ _).alloc (Nat.le_refl _) _))
        go_wp2_with (go_at_call 61; refine cS.mono ?_; clear cS; rintro e w3 ⟨rfl, hst3, hg3⟩)
        go_roundg (2)
        case measure => omega
        case rel => exact ⟨10, by omega, by omega, rfl, hst3, (hg3.block _ (by have := hlt hS; simp; omega) (by simp)).trans ((Below.heap_alloc _ _ _ (hlt hS)).trans hS), below_gb2 (hb.alloc hb.size _) hg3 (by omega), (hg3.block _ (by have := hlt hE; simp; omega) (by simp)).trans ((Below.heap_alloc _ _ _ (hlt hE)).trans hE)⟩
      · have s0 := hc hS 20 rfl
        have s1 := hc hS 21 rfl
        go_upto_region 4 with fail
        refine wp_region_lit ?_
        refine wpList_plain rfl (fun K hK => ?_)
        go_simp
        refine hK _ _ ?_
        clear hK K
        refine wpList_plain rfl (fun K hK => ?_)
        go_simp
        refine hK _ _ ?_
        clear hK K
        refine wpList_plain rfl (fun K hK => ?_)
        go_simp
        refine hK _ _ ?_
        clear hK K
        refine wpList_store_fresh (by rfl) 70 (.tmp 6) (.tmp 15) (by rfl) #[.int .i64 0, .nilFunc] #[.int .i64 11, .func (.func 62) #[] #[]] rfl rfl rfl (by kernel_rfl) (by kernel_rfl) (by kernel_rfl) ?_
        refine wpList_nil ?_
        have cS := HStep.out 10 (by omega) (w.heap.size + 1) _ (by omega) (hb.alloc hb.size (.cells #[.int .i64 11, .func (.func 62) #[] #[]] 70)) (HSt.out 10 _ _ _ hst ((Below.refl _ _).alloc (Nat.le_refl _) _))
        go_wp2_with (go_at_call 62; refine cS.mono ?_; clear cS; rintro e w3 ⟨rfl, hst3, hg3⟩)
        go_roundg (1)
        case measure => omega
        case rel => exact ⟨11, by omega, by omega, rfl, hst3, (hg3.block _ (by have := hlt hS; simp; omega) (by simp)).trans ((Below.heap_alloc _ _ _ (hlt hS)).trans hS), below_gb2 (hb.alloc hb.size _) hg3 (by omega), (hg3.block _ (by have := hlt hE; simp; omega) (by simp)).trans ((Below.heap_alloc _ _ _ (hlt hE)).trans hE)⟩
end Go.Proofs.YtmmnbdefkailpaaGreatDoor
