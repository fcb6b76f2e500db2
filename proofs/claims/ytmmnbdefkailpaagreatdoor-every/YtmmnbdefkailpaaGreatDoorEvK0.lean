/- Package event: the parts of a rule. -/
import Derived.Test.YtmmnbdefkailpaaGreatDoorEvI
import Derived.Deep.MidRow

namespace Go.Proofs.YtmmnbdefkailpaaGreatDoor
open Go.RowKit Cal
set_option linter.unusedVariables false

theorem there_new (w : World) (cs : Array Value) (T : TypeId) (n : Nat) (hn : n = cs.size) : (w.alloc (.cells cs T)).there w.heap.size 0 n := fun j hj => by
  have hb : (w.alloc (.cells cs T)).heap[w.heap.size]? = some (.cells cs T (0, 0)) := heap_alloc_new w _
  refine ⟨?_, Lib.frozen_of_heap hb _⟩
  rw [Lib.cell_of_heap hb]
  simp; omega
theorem below_setCells {B b : Nat} {w0 : World} : ∀ (vs : List Value) (o : Nat) (w : World), Below B w0 w → B ≤ b → Below B w0 (w.setCells b o vs)
  | [], _, _, h, _ => h
  | v :: r, o, w, h, hb => below_setCells r (o + 1) _ (h.setCell (p := ⟨b, o, none⟩) hb v) hb

theorem results_cell1 {fn : Func} {t : Tmp} {ty : TypeId} (h : fn.results = #[.cell t ty]) (tmps : Array Value) (P : Program) (w : World) (a : Addr) (v : Value) (ht : tmps[t]?.getD undef = .pointer (some a)) (hl : (loadVar ty a).run P w = .ok v w) : (results fn tmps).run P w = .ok v w := by
  simp [results, h, asAddr, ht, hl]

set_option maxRecDepth 100000 in
set_option maxHeartbeats 2000000 in
theorem parts_any (w : World) : Calls Tryz.prog 115 #[] w fun e w' => e = .returned (.agg #[.string ⟨#[70, 82, 69, 81]⟩, .func (.func 156) #[] #[], .func (.func 157) #[] #[], .string ⟨#[73, 78, 84, 69, 82, 86, 65, 76]⟩, .func (.func 158) #[] #[], .func (.func 159) #[] #[], .string ⟨#[67, 79, 85, 78, 84]⟩, .func (.func 160) #[] #[], .func (.func 161) #[] #[], .string ⟨#[85, 78, 84, 73, 76]⟩, .func (.func 162) #[] #[], .func (.func 163) #[] #[], .string ⟨#[66, 89, 77, 79, 78, 84, 72]⟩, .func (.func 164) #[] #[], .func (.func 165) #[] #[], .string ⟨#[66, 89, 77, 79, 78, 84, 72, 68, 65, 89]⟩, .func (.func 166) #[] #[], .func (.func 167) #[] #[], .string ⟨#[66, 89, 68, 65, 89]⟩, .func (.func 168) #[] #[], .func (.func 169) #[] #[], .string ⟨#[66, 89, 83, 69, 84, 80, 79, 83]⟩, .func (.func 170) #[] #[], .func (.func 171) #[] #[], .string ⟨#[87, 75, 83, 84]⟩, .func (.func 172) #[] #[], .func (.func 173) #[] #[]]) ∧ Below w.heap.size w w' := by
  go_enter Tryz.func115, Tryz.ntmps115
  go_wp2_with (refine wpList_store_mid (by rfl) 196 (.tmp 0) (.tmp 10) (by rfl) w.heap.size 0 #[.string ⟨#[70, 82, 69, 81]⟩, .func (.func 156) #[] #[], .func (.func 157) #[] #[], .string ⟨#[73, 78, 84, 69, 82, 86, 65, 76]⟩, .func (.func 158) #[] #[], .func (.func 159) #[] #[], .string ⟨#[67, 79, 85, 78, 84]⟩, .func (.func 160) #[] #[], .func (.func 161) #[] #[], .string ⟨#[85, 78, 84, 73, 76]⟩, .func (.func 162) #[] #[], .func (.func 163) #[] #[], .string ⟨#[66, 89, 77, 79, 78, 84, 72]⟩, .func (.func 164) #[] #[], .func (.func 165) #[] #[], .string ⟨#[66, 89, 77, 79, 78, 84, 72, 68, 65, 89]⟩, .func (.func 166) #[] #[], .func (.func 167) #[] #[], .string ⟨#[66, 89, 68, 65, 89]⟩, .func (.func 168) #[] #[], .func (.func 169) #[] #[], .string ⟨#[66, 89, 83, 69, 84, 80, 79, 83]⟩, .func (.func 170) #[] #[], .func (.func 171) #[] #[], .string ⟨#[87, 75, 83, 84]⟩, .func (.func 172) #[] #[], .func (.func 173) #[] #[]] (by rfl) (by rfl) (there_new _ _ _ _ (by rfl)) (by kernel_rfl) (by kernel_rfl) ?_)
  refine bodyPost_ret (v := .agg #[.string ⟨#[70, 82, 69, 81]⟩, .func (.func 156) #[] #[], .func (.func 157) #[] #[], .string ⟨#[73, 78, 84, 69, 82, 86, 65, 76]⟩, .func (.func 158) #[] #[], .func (.func 159) #[] #[], .string ⟨#[67, 79, 85, 78, 84]⟩, .func (.func 160) #[] #[], .func (.func 161) #[] #[], .string ⟨#[85, 78, 84, 73, 76]⟩, .func (.func 162) #[] #[], .func (.func 163) #[] #[], .string ⟨#[66, 89, 77, 79, 78, 84, 72]⟩, .func (.func 164) #[] #[], .func (.func 165) #[] #[], .string ⟨#[66, 89, 77, 79, 78, 84, 72, 68, 65, 89]⟩, .func (.func 166) #[] #[], .func (.func 167) #[] #[], .string ⟨#[66, 89, 68, 65, 89]⟩, .func (.func 168) #[] #[], .func (.func 169) #[] #[], .string ⟨#[66, 89, 83, 69, 84, 80, 79, 83]⟩, .func (.func 170) #[] #[], .func (.func 171) #[] #[], .string ⟨#[87, 75, 83, 84]⟩, .func (.func 172) #[] #[], .func (.func 173) #[] #[]]) ?_ (by rfl) ⟨rfl, below_setCells _ _ _ ((Below.refl _ _).alloc (Nat.le_refl _) _) (Nat.le_refl _)⟩
  have hl := run_loadVar_mid (P := Tryz.prog) _ w.heap.size 0 196 [.string ⟨#[70, 82, 69, 81]⟩, .func (.func 156) #[] #[], .func (.func 157) #[] #[], .string ⟨#[73, 78, 84, 69, 82, 86, 65, 76]⟩, .func (.func 158) #[] #[], .func (.func 159) #[] #[], .string ⟨#[67, 79, 85, 78, 84]⟩, .func (.func 160) #[] #[], .func (.func 161) #[] #[], .string ⟨#[85, 78, 84, 73, 76]⟩, .func (.func 162) #[] #[], .func (.func 163) #[] #[], .string ⟨#[66, 89, 77, 79, 78, 84, 72]⟩, .func (.func 164) #[] #[], .func (.func 165) #[] #[], .string ⟨#[66, 89, 77, 79, 78, 84, 72, 68, 65, 89]⟩, .func (.func 166) #[] #[], .func (.func 167) #[] #[], .string ⟨#[66, 89, 68, 65, 89]⟩, .func (.func 168) #[] #[], .func (.func 169) #[] #[], .string ⟨#[66, 89, 83, 69, 84, 80, 79, 83]⟩, .func (.func 170) #[] #[], .func (.func 171) #[] #[], .string ⟨#[87, 75, 83, 84]⟩, .func (.func 172) #[] #[], .func (.func 173) #[] #[]] _ (World.rangeAt_setCells_same (w.alloc (.cells #[.string ⟨#[]⟩, .nilFunc, .nilFunc, .string ⟨#[]⟩, .nilFunc, .nilFunc, .string ⟨#[]⟩, .nilFunc, .nilFunc, .string ⟨#[]⟩, .nilFunc, .nilFunc, .string ⟨#[]⟩, .nilFunc, .nilFunc, .string ⟨#[]⟩, .nilFunc, .nilFunc, .string ⟨#[]⟩, .nilFunc, .nilFunc, .string ⟨#[]⟩, .nilFunc, .nilFunc, .string ⟨#[]⟩, .nilFunc, .nilFunc] 196)) w.heap.size 0 [.string ⟨#[70, 82, 69, 81]⟩, .func (.func 156) #[] #[], .func (.func 157) #[] #[], .string ⟨#[73, 78, 84, 69, 82, 86, 65, 76]⟩, .func (.func 158) #[] #[], .func (.func 159) #[] #[], .string ⟨#[67, 79, 85, 78, 84]⟩, .func (.func 160) #[] #[], .func (.func 161) #[] #[], .string ⟨#[85, 78, 84, 73, 76]⟩, .func (.func 162) #[] #[], .func (.func 163) #[] #[], .string ⟨#[66, 89, 77, 79, 78, 84, 72]⟩, .func (.func 164) #[] #[], .func (.func 165) #[] #[], .string ⟨#[66, 89, 77, 79, 78, 84, 72, 68, 65, 89]⟩, .func (.func 166) #[] #[], .func (.func 167) #[] #[], .string ⟨#[66, 89, 68, 65, 89]⟩, .func (.func 168) #[] #[], .func (.func 169) #[] #[], .string ⟨#[66, 89, 83, 69, 84, 80, 79, 83]⟩, .func (.func 170) #[] #[], .func (.func 171) #[] #[], .string ⟨#[87, 75, 83, 84]⟩, .func (.func 172) #[] #[], .func (.func 173) #[] #[]] (there_new _ _ _ _ (by rfl))) Tryz.underlying196 (by rfl) (by kernel_rfl)
  exact results_cell1 rfl _ _ _ _ _ (by rfl) hl
theorem ix196_0 (w : World) : (Instr.index 196 (.agg #[.string ⟨#[70, 82, 69, 81]⟩, .func (.func 156) #[] #[], .func (.func 157) #[] #[], .string ⟨#[73, 78, 84, 69, 82, 86, 65, 76]⟩, .func (.func 158) #[] #[], .func (.func 159) #[] #[], .string ⟨#[67, 79, 85, 78, 84]⟩, .func (.func 160) #[] #[], .func (.func 161) #[] #[], .string ⟨#[85, 78, 84, 73, 76]⟩, .func (.func 162) #[] #[], .func (.func 163) #[] #[], .string ⟨#[66, 89, 77, 79, 78, 84, 72]⟩, .func (.func 164) #[] #[], .func (.func 165) #[] #[], .string ⟨#[66, 89, 77, 79, 78, 84, 72, 68, 65, 89]⟩, .func (.func 166) #[] #[], .func (.func 167) #[] #[], .string ⟨#[66, 89, 68, 65, 89]⟩, .func (.func 168) #[] #[], .func (.func 169) #[] #[], .string ⟨#[66, 89, 83, 69, 84, 80, 79, 83]⟩, .func (.func 170) #[] #[], .func (.func 171) #[] #[], .string ⟨#[87, 75, 83, 84]⟩, .func (.func 172) #[] #[], .func (.func 173) #[] #[]]) (.int .i64 0)).run Tryz.prog w = .ok (.agg #[.string ⟨#[70, 82, 69, 81]⟩, .func (.func 156) #[] #[], .func (.func 157) #[] #[]]) w := by kernel_rfl
theorem ix196_1 (w : World) : (Instr.index 196 (.agg #[.string ⟨#[70, 82, 69, 81]⟩, .func (.func 156) #[] #[], .func (.func 157) #[] #[], .string ⟨#[73, 78, 84, 69, 82, 86, 65, 76]⟩, .func (.func 158) #[] #[], .func (.func 159) #[] #[], .string ⟨#[67, 79, 85, 78, 84]⟩, .func (.func 160) #[] #[], .func (.func 161) #[] #[], .string ⟨#[85, 78, 84, 73, 76]⟩, .func (.func 162) #[] #[], .func (.func 163) #[] #[], .string ⟨#[66, 89, 77, 79, 78, 84, 72]⟩, .func (.func 164) #[] #[], .func (.func 165) #[] #[], .string ⟨#[66, 89, 77, 79, 78, 84, 72, 68, 65, 89]⟩, .func (.func 166) #[] #[], .func (.func 167) #[] #[], .string ⟨#[66, 89, 68, 65, 89]⟩, .func (.func 168) #[] #[], .func (.func 169) #[] #[], .string ⟨#[66, 89, 83, 69, 84, 80, 79, 83]⟩, .func (.func 170) #[] #[], .func (.func 171) #[] #[], .string ⟨#[87, 75, 83, 84]⟩, .func (.func 172) #[] #[], .func (.func 173) #[] #[]]) (.int .i64 1)).run Tryz.prog w = .ok (.agg #[.string ⟨#[73, 78, 84, 69, 82, 86, 65, 76]⟩, .func (.func 158) #[] #[], .func (.func 159) #[] #[]]) w := by kernel_rfl
theorem ix196_2 (w : World) : (Instr.index 196 (.agg #[.string ⟨#[70, 82, 69, 81]⟩, .func (.func 156) #[] #[], .func (.func 157) #[] #[], .string ⟨#[73, 78, 84, 69, 82, 86, 65, 76]⟩, .func (.func 158) #[] #[], .func (.func 159) #[] #[], .string ⟨#[67, 79, 85, 78, 84]⟩, .func (.func 160) #[] #[], .func (.func 161) #[] #[], .string ⟨#[85, 78, 84, 73, 76]⟩, .func (.func 162) #[] #[], .func (.func 163) #[] #[], .string ⟨#[66, 89, 77, 79, 78, 84, 72]⟩, .func (.func 164) #[] #[], .func (.func 165) #[] #[], .string ⟨#[66, 89, 77, 79, 78, 84, 72, 68, 65, 89]⟩, .func (.func 166) #[] #[], .func (.func 167) #[] #[], .string ⟨#[66, 89, 68, 65, 89]⟩, .func (.func 168) #[] #[], .func (.func 169) #[] #[], .string ⟨#[66, 89, 83, 69, 84, 80, 79, 83]⟩, .func (.func 170) #[] #[], .func (.func 171) #[] #[], .string ⟨#[87, 75, 83, 84]⟩, .func (.func 172) #[] #[], .func (.func 173) #[] #[]]) (.int .i64 2)).run Tryz.prog w = .ok (.agg #[.string ⟨#[67, 79, 85, 78, 84]⟩, .func (.func 160) #[] #[], .func (.func 161) #[] #[]]) w := by kernel_rfl

theorem setCells3 (w : World) (u0 u1 u2 v0 v1 v2 : Value) (T : TypeId) : (w.alloc (.cells #[u0, u1, u2] T)).setCells w.heap.size 0 [v0, v1, v2] = w.alloc (.cells #[v0, v1, v2] T) := by
  simp [World.setCells, World.setCell_alloc_new]
theorem wpList_store195 {ops : Array Oper} {rest : List Oper} {op : Oper} {a : Act} {w : World} {Q : Exit → Act → World → Prop} (hgd : op.guard = none) (x y : Operand) (ho : op.op = .store 195 x y)
    (v0 v1 v2 : Value) (hx : a.eval x = .pointer (some ⟨w.heap.size, 0, none⟩)) (hy : a.eval y = .agg #[v0, v1, v2]) (h1 : #[v0, v1, v2].all (·.oneCell') = true)
    (h : wpList Tryz.prog ops Q rest (a.put op.dst undef) (w.alloc (.cells #[v0, v1, v2] 195))) : wpList Tryz.prog ops Q (op :: rest) a (w.alloc (.cells #[.string ⟨#[]⟩, .nilFunc, .nilFunc] 195)) := by
  refine wpList_store_mid hgd 195 x y ho w.heap.size 0 #[v0, v1, v2] hx hy (there_new _ _ _ _ (by rfl)) (by kernel_rfl) h1 ?_
  rw [setCells3]; exact h

theorem FNg {w w' : World} {R : Nat} (h : FN w) (hg : w.grownBy w' (some R)) (hR : 35 ≤ R) : FN w' :=
  ⟨gcell hg h.n0 (by simp; omega), gcell hg h.n1 (by simp; omega), gcell hg h.n2 (by simp; omega), gcell hg h.n3 (by simp; omega)⟩

set_option maxRecDepth 100000 in
set_option maxHeartbeats 8000000 in
theorem part_freq (R : Nat) (b0 b1 b2 b3 b4 b5 b6 b7 b8 b9 b10 b11 b12 b13 b15 b16 b17 b18 b19 b20 b21 b22 : Value) (p : ByteArray) (m : Int) (w : World) (hf : FN w) (h : w.heap[R]? = some (.cells #[b0, b1, b2, b3, b4, b5, b6, b7, b8, b9, b10, b11, b12, b13, .bool false, b15, b16, b17, b18, b19, b20, b21, b22] 165 (0, 0))) (hm : w.cell? ⟨32, 0, none⟩ = some (.int .i64 m)) (hR : 35 ≤ R) (hp : p.size ≤ 4000)
    (hcut : Lib.cut p.data.toList [61] = ([70, 82, 69, 81], (ByteArray.data ⟨#[68, 65, 73, 76, 89]⟩).toList, true)) :
    Calls Tryz.prog 102 #[.pointer (some ⟨R, 0, none⟩), .string p] w fun e w' => e = .returned .nilIface ∧ w'.heap[R]? = some (.cells #[b0, b1, .int .i64 1, b3, b4, b5, b6, b7, b8, b9, b10, b11, b12, b13, .bool true, b15, b16, b17, b18, b19, b20, b21, b22] 165 (0, 0)) ∧ w.grownBy w' (some R) := by
  have cC : Calls Tryz.prog 134 #[.string p, .string ⟨#[61]⟩] w fun e w' => e = .returned (.tuple #[.string ⟨#[70, 82, 69, 81]⟩, .string ⟨#[68, 65, 73, 76, 89]⟩, .bool true]) ∧ ∃ q, w' = w.drewN q := by
    have := Tryz.strings_Cut p ⟨#[61]⟩ m w (by omega) hm
    simp only at this
    rw [hcut] at this
    exact this
  have hRl := hlt h
  have HH : Hid (w.heap[R]? = some (.cells #[b0, b1, b2, b3, b4, b5, b6, b7, b8, b9, b10, b11, b12, b13, .bool false, b15, b16, b17, b18, b19, b20, b21, b22] 165 (0, 0))) := h
  have HF : Hid (FN w) := hf
  clear hf
  clear hcut hm h
  go_enter Tryz.func102, Tryz.ntmps102
  go_wp2_with (first | (go_at_call 134; refine cC.mono ?_; clear cC; rintro e w1 ⟨rfl, q1, rfl⟩) | (go_at_call 115; refine (parts_any _).mono ?_; rintro e w2 ⟨rfl, hb2⟩))
  have hb0 : Below w.heap.size w w2 := ⟨hb2.os, hb2.tape, hb2.output, hb2.size, hb2.block⟩
  clear hb2
  go_loopw [18] (fun i wr => ∃ j : Nat, j ≤ 0 ∧ i = .int .i64 j ∧ Below w.heap.size w wr) (fun i _ => 1 - (intOf i).toNat)
  case atStart => exact ⟨0, by omega, rfl, hb0⟩
  case round =>
    obtain ⟨j, hj, rfl, hbr⟩ := hrel
    have i0 := ix196_0 wr
    have i1 := ix196_1 wr
    have i2 := ix196_2 wr
    obtain rfl : j = 0 := by omega
    · have hWr := hbel HH.out hbr
      have s0 := hc hWr 14 rfl
      have f0 := Lib.frozen_of_heap hWr 14
      have hRr := hlt hWr
      have hRn : R ≠ wr.heap.size := by omega
      have HWr : Hid (wr.heap[R]? = some (.cells #[b0, b1, b2, b3, b4, b5, b6, b7, b8, b9, b10, b11, b12, b13, .bool false, b15, b16, b17, b18, b19, b20, b21, b22] 165 (0, 0))) := hWr
      clear hWr
      go_wp2_with (refine wpList_store195 (by rfl) (.tmp 9) (.tmp 21) (by rfl) _ _ _ (by rfl) (by rfl) (by kernel_rfl) ?_)
      have hW5 : ((wr.setCell ⟨R, 14, none⟩ (.bool true)).alloc (.cells #[.string ⟨#[70, 82, 69, 81]⟩, .func (.func 156) #[] #[], .func (.func 157) #[] #[]] 195)).heap[R]? = some (.cells #[b0, b1, b2, b3, b4, b5, b6, b7, b8, b9, b10, b11, b12, b13, .bool true, b15, b16, b17, b18, b19, b20, b21, b22] 165 (0, 0)) := (Below.heap_alloc _ _ _ (hlt (hset HWr.out 14 (.bool true)))).trans (hset HWr.out 14 _)
      have g5 : w.grownBy ((wr.setCell ⟨R, 14, none⟩ (.bool true)).alloc (.cells #[.string ⟨#[70, 82, 69, 81]⟩, .func (.func 156) #[] #[], .func (.func 157) #[] #[]] 195)) (some R) := gb_trans ⟨hbr.os, hbr.tape, hbr.output, hbr.size, fun k hk _ => hbr.block k hk⟩ (gb_trans (gb_set _ _ _ _) (World.grownBy_alloc _ _ _))
      have k1 : ((wr.setCell ⟨R, 14, none⟩ (.bool true)).alloc (.cells #[.string ⟨#[70, 82, 69, 81]⟩, .func (.func 156) #[] #[], .func (.func 157) #[] #[]] 195)).cell? ⟨wr.heap.size, 1, none⟩ = some (.func (.func 156) #[] #[]) := by
        have hz : (wr.setCell ⟨R, 14, none⟩ (.bool true)).heap.size = wr.heap.size := by simp [World.setCell]
        have := hc (heap_alloc_new (wr.setCell ⟨R, 14, none⟩ (.bool true)) (.cells #[.string ⟨#[70, 82, 69, 81]⟩, .func (.func 156) #[] #[], .func (.func 157) #[] #[]] 195)) 1 rfl
        rw [hz] at this
        exact this
      have HW5 : Hid _ := hW5
      have G5 : Hid _ := g5
      clear hW5 g5 s0 f0 i0 i1 i2
      generalize (wr.setCell ⟨R, 14, none⟩ (.bool true)).alloc (.cells #[.string ⟨#[70, 82, 69, 81]⟩, .func (.func 156) #[] #[], .func (.func 157) #[] #[]] 195) = W5 at *
      have cF : Hid (∀ wx, W5.heap = wx.heap → W5.grownBy wx none → Calls Tryz.prog 156 #[.pointer (some ⟨R, 2, none⟩), .string ⟨#[68, 65, 73, 76, 89]⟩] wx fun e w' => e = .returned .nilIface ∧ w'.heap[R]? = some (.cells #[b0, b1, .int .i64 1, b3, b4, b5, b6, b7, b8, b9, b10, b11, b12, b13, .bool true, b15, b16, b17, b18, b19, b20, b21, b22] 165 (0, 0)) ∧ wx.grownBy w' (some R)) := fun wx hx hg => by
        have hWx : wx.heap[R]? = some (.cells #[b0, b1, b2, b3, b4, b5, b6, b7, b8, b9, b10, b11, b12, b13, .bool true, b15, b16, b17, b18, b19, b20, b21, b22] 165 (0, 0)) := by rw [← hx]; exact HW5.out
        refine (readFreq_daily R _ wx (FNg HF.out (gb_trans G5.out (gb_none hg _)) hR) (hc hWx 2 rfl) (Lib.frozen_of_heap hWx 2)).mono ?_
        rintro e w' ⟨rfl, rfl⟩
        exact ⟨rfl, hset hWx 2 _, gb_set _ _ _ _⟩
      go_region_with (first | (go_at_call 156; refine (cF.out W5.drew rfl (gb_drew _ _)).mono ?_; rintro e w7 ⟨rfl, hW7, hg7⟩))
      go_wp2
      go_ret
      exact ⟨rfl, hW7, gb_trans G5.out (gb_trans (gb_drew _ _) hg7)⟩

end Go.Proofs.YtmmnbdefkailpaaGreatDoor
