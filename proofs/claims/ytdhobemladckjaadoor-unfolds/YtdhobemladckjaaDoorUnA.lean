/- Package pieces: the reader: Done, Place, Next, Wrong, Of. -/
import Derived.Test.YtdhobemladckjaaDoorProgA
import Derived.Test.YtdhobemladckjaaDoorShelf2
import Derived.Lib.CutLaws
import Derived.Deep.QuietTactic
import Derived.BigQuiet
namespace Go.Proofs.YtdhobemladckjaaDoor
open Go.RowKit
set_option linter.unusedVariables false

/-- the reader's block -/
def RdAt (R : Nat) (p : Int) (t : ByteArray) (w : World) : Prop := w.heap[R]? = some (.cells #[.int .i64 p, .string t] 62 (0, 0))

theorem RdAt.c0 {R : Nat} {p : Int} {t : ByteArray} {w : World} (h : RdAt R p t w) : w.cell? ⟨R, 0, none⟩ = some (.int .i64 p) := by rw [Lib.cell_of_heap h]; rfl
theorem RdAt.c1 {R : Nat} {p : Int} {t : ByteArray} {w : World} (h : RdAt R p t w) : w.cell? ⟨R, 1, none⟩ = some (.string t) := by rw [Lib.cell_of_heap h]; rfl
theorem RdAt.f0 {R : Nat} {p : Int} {t : ByteArray} {w : World} (h : RdAt R p t w) : w.frozen? ⟨R, 0, none⟩ = false := Lib.frozen_of_heap h 0
theorem RdAt.f1 {R : Nat} {p : Int} {t : ByteArray} {w : World} (h : RdAt R p t w) : w.frozen? ⟨R, 1, none⟩ = false := Lib.frozen_of_heap h 1
theorem RdAt.lt {R : Nat} {p : Int} {t : ByteArray} {w : World} (h : RdAt R p t w) : R < w.heap.size := World.block_lt_of_cell? _ _ h.c0
theorem RdAt.set0 {R : Nat} {p : Int} {t : ByteArray} {w : World} (h : RdAt R p t w) (q : Int) : RdAt R q t (w.setCell ⟨R, 0, none⟩ (.int .i64 q)) := by
  have := heap_setCell_same w R 0 _ 62 (.int .i64 q) h
  exact this
theorem RdAt.set1 {R : Nat} {p : Int} {t : ByteArray} {w : World} (h : RdAt R p t w) (u : ByteArray) : RdAt R p u (w.setCell ⟨R, 1, none⟩ (.string u)) := by
  have := heap_setCell_same w R 1 _ 62 (.string u) h
  exact this

theorem gb_refl (w : World) (r : Option Nat) : w.grownBy w r := ⟨rfl, rfl, rfl, Nat.le_refl _, fun _ _ _ => rfl⟩
theorem gb_trans {a b c : World} {r : Option Nat} (h : a.grownBy b r) (k : b.grownBy c r) : a.grownBy c r :=
  ⟨k.os.trans h.os, k.tape.trans h.tape, k.output.trans h.output, Nat.le_trans h.size k.size, fun i hi hne => (k.block i (Nat.lt_of_lt_of_le hi h.size) hne).trans (h.block i hi hne)⟩
theorem gb_set (w : World) (R o : Nat) (v : Value) : w.grownBy (w.setCell ⟨R, o, none⟩ v) (some R) :=
  ⟨rfl, rfl, rfl, by simp [World.setCell], fun k _ hk => Below.heap_setCell _ _ _ _ (fun e => hk (by simp [e]))⟩
theorem gb_drewN (w : World) (n : Nat) (r : Option Nat) : w.grownBy (w.drewN n) r := ⟨rfl, rfl, rfl, Nat.le_refl _, fun _ _ _ => rfl⟩
theorem gb_below {w w' : World} (h : Below w.heap.size w w') (r : Option Nat) : w.grownBy w' r := ⟨h.os, h.tape, h.output, h.size, fun k hk _ => h.block k hk⟩
theorem below_gb {w w' : World} {R B : Nat} (h : w.grownBy w' (some R)) (hB : B ≤ R) (hs : B ≤ w.heap.size) : Below B w w' :=
  ⟨h.os, h.tape, h.output, h.size, fun k hk => h.block k (by omega) (by intro e; have := Option.some.inj e; omega)⟩
theorem rd_below {R : Nat} {p : Int} {t : ByteArray} {w w' : World} (h : RdAt R p t w) (hb : Below w.heap.size w w') : RdAt R p t w' := by
  unfold RdAt; rw [hb.block R h.lt]; exact h

set_option maxRecDepth 100000 in
set_option maxHeartbeats 1000000 in
theorem done_any (R : Nat) (p : Int) (t : ByteArray) (w : World) (h : RdAt R p t w) :
    Calls Tryd.prog 23 #[.pointer (some ⟨R, 0, none⟩)] w fun e w' => e = .returned (.bool t.toList.isEmpty) ∧ w' = w := by
  have c1 := h.c1
  go_enter Tryd.func23, Tryd.ntmps23
  go_wp2
  go_ret
  exact ⟨rfl, rfl⟩

set_option maxRecDepth 100000 in
set_option maxHeartbeats 1000000 in
theorem place_any (R : Nat) (p : Int) (t : ByteArray) (w : World) (h : RdAt R p t w) :
    Calls Tryd.prog 35 #[.pointer (some ⟨R, 0, none⟩)] w fun e w' => e = .returned (.int .i64 p) ∧ w' = w := by
  have c0 := h.c0
  go_enter Tryd.func35, Tryd.ntmps35
  go_wp2
  go_ret
  exact ⟨rfl, rfl⟩

set_option maxRecDepth 100000 in
set_option maxHeartbeats 1000000 in
theorem next_any (R : Nat) (p : Nat) (t : ByteArray) (m : Int) (w : World) (h : RdAt R p t w) (hp : p ≤ 4000) (ht : t.size ≤ 4000) (hR : 8 < R) (hm : w.cell? ⟨8, 0, none⟩ = some (.int .i64 m)) :
    Calls Tryd.prog 33 #[.pointer (some ⟨R, 0, none⟩), .string ⟨#[10]⟩] w fun e w' => e = .returned (.tuple #[.string ⟨(Lib.cut t.data.toList [10]).1.toArray⟩, .bool (Lib.cut t.data.toList [10]).2.2]) ∧ RdAt R ((p : Int) + 1) ⟨(Lib.cut t.data.toList [10]).2.1.toArray⟩ w' ∧ w.grownBy w' (some R) := by
  have c0 := h.c0
  have c1 := h.c1
  have f0 := h.f0
  have f1 := h.f1
  have cC := strings_Cut t ⟨#[10]⟩ m w (by omega) hm
  go_enter Tryd.func33, Tryd.ntmps33
  go_wp2_with (go_at_call 43; refine cC.mono ?_; rintro e w1 ⟨rfl, n1, rfl⟩)
  go_ret2
  exact ⟨rfl, ((h.set0 _).set1 _), gb_trans (gb_trans (gb_set _ _ _ _) (gb_set _ _ _ _)) (gb_drewN _ n1 _)⟩

set_option maxRecDepth 100000 in
set_option maxHeartbeats 1000000 in
theorem wrong_any (R : Nat) (p : Int) (t : ByteArray) (tv : TypeId) (av : Addr) (w : World) (h : RdAt R p t w) :
    Calls Tryd.prog 25 #[.pointer (some ⟨R, 0, none⟩), .iface tv (.pointer (some av))] w fun e w' => e = .returned (.iface 65 (.pointer (some ⟨w.heap.size, 0, none⟩))) ∧ w' = w.alloc (.cells #[.int .i64 p, .iface tv (.pointer (some av))] 69) := by
  have c0 := h.c0
  go_enter Tryd.func25, Tryd.ntmps25
  go_wp2
  go_ret
  exact ⟨rfl, rfl⟩

set_option maxRecDepth 100000 in
set_option maxHeartbeats 1000000 in
theorem of_any (t : ByteArray) (w : World) :
    Calls Tryd.prog 21 #[.string t] w fun e w' => e = .returned (.agg #[.int .i64 0, .string t]) ∧ Below w.heap.size w w' := by
  go_enter Tryd.func21, Tryd.ntmps21
  go_wp2
  exact bodyPost_ret (v := .agg #[.int .i64 0, .string t]) (by simp [results, Tryd.results21, go_sem]) rfl ⟨rfl, (Below.refl _ _).alloc (Nat.le_refl _) _⟩

set_option maxRecDepth 100000 in
set_option maxHeartbeats 1000000 in
theorem clone_any (s : ByteArray) (w : World) (hs : s.size ≤ 4000) :
    Calls Tryd.prog 22 #[.string s] w fun e w' => e = .returned (.string s) ∧ Below w.heap.size w w' := by
  have cC := stringslite_Clone s w (by omega)
  go_enter Tryd.func22, Tryd.ntmps22
  go_wp2_with (go_at_call 32; refine cC.mono ?_; rintro e w1 ⟨rfl, hb⟩)
  go_ret
  exact ⟨rfl, hb⟩
end Go.Proofs.YtdhobemladckjaaDoor
