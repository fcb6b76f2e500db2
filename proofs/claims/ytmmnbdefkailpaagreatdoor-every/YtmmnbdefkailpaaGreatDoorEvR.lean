/- Package event: the start is one of the rule's dates. -/
import Derived.Test.YtmmnbdefkailpaaGreatDoorEvQ
import Derived.Test.YtmmnbdefkailpaaGreatDoorEvP

namespace Go.Proofs.YtmmnbdefkailpaaGreatDoor
open Go.RowKit Cal
set_option linter.unusedVariables false

set_option maxRecDepth 100000 in
set_option maxHeartbeats 4000000 in
theorem st10 (B g cc : Nat) (a0 a1 a2 a3 a4 a5 a7 a8 a9 a10 a11 a12 a14 a15 a16 a27 a28 : Value) (ev ct n c : Int) (w : World) (ht : Tab w) (h1 : -25567 ≤ n) (h2 : n ≤ 84005) (h3 : 0 ≤ c) (h4 : c < 86400)
    (h : w.heap[B]? = some (.cells #[a0, a1, a2, a3, a4, a5, .slice (some ⟨g, 0, none⟩) 1 cc, a7, a8, a9, a10, a11, a12, .int .i64 (n * 86400 + c), a14, a15, a16, .int .i64 1, .int .i64 ev, .int .i64 ct, .int .i64 0, .bool false, .slice none 0 0, .slice none 0 0, .slice none 0 0, .slice none 0 0, .int .i64 0, a27, a28] 65 (0, 0))) :
    Calls Tryz.prog 62 #[.pointer (some ⟨B, 0, none⟩)] w fun e w' => e = .returned .nilIface ∧ w'.heap[B]? = some (.cells #[a0, a1, a2, a3, a4, a5, .slice (some ⟨g, 0, none⟩) 1 cc, a7, a8, a9, a10, a11, a12, .int .i64 (n * 86400 + c), a14, a15, a16, .int .i64 1, .int .i64 ev, .int .i64 ct, .int .i64 0, .bool false, .slice none 0 0, .slice none 0 0, .slice none 0 0, .slice none 0 0, .int .i64 0, a27, a28] 65 (0, 0)) ∧ w.grownBy w' (some B) := by
  have HB : Hid (w.heap[B]? = some (.cells #[a0, a1, a2, a3, a4, a5, .slice (some ⟨g, 0, none⟩) 1 cc, a7, a8, a9, a10, a11, a12, .int .i64 (n * 86400 + c), a14, a15, a16, .int .i64 1, .int .i64 ev, .int .i64 ct, .int .i64 0, .bool false, .slice none 0 0, .slice none 0 0, .slice none 0 0, .slice none 0 0, .int .i64 0, a27, a28] 65 (0, 0))) := h
  have HT : Hid (∀ wx, Below w.heap.size w wx → Tab wx) := fun wx hb => ht.below hb
  have HG : Hid (∀ wx, Tab wx → Calls Tryz.prog 105 #[.int .i64 (n * 86400 + c), rulA ev ct] wx fun e w' => e = .returned (.bool true) ∧ Below wx.heap.size wx w') := fun wx hx => begins_daily ev ct n c wx hx h1 h2 h3 h4
  have H5 : Hid (∀ wx, wx.cell? ⟨B, 6, none⟩ = some (.slice (some ⟨g, 0, none⟩) 1 cc) → Calls Tryz.prog 92 #[.pointer (some ⟨B, 0, none⟩), .int .i64 5] wx fun e w' => e = .returned (.bool true) ∧ w' = wx) := fun wx hx => has5 B _ 1 cc wx (by omega) hx
  have HK : Hid (∀ w', Below w.heap.size w w' → w'.cell? ⟨B, 6, none⟩ = some (.slice (some ⟨g, 0, none⟩) 1 cc) ∧ w'.cell? ⟨B, 13, none⟩ = some (.int .i64 (n * 86400 + c)) ∧ w'.cell? ⟨B, 17, none⟩ = some (.int .i64 1) ∧ w'.cell? ⟨B, 18, none⟩ = some (.int .i64 ev) ∧ w'.cell? ⟨B, 19, none⟩ = some (.int .i64 ct) ∧ w'.cell? ⟨B, 20, none⟩ = some (.int .i64 0) ∧ w'.cell? ⟨B, 21, none⟩ = some (.bool false) ∧ w'.cell? ⟨B, 22, none⟩ = some (.slice none 0 0) ∧ w'.cell? ⟨B, 23, none⟩ = some (.slice none 0 0) ∧ w'.cell? ⟨B, 24, none⟩ = some (.slice none 0 0) ∧ w'.cell? ⟨B, 25, none⟩ = some (.slice none 0 0) ∧ w'.cell? ⟨B, 26, none⟩ = some (.int .i64 0)) := fun wx hb => by
    have h9 := hbel h hb
    exact ⟨hc h9 6 rfl, hc h9 13 rfl, hc h9 17 rfl, hc h9 18 rfl, hc h9 19 rfl, hc h9 20 rfl, hc h9 21 rfl, hc h9 22 rfl, hc h9 23 rfl, hc h9 24 rfl, hc h9 25 rfl, hc h9 26 rfl⟩
  clear h h1 h2 h3 h4 ht
  generalize n * 86400 + c = T at *
  go_enter Tryz.func62, Tryz.ntmps62
  go_wp2
  go_region_held3 (fun w' => w'.cell? ⟨B, 6, none⟩ = some (.slice (some ⟨g, 0, none⟩) 1 cc) ∧ w'.cell? ⟨B, 13, none⟩ = some (.int .i64 T) ∧ w'.cell? ⟨B, 17, none⟩ = some (.int .i64 1) ∧ w'.cell? ⟨B, 18, none⟩ = some (.int .i64 ev) ∧ w'.cell? ⟨B, 19, none⟩ = some (.int .i64 ct) ∧ w'.cell? ⟨B, 20, none⟩ = some (.int .i64 0) ∧ w'.cell? ⟨B, 21, none⟩ = some (.bool false) ∧ w'.cell? ⟨B, 22, none⟩ = some (.slice none 0 0) ∧ w'.cell? ⟨B, 23, none⟩ = some (.slice none 0 0) ∧ w'.cell? ⟨B, 24, none⟩ = some (.slice none 0 0) ∧ w'.cell? ⟨B, 25, none⟩ = some (.slice none 0 0) ∧ w'.cell? ⟨B, 26, none⟩ = some (.int .i64 0)) (first | exact HK.out _ (Below.refl _ _).drew | exact HK.out _ hb4) ((first | (go_at_call 92; refine (H5.out _ (HK.out _ (Below.refl _ _).drew).1).mono ?_; rintro e wz ⟨rfl, rfl⟩) | (go_at_call 105; refine (HG.out _ (HT.out _ (Below.refl _ _).drew)).mono ?_; rintro e w3 ⟨rfl, hb3⟩; have hb4 : Below w.heap.size w w3 := (Below.refl w.heap.size w).drew.trans hb3)))
  go_wp2
  go_ret
  exact ⟨rfl, hbel HB.out hb4, ⟨hb4.os, hb4.tape, hb4.output, hb4.size, fun k hk _ => hb4.block k hk⟩⟩
end Go.Proofs.YtmmnbdefkailpaaGreatDoor
