/- The law's harness: an append of a mark to a list of marks; keepTexts. -/
import Derived.Test.YtdhobemladckjaaDoorKpA
namespace Go.Proofs.YtdhobemladckjaaDoor
open Go.RowKit
set_option linter.unusedVariables false

theorem rep_snoc {α : Type} (n : Nat) (x : α) : List.replicate n x ++ [x] = List.replicate (n + 1) x := by
  rw [List.replicate_succ']

theorem wpList_app_mark (w : World) {ops : Array Oper} {rest : List Oper} {o : Oper} {a : Act} {Q : Exit → Act → World → Prop} (hgd : o.guard = none) (s x : Operand)
    (hop : o.op = Op.call { callee := Callee.builtin Builtin.append, args := #[s, x], argTypes := #[22, 22] }) (B n : Nat) (gv : Value) (m : ByteArray) (hs : a.eval s = gv)
    (hown : w.ownsRow B 9 1 gv n (List.replicate n (.string m))) (ad : Addr) (c : Nat) (hx : a.eval x = .slice (some ad) 1 c) (hc : w.cell? ad = some (.string m)) (hn : n ≤ 5000) (hB : B ≤ w.heap.size)
    (hK : ∀ v' w', w'.ownsRow B 9 1 v' (n + 1) (List.replicate (n + 1) (.string m)) → w.grownBy w' gv.ownBlock → (∀ v, MarkedAt w v m → MarkedAt w' v m) → wpList Tryd.prog ops Q rest (a.put o.dst v') w') :
    wpList Tryd.prog ops Q (o :: rest) a w := by
  obtain ⟨i0, hi, hz0, hz1, hz2⟩ := info_parts strInfo'
  have hcs : ∀ j u, ([Value.string m] : List Value)[j]? = some u → w.cell? (ad.add j) = some u := by
    intro j u hj
    cases j with
    | zero => simp at hj; subst hj; simpa [Addr.add] using hc
    | succ j => simp at hj
  have h1c : ∀ u ∈ ([Value.string m] : List Value), u.oneCell' = true := by intro u hu; simp at hu; subst hu; rfl
  have hgr : ∀ v' w', w'.ownsRow w.heap.size 9 1 v' (n + 1) (List.replicate n (Value.string m) ++ [.string m]) → w.grownBy w' none → wpList Tryd.prog ops Q rest (a.put o.dst v') w' := by
    intro v' w' ho hg
    rw [rep_snoc] at ho
    have ho' : w'.ownsRow B 9 1 v' (n + 1) (List.replicate (n + 1) (.string m)) := by
      obtain ⟨hl, h⟩ := ho
      refine ⟨hl, ?_⟩
      rcases h with h | ⟨g, cap, cur, h1, h2, h3⟩
      · exact .inl h
      · exact .inr ⟨g, cap, cur, h1, by omega, h3⟩
    exact hK v' w' ho' ⟨hg.os, hg.tape, hg.output, hg.size, fun k hk _ => hg.block k hk (by simp)⟩ (fun v hv => hv.keep (fun B => K9.of_gb hg (fun g cs e => by simp at e) B))
  have hown0 := hown
  obtain ⟨hl, h⟩ := hown
  rcases h with ⟨rfl, h0⟩ | ⟨g, cap, cur, rfl, h2, h3, h4, h5, h6, h7⟩
  · subst h0
    exact wpList_append_grows w hgd s x 22 hop 9 i0 (.string ⟨#[]⟩) 1 16 Tryd.underlying22 hi hz0 hz1 hz2 rfl (by decide) none 0 0 [] hs (fun _ => ⟨rfl, rfl⟩) rfl (fun b hb => by simp at hb) ad 1 c [.string m] hx rfl hcs h1c (by decide) (by decide) (by decide) (fun v' w' h1 h2 => hgr v' w' (by simpa using h1) h2)
  · refine wpList_append_arg w hgd s x 22 hop 9 i0 (.string ⟨#[]⟩) 1 16 Tryd.underlying22 hi hz0 hz1 hz2 rfl (by decide) g 0 n cap (List.replicate n (.string m)) hs (by simp) ?_ ad 1 c [.string m] hx rfl hcs h1c ?_ (by unfold maxLen; omega) (by omega) ?_ (fun _ v' w' h1 h2 => hgr v' w' h1 h2)
    · intro j u hj
      rw [Nat.zero_add]; exact own_cells hown0 j u hj
    · intro hr j hj
      have hj0 : j = 0 := by simp at hj; omega
      subst hj0
      simp only [Nat.mul_one, Nat.zero_add, Nat.add_zero] at *
      exact ⟨by rw [Lib.cell_of_heap h3, Array.getElem?_eq_getElem (by omega)]; rfl, Lib.frozen_of_heap h3 n⟩
    · intro hr
      have hset : w.setCells g (0 + n * 1) [.string m] = w.setCell ⟨g, n, none⟩ (.string m) := by
        simp only [Nat.zero_add, Nat.mul_one]; rfl
      rw [hset]
      refine hK _ _ ?_ (gb_set w g n _) (fun v hv => hv.set g n)
      refine ⟨by simp, .inr ⟨g, cap, cur.setIfInBounds n (.string m), rfl, h2, heap_setCell_same w g n cur 9 _ h3, hr, h5, by simpa using h6, ?_⟩⟩
      rw [Nat.mul_one] at h7 ⊢
      rw [Array.toList_setIfInBounds, ← rep_snoc, ← h7]
      have hnc : n < cur.toList.length := by rw [Array.length_toList]; omega
      rw [List.take_succ_eq_append_getElem (by simpa using hnc), List.take_set_of_le (Nat.le_refl _)]
      simp
end Go.Proofs.YtdhobemladckjaaDoor
