/- The law's harness: keepTexts. -/
import Derived.Test.YtdhobemladckjaaDoorKpB
namespace Go.Proofs.YtdhobemladckjaaDoor
open Go.RowKit
set_option linter.unusedVariables false

theorem slsInfo : (Tryd.prog.info? 22).map (fun i => (i.zero, i.size, i.bytes)) = some (some (.slice none 0 0), 1, 24) := by kernel_rfl
theorem mix_set {k : Nat} {m : Value} {l : List Value} (hk : k < l.length) : (List.replicate k m ++ l.drop k).set k m = List.replicate (k + 1) m ++ l.drop (k + 1) := by
  rw [List.set_append_right _ _ (by simp)]
  simp only [List.length_replicate, Nat.sub_self]
  rw [List.drop_eq_getElem_cons hk]
  simp only [List.set_cons_zero]
  rw [← rep_snoc]; simp
theorem blk_ne {w : World} {a b : Nat} {ca cb : Array Value} {ta tb : TypeId} {fa fb : Nat × Nat} (h1 : w.heap[a]? = some (.cells ca ta fa)) (h2 : w.heap[b]? = some (.cells cb tb fb)) (h : ta ≠ tb) : a ≠ b := by
  intro e; subst e; rw [h1] at h2; simp only [Option.some.injEq, Obj.cells.injEq] at h2; exact h h2.2.1

/-- the book that keeps lists of texts alone -/
def BkAt (K : Nat) (tv : Value) (w : World) : Prop := w.heap[K]? = some (.cells #[tv, .slice none 0 0, .slice none 0 0, .slice none 0 0] 32 (0, 0))
theorem BkAt.gb {K : Nat} {tv : Value} {w w' : World} {r : Option Nat} (h : BkAt K tv w) (hg : w.grownBy w' r) (hne : some K ≠ r) : BkAt K tv w' := by
  unfold BkAt; rw [hg.block K (lt_of_heap h) hne]; exact h
theorem own_blk {w : World} {B e n : Nat} {v : Value} {xs : List Value} (h : w.ownsRow B e 1 v n xs) : ∀ g, v.ownBlock = some g → ∃ c, w.heap[g]? = some (.cells c e (0, 0)) := by
  intro g hg
  obtain ⟨_, h⟩ := h
  rcases h with ⟨rfl, _⟩ | ⟨g', cap, cur, rfl, _, h3, _⟩
  · simp [Value.ownBlock] at hg
  · simp only [Value.ownBlock, Option.some.injEq] at hg; subst hg; exact ⟨cur, h3⟩
theorem bk_ne_own {K : Nat} {tv : Value} {w : World} {B e n : Nat} {v : Value} {xs : List Value} (h : BkAt K tv w) (ho : w.ownsRow B e 1 v n xs) (he : e ≠ 32) : some K ≠ v.ownBlock := by
  intro e'
  obtain ⟨c, hc⟩ := own_blk ho K e'.symm
  exact blk_ne h hc (fun x => he x.symm) rfl
theorem own_ne_own {w : World} {B B' e e' n n' : Nat} {v v' : Value} {xs xs' : List Value} (h : w.ownsRow B e 1 v n xs) (h' : w.ownsRow B' e' 1 v' n' xs') (hne : e ≠ e') : v.ownBlock = none ∨ v.ownBlock ≠ v'.ownBlock := by
  cases hb : v.ownBlock with
  | none => exact .inl rfl
  | some g =>
    right
    intro e1
    obtain ⟨c, hc⟩ := own_blk h g hb
    obtain ⟨c', hc'⟩ := own_blk h' g e1.symm
    exact blk_ne hc hc' hne rfl
theorem own_slice {w : World} {B e n : Nat} {v : Value} {xs : List Value} (h : w.ownsRow B e 1 v n xs) : ∃ a cap, v = .slice a n cap := by
  obtain ⟨_, h⟩ := h
  rcases h with ⟨rfl, h0⟩ | ⟨g, cap, cur, rfl, _⟩
  · exact ⟨none, 0, by rw [h0]⟩
  · exact ⟨_, _, rfl⟩

set_option maxRecDepth 100000 in
set_option maxHeartbeats 4000000 in
theorem keep_0 (K B0 B1 : Nat) (tv vl : Value) (vs : List Value) (ms : List ByteArray) (w : World) (hK : BkAt K tv w) (htx : w.ownsRow B0 22 1 tv 0 vs) (hlw : w.ownsRow B1 9 1 vl ms.length (ms.map Value.string)) (hms : ms.length ≤ 4000)
    (hK0 : B0 ≤ K) (hB01 : B0 ≤ B1) (hB1 : B1 ≤ w.heap.size) :
    Calls Tryd.prog 9 #[.pointer (some ⟨K, 0, none⟩), vl] w fun e w' => e = .returned (.tuple #[]) ∧ ∃ tv' vs', BkAt K tv' w' ∧ w'.ownsRow B0 22 1 tv' 4 (vs ++ vs') ∧ (∀ v ∈ vs', MarkedAt w' v ⟨#[126, 0, 0]⟩) ∧ Below B0 w w' ∧ K9 B1 w w' := by
  obtain ⟨i0, hi, hz0, hz1, hz2⟩ := info_parts slsInfo
  obtain ⟨ta, tcap, rfl⟩ := own_slice htx
  obtain ⟨la, lcap, hvl⟩ := own_slice hlw
  have c0 : w.cell? ⟨K, 0, none⟩ = some (.slice ta 0 tcap) := by rw [Lib.cell_of_heap hK]; rfl
  have hA : Below B0 w (w.alloc (.cells #[.int .u8 126, .int .u8 0, .int .u8 0] 5)) := (Below.refl _ _).alloc (by omega) _
  have hKA : BkAt K (.slice ta 0 tcap) (w.alloc (.cells #[.int .u8 126, .int .u8 0, .int .u8 0] 5)) := by
    unfold BkAt; rw [Lib.alloc_old _ _ _ (lt_of_heap hK)]; exact hK
  have hTA := htx.alloc (.cells #[.int .u8 126, .int .u8 0, .int .u8 0] 5)
  have hLA := hlw.alloc (.cells #[.int .u8 126, .int .u8 0, .int .u8 0] 5)
  have h9A : K9 B1 w (w.alloc (.cells #[.int .u8 126, .int .u8 0, .int .u8 0] 5)) := K9.of_below ((Below.refl _ _).alloc (Nat.le_refl _) _) _
  have hms' : (ms.length : Int) ≤ 4000 := by omega
  subst hvl
  clear hK htx hlw
  go_enter Tryd.func9, Tryd.ntmps9
  go_wp2_with (go_at_call 18; refine (mark_0 _).mono ?_; rintro e w1 ⟨rfl, rfl⟩)
  go_loopw [5] (fun i wr => ∃ k : Nat, k ≤ ms.length ∧ i = .int .i64 k ∧ BkAt K (.slice ta 0 tcap) wr ∧ wr.ownsRow B0 22 1 (.slice ta 0 tcap) 0 vs ∧ wr.ownsRow B1 9 1 (.slice la ms.length lcap) ms.length (List.replicate k (.string ⟨#[126, 0, 0]⟩) ++ (ms.map Value.string).drop k) ∧ Below B0 w wr ∧ K9 B1 w wr) (fun i _ => ms.length - (intOf i).toNat)
  case atStart => exact ⟨0, Nat.zero_le _, rfl, hKA, hTA, by simpa using hLA, hA, h9A⟩
  case round =>
    obtain ⟨k, hk, rfl, hKr, hTr, hLr, hBr, h9r⟩ := hrel
    by_cases hlt : k < ms.length
    · have hlt' : (k : Int) < ms.length := by omega
      obtain ⟨g, hla⟩ : ∃ g, la = some ⟨g, 0, none⟩ := by
        rcases hLr.2 with ⟨_, h0⟩ | ⟨g, cap, cur, hv, _⟩
        · omega
        · exact ⟨g, by simp only [Value.slice.injEq] at hv; exact hv.1⟩
      subst hla
      obtain ⟨u, hu⟩ : ∃ u, (List.replicate k (Value.string ⟨#[126, 0, 0]⟩) ++ (ms.map Value.string).drop k)[k]? = some u := ⟨_, List.getElem?_eq_getElem (by simp; omega)⟩
      have hc1 := own_cells hLr k u hu
      have hf1 := own_free hLr k
      have hset := own_set hLr hlt (.string ⟨#[126, 0, 0]⟩)
      rw [mix_set (by simpa using hlt)] at hset
      have hgb := gb_set wr g k (.string ⟨#[126, 0, 0]⟩)
      have hKs := hKr.gb hgb (bk_ne_own hKr hLr (by decide))
      have hTs := hTr.kept hgb ((own_ne_own hTr hLr (by decide)))
      have hBs : Below B0 w (wr.setCell ⟨g, k, none⟩ (.string ⟨#[126, 0, 0]⟩)) := hBr.setCell (p := ⟨g, k, none⟩) (by have := (hLr.lt g rfl).1; show B0 ≤ g; omega) _
      have h9s : K9 B1 w (wr.setCell ⟨g, k, none⟩ (.string ⟨#[126, 0, 0]⟩)) := h9r.trans (K9.of_gb_ge hgb B1 (fun k' e => by cases e; exact (hLr.lt g rfl).1))
      go_wp2
      go_roundw
      case rel => go_light; exact ⟨k + 1, by omega, by go_num, hKs, hTs, hset, hBs, h9s⟩
      case measure => go_light; simp [intOf]; omega
    · have hke : k = ms.length := by omega
      subst hke
      have hLr' : wr.ownsRow B1 9 1 (.slice la ms.length lcap) ms.length (List.replicate ms.length (.string ⟨#[126, 0, 0]⟩)) := by
        have : (ms.map Value.string).drop ms.length = [] := List.drop_of_length_le (by simp)
        rw [this, List.append_nil] at hLr; exact hLr
      clear hLr
      go_wp2
      go_loopw [6, 7] (fun gv i ws => ∃ (r : Nat) (tv' : Value) (vs' : List Value), r ≤ 4 ∧ i = .int .i64 r ∧ BkAt K tv' ws ∧ ws.ownsRow B0 22 1 tv' (r + 0) (vs ++ vs') ∧ (∀ v ∈ vs', MarkedAt ws v ⟨#[126, 0, 0]⟩) ∧ ws.ownsRow B1 9 1 gv (ms.length + r) (List.replicate (ms.length + r) (.string ⟨#[126, 0, 0]⟩)) ∧ Below B0 w ws ∧ K9 B1 w ws) (fun _ i _ => 4 - (intOf i).toNat)
      case atStart => exact ⟨0, _, [], Nat.zero_le _, rfl, hKr, by simpa using hTr, fun v hv => by simp at hv, hLr', hBr, h9r⟩
      case round =>
        obtain ⟨r, tv', vs', hr, rfl, hKs, hTs, hMs, hGs, hBs, h9s⟩ := hrel
        by_cases hr4 : r < 4
        · have hr4' : (r : Int) < 4 := by omega
          have ck : wr.cell? ⟨K, 0, none⟩ = some tv' := by rw [Lib.cell_of_heap hKs]; rfl
          obtain ⟨ta', tcap', htv'⟩ := own_slice hTs
          obtain ⟨ga, gcap, hgv⟩ := own_slice hGs
          subst htv' hgv
          have hKlt := lt_of_heap hKs
          have hBsz := hBs.size
          go_wp2_with (at_builtin; refine wpList_append_own _ rfl (.tmp 34) (.tmp 36) 27 rfl B0 22 i0 (.slice none 0 0) 1 24 Tryd.underlying27 hi hz0 hz1 hz2 rfl (by decide) _ _ _ rfl (hTs.alloc _) ⟨_, 0, none⟩ 1 1 [.slice ga (ms.length + r) gcap] rfl rfl (cell_one_new _ _ _) ?c1 ?c2 ?c3 ?c4 ?_)
          case c1 => intro u hu; simp at hu; subst hu; rfl
          case c2 => unfold maxLen; omega
          case c3 => omega
          case c4 => simp; omega
          intro tv2 w5 hown5 hgrow _
          obtain ⟨ta2, tcap2, htv2⟩ := own_slice hown5
          subst htv2
          have hgbA : wr.grownBy (wr.alloc (.cells #[.slice ga (ms.length + r) gcap] 22)) none := gb_below ((Below.refl _ _).alloc (Nat.le_refl _) _) _
          have hKa := hKs.gb hgbA (by simp)
          have hK5 := hKa.gb hgrow (bk_ne_own hKs hTs (by decide))
          have hGa := hGs.alloc (.cells #[.slice ga (ms.length + r) gcap] 22)
          have hTa := hTs.alloc (.cells #[.slice ga (ms.length + r) gcap] 22)
          have hG5 := hGa.kept hgrow (own_ne_own hGa hTa (by decide))
          have h9a : ∀ B, K9 B wr w5 := fun B => (K9.of_gb hgbA (fun g cs e => by simp at e) B).trans (K9.of_gb hgrow (fun g cs e hh => by
            obtain ⟨c, hc⟩ := own_blk hTa g e
            exact blk_ne hc hh (by decide) rfl) B)
          have hB5 : Below B0 w w5 := (hBs.alloc (by omega) _).grown hgrow (by simp; omega) (fun k hk => (hTs.lt k hk).1)
          have ck5 : w5.cell? ⟨K, 0, none⟩ = some (.slice ta' (r + 0) tcap') := by rw [Lib.cell_of_heap hK5]; rfl
          have fk5 : w5.frozen? ⟨K, 0, none⟩ = false := Lib.frozen_of_heap hK5 0
          have hgb6 := gb_set w5 K 0 (.slice ta2 (r + 0 + 1) tcap2)
          have hK6 : BkAt K (.slice ta2 (r + 0 + 1) tcap2) (w5.setCell ⟨K, 0, none⟩ (.slice ta2 (r + 0 + 1) tcap2)) := heap_setCell_same w5 K 0 _ 32 _ hK5
          have hT6 := hown5.kept hgb6 (.inr (fun e => bk_ne_own hK5 hown5 (by decide) e.symm))
          have hG6 := hG5.kept hgb6 (.inr (fun e => bk_ne_own hK5 hG5 (by decide) e.symm))
          have h96 : ∀ B, K9 B wr (w5.setCell ⟨K, 0, none⟩ (.slice ta2 (r + 0 + 1) tcap2)) := fun B => (h9a B).trans (K9.of_gb hgb6 (fun g cs e hh => by cases e; exact blk_ne hK5 hh (by decide) rfl) B)
          have hB6 : Below B0 w (w5.setCell ⟨K, 0, none⟩ (.slice ta2 (r + 0 + 1) tcap2)) := hB5.setCell (p := ⟨K, 0, none⟩) hK0 _
          have hM6 : ∀ v ∈ vs' ++ [.slice ga (ms.length + r) gcap], MarkedAt (w5.setCell ⟨K, 0, none⟩ (.slice ta2 (r + 0 + 1) tcap2)) v ⟨#[126, 0, 0]⟩ := by
            intro v hv
            rcases List.mem_append.1 hv with h | h
            · exact (hMs v h).keep h96
            · simp only [List.mem_singleton] at h; subst h; exact marked_own hG6 (by omega)
          have h9w : K9 B1 w (w5.setCell ⟨K, 0, none⟩ (.slice ta2 (r + 0 + 1) tcap2)) := h9s.trans (h96 B1)
          clear hown5 hgrow hgbA hKa hK5 hGa hTa hG5 h9a hB5 hgb6 h96
          have hsz6 : B1 ≤ (w5.setCell ⟨K, 0, none⟩ (.slice ta2 (r + 0 + 1) tcap2)).heap.size := by have := hB6.size; omega
          go_wp2_with (at_builtin; refine wpList_app_mark _ rfl (.tmp 40) (.tmp 42) rfl B1 (ms.length + r) _ ⟨#[126, 0, 0]⟩ rfl (hG6.alloc _) ⟨_, 0, none⟩ 1 rfl ?d1 ?d2 ?d3 ?_)
          case d1 => rw [World.cell?_alloc_at _ _ _ _ (by simp [World.setCell])]; rfl
          case d2 => omega
          case d3 => simp; simp at hsz6; omega
          intro gv' w8 hG8 hgrow8 hM8
          have hgb7 : (w5.setCell ⟨K, 0, none⟩ (.slice ta2 (r + 0 + 1) tcap2)).grownBy ((w5.setCell ⟨K, 0, none⟩ (.slice ta2 (r + 0 + 1) tcap2)).alloc (.cells #[.string ⟨#[126, 0, 0]⟩] 9)) none := gb_below ((Below.refl _ _).alloc (Nat.le_refl _) _) _
          have hK7 := hK6.gb hgb7 (by simp)
          have hG7 := hG6.alloc (.cells #[.string ⟨#[126, 0, 0]⟩] 9)
          have hT7 := hT6.alloc (.cells #[.string ⟨#[126, 0, 0]⟩] 9)
          have hK8 := hK7.gb hgrow8 (bk_ne_own hK7 hG7 (by decide))
          have hT8 := hT7.kept hgrow8 (own_ne_own hT7 hG7 (by decide))
          have hMf : ∀ v ∈ vs' ++ [.slice ga (ms.length + r) gcap], MarkedAt w8 v ⟨#[126, 0, 0]⟩ := fun v hv => hM8 v ((hM6 v hv).keep (fun B => K9.of_gb hgb7 (fun g cs e => by simp at e) B))
          have hB8 : Below B0 w w8 := (hB6.alloc (by omega) _).grown hgrow8 (by have := hB6.size; simp at this ⊢; omega) (fun k hk => by have := (hG6.lt k hk).1; omega)
          have h98 : K9 B1 w w8 := (h9w.trans (K9.of_gb hgb7 (fun g cs e => by simp at e) B1)).trans (K9.of_gb_ge hgrow8 B1 (fun k hk => (hG6.lt k hk).1))
          go_wp2
          go_roundw
          case rel =>
            go_light
            refine ⟨r + 1, _, vs' ++ [.slice ga (ms.length + r) gcap], by omega, by go_num, hK8, ?_, hMf, hG8, hB8, h98⟩
            rw [show r + 1 + 0 = r + 0 + 1 by omega]
            exact hT8
          case measure => go_light; simp [intOf]; omega
        · have hre : r = 4 := by omega
          subst hre
          go_wp2
          go_end0
          exact ⟨rfl, tv', vs', hKs, by simpa using hTs, hMs, hBs, h9s⟩

set_option maxRecDepth 100000 in
set_option maxHeartbeats 4000000 in
theorem keep_4 (K B0 B1 : Nat) (tv vl : Value) (vs : List Value) (ms : List ByteArray) (w : World) (hK : BkAt K tv w) (htx : w.ownsRow B0 22 1 tv 4 vs) (hlw : w.ownsRow B1 9 1 vl ms.length (ms.map Value.string)) (hms : ms.length ≤ 4000)
    (hK0 : B0 ≤ K) (hB01 : B0 ≤ B1) (hB1 : B1 ≤ w.heap.size) :
    Calls Tryd.prog 9 #[.pointer (some ⟨K, 0, none⟩), vl] w fun e w' => e = .returned (.tuple #[]) ∧ ∃ tv' vs', BkAt K tv' w' ∧ w'.ownsRow B0 22 1 tv' 8 (vs ++ vs') ∧ (∀ v ∈ vs', MarkedAt w' v ⟨#[126, 1, 0]⟩) ∧ Below B0 w w' ∧ K9 B1 w w' := by
  obtain ⟨i0, hi, hz0, hz1, hz2⟩ := info_parts slsInfo
  obtain ⟨ta, tcap, rfl⟩ := own_slice htx
  obtain ⟨la, lcap, hvl⟩ := own_slice hlw
  have c0 : w.cell? ⟨K, 0, none⟩ = some (.slice ta 4 tcap) := by rw [Lib.cell_of_heap hK]; rfl
  have hA : Below B0 w (w.alloc (.cells #[.int .u8 126, .int .u8 1, .int .u8 0] 5)) := (Below.refl _ _).alloc (by omega) _
  have hKA : BkAt K (.slice ta 4 tcap) (w.alloc (.cells #[.int .u8 126, .int .u8 1, .int .u8 0] 5)) := by
    unfold BkAt; rw [Lib.alloc_old _ _ _ (lt_of_heap hK)]; exact hK
  have hTA := htx.alloc (.cells #[.int .u8 126, .int .u8 1, .int .u8 0] 5)
  have hLA := hlw.alloc (.cells #[.int .u8 126, .int .u8 1, .int .u8 0] 5)
  have h9A : K9 B1 w (w.alloc (.cells #[.int .u8 126, .int .u8 1, .int .u8 0] 5)) := K9.of_below ((Below.refl _ _).alloc (Nat.le_refl _) _) _
  have hms' : (ms.length : Int) ≤ 4000 := by omega
  subst hvl
  clear hK htx hlw
  go_enter Tryd.func9, Tryd.ntmps9
  go_wp2_with (go_at_call 18; refine (mark_1 _).mono ?_; rintro e w1 ⟨rfl, rfl⟩)
  go_loopw [5] (fun i wr => ∃ k : Nat, k ≤ ms.length ∧ i = .int .i64 k ∧ BkAt K (.slice ta 4 tcap) wr ∧ wr.ownsRow B0 22 1 (.slice ta 4 tcap) 4 vs ∧ wr.ownsRow B1 9 1 (.slice la ms.length lcap) ms.length (List.replicate k (.string ⟨#[126, 1, 0]⟩) ++ (ms.map Value.string).drop k) ∧ Below B0 w wr ∧ K9 B1 w wr) (fun i _ => ms.length - (intOf i).toNat)
  case atStart => exact ⟨0, Nat.zero_le _, rfl, hKA, hTA, by simpa using hLA, hA, h9A⟩
  case round =>
    obtain ⟨k, hk, rfl, hKr, hTr, hLr, hBr, h9r⟩ := hrel
    by_cases hlt : k < ms.length
    · have hlt' : (k : Int) < ms.length := by omega
      obtain ⟨g, hla⟩ : ∃ g, la = some ⟨g, 0, none⟩ := by
        rcases hLr.2 with ⟨_, h0⟩ | ⟨g, cap, cur, hv, _⟩
        · omega
        · exact ⟨g, by simp only [Value.slice.injEq] at hv; exact hv.1⟩
      subst hla
      obtain ⟨u, hu⟩ : ∃ u, (List.replicate k (Value.string ⟨#[126, 1, 0]⟩) ++ (ms.map Value.string).drop k)[k]? = some u := ⟨_, List.getElem?_eq_getElem (by simp; omega)⟩
      have hc1 := own_cells hLr k u hu
      have hf1 := own_free hLr k
      have hset := own_set hLr hlt (.string ⟨#[126, 1, 0]⟩)
      rw [mix_set (by simpa using hlt)] at hset
      have hgb := gb_set wr g k (.string ⟨#[126, 1, 0]⟩)
      have hKs := hKr.gb hgb (bk_ne_own hKr hLr (by decide))
      have hTs := hTr.kept hgb ((own_ne_own hTr hLr (by decide)))
      have hBs : Below B0 w (wr.setCell ⟨g, k, none⟩ (.string ⟨#[126, 1, 0]⟩)) := hBr.setCell (p := ⟨g, k, none⟩) (by have := (hLr.lt g rfl).1; show B0 ≤ g; omega) _
      have h9s : K9 B1 w (wr.setCell ⟨g, k, none⟩ (.string ⟨#[126, 1, 0]⟩)) := h9r.trans (K9.of_gb_ge hgb B1 (fun k' e => by cases e; exact (hLr.lt g rfl).1))
      go_wp2
      go_roundw
      case rel => go_light; exact ⟨k + 1, by omega, by go_num, hKs, hTs, hset, hBs, h9s⟩
      case measure => go_light; simp [intOf]; omega
    · have hke : k = ms.length := by omega
      subst hke
      have hLr' : wr.ownsRow B1 9 1 (.slice la ms.length lcap) ms.length (List.replicate ms.length (.string ⟨#[126, 1, 0]⟩)) := by
        have : (ms.map Value.string).drop ms.length = [] := List.drop_of_length_le (by simp)
        rw [this, List.append_nil] at hLr; exact hLr
      clear hLr
      go_wp2
      go_loopw [6, 7] (fun gv i ws => ∃ (r : Nat) (tv' : Value) (vs' : List Value), r ≤ 4 ∧ i = .int .i64 r ∧ BkAt K tv' ws ∧ ws.ownsRow B0 22 1 tv' (r + 4) (vs ++ vs') ∧ (∀ v ∈ vs', MarkedAt ws v ⟨#[126, 1, 0]⟩) ∧ ws.ownsRow B1 9 1 gv (ms.length + r) (List.replicate (ms.length + r) (.string ⟨#[126, 1, 0]⟩)) ∧ Below B0 w ws ∧ K9 B1 w ws) (fun _ i _ => 4 - (intOf i).toNat)
      case atStart => exact ⟨0, _, [], Nat.zero_le _, rfl, hKr, by simpa using hTr, fun v hv => by simp at hv, hLr', hBr, h9r⟩
      case round =>
        obtain ⟨r, tv', vs', hr, rfl, hKs, hTs, hMs, hGs, hBs, h9s⟩ := hrel
        by_cases hr4 : r < 4
        · have hr4' : (r : Int) < 4 := by omega
          have ck : wr.cell? ⟨K, 0, none⟩ = some tv' := by rw [Lib.cell_of_heap hKs]; rfl
          obtain ⟨ta', tcap', htv'⟩ := own_slice hTs
          obtain ⟨ga, gcap, hgv⟩ := own_slice hGs
          subst htv' hgv
          have hKlt := lt_of_heap hKs
          have hBsz := hBs.size
          go_wp2_with (at_builtin; refine wpList_append_own _ rfl (.tmp 34) (.tmp 36) 27 rfl B0 22 i0 (.slice none 0 0) 1 24 Tryd.underlying27 hi hz0 hz1 hz2 rfl (by decide) _ _ _ rfl (hTs.alloc _) ⟨_, 0, none⟩ 1 1 [.slice ga (ms.length + r) gcap] rfl rfl (cell_one_new _ _ _) ?c1 ?c2 ?c3 ?c4 ?_)
          case c1 => intro u hu; simp at hu; subst hu; rfl
          case c2 => unfold maxLen; omega
          case c3 => omega
          case c4 => simp; omega
          intro tv2 w5 hown5 hgrow _
          obtain ⟨ta2, tcap2, htv2⟩ := own_slice hown5
          subst htv2
          have hgbA : wr.grownBy (wr.alloc (.cells #[.slice ga (ms.length + r) gcap] 22)) none := gb_below ((Below.refl _ _).alloc (Nat.le_refl _) _) _
          have hKa := hKs.gb hgbA (by simp)
          have hK5 := hKa.gb hgrow (bk_ne_own hKs hTs (by decide))
          have hGa := hGs.alloc (.cells #[.slice ga (ms.length + r) gcap] 22)
          have hTa := hTs.alloc (.cells #[.slice ga (ms.length + r) gcap] 22)
          have hG5 := hGa.kept hgrow (own_ne_own hGa hTa (by decide))
          have h9a : ∀ B, K9 B wr w5 := fun B => (K9.of_gb hgbA (fun g cs e => by simp at e) B).trans (K9.of_gb hgrow (fun g cs e hh => by
            obtain ⟨c, hc⟩ := own_blk hTa g e
            exact blk_ne hc hh (by decide) rfl) B)
          have hB5 : Below B0 w w5 := (hBs.alloc (by omega) _).grown hgrow (by simp; omega) (fun k hk => (hTs.lt k hk).1)
          have ck5 : w5.cell? ⟨K, 0, none⟩ = some (.slice ta' (r + 4) tcap') := by rw [Lib.cell_of_heap hK5]; rfl
          have fk5 : w5.frozen? ⟨K, 0, none⟩ = false := Lib.frozen_of_heap hK5 0
          have hgb6 := gb_set w5 K 0 (.slice ta2 (r + 4 + 1) tcap2)
          have hK6 : BkAt K (.slice ta2 (r + 4 + 1) tcap2) (w5.setCell ⟨K, 0, none⟩ (.slice ta2 (r + 4 + 1) tcap2)) := heap_setCell_same w5 K 0 _ 32 _ hK5
          have hT6 := hown5.kept hgb6 (.inr (fun e => bk_ne_own hK5 hown5 (by decide) e.symm))
          have hG6 := hG5.kept hgb6 (.inr (fun e => bk_ne_own hK5 hG5 (by decide) e.symm))
          have h96 : ∀ B, K9 B wr (w5.setCell ⟨K, 0, none⟩ (.slice ta2 (r + 4 + 1) tcap2)) := fun B => (h9a B).trans (K9.of_gb hgb6 (fun g cs e hh => by cases e; exact blk_ne hK5 hh (by decide) rfl) B)
          have hB6 : Below B0 w (w5.setCell ⟨K, 0, none⟩ (.slice ta2 (r + 4 + 1) tcap2)) := hB5.setCell (p := ⟨K, 0, none⟩) hK0 _
          have hM6 : ∀ v ∈ vs' ++ [.slice ga (ms.length + r) gcap], MarkedAt (w5.setCell ⟨K, 0, none⟩ (.slice ta2 (r + 4 + 1) tcap2)) v ⟨#[126, 1, 0]⟩ := by
            intro v hv
            rcases List.mem_append.1 hv with h | h
            · exact (hMs v h).keep h96
            · simp only [List.mem_singleton] at h; subst h; exact marked_own hG6 (by omega)
          have h9w : K9 B1 w (w5.setCell ⟨K, 0, none⟩ (.slice ta2 (r + 4 + 1) tcap2)) := h9s.trans (h96 B1)
          clear hown5 hgrow hgbA hKa hK5 hGa hTa hG5 h9a hB5 hgb6 h96
          have hsz6 : B1 ≤ (w5.setCell ⟨K, 0, none⟩ (.slice ta2 (r + 4 + 1) tcap2)).heap.size := by have := hB6.size; omega
          go_wp2_with (at_builtin; refine wpList_app_mark _ rfl (.tmp 40) (.tmp 42) rfl B1 (ms.length + r) _ ⟨#[126, 1, 0]⟩ rfl (hG6.alloc _) ⟨_, 0, none⟩ 1 rfl ?d1 ?d2 ?d3 ?_)
          case d1 => rw [World.cell?_alloc_at _ _ _ _ (by simp [World.setCell])]; rfl
          case d2 => omega
          case d3 => simp; simp at hsz6; omega
          intro gv' w8 hG8 hgrow8 hM8
          have hgb7 : (w5.setCell ⟨K, 0, none⟩ (.slice ta2 (r + 4 + 1) tcap2)).grownBy ((w5.setCell ⟨K, 0, none⟩ (.slice ta2 (r + 4 + 1) tcap2)).alloc (.cells #[.string ⟨#[126, 1, 0]⟩] 9)) none := gb_below ((Below.refl _ _).alloc (Nat.le_refl _) _) _
          have hK7 := hK6.gb hgb7 (by simp)
          have hG7 := hG6.alloc (.cells #[.string ⟨#[126, 1, 0]⟩] 9)
          have hT7 := hT6.alloc (.cells #[.string ⟨#[126, 1, 0]⟩] 9)
          have hK8 := hK7.gb hgrow8 (bk_ne_own hK7 hG7 (by decide))
          have hT8 := hT7.kept hgrow8 (own_ne_own hT7 hG7 (by decide))
          have hMf : ∀ v ∈ vs' ++ [.slice ga (ms.length + r) gcap], MarkedAt w8 v ⟨#[126, 1, 0]⟩ := fun v hv => hM8 v ((hM6 v hv).keep (fun B => K9.of_gb hgb7 (fun g cs e => by simp at e) B))
          have hB8 : Below B0 w w8 := (hB6.alloc (by omega) _).grown hgrow8 (by have := hB6.size; simp at this ⊢; omega) (fun k hk => by have := (hG6.lt k hk).1; omega)
          have h98 : K9 B1 w w8 := (h9w.trans (K9.of_gb hgb7 (fun g cs e => by simp at e) B1)).trans (K9.of_gb_ge hgrow8 B1 (fun k hk => (hG6.lt k hk).1))
          go_wp2
          go_roundw
          case rel =>
            go_light
            refine ⟨r + 1, _, vs' ++ [.slice ga (ms.length + r) gcap], by omega, by go_num, hK8, ?_, hMf, hG8, hB8, h98⟩
            rw [show r + 1 + 4 = r + 4 + 1 by omega]
            exact hT8
          case measure => go_light; simp [intOf]; omega
        · have hre : r = 4 := by omega
          subst hre
          go_wp2
          go_end0
          exact ⟨rfl, tv', vs', hKs, by simpa using hTs, hMs, hBs, h9s⟩
end Go.Proofs.YtdhobemladckjaaDoor
