/- The lines of an event that comes again by days: what each reader makes of them. -/
import Derived.Test.YtmmnbdefkailpaaGreatDoorEvU
import Derived.Test.YtmmnbdefkailpaaGreatDoorTxu

namespace Go.Proofs.YtmmnbdefkailpaaGreatDoor.Cal
theorem date_back {n : Int} (h : day n = true) : vld (dY n) (dM n) (dD n) = true ∧ ny (dY n) + cum (dY n) (dM n) + dD n - 1 = n := by
  obtain ⟨h1, h2⟩ := day_get h
  obtain ⟨e1, e2, e3, _⟩ := day_is h
  obtain ⟨y1, y2, y3, y4⟩ := yr_is (n := n) (by omega) (by omega)
  obtain ⟨y5, y6⟩ := yr_day h1 h2
  have hs := ny_succ (yr n)
  obtain ⟨m1, m2, m3, m4⟩ := mo_is (y := yr n) (r := n - ny (yr n)) (by omega) (by omega)
  have hc := cum_succ (yr n) m3 m4
  rw [e1, e2, e3]
  refine ⟨vld_mk ?_, by omega⟩
  omega
end Go.Proofs.YtmmnbdefkailpaaGreatDoor.Cal
namespace Go.Proofs.YtmmnbdefkailpaaGreatDoor
open Go.RowKit Cal
set_option linter.unusedVariables false

theorem dg_nat : ∀ k < 10, (UInt8.ofNat (48 + k)).toNat = 48 + k := by decide
def d2 (m : Nat) : List UInt8 := [UInt8.ofNat (48 + m / 10), UInt8.ofNat (48 + m % 10)]
def d4 (y : Nat) : List UInt8 := [UInt8.ofNat (48 + y / 1000), UInt8.ofNat (48 + y / 100 % 10), UInt8.ofNat (48 + y / 10 % 10), UInt8.ofNat (48 + y % 10)]
def date8 (y m d : Nat) : List UInt8 := d4 y ++ (d2 m ++ d2 d)
theorem val_d2 {m : Nat} (h : m < 100) : val (d2 m) = m := by
  have h1 := dg_nat (m / 10) (by omega)
  have h2 := dg_nat (m % 10) (by omega)
  simp only [val, d2, List.foldl_cons, List.foldl_nil, h1, h2]
  omega
theorem val_d4 {y : Nat} (h : y < 10000) : val (d4 y) = y := by
  have h1 := dg_nat (y / 1000) (by omega)
  have h2 := dg_nat (y / 100 % 10) (by omega)
  have h3 := dg_nat (y / 10 % 10) (by omega)
  have h4 := dg_nat (y % 10) (by omega)
  simp only [val, d4, List.foldl_cons, List.foldl_nil, h1, h2, h3, h4]
  omega
theorem dig_d2 {m : Nat} (h : m < 100) : DigB (d2 m) := by
  intro b hb
  have h1 := dg_nat (m / 10) (by omega)
  have h2 := dg_nat (m % 10) (by omega)
  simp only [d2, List.mem_cons, List.not_mem_nil, or_false] at hb
  rcases hb with rfl | rfl <;> omega
theorem dig_d4 {y : Nat} (h : y < 10000) : DigB (d4 y) := by
  intro b hb
  have h1 := dg_nat (y / 1000) (by omega)
  have h2 := dg_nat (y / 100 % 10) (by omega)
  have h3 := dg_nat (y / 10 % 10) (by omega)
  have h4 := dg_nat (y % 10) (by omega)
  simp only [d4, List.mem_cons, List.not_mem_nil, or_false] at hb
  rcases hb with rfl | rfl | rfl | rfl <;> omega
theorem dig_app {a b : List UInt8} (h1 : DigB a) (h2 : DigB b) : DigB (a ++ b) := fun x hx => (List.mem_append.1 hx).elim (h1 x) (h2 x)
theorem dig_date {y m d : Nat} (hy : y < 10000) (hm : m < 100) (hd : d < 100) : DigB (date8 y m d) := dig_app (dig_d4 hy) (dig_app (dig_d2 hm) (dig_d2 hd))
theorem date_len (y m d : Nat) : (date8 y m d).length = 8 := rfl
theorem dig_not {l : List UInt8} (h : DigB l) (c : UInt8) (hc : c.toNat < 48 ∨ 57 < c.toNat) : c ∉ l := fun hm => by have := h c hm; omega

theorem ba_ext (l : List UInt8) (a b : Nat) : (ba l).extract a b = ba ((l.drop a).take (b - a)) := by
  apply ByteArray.ext
  apply Array.toList_inj.1
  rw [data_ext, ba_data, ba_data]
theorem ba_get (l : List UInt8) (i : Nat) (h : i < (ba l).size) (c : UInt8) (hc : l[i]? = some c) : (ba l)[i] = c := by
  have : (ba l)[i] = l[i]'(by rw [ba_size] at h; exact h) := by simp [ba, ByteArray.getElem_eq_getElem_data]
  rw [this]
  exact (List.getElem?_eq_some_iff.1 hc).2

/-- bytes of plain text -/
def Asc (l : List UInt8) : Prop := ∀ b ∈ l, 32 ≤ b.toNat ∧ b.toNat < 127
theorem asc_app {a b : List UInt8} (h1 : Asc a) (h2 : Asc b) : Asc (a ++ b) := fun x hx => (List.mem_append.1 hx).elim (h1 x) (h2 x)
theorem asc_dig {l : List UInt8} (h : DigB l) : Asc l := fun b hb => by have := h b hb; omega
theorem asc_at {l : List UInt8} (h : Asc l) (j : Nat) (b : UInt8) (hb : (ba l).data.toList[j]? = some b) : b.toNat < 128 := by
  rw [ba_data] at hb
  have := h b (List.mem_of_getElem? hb)
  omega
theorem asc_of {l : List UInt8} (h : ∀ b ∈ l, 32 ≤ b.toNat ∧ b.toNat < 127) : Asc l := h
theorem dl_dig : ∀ k < 100, ∀ b ∈ dl k, 48 ≤ b.toNat ∧ b.toNat ≤ 57 := by decide
theorem asc_dl {k : Nat} (h : k < 100) : Asc (dl k) := asc_dig (dl_dig k h)

/-- the lines -/
def lUid : List UInt8 := [85, 73, 68, 58, 120]
def lStart (y m d : Nat) : List UInt8 := [68, 84, 83, 84, 65, 82, 84, 58] ++ (date8 y m d ++ [84, 49, 50, 48, 48, 48, 48])
def lRule (r : List UInt8) : List UInt8 := [82, 82, 85, 76, 69, 58] ++ r
theorem asc_start {y m d : Nat} (hy : y < 10000) (hm : m < 100) (hd : d < 100) : Asc (lStart y m d) := asc_app (asc_of (by decide)) (asc_app (asc_dig (dig_date hy hm hd)) (asc_of (by decide)))
theorem asc_rule {r : List UInt8} (h : Asc r) : Asc (lRule r) := asc_app (asc_of (by decide)) h
theorem asc_pF : Asc pF := asc_of (by decide)
theorem asc_pI {k : Nat} (h : k < 100) : Asc (pI k) := asc_app (asc_of (by decide)) (asc_dl h)
theorem asc_pC {k : Nat} (h : k < 100) : Asc (pC k) := asc_app (asc_of (by decide)) (asc_dl h)
theorem asc_cons {c : UInt8} {l : List UInt8} (h : 32 ≤ c.toNat ∧ c.toNat < 127) (hl : Asc l) : Asc (c :: l) := fun b hb => by
  rcases List.mem_cons.1 hb with rfl | hb
  · exact h
  · exact hl b hb
theorem asc_rule3 {k m : Nat} (hk : k < 100) (hm : m < 100) : Asc (rule3 k m) := asc_app asc_pF (asc_cons (by decide) (asc_app (asc_pI hk) (asc_cons (by decide) (asc_pC hm))))
theorem asc_rule2 {m : Nat} (hm : m < 100) : Asc (rule2 m) := asc_app asc_pF (asc_cons (by decide) (asc_pC hm))

/-- what stands behind the names -/
def restS (y m d : Nat) : List UInt8 := 58 :: (date8 y m d ++ [84, 49, 50, 48, 48, 48, 48])
def restR (r : List UInt8) : List UInt8 := 58 :: r

theorem kUid (w : World) (hl : LN w) : Calls Tryz.prog 91 #[.string (ba lUid)] w fun e w' => e = .returned (.tuple #[.int .i64 0, .string ⟨#[58, 120]⟩]) ∧ Below w.heap.size w w' :=
  kind_uid (ba lUid) w hl (by decide) (by decide) (asc_at (asc_of (by decide))) (by rfl) (by rfl) (by rfl)
theorem kStart {y m d : Nat} (hy : y < 10000) (hm : m < 100) (hd : d < 100) (w : World) (hl : LN w) : Calls Tryz.prog 91 #[.string (ba (lStart y m d))] w fun e w' => e = .returned (.tuple #[.int .i64 2, .string (ba (restS y m d))]) ∧ Below w.heap.size w w' := by
  have hz : (ba (lStart y m d)).size = 23 := by rw [ba_size]; rfl
  have h7 : 7 < (ba (lStart y m d)).size := by omega
  have := kind_start (ba (lStart y m d)) w hl (by omega) h7 (asc_at (asc_start hy hm hd)) (by rw [ba_data]; rfl) (by rw [ba_ext]; rfl) (ba_get _ 7 h7 58 rfl)
  rw [ba_ext, hz] at this
  exact this
theorem kRule {r : List UInt8} (hr : Asc r) (hrl : r.length ≤ 60) (w : World) (hl : LN w) : Calls Tryz.prog 91 #[.string (ba (lRule r))] w fun e w' => e = .returned (.tuple #[.int .i64 5, .string (ba (restR r))]) ∧ Below w.heap.size w w' := by
  have hz : (ba (lRule r)).size = 6 + r.length := by rw [ba_size]; unfold lRule; rw [List.length_append]; rfl
  have h5 : 5 < (ba (lRule r)).size := by omega
  have := kind_rule (ba (lRule r)) w hl (by omega) h5 (asc_at (asc_rule hr)) (by rw [ba_data]; rfl) (by rw [ba_ext]; rfl) (ba_get _ 5 h5 58 rfl)
  rw [ba_ext, hz] at this
  have e : ((lRule r).drop 5).take (6 + r.length - 5) = restR r := by
    show (58 :: r).take (6 + r.length - 5) = 58 :: r
    apply List.take_of_length_le; simp; omega
  rw [e] at this
  exact this

theorem suffix_90 (l : List UInt8) (c : UInt8) (h : c ≠ 90) : Lib.hasSuffix (l ++ [c]) [90] = false := by
  unfold Lib.hasSuffix
  simp [List.isSuffixOf, List.isPrefixOf]
  exact fun e => h e.symm

/-- the start is read -/
theorem mStart {n : Int} (hn1 : -25567 ≤ n) (hn2 : n ≤ 84005) {y m d : Nat} (ey : dY n = y) (em : dM n = m) (ed : dD n = d) (hy : y < 10000) (hm : m < 100) (hd : d < 100) (w : World) (hv : GV w) :
    Calls Tryz.prog 99 #[.agg #[.bool false, .bool false], .string (ba (restS y m d))] w fun e w' => e = .returned (.tuple #[.int .i64 (n * 86400 + 43200), .nilIface]) ∧ Below w.heap.size w w' := by
  obtain ⟨hvl, hnum⟩ := date_back (day_mk hn1 hn2)
  rw [ey, em, ed] at hvl hnum
  refine readMarked_yes (ba (restS y m d)) (ba (date8 y m d ++ [84, 49, 50, 48, 48, 48, 48])) w _ (by rw [ba_data]; rfl) (by rw [ba_data, ba_data]; rfl) ?_
  intro wx hb
  obtain ⟨mm, hmm⟩ := (hv.below hb).ml
  refine fread_yes (ba (date8 y m d ++ [84, 49, 50, 48, 48, 48, 48])) (ba (date8 y m d)) (ba [49, 50, 48, 48, 48, 48]) wx mm (hv.below hb).tab hmm (by rw [ba_size, List.length_append, date_len]; decide) n 43200
    (by rw [ba_data, ba_data, ba_data]; exact cut_at _ _ _ (dig_not (dig_date hy hm hd) _ (by decide))) ?_ ?_ hn1 hn2 (by omega) (by omega)
  · intro wy hty
    refine readDay_yes (ba (date8 y m d)) wy hty (by rw [ba_size]; rfl) (by rw [ba_data]; exact dig_date hy hm hd) n ?_ ?_ hn1 hn2
    · rw [ba_data]
      show numE (val (d4 y)) (val (d2 m)) (val (d2 d)) = 0
      rw [val_d4 hy, val_d2 hm, val_d2 hd]; exact numE_yes hvl
    · rw [ba_data]
      show numV (val (d4 y)) (val (d2 m)) (val (d2 d)) = n
      rw [val_d4 hy, val_d2 hm, val_d2 hd, numV_yes hvl]; exact hnum
  · intro wy
    exact readClock_yes (ba [49, 50, 48, 48, 48, 48]) wy (by rfl) (by rw [ba_data]; unfold DigB; decide) 12 0 0 (by rfl) (by rfl) (by rfl) (by omega) (by omega) (by omega) (by omega) (by omega) (by omega)
end Go.Proofs.YtmmnbdefkailpaaGreatDoor

/- Parse of an event that comes again by days. -/
namespace Go.Proofs.YtmmnbdefkailpaaGreatDoor
open Go.RowKit Cal
set_option linter.unusedVariables false

theorem rsz_asc (a : UInt8) (t : List UInt8) (h : a.toNat < 128) : rsz (a :: t) = 1 := by
  unfold rsz rszN
  rw [if_pos (by simpa using h)]
theorem okb_asc {b : UInt8} (h : 32 ≤ b.toNat ∧ b.toNat < 127) : okb b = true := by
  unfold okb
  have e1 : decide (b.toNat < 32) = false := decide_eq_false (by omega)
  have e2 : decide (b.toNat = 127) = false := decide_eq_false (by omega)
  rw [e1, e2]; rfl
theorem cln_asc : ∀ (l : List UInt8), Asc l → cln l = true
  | [], _ => rfl
  | a :: t, h => by
    have ha := h a (List.mem_cons_self ..)
    rw [cln_step _ (by simp), rsz_asc a t (by omega)]
    rw [if_neg (by simp [okb_asc ha])]
    exact cln_asc t (fun b hb => h b (List.mem_cons_of_mem _ hb))

def joinCR : List (List UInt8) → List UInt8
  | [] => []
  | x :: xs => x ++ (13 :: 10 :: joinCR xs)
def okLine (x : List UInt8) : Prop := Asc x ∧ goes x = false ∧ x.length ≤ 75
theorem fo_short : ∀ (ls : List (List UInt8)) (acc : List UInt8), (∀ x ∈ ls, okLine x) → acc.length + (joinCR ls).length ≤ 4000 → fo acc ls = some (acc ++ joinCR ls)
  | [], acc, _, _ => by simp [fo, joinCR]
  | x :: xs, acc, h, hl => by
    obtain ⟨h1, h2, h3⟩ := h x (List.mem_cons_self ..)
    have hc := cln_asc x h1
    have hg : gr 75 x = x := gr_all 75 x (cln_valid hc).1 h3
    have ho : okl x = true := by simp [okl, hc, h2]; omega
    simp only [joinCR, List.length_append, List.length_cons] at hl
    simp only [fo]
    rw [if_pos ho, hg, if_neg (by simp; omega), fo_short xs _ (fun y hy => h y (List.mem_cons_of_mem _ hy)) (by simp; omega)]
    simp [joinCR]

def lBeg : List UInt8 := [66, 69, 71, 73, 78, 58, 86, 69, 86, 69, 78, 84]
def lEnd : List UInt8 := [69, 78, 68, 58, 86, 69, 86, 69, 78, 84]
def evL (y m d : Nat) (r : List UInt8) : List (List UInt8) := [lBeg, lUid, lStart y m d, lRule r, lEnd]
def evT (y m d : Nat) (r : List UInt8) : List UInt8 := joinCR (evL y m d r)
theorem evL_ok {y m d : Nat} {r : List UInt8} (hy : y < 10000) (hm : m < 100) (hd : d < 100) (hr : Asc r) (hrl : r.length ≤ 60) : ∀ x ∈ evL y m d r, okLine x := by
  intro x hx
  simp only [evL, List.mem_cons, List.not_mem_nil, or_false] at hx
  rcases hx with rfl | rfl | rfl | rfl | rfl
  · exact ⟨asc_of (by decide), rfl, by decide⟩
  · exact ⟨asc_of (by decide), rfl, by decide⟩
  · exact ⟨asc_start hy hm hd, rfl, by show 23 ≤ 75; omega⟩
  · exact ⟨asc_rule hr, rfl, by unfold lRule; rw [List.length_append]; show 6 + r.length ≤ 75; omega⟩
  · exact ⟨asc_of (by decide), rfl, by decide⟩
theorem evT_len {y m d : Nat} {r : List UInt8} (hrl : r.length ≤ 60) : (evT y m d r).length ≤ 200 := by
  simp only [evT, evL, joinCR, List.length_append, List.length_cons, List.length_nil]
  have e1 : lBeg.length = 12 := rfl
  have e2 : lUid.length = 5 := rfl
  have e3 : (lStart y m d).length = 23 := rfl
  have e4 : (lRule r).length = 6 + r.length := by unfold lRule; rw [List.length_append]; rfl
  have e5 : lEnd.length = 10 := rfl
  omega
theorem evT_fo {y m d : Nat} {r : List UInt8} (hy : y < 10000) (hm : m < 100) (hd : d < 100) (hr : Asc r) (hrl : r.length ≤ 60) : fo [] (evL y m d r) = some (evT y m d r) := by
  have := fo_short (evL y m d r) [] (evL_ok hy hm hd hr hrl) (by have := evT_len (y := y) (m := m) (d := d) hrl; simpa [evT] using (by omega : (evT y m d r).length ≤ 4000))
  simpa [evT] using this

set_option maxRecDepth 100000 in
set_option maxHeartbeats 2000000 in
theorem Unfold_good (s : ByteArray) (ls : List (List UInt8)) (w : World) (hv : GV w) (hs : s.size ≤ 4000) (hu : un 1 [] s.data.toList = (0, ls)) :
    Calls Tryz.prog 13 #[.string s] w fun e w' => Below w.heap.size w w' ∧ ∃ (v : Value) (ms : List ByteArray), e = .returned (.tuple #[v, .int .i64 0, .int .i64 0]) ∧ Ln.lns ms = ls ∧ w'.ownsRow w.heap.size 9 1 v ms.length (ms.map Value.string) := by
  have c0 : Calls Tryz.prog 26 #[.string s] w fun e w' => Below w.heap.size w w' ∧ ∃ (v : Value) (ms : List ByteArray), e = .returned (.tuple #[v, .nilIface]) ∧ Ln.lns ms = ls ∧ w'.ownsRow w.heap.size 9 1 v ms.length (ms.map Value.string) := by
    refine (Ln.unfold_short s w hv.prep hs).mono ?_
    rintro e w' ⟨hb, h⟩
    refine ⟨hb, ?_⟩
    rw [hu] at h
    rcases h with ⟨h1, _⟩ | ⟨_, v, ms, h2, h3, h4⟩
    · exact absurd rfl h1
    · exact ⟨v, ms, h2, h3, h4⟩
  clear hu hv
  go_enter Tryz.func13, Tryz.ntmps13
  go_wp2_with (go_at_call 26; refine c0.mono ?_; clear c0; rintro e w1 ⟨hb, v, ms, rfl, h3, h4⟩)
  go_ret3
  exact ⟨hb, v, ms, rfl, h3, h4⟩

theorem own_slice {w : World} {B n : Nat} {v : Value} {xs : List Value} (h : w.ownsRow B 9 1 v n xs) (hn : 0 < n) : ∃ g cap, v = .slice (some ⟨g, 0, none⟩) n cap ∧ n ≤ cap ∧ cap ≤ 9223372036854775807 ∧ B ≤ g := by
  rcases h.2 with ⟨_, h0⟩ | ⟨g, cap, cur, h1, h2, h3, h4, h5, _⟩
  · omega
  · exact ⟨g, cap, h1, h4, h5, h2⟩

theorem lines_in {w : World} {B g cap : Nat} {ms : List ByteArray} {y m d : Nat} {r : List UInt8} (hl : Ln.lns ms = evL y m d r) (ho : w.ownsRow B 9 1 (.slice (some ⟨g, 0, none⟩) 5 cap) 5 (ms.map Value.string)) :
    LI g (ba lUid) (ba (lStart y m d)) (ba (lRule r)) w := by
  have key : ∀ (j : Nat) (l : List UInt8), (evL y m d r)[j]? = some l → w.cell? ⟨g, j, none⟩ = some (.string (ba l)) := by
    intro j l hj
    rw [← hl] at hj
    simp only [Ln.lns, List.getElem?_map, Option.map_eq_some_iff] at hj
    obtain ⟨s, hs, hd⟩ := hj
    have e : s = ba l := by apply ByteArray.ext; apply Array.toList_inj.1; rw [ba_data]; exact hd
    exact own_cells ho j _ (by rw [List.getElem?_map, hs, e]; rfl)
  exact ⟨key 0 _ rfl, key 1 _ rfl, key 2 _ rfl, key 3 _ rfl, key 4 _ rfl⟩

/-- the event's cells -/
abbrev evA (n ev ct : Int) : Array Value := #[.string ⟨#[120]⟩, .string ⟨#[]⟩, .int .i64 (n * 86400 + 43200), .bool false, .bool false, .int .i64 0, .int .i64 1, .int .i64 ev, .int .i64 ct, .int .i64 0, .bool false, .slice none 0 0, .slice none 0 0, .slice none 0 0, .slice none 0 0, .int .i64 0, .slice none 0 0, .slice none 0 0]
abbrev evZ : Array Value := #[.string ⟨#[]⟩, .string ⟨#[]⟩, .int .i64 0, .bool false, .bool false, .int .i64 0, .int .i64 0, .int .i64 0, .int .i64 0, .int .i64 0, .bool false, .slice none 0 0, .slice none 0 0, .slice none 0 0, .slice none 0 0, .int .i64 0, .slice none 0 0, .slice none 0 0]

/-- what the reader of the rule must do -/
def RuleOk (r3 : ByteArray) (ev ct : Int) : Prop := ∀ (wx : World) (B g5 c5 : Nat) (a0 a1 a2 a3 a4 a5 a7 a8 a11 a12 a13 a14 a15 a16 a17 a18 a19 a20 a21 a22 a23 a24 a25 a26 a27 a28 : Value), GV wx → 35 ≤ B → g5 ≠ B → wx.cell? ⟨g5, 0, none⟩ = some (.string r3) → wx.heap[B]? = some (.cells #[a0, a1, a2, a3, a4, a5, .slice (some ⟨g5, 0, none⟩) 1 c5, a7, a8, .bool false, .bool false, a11, a12, a13, a14, a15, a16, a17, a18, a19, a20, a21, a22, a23, a24, a25, a26, a27, a28] 65 (0, 0)) → Calls Tryz.prog 59 #[.pointer (some ⟨B, 0, none⟩)] wx fun e w' => e = .returned .nilIface ∧ w'.heap[B]? = some (.cells #[a0, a1, a2, a3, a4, a5, .slice (some ⟨g5, 0, none⟩) 1 c5, a7, a8, .bool false, .bool false, a11, a12, a13, a14, a15, a16, .int .i64 1, .int .i64 ev, .int .i64 ct, .int .i64 0, .bool false, .slice none 0 0, .slice none 0 0, .slice none 0 0, .slice none 0 0, .int .i64 0, a27, a28] 65 (0, 0)) ∧ wx.grownBy w' (some B)

theorem parse_lines {n : Int} (hn1 : -25567 ≤ n) (hn2 : n ≤ 84005) {y m d : Nat} (ey : dY n = y) (em : dM n = m) (ed : dD n = d) (hy : y < 10000) (hm : m < 100) (hd : d < 100) {r : List UInt8} (hr : Asc r) (hrl : r.length ≤ 60) {ev ct : Int} (hct1 : 1 ≤ ct) (hct2 : ct ≤ 999) (H7 : RuleOk (ba (restR r)) ev ct)
    (g cap : Nat) (w : World) (hv : GV w) (hcap : 5 ≤ cap) (hcap2 : cap ≤ 9223372036854775807) (hli : LI g (ba lUid) (ba (lStart y m d)) (ba (lRule r)) w) :
    Calls Tryz.prog 14 #[.slice (some ⟨g, 0, none⟩) 5 cap] w fun e w' => e = .returned (.tuple #[.agg (evA n ev ct), .nilIface]) ∧ Below w.heap.size w w' := by
  have hgl : g < w.heap.size := World.block_lt_of_cell? _ _ hli.l0
  refine parse_in g cap ⟨#[120]⟩ (n * 86400 + 43200) ev ct (St g cap (ba lUid) (ba (lStart y m d)) (ba (lRule r)) (ba (restS y m d)) (ba (restR r)) n 43200 ev ct) w
    (fun i w1 w2 B h hb => st_below _ _ _ _ _ _ _ _ _ _ _ i w1 w2 B h hb) ?_ ?_ ?_
  · intro w1 B hB hb hh
    exact ⟨hv.below hb, by have := hv.size; omega, by omega, hli.grown (gb_of_below hb none) (by simp), hh⟩
  · intro i hi B wx hB hb hst
    refine st_step g cap _ _ _ _ _ n 43200 ev ct hn1 hn2 (by omega) (by omega) hct1 hct2 hcap hcap2 kUid (kStart hy hm hd) (kRule hr hrl) ?_ (by rw [ba_data]; rfl) ?_ (fun wx hvx => mStart hn1 hn2 ey em ed hy hm hd wx hvx) ?_ i hi B wx hst
    · rw [ba_size]; show 16 ≤ 4000; omega
    · rw [ba_data]
      exact suffix_90 (58 :: (date8 y m d ++ [84, 49, 50, 48, 48, 48])) 48 (by decide)
    · intro wx B g0 c0 g2 c2 g5 c5 hvx hB hn hc hh
      exact H7 wx B g5 c5 _ _ _ _ _ _ _ _ _ _ _ _ _ _ _ _ _ _ _ _ _ _ _ _ _ _ hvx hB hn hc hh
  · rintro wx B ⟨_, _, _, _, g0, c0, g2, c2, g5, c5, _, _, _, _, _, _, hh⟩
    exact ⟨_, _, _, _, _, _, _, _, _, _, _, hh⟩

theorem rule_ok3 {k m : Nat} (hk1 : 1 ≤ k) (hk : k < 100) (hm1 : 1 ≤ m) (hm : m < 100) : RuleOk (ba (restR (rule3 k m))) k m := by
  intro wx B g5 c5 a0 a1 a2 a3 a4 a5 a7 a8 a11 a12 a13 a14 a15 a16 a17 a18 a19 a20 a21 a22 a23 a24 a25 a26 a27 a28 hv h35 hne hc hh
  obtain ⟨mm, hmm⟩ := hv.ml
  exact st7_3 B g5 c5 _ _ _ _ _ _ _ _ _ _ _ _ _ _ _ _ _ _ _ _ _ _ _ _ _ _ k m (ba (restR (rule3 k m))) mm wx hk1 hk hm1 hm (by rw [ba_data]; rfl) hh hne hc hv.fn hmm h35
theorem rule_ok2 {m : Nat} (hm1 : 1 ≤ m) (hm : m < 100) : RuleOk (ba (restR (rule2 m))) 1 m := by
  intro wx B g5 c5 a0 a1 a2 a3 a4 a5 a7 a8 a11 a12 a13 a14 a15 a16 a17 a18 a19 a20 a21 a22 a23 a24 a25 a26 a27 a28 hv h35 hne hc hh
  obtain ⟨mm, hmm⟩ := hv.ml
  exact st7_2 B g5 c5 _ _ _ _ _ _ _ _ _ _ _ _ _ _ _ _ _ _ _ _ _ _ _ _ _ _ m (ba (restR (rule2 m))) mm wx hm1 hm (by rw [ba_data]; rfl) hh hne hc hv.fn hmm h35

end Go.Proofs.YtmmnbdefkailpaaGreatDoor

/- Parse, whole. -/
namespace Go.Proofs.YtmmnbdefkailpaaGreatDoor
open Go.RowKit Cal
set_option linter.unusedVariables false

theorem results_cell_tmp2 {fn : Func} {t u v' : Tmp} {ty : TypeId} (h : fn.results = #[.cell t ty, .tmp u, .tmp v']) (tmps : Array Value) (P : Program) (w : World) (a : Addr) (v : Value) (ht : tmps[t]?.getD undef = .pointer (some a)) (hl : (loadVar ty a).run P w = .ok v w) :
    (results fn tmps).run P w = .ok (.tuple #[v, tmps[u]?.getD undef, tmps[v']?.getD undef]) w := by
  have ha : (asAddr (.pointer (some a))).run P w = .ok a w := rfl
  simp [results, h, ht, ha, hl, Result.andThen]

set_option maxRecDepth 100000 in
set_option maxHeartbeats 4000000 in
theorem Parse_in (s : ByteArray) (T ev ct : Int) (w : World)
    (cU : ∀ wx, Below w.heap.size w wx → Calls Tryz.prog 13 #[.string s] wx fun e w' => Below wx.heap.size wx w' ∧ ∃ v, e = .returned (.tuple #[v, .int .i64 0, .int .i64 0]) ∧ (Calls Tryz.prog 14 #[v] w' fun e w'' => e = .returned (.tuple #[.agg #[.string ⟨#[120]⟩, .string ⟨#[]⟩, .int .i64 T, .bool false, .bool false, .int .i64 0, .int .i64 1, .int .i64 ev, .int .i64 ct, .int .i64 0, .bool false, .slice none 0 0, .slice none 0 0, .slice none 0 0, .slice none 0 0, .int .i64 0, .slice none 0 0, .slice none 0 0], .nilIface]) ∧ Below w'.heap.size w' w'')) :
    Calls Tryz.prog 8 #[.string s] w fun e w' => e = .returned (.tuple #[.agg #[.string ⟨#[120]⟩, .string ⟨#[]⟩, .int .i64 T, .bool false, .bool false, .int .i64 0, .int .i64 1, .int .i64 ev, .int .i64 ct, .int .i64 0, .bool false, .slice none 0 0, .slice none 0 0, .slice none 0 0, .slice none 0 0, .int .i64 0, .slice none 0 0, .slice none 0 0], .int .i64 0, .int .i64 0]) ∧ Below w.heap.size w w' := by
  have CU : Hid (∀ wx, Below w.heap.size w wx → Calls Tryz.prog 13 #[.string s] wx fun e w' => Below wx.heap.size wx w' ∧ ∃ v, e = .returned (.tuple #[v, .int .i64 0, .int .i64 0]) ∧ (Calls Tryz.prog 14 #[v] w' fun e w'' => e = .returned (.tuple #[.agg #[.string ⟨#[120]⟩, .string ⟨#[]⟩, .int .i64 T, .bool false, .bool false, .int .i64 0, .int .i64 1, .int .i64 ev, .int .i64 ct, .int .i64 0, .bool false, .slice none 0 0, .slice none 0 0, .slice none 0 0, .slice none 0 0, .int .i64 0, .slice none 0 0, .slice none 0 0], .nilIface]) ∧ Below w'.heap.size w' w'')) := cU
  clear cU
  go_enter Tryz.func8, Tryz.ntmps8
  go_upto_region 4 with (go_at_call 13; refine (CU.out _ ((Below.refl _ _).alloc (Nat.le_refl _) _)).mono ?_; rintro e w1 ⟨hb1, v1, rfl, c14⟩)
  have hE1 : w1.heap[w.heap.size]? = some (.cells #[.string ⟨#[]⟩, .string ⟨#[]⟩, .int .i64 0, .bool false, .bool false, .int .i64 0, .int .i64 0, .int .i64 0, .int .i64 0, .int .i64 0, .bool false, .slice none 0 0, .slice none 0 0, .slice none 0 0, .slice none 0 0, .int .i64 0, .slice none 0 0, .slice none 0 0] 32 (0, 0)) := (hb1.block _ (by simp)).trans (heap_alloc_new w _)
  have hb2 : Below w.heap.size w w1 := ((Below.refl _ _).alloc (Nat.le_refl _) _).trans (hb1.mono (by simp))
  clear hb1 CU
  refine wp_region_lit ?_
  refine wpList_plain rfl (fun K hK => ?_)
  go_simp
  refine hK _ _ ?_
  clear hK K
  refine wpList_plain rfl (fun K hK => ?_)
  go_simp
  refine c14.mono ?_
  clear c14
  rintro e w3 ⟨rfl, hb3⟩
  go_simp
  refine hK _ _ ?_
  clear hK K
  refine wpList_plain rfl (fun K hK => ?_)
  go_simp
  refine hK _ _ ?_
  clear hK K
  refine wpList_plain rfl (fun K hK => ?_)
  go_simp
  refine hK _ _ ?_
  clear hK K
  refine wpList_plain rfl (fun K hK => ?_)
  go_simp
  refine hK _ _ ?_
  clear hK K
  refine wpList_plain rfl (fun K hK => ?_)
  go_simp
  refine hK _ _ ?_
  clear hK K
  refine wpList_store_fresh (by rfl) 32 (.tmp 8) (.tmp 24) (by rfl) #[.string ⟨#[]⟩, .string ⟨#[]⟩, .int .i64 0, .bool false, .bool false, .int .i64 0, .int .i64 0, .int .i64 0, .int .i64 0, .int .i64 0, .bool false, .slice none 0 0, .slice none 0 0, .slice none 0 0, .slice none 0 0, .int .i64 0, .slice none 0 0, .slice none 0 0] #[.string ⟨#[120]⟩, .string ⟨#[]⟩, .int .i64 T, .bool false, .bool false, .int .i64 0, .int .i64 1, .int .i64 ev, .int .i64 ct, .int .i64 0, .bool false, .slice none 0 0, .slice none 0 0, .slice none 0 0, .slice none 0 0, .int .i64 0, .slice none 0 0, .slice none 0 0] (by rfl) (by rfl) rfl (by kernel_rfl) (by kernel_rfl) (by kernel_rfl) ?_
  refine wpList_plain rfl (fun K hK => ?_)
  go_simp
  refine hK _ _ ?_
  clear hK K
  refine wpList_nil ?_
  have hE3 := hbel hE1 hb3
  have hb4 : Below w.heap.size w w3 := hb2.trans (hb3.mono hb2.size)
  clear hE1 hb2 hb3
  have hN := heap_alloc_new w3 (.cells #[.string ⟨#[120]⟩, .string ⟨#[]⟩, .int .i64 T, .bool false, .bool false, .int .i64 0, .int .i64 1, .int .i64 ev, .int .i64 ct, .int .i64 0, .bool false, .slice none 0 0, .slice none 0 0, .slice none 0 0, .slice none 0 0, .int .i64 0, .slice none 0 0, .slice none 0 0] 32)
  have hE4 := (Below.heap_alloc w3 (.cells #[.string ⟨#[120]⟩, .string ⟨#[]⟩, .int .i64 T, .bool false, .bool false, .int .i64 0, .int .i64 1, .int .i64 ev, .int .i64 ct, .int .i64 0, .bool false, .slice none 0 0, .slice none 0 0, .slice none 0 0, .slice none 0 0, .int .i64 0, .slice none 0 0, .slice none 0 0] 32) w.heap.size (hlt hE3)).trans hE3
  have hb5 := hb4.alloc hb4.size (.cells #[.string ⟨#[120]⟩, .string ⟨#[]⟩, .int .i64 T, .bool false, .bool false, .int .i64 0, .int .i64 1, .int .i64 ev, .int .i64 ct, .int .i64 0, .bool false, .slice none 0 0, .slice none 0 0, .slice none 0 0, .slice none 0 0, .int .i64 0, .slice none 0 0, .slice none 0 0] 32)
  revert hN hE4 hb5
  generalize w3.alloc (.cells #[.string ⟨#[120]⟩, .string ⟨#[]⟩, .int .i64 T, .bool false, .bool false, .int .i64 0, .int .i64 1, .int .i64 ev, .int .i64 ct, .int .i64 0, .bool false, .slice none 0 0, .slice none 0 0, .slice none 0 0, .slice none 0 0, .int .i64 0, .slice none 0 0, .slice none 0 0] 32) = W
  intro hN hE4 hb5
  have hr := range_app [] [.string ⟨#[120]⟩, .string ⟨#[]⟩, .int .i64 T, .bool false, .bool false, .int .i64 0, .int .i64 1, .int .i64 ev, .int .i64 ct, .int .i64 0, .bool false, .slice none 0 0, .slice none 0 0, .slice none 0 0, .slice none 0 0, .int .i64 0, .slice none 0 0, .slice none 0 0] hN
  have ht := there_heap hE4 18 rfl
  clear hN
  go_upto_region 7 with fail
  refine wp_region_lit ?_
  refine wpList_load_mid (by rfl) 32 (.tmp 8) (by rfl) w3.heap.size 0 (by rfl) [.string ⟨#[120]⟩, .string ⟨#[]⟩, .int .i64 T, .bool false, .bool false, .int .i64 0, .int .i64 1, .int .i64 ev, .int .i64 ct, .int .i64 0, .bool false, .slice none 0 0, .slice none 0 0, .slice none 0 0, .slice none 0 0, .int .i64 0, .slice none 0 0, .slice none 0 0] _ hr Tryz.underlying32 rfl (by kernel_rfl) ?_
  simp only [Act.put, List.setIfInBounds_toArray, List.set_cons_zero, List.set_cons_succ]
  refine wpList_store_mid (by rfl) 32 (.tmp 2) (.tmp 31) (by rfl) w.heap.size 0 #[.string ⟨#[120]⟩, .string ⟨#[]⟩, .int .i64 T, .bool false, .bool false, .int .i64 0, .int .i64 1, .int .i64 ev, .int .i64 ct, .int .i64 0, .bool false, .slice none 0 0, .slice none 0 0, .slice none 0 0, .slice none 0 0, .int .i64 0, .slice none 0 0, .slice none 0 0] (by rfl) (by rfl) ht (by kernel_rfl) (by kernel_rfl) ?_
  go_wp2
  refine bodyPost_ret (v := .tuple #[.agg #[.string ⟨#[120]⟩, .string ⟨#[]⟩, .int .i64 T, .bool false, .bool false, .int .i64 0, .int .i64 1, .int .i64 ev, .int .i64 ct, .int .i64 0, .bool false, .slice none 0 0, .slice none 0 0, .slice none 0 0, .slice none 0 0, .int .i64 0, .slice none 0 0, .slice none 0 0], .int .i64 0, .int .i64 0]) ?_ rfl ⟨rfl, below_setCells _ _ _ hb5 (Nat.le_refl _)⟩
  have hl := run_loadVar_mid (P := Tryz.prog) _ w.heap.size 0 32 [.string ⟨#[120]⟩, .string ⟨#[]⟩, .int .i64 T, .bool false, .bool false, .int .i64 0, .int .i64 1, .int .i64 ev, .int .i64 ct, .int .i64 0, .bool false, .slice none 0 0, .slice none 0 0, .slice none 0 0, .slice none 0 0, .int .i64 0, .slice none 0 0, .slice none 0 0] _ (World.rangeAt_setCells_same W w.heap.size 0 [.string ⟨#[120]⟩, .string ⟨#[]⟩, .int .i64 T, .bool false, .bool false, .int .i64 0, .int .i64 1, .int .i64 ev, .int .i64 ct, .int .i64 0, .bool false, .slice none 0 0, .slice none 0 0, .slice none 0 0, .slice none 0 0, .int .i64 0, .slice none 0 0, .slice none 0 0] ht) Tryz.underlying32 rfl (by kernel_rfl)
  exact results_cell_tmp2 (fn := Tryz.f8) (t := 2) (u := 3) (v' := 4) (ty := 32) rfl _ _ _ ⟨w.heap.size, 0, none⟩ _ (by rfl) hl

theorem Parse_good {n : Int} (hn1 : -25567 ≤ n) (hn2 : n ≤ 84005) {y m d : Nat} (ey : dY n = y) (em : dM n = m) (ed : dD n = d) (hy : y < 10000) (hm : m < 100) (hd : d < 100) {r : List UInt8} (hr : Asc r) (hrl : r.length ≤ 60) {ev ct : Int} (hct1 : 1 ≤ ct) (hct2 : ct ≤ 999) (H7 : RuleOk (ba (restR r)) ev ct) (w : World) (hv : GV w) :
    Calls Tryz.prog 8 #[.string (ba (evT y m d r))] w fun e w' => e = .returned (.tuple #[.agg (evA n ev ct), .int .i64 0, .int .i64 0]) ∧ Below w.heap.size w w' := by
  refine Parse_in _ _ ev ct w ?_
  intro wx hbx
  have hvx := hv.below hbx
  have hu := un_fo _ _ (evT_fo hy hm hd hr hrl)
  refine (Unfold_good (ba (evT y m d r)) (evL y m d r) wx hvx (by rw [ba_size]; have := evT_len (y := y) (m := m) (d := d) hrl; omega) (by rw [ba_data]; exact hu)).mono ?_
  rintro e w1 ⟨hb1, v, ms, rfl, hl, ho⟩
  have hlen : ms.length = 5 := by
    have := congrArg List.length hl
    simpa [Ln.lns, evL] using this
  rw [hlen] at ho
  obtain ⟨g, cap, rfl, hc1, hc2, _⟩ := own_slice ho (by omega)
  exact ⟨hb1, _, rfl, parse_lines hn1 hn2 ey em ed hy hm hd hr hrl hct1 hct2 H7 g cap w1 (hvx.below hb1) hc1 hc2 (lines_in hl ho)⟩
end Go.Proofs.YtmmnbdefkailpaaGreatDoor
