/-
  LexAgain: for every text the law returns true, and its argument reads as before. No condition.
-/
import Derived.Test.YtjpejdjiecfbnabRows
import Derived.Test.YtjpejdjiecfbnabLexG
import Derived.Deep.QuietTactic
import Derived.BigQuiet
import Derived.WalkKit
import Derived.ProofKit
import Derived.OpenShut
import Derived.ShutString
namespace Go.Proofs.Ytjpejdjiecfbnab.lexAgain
open Go.ChangeShapes Go.WideShapes Go.ChangeAt Go.RowKit
open Go.ChangeMaps (open_string shut_string)
set_option linter.unusedVariables false      -- a walk need not use every 'w<i>' (that an integer argument fits its kind)

theorem own : ownKnob Try.prog.godebug = none := by kernel_rfl

/-- A token that a text began with. -/
def Good (t : Tok) : Prop := ∃ l, gapL l = 0 ∧ (tokL l).err = 0 ∧ t.kind = (tokL l).kind ∧ t.text = l.take (tokL l).n ∧ t.num = (tokL l).num

def total (ts : List Tok) : Nat := (ts.map fun t => t.text.length).sum

theorem goL_good : ∀ (l : List UInt8) (d : Nat) (line col : Int) (acc ts : List Tok), d ≤ l.length → goL l d line col acc = .ok ts →
    ∃ (new : List Tok) (line' col' : Int), ts = acc ++ new ++ [⟨0, [], 0, line', col'⟩] ∧ (∀ t ∈ new, Good t) ∧ total new + d ≤ l.length := by
  intro l
  induction l with
  | nil =>
    intro d line col acc ts hd h
    simp only [goL, Except.ok.injEq] at h
    exact ⟨[], line, col, by simp [← h], by simp, by simpa [total] using hd⟩
  | cons c r ih =>
    intro d line col acc ts hd h
    cases d with
    | succ d =>
      rw [goL] at h
      obtain ⟨new, l', c', e, hg, ht⟩ := ih d _ _ acc ts (by simpa using hd) h
      exact ⟨new, l', c', e, hg, by simp; omega⟩
    | zero =>
      rw [goL] at h
      by_cases hgap : gapL (c :: r) = 0
      · rw [if_pos hgap] at h
        by_cases herr : (tokL (c :: r)).err = 0
        · rw [if_pos herr] at h
          have hn := tokL_n (c :: r) herr
          simp only [List.length_cons] at hn
          obtain ⟨new, l', c', e, hg, ht⟩ := ih _ _ _ _ ts (by omega) h
          refine ⟨⟨(tokL (c :: r)).kind, (c :: r).take (tokL (c :: r)).n, (tokL (c :: r)).num, line, col⟩ :: new, l', c', by simp [e], ?_, ?_⟩
          · intro t ht'
            rcases List.mem_cons.1 ht' with rfl | h'
            · exact ⟨c :: r, hgap, herr, rfl, rfl, rfl⟩
            · exact hg t h'
          · simp only [total, List.map_cons, List.sum_cons, List.length_take, List.length_cons] at ht ⊢
            omega
        · rw [if_neg herr] at h; cases h
      · rw [if_neg hgap] at h
        have hl := gapL_le (c :: r)
        simp only [List.length_cons] at hl
        obtain ⟨new, l', c', e, hg, ht⟩ := ih _ _ _ acc ts (by omega) h
        exact ⟨new, l', c', e, hg, by simp; omega⟩

theorem spanL_take (p : Int → Bool) (hp : p 32 = false) (l r : List UInt8) : spanL p (l.take (spanL p l) ++ 32 :: r) = spanL p l := by
  induction l with
  | nil => simp [spanL, hp]
  | cons c l ih =>
    simp only [spanL]
    split
    · rename_i hc
      simp [spanL, hc, ih]
    · simp [spanL, hp]
theorem take_back {α : Type} (x y : List α) : (x ++ y).take x.length = x := by simp
theorem len_span (p : Int → Bool) (l : List UInt8) : (l.take (spanL p l)).length = spanL p l := by
  have := spanL_le p l
  rw [List.length_take]; omega
theorem letter_not (c : UInt8) (h : letterB (c.toNat : Int) = true) : blankB (c.toNat : Int) = false ∧ c ≠ 47 := by
  constructor
  · simp [letterB, blankB] at h ⊢; omega
  · rintro rfl; simp [letterB] at h
theorem digit_not (c : UInt8) (h : digitB (c.toNat : Int) = true) : blankB (c.toNat : Int) = false ∧ c ≠ 47 := by
  constructor
  · simp [digitB, blankB] at h ⊢; omega
  · rintro rfl; simp [digitB] at h
theorem gap_of (c : UInt8) (r : List UInt8) (hb : blankB (c.toNat : Int) = false) (h : ¬ (c = 47 ∧ r.head? = some 47)) : gapL (c :: r) = 0 := by
  have hp : Lib.hasPrefix (c :: r) [47, 47] = false := by
    unfold Lib.hasPrefix
    cases r with
    | nil => simp [List.isPrefixOf]
    | cons d r =>
      simp only [List.isPrefixOf, Bool.and_true]
      simp only [List.head?_cons, Option.some.injEq, not_and] at h
      by_cases e : c = 47
      · subst e
        have := h rfl
        simp
        exact fun h' => this h'.symm
      · simp
        intro h'
        exact absurd h'.symm e
  simp [gapL, hb, hp]
theorem gap_blank {c : UInt8} {r : List UInt8} (h : gapL (c :: r) = 0) : blankB (c.toNat : Int) = false := by
  cases hb : blankB (c.toNat : Int) with
  | false => rfl
  | true => simp [gapL, hb] at h
theorem double_blank (c : UInt8) : doubleB [c, 32] = false := by simp [doubleB]

theorem relex (l : List UInt8) (hg : gapL l = 0) (he : (tokL l).err = 0) (r : List UInt8) :
    gapL (l.take (tokL l).n ++ 32 :: r) = 0 ∧ tokL (l.take (tokL l).n ++ 32 :: r) = ⟨0, (l.take (tokL l).n).length, (tokL l).kind, (tokL l).num⟩ ∧ 1 ≤ (l.take (tokL l).n).length := by
  cases l with
  | nil => simp [tokL] at he
  | cons c t =>
    have hn := tokL_n (c :: t) he
    have hblank := gap_blank hg
    by_cases hl : letterB (c.toNat : Int) = true
    · have e1 := tokL_letter (l := c :: t) rfl hl
      have hlen := len_span inNameB (c :: t)
      have hs := spanL_take inNameB (by decide) (c :: t) r
      have hx : ∃ y, (c :: t).take (spanL inNameB (c :: t)) = c :: y := by
        have h1 : spanL inNameB (c :: t) = spanL inNameB t + 1 := by
          have : inNameB (c.toNat : Int) = true := by simp [inNameB, hl]
          simp [spanL, this]
        rw [h1]; exact ⟨_, rfl⟩
      obtain ⟨y, hy⟩ := hx
      rw [e1]
      simp only
      rw [hy] at hs hlen ⊢
      refine ⟨gap_of c _ (letter_not c hl).1 (fun h => (letter_not c hl).2 h.1), ?_, by simp⟩
      have e2 := tokL_letter (l := (c :: y) ++ 32 :: r) (c := c) (r := y ++ 32 :: r) rfl hl
      rw [e2, hs, ← hlen, take_back]
    · have hl' : letterB (c.toNat : Int) = false := by simpa using hl
      by_cases hd : digitB (c.toNat : Int) = true
      · cases hq : numL 0 ((c :: t).take (spanL digitB (c :: t))) with
        | none => rw [tokL_none rfl hl' hd hq] at he; simp at he
        | some v =>
          have e1 := tokL_some (l := c :: t) rfl hl' hd hq
          have hlen := len_span digitB (c :: t)
          have hs := spanL_take digitB (by decide) (c :: t) r
          have hx : ∃ y, (c :: t).take (spanL digitB (c :: t)) = c :: y := by
            have h1 : spanL digitB (c :: t) = spanL digitB t + 1 := by simp [spanL, hd]
            rw [h1]; exact ⟨_, rfl⟩
          obtain ⟨y, hy⟩ := hx
          rw [e1]
          simp only
          rw [hy] at hs hlen hq ⊢
          refine ⟨gap_of c _ (digit_not c hd).1 (fun h => (digit_not c hd).2 h.1), ?_, by simp⟩
          have e2 := tokL_some (l := (c :: y) ++ 32 :: r) (c := c) (r := y ++ 32 :: r) (v := v) rfl hl' hd (by rw [hs, ← hlen, take_back]; exact hq)
          rw [e2, hs, ← hlen]
      · have hd' : digitB (c.toNat : Int) = false := by simpa using hd
        by_cases hm : 0 < markL (c :: t)
        · have e1 := tokL_mark (l := c :: t) rfl hl' hd' hm
          rw [e1]
          simp only
          by_cases h2 : (1 < (c :: t).length && doubleB ((c :: t).take 2)) = true
          · have hk : markL (c :: t) = 2 := by simp only [markL, h2, if_true]
            rw [hk]
            obtain ⟨h3, h4⟩ : 1 < (c :: t).length ∧ doubleB ((c :: t).take 2) = true := by simpa using h2
            cases t with
            | nil => simp at h3
            | cons d t =>
              have hx : (c :: d :: t).take 2 = [c, d] := rfl
              rw [hx] at h4 ⊢
              refine ⟨gap_of c _ hblank (fun h => ?_), ?_, by simp⟩
              · obtain ⟨rfl, h5⟩ := h
                have : d = 47 := by simpa using h5
                subst this
                simp [doubleB] at h4
              · have hk2 : markL ([c, d] ++ 32 :: r) = 2 := by
                  have h5 : (1 < ([c, d] ++ 32 :: r).length && doubleB (([c, d] ++ 32 :: r).take 2)) = true := by
                    have : ([c, d] ++ 32 :: r).take 2 = [c, d] := rfl
                    rw [this, h4]; simp
                  show markL (c :: (d :: 32 :: r)) = 2
                  simp only [markL]
                  exact if_pos h5
                have e2 := tokL_mark (l := [c, d] ++ 32 :: r) (c := c) (r := d :: 32 :: r) rfl hl' hd' (by rw [hk2]; decide)
                rw [e2, hk2]; rfl
          · have h2' : (1 < (c :: t).length && doubleB ((c :: t).take 2)) = false := by simpa using h2
            have hs : singleB c = true := by
              by_cases h : singleB c = true
              · exact h
              · have h' : singleB c = false := by simpa using h
                have h0 : markL (c :: t) = 0 := by simp only [markL, h2', h']; rfl
                omega
            have hk : markL (c :: t) = 1 := by simp only [markL, h2', hs]; rfl
            rw [hk]
            have hx : (c :: t).take 1 = [c] := rfl
            rw [hx]
            refine ⟨gap_of c _ hblank (fun h => ?_), ?_, by simp⟩
            · have := h.2; simp at this
            · have hk2 : markL ([c] ++ 32 :: r) = 1 := by
                have h5 : (1 < ([c] ++ 32 :: r).length && doubleB (([c] ++ 32 :: r).take 2)) = false := by
                  have : ([c] ++ 32 :: r).take 2 = [c, 32] := rfl
                  rw [this, double_blank]; simp
                show markL (c :: (32 :: r)) = 1
                simp only [markL]
                have h6 : ¬ ((1 < (c :: 32 :: r).length && doubleB ((c :: 32 :: r).take 2)) = true) := by
                  have h7 : (1 < (c :: 32 :: r).length && doubleB ((c :: 32 :: r).take 2)) = false := h5
                  rw [h7]; simp
                rw [if_neg h6, if_pos hs]
              have e2 := tokL_mark (l := [c] ++ 32 :: r) (c := c) (r := 32 :: r) rfl hl' hd' (by rw [hk2]; decide)
              rw [e2, hk2]; rfl
        · rw [tokL_sign rfl hl' hd' hm] at he; simp at he

theorem goL_skip : ∀ (x r : List UInt8) (line col : Int) (acc : List Tok), ∃ line' col', goL (x ++ r) x.length line col acc = goL r 0 line' col' acc := by
  intro x
  induction x with
  | nil => intro r line col acc; exact ⟨line, col, rfl⟩
  | cons c x ih =>
    intro r line col acc
    obtain ⟨l', c', e⟩ := ih r (lineB line c) (colB col c) acc
    exact ⟨l', c', by rw [List.cons_append, List.length_cons, goL]; exact e⟩

theorem goL_one (t : Tok) (h : Good t) (r : List UInt8) (line col : Int) (acc : List Tok) :
    ∃ line' col', goL (t.text ++ 32 :: r) 0 line col acc = goL r 0 line' col' (acc ++ [⟨t.kind, t.text, t.num, line, col⟩]) := by
  obtain ⟨l, hg, he, hk, htx, hnum⟩ := h
  obtain ⟨h1, h2, h3⟩ := relex l hg he r
  rw [← htx] at h1 h2 h3
  rw [← hk, ← hnum] at h2
  cases ht : t.text with
  | nil => rw [ht] at h3; simp at h3
  | cons c y =>
    rw [ht] at h1 h2
    have e0 : (c :: y) ++ 32 :: r = c :: (y ++ 32 :: r) := rfl
    rw [e0] at h1 h2 ⊢
    rw [goL, if_pos h1, h2, if_pos rfl]
    have e1 : (c :: (y ++ 32 :: r)).take (c :: y).length = c :: y := by rw [← e0]; exact take_back _ _
    rw [e1]
    obtain ⟨l1, c1, e2⟩ := goL_skip y (32 :: r) (lineB line c) (colB col c) (acc ++ [⟨t.kind, c :: y, t.num, line, col⟩])
    have hl : (c :: y).length - 1 = y.length := by simp
    rw [hl, e2, goL, if_neg (by show ¬ gapL (32 :: r) = 0; have : gapL (32 :: r) = 1 := rfl; rw [this]; decide)]
    have hg1 : gapL (32 :: r) = 1 := rfl
    rw [hg1]
    exact ⟨_, _, rfl⟩

/-- Kind, text and number of tokens. -/
def kinds (ts : List Tok) : List (Int × List UInt8 × Int) := ts.map fun t => (t.kind, t.text, t.num)
/-- The tokens written again. -/
def written (ts : List Tok) : List UInt8 := ts.flatMap fun t => t.text ++ [32]

theorem goL_written : ∀ (new : List Tok) (r : List UInt8) (line col : Int) (acc : List Tok), (∀ t ∈ new, Good t) →
    ∃ (line' col' : Int) (new' : List Tok), goL (written new ++ r) 0 line col acc = goL r 0 line' col' (acc ++ new') ∧ kinds new' = kinds new := by
  intro new
  induction new with
  | nil => intro r line col acc _; exact ⟨line, col, [], by simp [written], rfl⟩
  | cons t new ih =>
    intro r line col acc h
    obtain ⟨l1, c1, e1⟩ := goL_one t (h t (by simp)) (written new ++ r) line col acc
    obtain ⟨l2, c2, new', e2, hk⟩ := ih r l1 c1 (acc ++ [⟨t.kind, t.text, t.num, line, col⟩]) (fun t' ht' => h t' (by simp [ht']))
    refine ⟨l2, c2, ⟨t.kind, t.text, t.num, line, col⟩ :: new', ?_, by simp only [kinds, List.map_cons] at hk ⊢; rw [hk]⟩
    have e3 : written (t :: new) ++ r = t.text ++ 32 :: (written new ++ r) := by simp [written]
    rw [e3, e1, e2]
    simp

theorem lex_again (l : List UInt8) (ts : List Tok) (h : lexL l = .ok ts) :
    ∃ ts', lexL (written ts) = .ok ts' ∧ kinds ts' = kinds ts ∧ (written ts).length ≤ 2 * l.length + 1 ∧ 0 < ts.length := by
  obtain ⟨new, l', c', e, hg, ht⟩ := goL_good l 0 1 1 [] ts (Nat.zero_le _) h
  rw [List.nil_append] at e
  subst e
  obtain ⟨l2, c2, new', e2, hk⟩ := goL_written new [32] 1 1 [] hg
  have e3 : written (new ++ [⟨0, [], 0, l', c'⟩]) = written new ++ [32] := by simp [written]
  refine ⟨new' ++ [⟨0, [], 0, lineB l2 32, colB c2 32⟩], ?_, ?_, ?_, by simp⟩
  · unfold lexL
    rw [e3, e2, List.nil_append, goL, if_neg (by show ¬ gapL [32] = 0; decide)]
    rfl
  · simp only [kinds, List.map_append] at hk ⊢
    rw [hk]; rfl
  · rw [e3]
    have hw : ∀ ts : List Tok, (∀ t ∈ ts, Good t) → (written ts).length ≤ 2 * total ts := by
      intro ts
      induction ts with
      | nil => intro _; simp [written, total]
      | cons t ts ih =>
        intro hh
        have h1 := ih (fun t' ht' => hh t' (by simp [ht']))
        obtain ⟨l0, hg0, he0, _, htx, _⟩ := hh t (by simp)
        have h2 := (relex l0 hg0 he0 []).2.2
        rw [← htx] at h2
        simp only [written, total, List.flatMap_cons, List.length_append, List.map_cons, List.sum_cons, List.length_cons, List.length_nil] at h1 ⊢
        omega
    have := hw new hg
    simp
    omega
def joined (ts : List Tok) (k : Nat) : ByteArray := ⟨(written (ts.take k)).toArray⟩
theorem joined_list (ts : List Tok) (k : Nat) : (joined ts k).data.toList = written (ts.take k) := rfl
theorem joined_step (ts : List Tok) (k : Nat) (t : Tok) (h : ts[k]? = some t) : (joined ts k ++ ⟨t.text.toArray⟩) ++ ⟨#[32]⟩ = joined ts (k + 1) := by
  apply bytes_inj
  have hk : k < ts.length := (List.getElem?_eq_some_iff.1 h).1
  have e : ts.take (k + 1) = ts.take k ++ [t] := by
    rw [List.take_add_one, h]; rfl
  rw [joined_list, e]
  simp [joined, written, ByteArray.data_append]
theorem written_take (ts : List Tok) (k : Nat) : (written (ts.take k)).length ≤ (written ts).length := by
  have e : written ts = written (ts.take k) ++ written (ts.drop k) := by
    unfold written
    rw [← List.flatMap_append, List.take_append_drop]
  rw [e]; simp

def Toks (w' : World) (g : Nat) (ts : List Tok) : Prop :=
  ∀ (i : Nat) (t : Tok), ts[i]? = some t → w'.cell? ⟨g, i * 5, none⟩ = some (.int .i64 t.kind) ∧ w'.cell? ⟨g, i * 5 + 1, none⟩ = some (.string ⟨t.text.toArray⟩) ∧ w'.cell? ⟨g, i * 5 + 2, none⟩ = some (.int .i64 t.num) ∧
      w'.cell? ⟨g, i * 5 + 3, none⟩ = some (.int .i64 t.line) ∧ w'.cell? ⟨g, i * 5 + 4, none⟩ = some (.int .i64 t.col)
theorem written_many (ts : List Tok) : ts.length ≤ (written ts).length := by
  induction ts with
  | nil => simp
  | cons t ts ih => simp only [written, List.flatMap_cons, List.length_append, List.length_cons, List.length_nil] at ih ⊢; omega
theorem same_at {ts ts' : List Tok} (h : kinds ts' = kinds ts) (k : Nat) (t : Tok) (ht : ts[k]? = some t) : ∃ t', ts'[k]? = some t' ∧ t'.kind = t.kind ∧ t'.text = t.text ∧ t'.num = t.num := by
  have h1 := congrArg (·[k]?) h
  simp only [kinds, List.getElem?_map, ht, Option.map_some] at h1
  obtain ⟨t', h2, h3⟩ := Option.map_eq_some_iff.1 h1
  simp only [Prod.mk.injEq] at h3
  exact ⟨t', h2, h3.1, h3.2.1, h3.2.2⟩
theorem written_one (ts : List Tok) (k : Nat) (t : Tok) (h : ts[k]? = some t) : t.text.length + 1 ≤ (written ts).length := by
  have hk : t ∈ ts := List.mem_of_getElem? h
  obtain ⟨a, b, e⟩ := List.append_of_mem hk
  rw [e]
  simp [written]
  omega
theorem Toks.later {w1 w2 : World} {g : Nat} {ts : List Tok} (h : Toks w1 g ts) (hg : g < w1.heap.size) (hb : Below w1.heap.size w1 w2) : Toks w2 g ts := by
  intro i t ht
  obtain ⟨h0, h1, h2, h3, h4⟩ := h i t ht
  exact ⟨(hb.cell hg).trans h0, (hb.cell hg).trans h1, (hb.cell hg).trans h2, (hb.cell hg).trans h3, (hb.cell hg).trans h4⟩

theorem again_long (s : ByteArray) (h : 500 < s.size) (hm : s.size ≤ maxLen) (w : World) :
    Calls Try.prog 5 #[.string s] w fun e w' => e = .returned (.bool true) ∧ Below w.heap.size w w' := by
  unfold maxLen at hm
  go_enter Try.func5, Try.ntmps5
  go_wp2_with (fail)
  refine (head_any _).mono ?_; rintro e w1 ⟨rfl, hb1⟩
  go_wp2_with (fail)
  go_ret
  exact ⟨rfl, hb1⟩
theorem again_bad (s : ByteArray) (h : s.size ≤ 500) (a b c : Int) (ha : (a != 0) = true) (he : lexL s.data.toList = .error (a, b, c)) (w : World) :
    Calls Try.prog 5 #[.string s] w fun e w' => e = .returned (.bool true) ∧ Below w.heap.size w w' := by
  have HE := Lib.hid he; clear he
  go_enter Try.func5, Try.ntmps5
  go_wp2_with (fail)
  refine (head_any _).mono ?_; rintro e w1 ⟨rfl, hb1⟩
  go_wp2_with (fail)
  refine (all_bad _ (by omega) a b c HE.out _).mono ?_; rintro e w2 ⟨rfl, hb2⟩
  go_wp2_with (fail)
  go_ret
  have z1 := hb1.size
  have z2 := hb2.size
  exact ⟨rfl, (hb1.trans (hb2.mono z1)).alloc (by omega) _⟩

set_option maxHeartbeats 1000000 in
theorem again_ok (s : ByteArray) (h : s.size ≤ 500) (ts ts' : List Tok) (he : lexL s.data.toList = .ok ts) (he' : lexL (written ts) = .ok ts') (hk : kinds ts' = kinds ts) (hlen : (written ts).length ≤ 1001) (h0 : 0 < ts.length) (w : World) :
    Calls Try.prog 5 #[.string s] w fun e w' => e = .returned (.bool true) ∧ Below w.heap.size w w' := by
  have HE := Lib.hid he; have HE' := Lib.hid he'; have HK := Lib.hid hk
  have hn : ts.length ≤ 1001 := Nat.le_trans (written_many ts) hlen
  have HLEN := Lib.hid hlen
  clear he he' hk hlen
  go_enter Try.func5, Try.ntmps5
  go_wp2_with (fail)
  refine (head_any _).mono ?_; rintro e w1 ⟨rfl, hb1⟩
  go_wp2_with (fail)
  refine (all_ok _ (by omega) ts HE.out h0 _).mono ?_
  rintro e w2 ⟨g, cap, rfl, hb2, hg1, hg2, hcap, hcs⟩
  have HC := Lib.hid (show Toks w2 g ts from fun i t ht => by rw [Nat.mul_comm i 5]; exact hcs i t ht)
  clear hcs
  have HB := Lib.hid (hb1.trans (hb2.mono hb1.size))
  have hz : w.heap.size ≤ w2.heap.size := by have := HB.out.size; omega
  clear hb1 hb2
  go_wp2_with (fail)
  go_loopw [5, 26] (fun a i wr => ∃ k : Nat, k ≤ ts.length ∧ Below w2.heap.size w2 wr ∧ w2.heap.size < wr.heap.size ∧ a = .string (joined ts k) ∧ i = .int .i64 k) (fun _ i _ => ts.length - (intOf i).toNat)
  case atStart => exact ⟨0, Nat.zero_le _, (Below.refl _ _).alloc (Nat.le_refl _) _, by simp, rfl, rfl⟩
  case round =>
    obtain ⟨k, hkk, hbr, hzr, rfl, rfl⟩ := hrel
    have HBR := Lib.hid hbr
    clear hbr
    by_cases hlt : k < ts.length
    · have ht : ts[k]? = some ts[k] := List.getElem?_eq_getElem hlt
      have HT := Lib.hid ht
      generalize ts[k] = t at ht HT
      obtain ⟨k0, k1, k2, k3, k4⟩ := (HC.out.later hg2 HBR.out) k t ht
      have hj1 : (joined ts k).size ≤ 1001 := by
        have := written_take ts k
        have := HLEN.out
        show (written (ts.take k)).toArray.size ≤ 1001
        simp; omega
      have hj2 : (⟨t.text.toArray⟩ : ByteArray).size ≤ 1001 := by
        have := written_one ts k t ht
        have := HLEN.out
        show t.text.toArray.size ≤ 1001
        simp; omega
      clear ht
      have hst := joined_step ts k t HT.out
      have HST := Lib.hid hst; clear hst
      generalize hx : (⟨t.text.toArray⟩ : ByteArray) = x at k1 hj2
      have HX := Lib.hid hx; clear hx
      go_wp2_with (fail)
      go_roundw
      case rel =>
        refine ⟨k + 1, by omega, HBR.out.alloc (by omega) _, by simp; omega, ?_, by go_num⟩
        rw [← HST.out, HX.out]
      case measure => simp [intOf]; omega
    · obtain rfl : ts.length = k := by omega
      have hj : joined ts ts.length = ⟨(written ts).toArray⟩ := by unfold joined; rw [List.take_length]
      have hjd : (joined ts ts.length).data.toList = written ts := by rw [hj]
      have hjs : (joined ts ts.length).size ≤ 1001 := by
        have := HLEN.out
        rw [hj]
        show (written ts).toArray.size ≤ 1001
        simp; omega
      have HJD := Lib.hid hjd
      clear hj hjd
      have hl' : ts'.length = ts.length := by have := congrArg List.length HK.out; simpa [kinds] using this
      have HL' := Lib.hid hl'
      go_wp2_with (fail)
      refine (all_ok _ (by omega) ts' (by rw [HJD.out]; exact HE'.out) (by omega) _).mono ?_
      rintro e w4 ⟨g', cap', rfl, hb4, hg1', hg2', hcap', hcs'⟩
      have HC' := Lib.hid (show Toks w4 g' ts' from fun i t ht => by rw [Nat.mul_comm i 5]; exact hcs' i t ht)
      have hgr : g < wr.heap.size := by omega
      have HCC := Lib.hid ((HC.out.later hg2 HBR.out).later hgr hb4)
      have HB4 := Lib.hid (((HB.out.trans (HBR.out.mono hz)).trans (hb4.mono (by omega))))
      have hz4 : wr.heap.size ≤ w4.heap.size := hb4.size
      clear hcs' hb4
      rw [HL'.out]
      clear hl'
      go_wp2_with (fail)
      go_loopw [53] (fun i wr2 => ∃ k : Nat, k ≤ ts.length ∧ Below w4.heap.size w4 wr2 ∧ i = .int .i64 k) (fun i _ => ts.length - (intOf i).toNat)
      case atStart => exact ⟨0, Nat.zero_le _, (Below.refl _ _).alloc (Nat.le_refl _) _, rfl⟩
      case round =>
        obtain ⟨k, hkk, hbr2, rfl⟩ := hrel
        have HBR2 := Lib.hid hbr2
        clear hbr2
        by_cases hlt2 : k < ts.length
        · have ht : ts[k]? = some ts[k] := List.getElem?_eq_getElem hlt2
          obtain ⟨t', ht', e1, e2, e3⟩ := same_at HK.out k _ ht
          obtain ⟨p0, p1, p2, p3, p4⟩ := (HCC.out.later (by omega) HBR2.out) k _ ht
          obtain ⟨q0, q1, q2, q3, q4⟩ := (HC'.out.later hg2' HBR2.out) k t' ht'
          rw [e1] at q0; rw [e2] at q1; rw [e3] at q2
          clear p3 p4 q3 q4 e1 e2 e3 ht'
          generalize ts[k] = t at ht p0 p1 p2 q0 q1 q2
          clear ht
          generalize (⟨t.text.toArray⟩ : ByteArray) = x at p1 q1
          generalize t.kind = kd at p0 q0
          generalize t.num = nm at p2 q2
          go_wp2_with (fail)
          go_quiet (fail)
          go_wp2_with (fail)
          go_roundw
          case rel => exact ⟨k + 1, by omega, by repeat (first | exact HBR2.out | apply Below.drew | exact ⟨HBR2.out.os, HBR2.out.tape, HBR2.out.output, HBR2.out.size, HBR2.out.block⟩), by go_num⟩
          case measure => simp [intOf]; omega
        · obtain rfl : ts.length = k := by omega
          go_wp2_with (fail)
          go_ret
          exact ⟨rfl, HB4.out.trans (HBR2.out.mono (by have := HB4.out.size; omega))⟩

theorem errs : ∀ (l : List UInt8) (d : Nat) (line col : Int) (acc : List Tok) (x : Int × Int × Int), goL l d line col acc = .error x → (x.1 != 0) = true := by
  intro l
  induction l with
  | nil => intro d line col acc x h; cases d <;> cases h
  | cons c r ih =>
    intro d line col acc x h
    cases d with
    | succ d => rw [goL] at h; exact ih _ _ _ _ _ h
    | zero =>
      rw [goL] at h
      by_cases hg : gapL (c :: r) = 0
      · rw [if_pos hg] at h
        by_cases he : (tokL (c :: r)).err = 0
        · rw [if_pos he] at h; exact ih _ _ _ _ _ h
        · rw [if_neg he] at h
          injection h with h
          subst h
          simpa using he
      · rw [if_neg hg] at h; exact ih _ _ _ _ _ h

theorem all (s : ByteArray) (hm : s.size ≤ maxLen) (w : World) :
    Calls Try.prog 5 #[.string s] w fun e w' => e = .returned (.bool true) ∧ Below w.heap.size w w' := by
  by_cases h : s.size ≤ 500
  · cases he : lexL s.data.toList with
    | error x => exact again_bad s h x.1 x.2.1 x.2.2 (errs _ _ _ _ _ x he) he w
    | ok ts =>
      obtain ⟨ts', h1, h2, h3, h4⟩ := lex_again _ ts he
      refine again_ok s h ts ts' he h1 h2 ?_ h4 w
      have : s.data.toList.length = s.size := by simp
      omega
  · exact again_long s (by omega) hm w

theorem walk (a0 : ByteArray) (w0 : a0.size ≤ maxLen) (w : World) :
    Calls Try.prog 5 #[.string a0] w fun e w' => e = .returned (.bool true) ∧ Below w.heap.size w w' := by
  exact all a0 w0 w

/-! ### THE ROW's STEP: WRITTEN OUT: LEAVE IT -/
set_option maxRecDepth 100000 in
theorem lifted (os : Os) (started : os.Started) (H : Type) (enc : TypeId × Value → H) :
    ReturnsInHanded {} Try.checked os 5 .any (Rows.lexAgainSpec.pre6 enc Try.prog Try.f5 Rows.lexAgainRow.domain false) (Rows.lexAgainSpec.post enc Try.prog Try.f5 false true false false) := by
  refine returnsInHanded_of_change (C := Try.checked) own started (by kernel_rfl) Try.func5
    (ChangeSpec.witness6 (enc := enc) (C := Try.checked) false ⟨#[], #[.string ByteArray.empty], []⟩ 8 (by kernel_rfl) (by kernel_rfl) (by kernel_rfl) (by kernel_rfl)) ?_
  intro W base args ds gs before hval0 hW hcnd _
  have hval : ∀ (j : Nat) t v, Try.f5.params[j]? = some t → args[j]? = some v → Value.okWide Try.prog W .any base t v := hval0
  have hW' := hW
  obtain ⟨p, q, hA0, hV, rfl, hfz, hnd⟩ := hW
  have hA : DataW.TrodAll enc Try.prog W 0 (fun _ => true) true Try.f5.params.toList args.toList ds p := hA0
  rw [Try.params5] at hA hval
  obtain ⟨v0, vs0, d0, ds0, p0, q0, hargs, rfl, rfl, h0, r0⟩ := trodAll_cons hA
  obtain ⟨rfl, rfl, rfl⟩ := trodAll_nil r0
  obtain rfl : args = #[v0] := by cases args; simp_all
  obtain ⟨rfl, rfl⟩ := trodVars_none hV
  obtain ⟨a0, rfl, rfl, rfl, w0⟩ := open_string Try.underlying9 (hval 0 9 v0 rfl rfl) h0
  clear hA0 hval0
  simp only [List.append_nil] at hW'
  refine (walk a0 w0 W).mono fun e W' ⟨he, hg⟩ => ?_
  subst he
  exact ⟨_, rfl, post_new hW' (fun _ _ _ => (trodAll_cons_mk (shut_bool Try.underlying4 _) trodAll_mk0)) (fun sp => (trodAll_cons_mk (shut_string Try.underlying9 w0) trodAll_mk0)) (fun _ => rfl) hg (ok_one (by kernel_rfl) rfl (okWide_bool_mk Try.underlying4 _))⟩

theorem over : Rows.lexAgainRow.holds Try.pinned (OpenSpec.ofChange Rows.lexAgainSpec) :=
  OpenClaim.holds_of_wide 5 Try.f5 rfl rfl rfl rfl rfl rfl rfl ⟨rfl, rfl, rfl, rfl, rfl⟩ rfl rfl rfl rfl rfl (by kernel_rfl) Try.func5 (by kernel_rfl)
    (of_decide_eq_true (by kernel_rfl)) (by unfold Func.isWrapper; first | (rw [if_pos (by decide +kernel)]; kernel_rfl) | (rw [if_neg (by decide +kernel)]; exact ⟨rfl, rfl⟩))
    (fun os started H enc _ => lifted os started H enc)

/-- ████ THE STATEMENT ████ -/
theorem proved : Rows.LexAgainSaid :=
  over
#print axioms proved
end Go.Proofs.Ytjpejdjiecfbnab.lexAgain
