/-
  LexAny: the list of tokens as a chain over the text, gaps between.
-/
import Derived.Test.YtjpejdjiecfbnabAnyGap
namespace Go.Proofs.Ytjpejdjiecfbnab.lexAny
open Go.ChangeShapes Go.WideShapes Go.ChangeAt Go.RowKit
set_option linter.unusedVariables false

/-- Tokens one behind the other from a place on, gaps between, the end last. -/
inductive Chain (l : List UInt8) : Nat → List Tok → Prop
  | last (i : Nat) : Gaps l i l.length → Chain l i [⟨0, [], 0, (posFrom 1 1 (l.take l.length)).1, (posFrom 1 1 (l.take l.length)).2⟩]
  | more (i p : Nat) (ts : List Tok) : Gaps l i p → p < l.length → (tokL (l.drop p)).err = 0 → ts ≠ [] → Chain l (p + (tokL (l.drop p)).n) ts →
      Chain l i (⟨(tokL (l.drop p)).kind, (l.drop p).take (tokL (l.drop p)).n, (tokL (l.drop p)).num, (posFrom 1 1 (l.take p)).1, (posFrom 1 1 (l.take p)).2⟩ :: ts)

theorem Chain.ne {l : List UInt8} {i : Nat} {ts : List Tok} (h : Chain l i ts) : ts ≠ [] := by cases h <;> simp
theorem Chain.gap {l : List UInt8} {i : Nat} {ts : List Tok} (hg : 0 < gapL (l.drop i)) (h : Chain l (i + gapL (l.drop i)) ts) : Chain l i ts := by
  cases h with
  | last _ hh => exact .last i (.step _ _ hg hh)
  | more _ p ts hh hp he hne hc => exact .more i p ts (.step _ _ hg hh) hp he hne hc

theorem chain_of (l : List UInt8) : ∀ (n i d : Nat) (acc ts : List Tok), l.length - i = n → i + d ≤ l.length → goL (l.drop i) d (posFrom 1 1 (l.take i)).1 (posFrom 1 1 (l.take i)).2 acc = .ok ts →
    ∃ new, ts = acc ++ new ∧ Chain l (i + d) new := by
  intro n
  induction n with
  | zero =>
    intro i d acc ts hn hi h
    have e : l.drop i = [] := List.drop_of_length_le (by omega)
    have e2 : i = l.length := by omega
    have e3 : d = 0 := by omega
    subst e3
    rw [e, goL] at h
    injection h with h
    refine ⟨_, h.symm, ?_⟩
    rw [e2]
    exact .last _ (.stop _ (by rw [Nat.add_zero, List.drop_length]; rfl))
  | succ n ih =>
    intro i d acc ts hn hi h
    have hlt : i < l.length := by omega
    have e : l.drop i = l[i] :: l.drop (i + 1) := List.drop_eq_getElem_cons hlt
    have hp : posFrom 1 1 (l.take (i + 1)) = (lineB (posFrom 1 1 (l.take i)).1 l[i], colB (posFrom 1 1 (l.take i)).2 l[i]) := by
      rw [List.take_succ_eq_append_getElem hlt, posFrom_snoc]
    have h1 : lineB (posFrom 1 1 (l.take i)).1 l[i] = (posFrom 1 1 (l.take (i + 1))).1 := by rw [hp]
    have h2 : colB (posFrom 1 1 (l.take i)).2 l[i] = (posFrom 1 1 (l.take (i + 1))).2 := by rw [hp]
    cases d with
    | succ d =>
      rw [e, goL, h1, h2] at h
      obtain ⟨new, e1, hc⟩ := ih (i + 1) d acc ts (by omega) (by omega) h
      have e4 : i + 1 + d = i + (d + 1) := by omega
      rw [e4] at hc
      exact ⟨new, e1, hc⟩
    | zero =>
      by_cases hg : gapL (l.drop i) = 0
      · by_cases he : (tokL (l.drop i)).err = 0
        · have hnn := tokL_n (l.drop i) he
          rw [List.length_drop] at hnn
          have h3 := h
          rw [e, goL, ← e, if_pos hg, if_pos he, h1, h2] at h3
          obtain ⟨new, e1, hc⟩ := ih (i + 1) _ _ ts (by omega) (by omega) h3
          have e4 : i + 1 + ((tokL (l.drop i)).n - 1) = i + (tokL (l.drop i)).n := by omega
          rw [e4] at hc
          refine ⟨⟨(tokL (l.drop i)).kind, (l.drop i).take (tokL (l.drop i)).n, (tokL (l.drop i)).num, (posFrom 1 1 (l.take i)).1, (posFrom 1 1 (l.take i)).2⟩ :: new, by rw [e1]; simp, ?_⟩
          exact .more i i new (.stop _ hg) hlt he hc.ne hc
        · rw [e, goL, ← e, if_pos hg, if_neg he] at h; cases h
      · have hgl := gapL_le (l.drop i)
        rw [List.length_drop] at hgl
        have h3 := h
        rw [e, goL, ← e, if_neg hg, h1, h2] at h3
        obtain ⟨new, e1, hc⟩ := ih (i + 1) _ _ ts (by omega) (by omega) h3
        have e4 : i + 1 + (gapL (l.drop i) - 1) = i + gapL (l.drop i) := by omega
        rw [e4] at hc
        exact ⟨new, e1, Chain.gap (i := i) (Nat.pos_of_ne_zero hg) hc⟩
theorem chain_lex (l : List UInt8) (ts : List Tok) (h : lexL l = .ok ts) : Chain l 0 ts := by
  obtain ⟨new, e, hc⟩ := chain_of l l.length 0 0 [] ts (by omega) (by omega) h
  rw [List.nil_append] at e
  subst e
  exact hc
theorem gaps_same {l : List UInt8} {i p q : Nat} (h : Gaps l i p) (h' : Gaps l i q) : p = q := by
  induction h with
  | stop i hg => cases h' with
    | stop => rfl
    | step _ _ hp _ => omega
  | step i j hp hg ih => cases h' with
    | stop _ h0 => omega
    | step _ _ _ h2 => exact ih h2
theorem kind_ne (l : List UInt8) (h : (tokL l).err = 0) : ((tokL l).kind == 0) = false := by
  cases l with
  | nil => simp [tokL] at h
  | cons c r =>
    by_cases hl : letterB (c.toNat : Int) = true
    · rw [tokL_letter rfl hl]; simp only; split <;> rfl
    · have hl' : letterB (c.toNat : Int) = false := by simpa using hl
      by_cases hd : digitB (c.toNat : Int) = true
      · cases hq : numL 0 ((c :: r).take (spanL digitB (c :: r))) with
        | none => rw [tokL_none rfl hl' hd hq] at h; simp at h
        | some v => rw [tokL_some rfl hl' hd hq]; rfl
      · have hd' : digitB (c.toNat : Int) = false := by simpa using hd
        by_cases hm : 0 < markL (c :: r)
        · rw [tokL_mark rfl hl' hd' hm]; rfl
        · rw [tokL_sign rfl hl' hd' hm] at h; simp at h

end Go.Proofs.Ytjpejdjiecfbnab.lexAny
