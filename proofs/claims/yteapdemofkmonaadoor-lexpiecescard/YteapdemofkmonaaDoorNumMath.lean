/-
  Digits read as a number: what the lexer makes of them.
-/
import Derived.Test.YteapdemofkmonaaDoorLexG
import Derived.Lib.ItoaNum
namespace Go.Proofs.YteapdemofkmonaaDoor
open Go.ChangeShapes Go.WideShapes Go.ChangeAt Go.RowKit
set_option linter.unusedVariables false

def Dig (c : UInt8) : Prop := 48 ≤ c.toNat ∧ c.toNat ≤ 57
def dval (a : Int) (l : List UInt8) : Int := l.foldl (fun a c => a * 10 + ((c.toNat : Int) - 48)) a
theorem dval_le : ∀ (l : List UInt8) (a : Int), 0 ≤ a → (∀ c ∈ l, Dig c) → a ≤ dval a l
  | [], a, _, _ => Int.le_refl _
  | c :: r, a, ha, h => by
    have hc := h c (List.mem_cons_self ..)
    unfold Dig at hc
    have := dval_le r (a * 10 + ((c.toNat : Int) - 48)) (by omega) (fun x hx => h x (List.mem_cons_of_mem _ hx))
    show a ≤ dval (a * 10 + ((c.toNat : Int) - 48)) r
    omega
theorem numL_eq : ∀ (l : List UInt8) (a : Int), 0 ≤ a → a ≤ 9223372036854775807 → (∀ c ∈ l, Dig c) → numL a l = if dval a l ≤ 9223372036854775807 then some (dval a l) else none
  | [], a, _, h1, _ => by
    show some a = _
    rw [if_pos (show dval a [] ≤ 9223372036854775807 from h1)]; rfl
  | c :: r, a, h0, h1, h => by
    have hc := h c (List.mem_cons_self ..)
    unfold Dig at hc
    have hr := fun x hx => h x (List.mem_cons_of_mem c hx)
    rw [numL]
    have hd : dval a (c :: r) = dval (a * 10 + ((c.toNat : Int) - 48)) r := rfl
    by_cases hlt : (9223372036854775807 - ((c.toNat : Int) - 48)) / 10 < a
    · rw [if_pos hlt, if_neg]
      have := dval_le r (a * 10 + ((c.toNat : Int) - 48)) (by omega) hr
      rw [hd]; omega
    · rw [if_neg hlt, numL_eq r _ (by omega) (by omega) hr, hd]
theorem dval_append (a : Int) (x y : List UInt8) : dval a (x ++ y) = dval (dval a x) y := by unfold dval; rw [List.foldl_append]
theorem dval_dec : ∀ (n u : Nat), u ≤ n → ∀ a : Int, (∀ c ∈ Lib.decDigits u, Dig c) ∧ dval 0 (Lib.decDigits u) = (u : Int) := by
  intro n
  induction n with
  | zero =>
    intro u hu a
    obtain rfl : u = 0 := by omega
    rw [Lib.decDigits_one (by omega)]
    exact ⟨by intro c hc; simp at hc; subst hc; unfold Dig; decide, by decide⟩
  | succ n ih =>
    intro u hu a
    by_cases h : u < 10
    · rw [Lib.decDigits_one h]
      have e : ((UInt8.ofNat (48 + u)).toNat : Nat) = 48 + u := by rw [UInt8.toNat_ofNat']; omega
      refine ⟨?_, ?_⟩
      · intro c hc
        simp only [List.mem_cons, List.not_mem_nil, or_false] at hc
        subst hc
        unfold Dig; omega
      · show (0 : Int) * 10 + (((UInt8.ofNat (48 + u)).toNat : Int) - 48) = u
        rw [e]; omega
    · have h2 := ih (u / 10) (by omega) a
      have hd : Lib.decDigits u = Lib.decDigits (u / 10) ++ [UInt8.ofNat (48 + u % 10)] := by rw [Lib.decDigits, dif_neg h]
      have e : ((UInt8.ofNat (48 + u % 10)).toNat : Nat) = 48 + u % 10 := by rw [UInt8.toNat_ofNat']; omega
      rw [hd]
      refine ⟨?_, ?_⟩
      · intro c hc
        rcases List.mem_append.1 hc with hc | hc
        · exact h2.1 c hc
        · simp only [List.mem_cons, List.not_mem_nil, or_false] at hc
          subst hc
          unfold Dig; omega
      · rw [dval_append, h2.2]
        show ((u / 10 : Nat) : Int) * 10 + (((UInt8.ofNat (48 + u % 10)).toNat : Int) - 48) = u
        rw [e]; omega
theorem dval_noughts : ∀ k (a : Int), dval a (List.replicate k (48 : UInt8)) = a * 10 ^ k
  | 0, a => by simp [dval]
  | k + 1, a => by
    rw [List.replicate_succ]
    show dval (a * 10 + (((48 : UInt8).toNat : Int) - 48)) (List.replicate k 48) = _
    rw [dval_noughts k, show (((48 : UInt8).toNat : Int) - 48) = 0 by decide, Int.add_zero, Int.pow_succ, Int.mul_assoc, Int.mul_comm (10 ^ k) 10]
theorem dig_nought {k : Nat} : ∀ c ∈ List.replicate k (48 : UInt8), Dig c := by
  intro c hc; rw [(List.mem_replicate.1 hc).2]; unfold Dig; decide
theorem dig_is {c : UInt8} (h : Dig c) : digitB (c.toNat : Int) = true ∧ letterB (c.toNat : Int) = false ∧ blankB (c.toNat : Int) = false ∧ c ≠ 47 ∧ c ≠ 10 := by
  unfold Dig at h
  refine ⟨by simp [digitB]; omega, by simp [letterB]; omega, by simp [blankB]; omega, ?_, ?_⟩
  · rintro rfl; simp at h
  · rintro rfl; simp at h
theorem span_all : ∀ (l : List UInt8), (∀ c ∈ l, Dig c) → spanL digitB l = l.length
  | [], _ => rfl
  | c :: r, h => by rw [spanL, if_pos (dig_is (h c (List.mem_cons_self ..))).1, span_all r (fun x hx => h x (List.mem_cons_of_mem _ hx)), List.length_cons]
theorem goL_skip : ∀ (l : List UInt8) (line col : Int) (acc : List Tok), (∀ c ∈ l, Dig c) → goL l l.length line col acc = .ok (acc ++ [⟨0, [], 0, line, col + (l.length : Int)⟩])
  | [], line, col, acc, _ => by simp [goL]
  | c :: r, line, col, acc, h => by
    have hc := (dig_is (h c (List.mem_cons_self ..))).2.2.2.2
    have h10 : ((c.toNat : Int) == 10) = false := by
      simp only [beq_eq_false_iff_ne, ne_eq]
      intro e
      exact hc (UInt8.toNat_inj.1 (by have : c.toNat = 10 := by omega
                                      rw [this]; rfl))
    rw [List.length_cons, goL, goL_skip r _ _ acc (fun x hx => h x (List.mem_cons_of_mem _ hx))]
    unfold lineB colB
    rw [h10]
    simp only [Bool.false_eq_true, if_false]
    congr 3
    simp only [Tok.mk.injEq, true_and]
    omega
theorem goL_digits (l : List UInt8) (hne : l ≠ []) (h : ∀ c ∈ l, Dig c) (line col : Int) (acc : List Tok) :
    goL l 0 line col acc = if dval 0 l ≤ 9223372036854775807 then .ok (acc ++ [⟨2, l, dval 0 l, line, col⟩, ⟨0, [], 0, line, col + (l.length : Int)⟩]) else .error (11, line, col) := by
  cases l with
  | nil => exact absurd rfl hne
  | cons c r =>
    obtain ⟨h1, h2, h3, h4, h5⟩ := dig_is (h c (List.mem_cons_self ..))
    have hg : gapL (c :: r) = 0 := by
      unfold gapL
      simp only [h3, Bool.false_eq_true, if_false]
      rw [if_neg]
      have h4' : ¬ 47 = c := fun e => h4 e.symm
      simp [Lib.hasPrefix, h4']
    have hs := span_all _ h
    have hn := numL_eq (c :: r) 0 (by omega) (by omega) h
    have ht : (c :: r).take (spanL digitB (c :: r)) = c :: r := by rw [hs, List.take_length]
    have h10 : ((c.toNat : Int) == 10) = false := by
      simp only [beq_eq_false_iff_ne, ne_eq]
      intro e
      exact h5 (UInt8.toNat_inj.1 (by have : c.toNat = 10 := by omega
                                      rw [this]; rfl))
    rw [goL, if_pos hg]
    by_cases hv : dval 0 (c :: r) ≤ 9223372036854775807
    · rw [if_pos hv] at hn ⊢
      have htok := tokL_some (l := c :: r) rfl h2 h1 (by rw [ht]; exact hn)
      rw [htok, if_pos rfl, hs, List.length_cons, Nat.add_sub_cancel, goL_skip r _ _ _ (fun x hx => h x (List.mem_cons_of_mem _ hx))]
      unfold lineB colB
      rw [h10]
      simp only [Bool.false_eq_true, if_false, List.append_assoc, List.cons_append, List.nil_append]
      rw [show (c :: r).take (r.length + 1) = c :: r by rw [← List.length_cons (a := c), List.take_length]]
      congr 4
      simp only [Tok.mk.injEq, true_and]
      omega
    · rw [if_neg hv] at hn ⊢
      have htok := tokL_none (l := c :: r) rfl h2 h1 (by rw [ht]; exact hn)
      rw [htok, if_neg (by decide)]
theorem lexL_digits (l : List UInt8) (hne : l ≠ []) (h : ∀ c ∈ l, Dig c) : lexL l = if dval 0 l ≤ 9223372036854775807 then .ok [⟨2, l, dval 0 l, 1, 1⟩, ⟨0, [], 0, 1, 1 + (l.length : Int)⟩] else .error (11, 1, 1) := by
  unfold lexL; rw [goL_digits l hne h]; rfl
theorem lexL_blank (l : List UInt8) (hne : l ≠ []) (h : ∀ c ∈ l, Dig c) : lexL (32 :: l) = if dval 0 l ≤ 9223372036854775807 then .ok [⟨2, l, dval 0 l, 1, 2⟩, ⟨0, [], 0, 1, 2 + (l.length : Int)⟩] else .error (11, 1, 2) := by
  unfold lexL
  rw [goL, if_neg (by simp [gapL, blankB])]
  have : gapL (32 :: l) - 1 = 0 := by simp [gapL, blankB]
  rw [this, goL_digits l hne h]
  rfl
end Go.Proofs.YteapdemofkmonaaDoor
