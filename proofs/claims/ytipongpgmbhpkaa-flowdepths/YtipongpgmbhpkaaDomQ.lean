/-
  dom: the tree, as a function of lists: nothing runs over.
-/
import Derived.Test.YtipongpgmbhpkaaDomP
namespace Go.Proofs.Ytipongpgmbhpkaa
open Go.ChangeShapes Go.WideShapes Go.ChangeAt Go.RowKit
set_option linter.unusedVariables false

theorem sum_add : ∀ (l : List Int) (i : Nat) (d : Int), i < l.length → (l.set i (l.getD i 0 + d)).sum = l.sum + d
  | [], i, d, h => by simp at h
  | x :: xs, 0, d, h => by simp; omega
  | x :: xs, i + 1, d, h => by
    have := sum_add xs i d (by simpa using h)
    simp only [List.set_cons_succ, List.sum_cons, List.getD_cons_succ]
    rw [this]; omega
theorem le_sum : ∀ (l : List Int) (i : Nat), (∀ x ∈ l, 0 ≤ x) → l.getD i 0 ≤ l.sum ∧ 0 ≤ l.sum
  | [], i, _ => by simp
  | x :: xs, 0, h => by
    have h1 := (le_sum xs 0 (fun y hy => h y (List.mem_cons_of_mem _ hy))).2
    have h2 := h x (List.mem_cons_self ..)
    simp only [List.getD_cons_zero, List.sum_cons]
    omega
  | x :: xs, i + 1, h => by
    obtain ⟨h1, h3⟩ := le_sum xs i (fun y hy => h y (List.mem_cons_of_mem _ hy))
    have h2 := h x (List.mem_cons_self ..)
    simp only [List.getD_cons_succ, List.sum_cons]
    omega
/-- Sizes behind the steps of all numbers from k on. -/
structure SzOk (n k : Nat) (size : List Int) : Prop where
  len : size.length = n
  nn : ∀ x ∈ size, 0 ≤ x ∧ x ≤ (n : Int)
  sum : (size.take k).sum ≤ (n : Int) - k
def Low (above : List Int) (n : Nat) : Prop := above.length = n ∧ ∀ (v : Nat), 0 < v → v < n → 0 ≤ gi above v ∧ gi above v < (v : Int)
theorem take_snoc {l : List Int} {k : Nat} (h : k < l.length) : l.take (k + 1) = l.take k ++ [gi l k] := by
  rw [List.take_succ_eq_append_getElem h, gi_nat, List.getD_eq_getElem?_getD, List.getElem?_eq_getElem h]; rfl
theorem SzOk.step {n k : Nat} {size above : List Int} (h : SzOk n (k + 1) size) (hk : k < n) (hl : Low above n) :
    SzOk n k (sizeStep above size k) ∧ 0 ≤ gi size k ∧ gi size k + 1 ≤ (n : Int) ∧ (0 < k → 0 ≤ gi (size.set k (gi size k + 1)) (gi above k) ∧ gi (size.set k (gi size k + 1)) k = gi size k + 1 ∧ gi (size.set k (gi size k + 1)) (gi above k) + gi (size.set k (gi size k + 1)) k ≤ (n : Int)) := by
  have hkl : k < size.length := by rw [h.len]; exact hk
  have hnn : ∀ x ∈ size.take k, 0 ≤ x := fun x hx => (h.nn x (List.mem_of_mem_take hx)).1
  have hs : (size.take k).sum + gi size k ≤ (n : Int) - (k + 1 : Nat) := by
    have := h.sum
    rw [take_snoc hkl, List.sum_append] at this
    simpa using this
  have hsn := (le_sum (size.take k) 0 hnn).2
  have hg := h.nn _ (gi_mem hkl)
  have h1 : 0 ≤ gi size k ∧ gi size k + 1 ≤ (n : Int) := ⟨hg.1, by omega⟩
  have hset : gi (size.set k (gi size k + 1)) k = gi size k + 1 := by rw [gi_set hkl _ _ (by omega), if_pos rfl]
  have hs1 : ∀ x ∈ size.set k (gi size k + 1), 0 ≤ x ∧ x ≤ (n : Int) := mem_set h.nn k ⟨by omega, h1.2⟩
  unfold sizeStep
  dsimp only
  by_cases hk0 : 0 < k
  · obtain ⟨a0, a1⟩ := hl.2 k hk0 hk
    obtain ⟨a, ha⟩ : ∃ a : Nat, gi above k = a := ⟨(gi above k).toNat, by omega⟩
    have hak : a < k := by omega
    have hga : gi (size.set k (gi size k + 1)) a = gi size a := by rw [gi_set hkl _ _ (by omega), if_neg (by omega)]
    have hgp : gi size a = (size.take k).getD a 0 := by rw [gi_nat, List.getD_eq_getElem?_getD, List.getD_eq_getElem?_getD, List.getElem?_take, if_pos hak]
    have hle := (le_sum (size.take k) a hnn).1
    have hgan := (h.nn _ (gi_mem (v := a) (by omega))).1
    rw [if_pos hk0, ha, hset, hga, Int.toNat_natCast]
    refine ⟨⟨by rw [List.length_set, List.length_set]; exact h.len, mem_set hs1 a ⟨by omega, by omega⟩, ?_⟩, h1.1, h1.2, fun _ => ⟨hgan, rfl, by omega⟩⟩
    have e : ((size.set k (gi size k + 1)).set a (gi size a + (gi size k + 1))).take k = (size.take k).set a ((size.take k).getD a 0 + (gi size k + 1)) := by
      have h5 : (size.set k (gi size k + 1)).take k = size.take k := by rw [List.take_set, List.set_eq_of_length_le (by rw [List.length_take]; omega)]
      rw [List.take_set, h5, hgp]
    rw [e, sum_add _ _ _ (by simp; omega)]
    omega
  · obtain rfl : k = 0 := by omega
    rw [if_neg hk0]
    exact ⟨⟨by rw [List.length_set]; exact h.len, hs1, by simp⟩, h1.1, h1.2, fun h => absurd h (by omega)⟩
theorem SzOk.zero (n : Nat) : SzOk n n (List.replicate n 0) := ⟨by simp, fun x hx => by obtain rfl := List.eq_of_mem_replicate hx; omega, by rw [List.take_of_length_le (by simp)]; simp⟩
/-- The numbers' places. -/
structure LdOk (n j : Nat) (x : List Int × List Int) : Prop where
  len : x.1.length = n ∧ x.2.length = n
  at' : ∀ y ∈ x.1, 0 ≤ y ∧ y ≤ (j : Int) * (n + 1)
  free : ∀ y ∈ x.2, 0 ≤ y ∧ y ≤ (j : Int) * (n + 1)
theorem LdOk.step {n j : Nat} {x : List Int × List Int} {above size : List Int} (h : LdOk n j x) (hj : j < n) (hl : Low above n) (hs : size.length = n) (hsz : ∀ y ∈ size, 0 ≤ y ∧ y ≤ (n : Int)) : LdOk n (j + 1) (laidStep above size x j) := by
  obtain ⟨⟨l1, l2⟩, ha, hf⟩ := h
  have hmul : ((j + 1 : Nat) : Int) * (n + 1) = (j : Int) * (n + 1) + (n + 1) := by push_cast; rw [Int.add_mul]; omega
  have ha' : ∀ y ∈ x.1, 0 ≤ y ∧ y ≤ ((j + 1 : Nat) : Int) * (n + 1) := fun y hy => by have := ha y hy; omega
  have hf' : ∀ y ∈ x.2, 0 ≤ y ∧ y ≤ ((j + 1 : Nat) : Int) * (n + 1) := fun y hy => by have := hf y hy; omega
  unfold laidStep
  dsimp only
  by_cases hj0 : 0 < j
  · obtain ⟨a0, a1⟩ := hl.2 j hj0 hj
    obtain ⟨a, hae⟩ : ∃ a : Nat, gi above j = a := ⟨(gi above j).toNat, by omega⟩
    have hga := hf _ (gi_mem (v := a) (by omega))
    have hgs := hsz _ (gi_mem (v := j) (by rw [hs]; exact hj))
    rw [if_pos hj0, hae, Int.toNat_natCast]
    dsimp only
    have hat : gi (x.1.set j (gi x.2 a)) j = gi x.2 a := by rw [gi_set (by omega) _ _ (by omega), if_pos rfl]
    rw [hat]
    refine ⟨⟨by dsimp only; rw [List.length_set]; exact l1, by dsimp only; rw [List.length_set, List.length_set]; exact l2⟩, mem_set ha' j (by omega), mem_set (mem_set hf' a (by omega)) j (by omega)⟩
  · obtain rfl : j = 0 := by omega
    rw [if_neg hj0]
    have hga := ha _ (gi_mem (v := 0) (by omega))
    refine ⟨⟨l1, by dsimp only; rw [List.length_set]; exact l2⟩, ha', mem_set hf' 0 (by omega)⟩
theorem LdOk.zero (n : Nat) : LdOk n 0 (List.replicate n 0, List.replicate n 0) :=
  ⟨⟨by simp, by simp⟩, fun y hy => by obtain rfl := List.eq_of_mem_replicate hy; omega, fun y hy => by obtain rfl := List.eq_of_mem_replicate hy; omega⟩
theorem range_rev (k : Nat) : (List.range (k + 1)).reverse = k :: (List.range k).reverse := by rw [List.range_succ, List.reverse_append]; rfl
end Go.Proofs.Ytipongpgmbhpkaa
