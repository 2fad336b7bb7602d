/-
  dom: the tree of every graph: nothing runs over.
-/
import Derived.Test.YtipongpgmbhpkaaDomBE
namespace Go.Proofs.Ytipongpgmbhpkaa
set_option linter.unusedVariables false

theorem SzOk.run {n : Nat} {above : List Int} (hl : Low above n) : ∀ (k : Nat) (s : List Int), k ≤ n → SzOk n k s → SzOk n 0 ((List.range k).reverse.foldl (sizeStep above) s)
  | 0, s, _, h => h
  | k + 1, s, hk, h => by
    rw [range_rev, List.foldl_cons]
    exact SzOk.run hl k _ (by omega) (h.step (by omega) hl).1
theorem LdOk.run {n : Nat} {above size : List Int} (hl : Low above n) (hs : size.length = n) (hsz : ∀ y ∈ size, 0 ≤ y ∧ y ≤ (n : Int)) : ∀ (k : Nat), k ≤ n → LdOk n k ((List.range k).foldl (laidStep above size) (List.replicate n 0, List.replicate n 0))
  | 0, _ => LdOk.zero n
  | k + 1, hk => by
    rw [List.range_succ, List.foldl_append]
    exact (LdOk.run hl hs hsz k (by omega)).step (by omega) hl hs hsz
theorem tr_ok {outs : List (List Int)} (h : outs ≠ []) (hn : outs.length ≤ 1000000) : (ofL outs).ok outs.length := by
  have hlow := low_of_walk h
  obtain ⟨k1, k2, k3, k4, k5, k6⟩ := walkedL_ok h
  have hw := walked_end h
  have hof : ofL outs = treeL (walkedL outs) (aboveL (walkedL outs)) := by
    cases outs with
    | nil => exact absurd rfl h
    | cons r rs => rfl
  rw [hof]
  generalize walkedL outs = w at *
  generalize aboveL w = above at *
  have hlen : above.length = w.par.length := hlow.1
  unfold treeL
  dsimp only
  rw [hlen]
  have h1 := SzOk.run hlow w.par.length _ (Nat.le_refl _) (SzOk.zero _)
  generalize (List.range w.par.length).reverse.foldl (sizeStep above) (List.replicate w.par.length 0) = S at *
  have h2 := LdOk.run hlow h1.len h1.nn w.par.length (Nat.le_refl _)
  generalize ((List.range w.par.length).foldl (laidStep above S) (List.replicate w.par.length 0, List.replicate w.par.length 0)) = A at *
  have hpn : w.par.length ≤ 1000000 := by omega
  have hmul : (w.par.length : Int) * ((w.par.length : Int) + 1) ≤ 1000000 * 1000001 := Int.mul_le_mul (by omega) (by omega) (by omega) (by omega)
  have gi_in : ∀ (l : List Int) (B : Int), 0 ≤ B → (∀ y ∈ l, 0 ≤ y ∧ y ≤ B) → ∀ v : Int, 0 ≤ gi l v ∧ gi l v ≤ B := by
    intro l B hB hl v
    unfold gi
    rw [List.getD_eq_getElem?_getD]
    cases e : l[v.toNat]? with
    | none => exact ⟨Int.le_refl _, hB⟩
    | some y => exact hl y (List.mem_of_getElem? e)
  refine ⟨by simp [hw.nl], by simp [hw.nl], ?_, ?_⟩
  · intro x hx
    obtain ⟨v, _, rfl⟩ := List.mem_map.1 hx
    have := gi_in A.1 (1000000 * 1000001) (by decide) (fun y hy => by have := h2.at' y hy; omega) v
    split <;> omega
  · intro x hx
    obtain ⟨v, _, rfl⟩ := List.mem_map.1 hx
    have := gi_in S 1000000 (by decide) (fun y hy => by have := h1.nn y hy; omega) v
    split <;> omega
end Go.Proofs.Ytipongpgmbhpkaa
