/-
  The law's own 'of': what it lays.
-/
import Derived.Test.YtipongpgmbhpkaaDomAB
namespace Go.Proofs.Ytipongpgmbhpkaa
open Go.ChangeShapes Go.WideShapes Go.ChangeAt Go.RowKit
set_option linter.unusedVariables false

def edgeCells (row : List Int) : List Value := row.flatMap (fun x => [.int .i64 x, .slice none 0 0])
def blkCells (ev : Value) : List Value := [.slice none 0 0, .slice none 0 0, .int .i64 0, .int .i64 0, ev, .int .i64 0]
def blksCells (evs : List Value) : List Value := evs.flatMap blkCells
theorem edgeCells_snoc (row : List Int) (x : Int) : edgeCells (row ++ [x]) = edgeCells row ++ [.int .i64 x, .slice none 0 0] := by unfold edgeCells; rw [List.flatMap_append]; rfl
theorem blksCells_snoc (evs : List Value) (ev : Value) : blksCells (evs ++ [ev]) = blksCells evs ++ blkCells ev := by unfold blksCells; rw [List.flatMap_append]; simp
theorem edgeCells_len : ∀ (row : List Int), (edgeCells row).length = row.length * 2
  | [] => rfl
  | x :: xs => by
    have := edgeCells_len xs
    unfold edgeCells at this ⊢
    rw [List.flatMap_cons, List.length_append, this, List.length_cons]
    simp; omega
theorem blksCells_len : ∀ (evs : List Value), (blksCells evs).length = evs.length * 6
  | [] => rfl
  | x :: xs => by
    have := blksCells_len xs
    unfold blksCells at this ⊢
    rw [List.flatMap_cons, List.length_append, this, List.length_cons]
    simp [blkCells]; omega
theorem edgeCells_at : ∀ (row : List Int) (k : Nat) (x : Int), row[k]? = some x → (edgeCells row)[k * 2]? = some (.int .i64 x) ∧ (edgeCells row)[k * 2 + 1]? = some (.slice none 0 0)
  | [], k, x, h => by simp at h
  | y :: ys, 0, x, h => by simp at h; subst h; exact ⟨rfl, rfl⟩
  | y :: ys, k + 1, x, h => by
    have ih := edgeCells_at ys k x (by simpa using h)
    unfold edgeCells at ih ⊢
    rw [List.flatMap_cons]
    rw [List.getElem?_append_right (by simp; omega), List.getElem?_append_right (by simp; omega)]
    rw [show (k + 1) * 2 - [Value.int IntKind.i64 y, Value.slice none 0 0].length = k * 2 by simp; omega, show (k + 1) * 2 + 1 - [Value.int IntKind.i64 y, Value.slice none 0 0].length = k * 2 + 1 by simp; omega]
    exact ih
theorem blksCells_at : ∀ (evs : List Value) (i : Nat) (ev : Value), evs[i]? = some ev → ∀ c, c < 6 → (blksCells evs)[i * 6 + c]? = (blkCells ev)[c]?
  | [], i, ev, h => by simp at h
  | y :: ys, 0, ev, h => by
    intro c hc
    simp at h; subst h
    unfold blksCells
    rw [List.flatMap_cons, List.getElem?_append_left (by simp [blkCells]; omega)]
    congr 1; omega
  | y :: ys, i + 1, ev, h => by
    intro c hc
    have ih := blksCells_at ys i ev (by simpa using h) c hc
    unfold blksCells at ih ⊢
    rw [List.flatMap_cons, List.getElem?_append_right (by simp [blkCells]; omega)]
    rw [show (i + 1) * 6 + c - (blkCells y).length = i * 6 + c by simp [blkCells]; omega]
    exact ih
theorem infoEdge : (Try.prog.info? 51).map (fun i => (i.zero, i.size, i.bytes)) = some (some (.agg #[.int .i64 0, .slice none 0 0]), 2, 32) := by kernel_rfl
theorem infoBlock : (Try.prog.info? 49).map (fun i => (i.zero, i.size)) = some (some (.agg #[.slice none 0 0, .slice none 0 0, .int .i64 0, .int .i64 0, .slice none 0 0, .int .i64 0]), 6) := by kernel_rfl
theorem own_cells {B : Nat} {w : World} {e : TypeId} {n cap g sz : Nat} {xs : List Value} (h : w.ownsRow B e sz (.slice (some ⟨g, 0, none⟩) n cap) n xs) {j : Nat} {u : Value} (hj : xs[j]? = some u) : w.cell? ⟨g, j, none⟩ = some u := by
  have add : ∀ j, (⟨g, 0, none⟩ : Addr).add j = ⟨g, j, none⟩ := fun j => by unfold Addr.add; split <;> simp_all
  have := h.cells (g := g) rfl j u hj
  rwa [add] at this
theorem own_forms {B : Nat} {w : World} {e : TypeId} {s n : Nat} {v : Value} {xs : List Value} (h : w.ownsRow B e s v n xs) : (v = .slice none 0 0 ∧ n = 0) ∨ ∃ g cap, v = .slice (some ⟨g, 0, none⟩) n cap ∧ B ≤ g ∧ g < w.heap.size := by
  rcases own_slice h with h0 | ⟨g, c, h0, h1, h2, _⟩
  · exact .inl h0
  · exact .inr ⟨g, c, h0, h1, h2⟩
/-- Rows of edges and a row of blocks that the call has made are a function's blocks. -/
theorem blocks_of {B : Nat} {w : World} {bv : Value} {evs : List Value} {ways : List (List Int)} (hl : evs.length = ways.length) (hb : w.ownsRow B 49 6 bv evs.length (blksCells evs)) (he : ∀ (i : Nat) (ev : Value) (row : List Int), evs[i]? = some ev → ways[i]? = some row → w.ownsRow B 51 2 ev row.length (edgeCells row)) : BlocksAt w.heap.size w bv ways := by
  rcases own_forms hb with ⟨h0, h1⟩ | ⟨g, c, h0, _, h2⟩
  · subst h0
    refine ⟨none, 0, by rw [← hl, h1], fun hne => ?_⟩
    rw [hl] at h1
    exact absurd (List.length_eq_zero_iff.1 h1) hne
  · subst h0
    refine ⟨some ⟨g, 0, none⟩, c, by rw [hl], fun hne => ⟨g, 0, rfl, h2, h2, fun i row hi => ?_⟩⟩
    have hil := (List.getElem?_eq_some_iff.1 hi).1
    obtain ⟨ev, hev⟩ : ∃ ev, evs[i]? = some ev := ⟨_, List.getElem?_eq_getElem (by omega)⟩
    have hc : ∀ c, c < 6 → ∀ u, (blkCells ev)[c]? = some u → w.cell? ⟨g, i * 6 + c, none⟩ = some u := fun c hc u hu => own_cells hb ((blksCells_at evs i ev hev c hc).trans hu)
    have hedge := he i ev row hev hi
    refine ⟨none, 0, 0, none, 0, 0, 0, 0, ev, 0, ?_, ?_, ?_, ?_, ?_, ?_, ?_⟩
    · rw [Nat.zero_add]; exact hc 0 (by omega) _ rfl
    · rw [Nat.zero_add]; exact hc 1 (by omega) _ rfl
    · rw [Nat.zero_add]; exact hc 2 (by omega) _ rfl
    · rw [Nat.zero_add]; exact hc 3 (by omega) _ rfl
    · rw [Nat.zero_add]; exact hc 4 (by omega) _ rfl
    · rw [Nat.zero_add]; exact hc 5 (by omega) _ rfl
    · rcases own_forms hedge with ⟨e0, e1⟩ | ⟨q, qc, e0, _, e2⟩
      · subst e0
        exact ⟨none, 0, by rw [e1], fun hne' => absurd (List.length_eq_zero_iff.1 e1) hne'⟩
      · subst e0
        exact ⟨some ⟨q, 0, none⟩, qc, rfl, fun _ => ⟨q, 0, rfl, e2, e2, fun k x hx => ⟨none, 0, 0, by rw [Nat.zero_add]; exact own_cells hedge (edgeCells_at row k x hx).1, by rw [Nat.zero_add]; exact own_cells hedge (edgeCells_at row k x hx).2⟩⟩⟩
end Go.Proofs.Ytipongpgmbhpkaa
