/-
  Trees that a law lays itself: what lies in memory behind the allocations.
-/
import Derived.Test.YtaomlahphlemdaaGreatDoorRunAG
namespace Go.Proofs.YtaomlahphlemdaaGreatDoor
open Go.ChangeShapes Go.WideShapes Go.ChangeAt Go.RowKit
set_option linter.unusedVariables false

theorem laid_keep : ∀ (l : List Obj) (w : World) (q : Nat), q < w.heap.size → (l.foldl World.alloc w).heap[q]? = w.heap[q]?
  | [], w, q, _ => rfl
  | o :: r, w, q, h => by
    show (r.foldl World.alloc (w.alloc o)).heap[q]? = _
    rw [laid_keep r (w.alloc o) q (by simp; omega)]
    exact Below.heap_alloc w o q h
theorem laid_at : ∀ (l : List Obj) (w : World) (k : Nat) (o : Obj), l[k]? = some o → (l.foldl World.alloc w).heap[w.heap.size + k]? = some o
  | [], w, k, o, h => by simp at h
  | x :: r, w, 0, o, h => by
    obtain rfl : x = o := by simpa using h
    show (r.foldl World.alloc (w.alloc x)).heap[w.heap.size + 0]? = _
    rw [laid_keep r (w.alloc x) _ (by simp)]
    exact alloc_at w x _ rfl
  | x :: r, w, k + 1, o, h => by
    show (r.foldl World.alloc (w.alloc x)).heap[w.heap.size + (k + 1)]? = _
    have h2 := laid_at r (w.alloc x) k o (by simpa using h)
    rw [show (w.alloc x).heap.size + k = w.heap.size + (k + 1) by simp; omega] at h2
    exact h2
theorem laid_grown : ∀ (l : List Obj) (w : World), w.grownBy (l.foldl World.alloc w) none
  | [], w => grown_refl w
  | o :: r, w => grown_trans (grown_alloc w o) (laid_grown r (w.alloc o))
theorem ex_leaf {w : World} {S : Nat → Prop} (kind : Int) (name : List UInt8) (op : Int) (ho : InI64 op) (h4 : kind ≠ 4 := by decide) : (Ex.mk kind 0 0 0 name op []).At w S (cells7 kind 0 0 0 name op (.slice none 0 0)) :=
  at_kids kind 0 0 0 name op ⟨by decide, by decide⟩ ho (.inl ⟨rfl, none, 0, rfl⟩) h4
theorem kids_sole {w : World} {S : Nat → Prop} {b : Nat} {e : Ex} {cs : Array Value} {t : TypeId} (h : w.heap[b]? = some (.cells cs t (0, 0))) (hS : S b) (he : e.At w S cs) : KidsAt w S [e] (.slice (some ⟨b, 0, none⟩) 1 1) :=
  .inr ⟨by simp, b, 0, 1, rfl, hS, Nat.le_refl _, by simp, by
    unfold Ex.Row
    exact ⟨⟨cs, he, fun j hj => by rw [Lib.cell_of_heap h, Nat.zero_add]⟩, by unfold Ex.Row; trivial⟩⟩
theorem kids_pair {w : World} {S : Nat → Prop} {b : Nat} {e f : Ex} {ca cb : Array Value} {t : TypeId} (h : w.heap[b]? = some (.cells (ca ++ cb) t (0, 0))) (hs : ca.size = 7) (hS : S b) (he : e.At w S ca) (hf : f.At w S cb) : KidsAt w S [e, f] (.slice (some ⟨b, 0, none⟩) 2 2) :=
  .inr ⟨by simp, b, 0, 2, rfl, hS, Nat.le_refl _, by simp, by
    unfold Ex.Row
    refine ⟨⟨ca, he, fun j hj => by rw [Lib.cell_of_heap h, Nat.zero_add, Array.getElem?_append_left (by omega)]⟩, ?_⟩
    unfold Ex.Row
    refine ⟨⟨cb, hf, fun j hj => ?_⟩, by unfold Ex.Row; trivial⟩
    rw [Lib.cell_of_heap h, Array.getElem?_append_right (by omega), hs]
    congr 1; omega⟩
theorem body_sole {w : World} {S : Nat → Prop} {b : Nat} {s : Sm} {cs : Array Value} {t : TypeId} (h : w.heap[b]? = some (.cells cs t (0, 0))) (hS : S b) (hs : s.At w S cs) : BodyAt w S [s] (.slice (some ⟨b, 0, none⟩) 1 1) :=
  .inr ⟨by simp, b, 0, 1, rfl, hS, Nat.le_refl _, by simp, by
    unfold Sm.Row
    exact ⟨⟨cs, hs, fun j hj => by rw [Lib.cell_of_heap h, Nat.zero_add]⟩, by unfold Sm.Row; trivial⟩⟩
theorem body_pair {w : World} {S : Nat → Prop} {b : Nat} {s r : Sm} {ca cb : Array Value} {t : TypeId} (h : w.heap[b]? = some (.cells (ca ++ cb) t (0, 0))) (hz : ca.size = 7) (hS : S b) (hs : s.At w S ca) (hr : r.At w S cb) : BodyAt w S [s, r] (.slice (some ⟨b, 0, none⟩) 2 2) :=
  .inr ⟨by simp, b, 0, 2, rfl, hS, Nat.le_refl _, by simp, by
    unfold Sm.Row
    refine ⟨⟨ca, hs, fun j hj => by rw [Lib.cell_of_heap h, Nat.zero_add, Array.getElem?_append_left (by omega)]⟩, ?_⟩
    unfold Sm.Row
    refine ⟨⟨cb, hr, fun j hj => ?_⟩, by unfold Sm.Row; trivial⟩
    rw [Lib.cell_of_heap h, Array.getElem?_append_right (by omega), hz]
    congr 1; omega⟩
theorem fns_lay {w : World} {S : Nat → Prop} {b : Nat} {f : Fn} {cs : Array Value} {t : TypeId} (h : w.heap[b]? = some (.cells cs t (0, 0))) (hS : S b) (hf : f.At w S cs) : FnsAt w S [f] (.slice (some ⟨b, 0, none⟩) 1 1) :=
  .inr ⟨by simp, b, 0, 1, rfl, hS, (Array.getElem?_eq_some_iff.1 h).1, Nat.le_refl _, by simp, fun j x hj => by
    cases j with
    | zero =>
      obtain rfl : f = x := by simpa using hj
      exact ⟨cs, hf, fun i hi => by rw [Lib.cell_of_heap h]; simp⟩
    | succ j => simp at hj⟩
theorem gls_lay {w : World} {S : Nat → Prop} {b : Nat} {l : List Gl} {cs : Array Value} {t : TypeId} (h : w.heap[b]? = some (.cells cs t (0, 0))) (hS : S b) (hne : l ≠ []) (hl : l.length ≤ 1000) (hc : ∀ (j : Nat) (x : Gl), l[j]? = some x → ∀ i, i < 5 → cs[5 * j + i]? = (cellsG x)[i]?) : GlsAt w S l (.slice (some ⟨b, 0, none⟩) l.length l.length) :=
  .inr ⟨hne, b, 0, l.length, rfl, hS, (Array.getElem?_eq_some_iff.1 h).1, Nat.le_refl _, by omega, fun j x hj i hi => by
    rw [Lib.cell_of_heap h, Nat.zero_add]
    exact hc j x hj i hi⟩
theorem runL_of {p : Pr} {ins : List (List Int)} {fuel : Int} {r z : Rn} {k : Nat} (h : (rn0 p ins fuel).into ((look (ckProg p).fm mainL).getD 0) = some r) (hk : goes k r = some z) : runL p ins fuel k = some z := by
  unfold runL
  rw [h]
  exact hk
end Go.Proofs.YtaomlahphlemdaaGreatDoor
