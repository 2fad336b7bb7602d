/-
  Ways that a law lays itself; a fixed graph's depths; the law's head.
-/
import Derived.Test.YtipongpgmbhpkaaDomAF
namespace Go.Proofs.Ytipongpgmbhpkaa
open Go.ChangeShapes Go.WideShapes Go.ChangeAt Go.RowKit
set_option linter.unusedVariables false

structure WsAt (B : Nat) (w : World) (wv : Value) (hs : List Value) (ways : List (List Int)) : Prop where
  head : w.ownsRow B 35 1 wv ways.length hs
  rows : ∀ (i : Nat) (v : Value) (row : List Int), hs[i]? = some v → ways[i]? = some row → w.ownsRow B 3 1 v row.length (row.map iV)
theorem WsAt.below {B : Nat} {w w' : World} {wv : Value} {hs : List Value} {ways : List (List Int)} (h : WsAt B w wv hs ways) (hb : Below w.heap.size w w') : WsAt B w' wv hs ways :=
  ⟨own_below h.head hb, fun i v row h1 h2 => own_below (h.rows i v row h1 h2) hb⟩
theorem WsAt.mono {B B' : Nat} {w : World} {wv : Value} {hs : List Value} {ways : List (List Int)} (h : WsAt B w wv hs ways) (hB : B' ≤ B) : WsAt B' w wv hs ways := ⟨own_mono h.head hB, fun i v row h1 h2 => own_mono (h.rows i v row h1 h2) hB⟩
theorem WsAt.ways {B : Nat} {w : World} {a : Option Addr} {n cap : Nat} {hs : List Value} {ways : List (List Int)} (h : WsAt B w (.slice a n cap) hs ways) : WaysAt w.heap.size w a ways := by
  intro hne
  have hpos := List.length_pos_iff.2 hne
  rcases own_slice h.head with ⟨h0, h1⟩ | ⟨g, c, h0, h1, h2, _⟩
  · omega
  · simp only [Value.slice.injEq] at h0
    obtain ⟨rfl, rfl, rfl⟩ := h0
    refine ⟨g, 0, 0, rfl, h2, h2, fun i xs hi => ?_⟩
    have hil := (List.getElem?_eq_some_iff.1 hi).1
    have hl := own_len h.head
    obtain ⟨v, hv⟩ : ∃ v, hs[i]? = some v := ⟨_, List.getElem?_eq_getElem (by omega)⟩
    exact ⟨v, by rw [Nat.zero_add]; exact own_cell h.head hv, RowIn.of (own_rowAt (h.rows i v xs hv hi))⟩
theorem WsAt.len {B : Nat} {w : World} {wv : Value} {hs : List Value} {ways : List (List Int)} (h : WsAt B w wv hs ways) : hs.length = ways.length := own_len h.head
/-- A row more, which the call has made. -/
theorem WsAt.app {B : Nat} {w w' : World} {g' cap' : Nat} {wv v : Value} {hs : List Value} {ways : List (List Int)} {row : List Int} (h : WsAt B w wv hs ways) (hrow : w.ownsRow B 3 1 v row.length (row.map iV)) (hown : w'.ownsRow B 35 1 (.slice (some ⟨g', 0, none⟩) (ways.length + 1) cap') (ways.length + 1) (hs ++ [v])) (hg : w.grownBy w' wv.ownBlock) :
    WsAt B w' (.slice (some ⟨g', 0, none⟩) (ways.length + 1) cap') (hs ++ [v]) (ways ++ [row]) := by
  have hk : ∀ {u : Value} {xs : List Value} {k : Nat}, w.ownsRow B 3 1 u k xs → w'.ownsRow B 3 1 u k xs := by
    intro u xs k ho
    exact own_keep ho (fun q hq => hg.block q (ho.lt q hq).2 (fun e => own_apart ho h.head (by decide) hq e.symm))
  have hl := h.len
  refine ⟨by rw [List.length_append, List.length_singleton]; exact hown, fun i u r hu hr => ?_⟩
  rcases Nat.lt_trichotomy i ways.length with hi | hi | hi
  · rw [List.getElem?_append_left (by omega)] at hu
    rw [List.getElem?_append_left hi] at hr
    exact hk (h.rows i u r hu hr)
  · subst hi
    rw [List.getElem?_append_right (by omega), hl, Nat.sub_self] at hu
    rw [List.getElem?_append_right (Nat.le_refl _), Nat.sub_self] at hr
    simp only [List.getElem?_cons_zero, Option.some.injEq] at hu hr
    subst hu; subst hr
    exact hk hrow
  · rw [List.getElem?_eq_none (by simp; omega)] at hr; cases hr
theorem foldl_keep : ∀ (l : List Obj) (w : World) (q : Nat), q < w.heap.size → (l.foldl World.alloc w).heap[q]? = w.heap[q]?
  | [], _, _, _ => rfl
  | o :: r, w, q, h => by
    show (r.foldl World.alloc (w.alloc o)).heap[q]? = _
    rw [foldl_keep r (w.alloc o) q (by simp; omega)]
    exact Below.heap_alloc w o q h
theorem foldl_at : ∀ (l : List Obj) (w : World) (k : Nat) (o : Obj), l[k]? = some o → (l.foldl World.alloc w).heap[w.heap.size + k]? = some o
  | [], w, k, o, h => by simp at h
  | x :: r, w, 0, o, h => by
    obtain rfl : x = o := by simpa using h
    show (r.foldl World.alloc (w.alloc x)).heap[w.heap.size + 0]? = _
    rw [foldl_keep r (w.alloc x) _ (by simp)]
    exact alloc_at w x _ rfl
  | x :: r, w, k + 1, o, h => by
    show (r.foldl World.alloc (w.alloc x)).heap[w.heap.size + (k + 1)]? = _
    have h2 := foldl_at r (w.alloc x) k o (by simpa using h)
    rw [show (w.alloc x).heap.size + k = w.heap.size + (k + 1) by simp; omega] at h2
    exact h2
theorem foldl_below : ∀ (l : List Obj) (w : World) {B : Nat} {w0 : World}, Below B w0 w → B ≤ w.heap.size → Below B w0 (l.foldl World.alloc w)
  | [], _, _, _, h, _ => h
  | o :: r, w, B, w0, h, hB => foldl_below r (w.alloc o) (h.alloc hB o) (by simp; omega)
/-- Rows as they are written, and the row of them. -/
def litObjs (base : Nat) (ways : List (List Int)) : List Obj := ways.map (fun r => .cells (r.map iV).toArray 3 (0, 0)) ++ [.cells ((ways.mapIdx fun i r => Value.slice (some ⟨base + i, 0, none⟩) r.length r.length)).toArray 35 (0, 0)]
theorem own_cellsAt {B b : Nat} {w : World} {e : TypeId} {cs : Array Value} (h : w.heap[b]? = some (.cells cs e (0, 0))) (hB : B ≤ b) (hm : cs.size ≤ maxLen) : w.ownsRow B e 1 (.slice (some ⟨b, 0, none⟩) cs.size cs.size) cs.size cs.toList :=
  ⟨by simp, .inr ⟨b, cs.size, cs, rfl, hB, h, Nat.le_refl _, hm, by simp, by rw [Nat.mul_one]; exact List.take_of_length_le (Nat.le_of_eq Array.length_toList)⟩⟩
theorem lit_at (w : World) (ways : List (List Int)) (hn : ways.length ≤ 1000000) (hr : ∀ r ∈ ways, r.length ≤ 1000000) : WsAt w.heap.size ((litObjs w.heap.size ways).foldl World.alloc w) (.slice (some ⟨w.heap.size + ways.length, 0, none⟩) ways.length ways.length) (ways.mapIdx fun i r => Value.slice (some ⟨w.heap.size + i, 0, none⟩) r.length r.length) ways := by
  have hh := foldl_at (litObjs w.heap.size ways) w ways.length _ (by unfold litObjs; rw [List.getElem?_append_right (by simp), List.length_map, Nat.sub_self]; rfl)
  have h1 := own_cellsAt hh (Nat.le_add_right _ _) (by simp; unfold maxLen; omega)
  refine ⟨?_, fun i v row hv hrow => ?_⟩
  · simpa using h1
  · have hil := (List.getElem?_eq_some_iff.1 hrow).1
    have hrr := hr row (List.mem_of_getElem? hrow)
    have h2 := foldl_at (litObjs w.heap.size ways) w i (.cells (row.map iV).toArray 3 (0, 0)) (by unfold litObjs; rw [List.getElem?_append_left (by simp; omega), List.getElem?_map, hrow]; rfl)
    have h3 := own_cellsAt h2 (Nat.le_add_right _ _) (by simp; unfold maxLen; omega)
    rw [List.getElem?_mapIdx, hrow] at hv
    simp only [Option.map_some, Option.some.injEq] at hv
    subst hv
    simpa using h3
/-! ### what Depths asks of a fixed graph -/
def lowB (a : List Int) (n : Nat) : Bool := decide (a.length = n) && (List.range n).all (fun v => v == 0 || (decide (0 ≤ gi a v) && decide (gi a v < (v : Int))))
theorem low_of {a : List Int} {n : Nat} (h : lowB a n = true) : Low a n := by
  unfold lowB at h
  simp only [Bool.and_eq_true, decide_eq_true_eq, List.all_eq_true, List.mem_range, Bool.or_eq_true, beq_iff_eq] at h
  exact ⟨h.1, fun v h0 hv => (h.2 v hv).resolve_left (by omega)⟩
def rowsIn (rows : List (List Int)) (n : Nat) : Bool := rows.all (fun r => decide (r.length ≤ 1000000) && r.all (fun x => decide (0 ≤ x) && decide (x < (n : Int))))
theorem rowsIn_of {rows : List (List Int)} {n : Nat} (h : rowsIn rows n = true) : (∀ r ∈ rows, r.length ≤ 1000000) ∧ ∀ r ∈ rows, ∀ x ∈ r, 0 ≤ x ∧ x < (n : Int) := by
  unfold rowsIn at h
  simp only [List.all_eq_true, Bool.and_eq_true, decide_eq_true_eq] at h
  exact ⟨fun r hr => (h r hr).1, fun r hr x hx => (h r hr).2 x hx⟩
def allIn (l : List Int) (n : Nat) (a b : Int) : Bool := decide (l.length = n) && l.all (fun x => decide (a ≤ x) && decide (x ≤ b))
theorem allIn_of {l : List Int} {n : Nat} {a b : Int} (h : allIn l n a b = true) : l.length = n ∧ ∀ x ∈ l, a ≤ x ∧ x ≤ b := by
  unfold allIn at h
  simp only [List.all_eq_true, Bool.and_eq_true, decide_eq_true_eq] at h
  exact h
def fixedOk (g : Gr) : Bool :=
  (((decide (0 < g.outs.length) && decide (g.outs.length ≤ 1000000)) && (decide (edges g.outs ≤ 1000000) && decide (g.ins.length = g.outs.length))) && (rowsIn g.outs g.outs.length && rowsIn g.ins g.outs.length)) &&
  ((lowB (aboveL (walkedL g.outs)) (walkedL g.outs).par.length && (allIn (ofL g.outs).place g.outs.length (-1) 4000000000000 && allIn (ofL g.outs).size g.outs.length 0 4000000000000)) &&
   findsOk (ofL g.outs) g.ins (2 * edges g.ins + g.outs.length + 1) (orderL g.outs).reverse ⟨List.replicate g.outs.length (-1), upto g.outs.length⟩)
theorem depths_fixed {w : World} {B0 G : Nat} {ov iv : Value} {os js : List Value} {g : Gr} (hg : GrAt B0 w G ov iv os js g) (h : fixedOk g = true) :
    Calls Try.prog 14 #[.pointer (some ⟨G, 0, none⟩)] w fun e w' => ∃ dv, e = .returned dv ∧ Below w.heap.size w w' ∧ w'.ownsRow w.heap.size 3 1 dv g.outs.length ((depthsL g).map iV) := by
  unfold fixedOk at h
  simp only [Bool.and_eq_true, decide_eq_true_eq] at h
  obtain ⟨⟨⟨⟨h1, h2⟩, h3, h4⟩, h5, h6⟩, ⟨h7, h8, h9⟩, h10⟩ := h
  obtain ⟨p1, p2⟩ := allIn_of h8
  obtain ⟨s1, s2⟩ := allIn_of h9
  exact depths_any hg (List.length_pos_iff.1 h1) (rowsIn_of h5).2 h2 h3 h4 (rowsIn_of h6).2 (rowsIn_of h6).1 (low_of h7) ⟨p1, s1, p2, s2⟩ h10
end Go.Proofs.Ytipongpgmbhpkaa
