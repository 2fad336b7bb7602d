/-
  dom: tree.
-/
import Derived.Test.YtipongpgmbhpkaaDomQ
namespace Go.Proofs.Ytipongpgmbhpkaa
open Go.ChangeShapes Go.WideShapes Go.ChangeAt Go.RowKit
open Go.Proofs.Ytipongpgmbhpkaa.RegInv
set_option linter.unusedVariables false

/-- Three rows are made in any order. -/
structure TI (n : Nat) (w1 : World) (L : Nat → Bool) (g : Nat × Nat × Nat) (w : World) : Prop where
  low : Below w1.heap.size w1 w
  a : L 1 = true → w1.heap.size ≤ g.1 ∧ w.heap[g.1]? = some (.cells (madeCells #[.int .i64 0] n) 3 (0, 0))
  b : L 3 = true → w1.heap.size ≤ g.2.1 ∧ w.heap[g.2.1]? = some (.cells (madeCells #[.int .i64 0] n) 3 (0, 0))
  c : L 5 = true → w1.heap.size ≤ g.2.2 ∧ w.heap[g.2.2]? = some (.cells (madeCells #[.int .i64 0] n) 3 (0, 0))
  ab : L 1 = true → L 3 = true → g.1 ≠ g.2.1
  ac : L 1 = true → L 5 = true → g.1 ≠ g.2.2
  bc : L 3 = true → L 5 = true → g.2.1 ≠ g.2.2
theorem TI.skip {n : Nat} {w1 : World} {L : Nat → Bool} {g : Nat × Nat × Nat} {w : World} (h : TI n w1 L g w) {i : Nat} (hi : 1 ≠ i ∧ 3 ≠ i ∧ 5 ≠ i) : TI n w1 (setL L i) g w := by
  obtain ⟨h0, h1, h2, h3, h4, h5, h6⟩ := h
  obtain ⟨a, b, c⟩ := hi
  refine ⟨h0, ?_, ?_, ?_, ?_, ?_, ?_⟩
  · rw [setL_ne a]; exact h1
  · rw [setL_ne b]; exact h2
  · rw [setL_ne c]; exact h3
  · rw [setL_ne a, setL_ne b]; exact h4
  · rw [setL_ne a, setL_ne c]; exact h5
  · rw [setL_ne b, setL_ne c]; exact h6
theorem TI.m1 {n : Nat} {w1 : World} {L : Nat → Bool} {g : Nat × Nat × Nat} {w : World} (h : TI n w1 L g w) : TI n w1 (setL L 1) (w.heap.size, g.2) (w.alloc (.cells (madeCells #[.int .i64 0] n) 3 (0, 0))) := by
  refine ⟨h.low.alloc h.low.size _, fun _ => ⟨h.low.size, alloc_at _ _ _ rfl⟩, fun a => ?_, fun a => ?_, fun _ a => ?_, fun _ a => ?_, fun a b => ?_⟩
  · rw [setL_ne (by decide)] at a; exact old_alloc (h.b a)
  · rw [setL_ne (by decide)] at a; exact old_alloc (h.c a)
  · rw [setL_ne (by decide)] at a
    have := lt_heap (h.b a).2
    show w.heap.size ≠ g.2.1
    omega
  · rw [setL_ne (by decide)] at a
    have := lt_heap (h.c a).2
    show w.heap.size ≠ g.2.2
    omega
  · rw [setL_ne (by decide)] at a b; exact h.bc a b
theorem TI.m2 {n : Nat} {w1 : World} {L : Nat → Bool} {g : Nat × Nat × Nat} {w : World} (h : TI n w1 L g w) : TI n w1 (setL L 3) (g.1, w.heap.size, g.2.2) (w.alloc (.cells (madeCells #[.int .i64 0] n) 3 (0, 0))) := by
  refine ⟨h.low.alloc h.low.size _, fun a => ?_, fun _ => ⟨h.low.size, alloc_at _ _ _ rfl⟩, fun a => ?_, fun a _ => ?_, fun a b => ?_, fun _ a => ?_⟩
  · rw [setL_ne (by decide)] at a; exact old_alloc (h.a a)
  · rw [setL_ne (by decide)] at a; exact old_alloc (h.c a)
  · rw [setL_ne (by decide)] at a
    have := lt_heap (h.a a).2
    show g.1 ≠ w.heap.size
    omega
  · rw [setL_ne (by decide)] at a b; exact h.ac a b
  · rw [setL_ne (by decide)] at a
    have := lt_heap (h.c a).2
    show w.heap.size ≠ g.2.2
    omega
theorem TI.m3 {n : Nat} {w1 : World} {L : Nat → Bool} {g : Nat × Nat × Nat} {w : World} (h : TI n w1 L g w) : TI n w1 (setL L 5) (g.1, g.2.1, w.heap.size) (w.alloc (.cells (madeCells #[.int .i64 0] n) 3 (0, 0))) := by
  refine ⟨h.low.alloc h.low.size _, fun a => ?_, fun a => ?_, fun _ => ⟨h.low.size, alloc_at _ _ _ rfl⟩, fun a b => ?_, fun a _ => ?_, fun a _ => ?_⟩
  · rw [setL_ne (by decide)] at a; exact old_alloc (h.a a)
  · rw [setL_ne (by decide)] at a; exact old_alloc (h.b a)
  · rw [setL_ne (by decide)] at a b; exact h.ab a b
  · rw [setL_ne (by decide)] at a
    have := lt_heap (h.a a).2
    show g.1 ≠ w.heap.size
    omega
  · rw [setL_ne (by decide)] at a
    have := lt_heap (h.b a).2
    show g.2.1 ≠ w.heap.size
    omega
def tV (n : Nat) (g : Nat × Nat × Nat) : List Value :=
  [.int .i64 n, .slice (some ⟨g.1, 0, none⟩) n n, .int .i64 n, .slice (some ⟨g.2.1, 0, none⟩) n n, .int .i64 n, .slice (some ⟨g.2.2, 0, none⟩) n n, .slice (some ⟨g.1, 0, none⟩) n n, .slice (some ⟨g.2.1, 0, none⟩) n n, .slice (some ⟨g.2.2, 0, none⟩) n n]
/-- Rows of numbers, and the result's cell. -/
structure TrAt (B : Nat) (w : World) (rs : List (Value × List Int)) : Prop where
  bag : Bag B w rs
  res : w.heap[B]? = some (.cells #[.slice none 0 0, .slice none 0 0] 53 (0, 0))
theorem TrAt.below {B : Nat} {w w' : World} {rs : List (Value × List Int)} (h : TrAt B w rs) (hb : Below w.heap.size w w') : TrAt B w' rs := ⟨h.bag.below hb, (hb.block B (lt_heap h.res)).trans h.res⟩
theorem TrAt.put {B : Nat} {w : World} {rs : List (Value × List Int)} (h : TrAt B w rs) {i g n cap : Nat} {xs : List Int} (hi : rs[i]? = some (.slice (some ⟨g, 0, none⟩) n cap, xs)) (hn : xs.length = n) {j : Nat} (hj : j < n) (x : Int) : TrAt B (w.setCell ⟨g, j, none⟩ (.int .i64 x)) (rs.set i (.slice (some ⟨g, 0, none⟩) n cap, xs.set j x)) := by
  have h0 : B ≠ g := h.bag.ne_box h.res (by decide) hi rfl
  exact ⟨h.bag.put hi hn hj x, (Below.heap_setCell _ _ _ _ h0).trans h.res⟩
theorem sat_get {l : List Int} {j : Nat} {w : World} {B g n cap i : Nat} {rs : List (Value × List Int)} (h : TrAt B w rs) (hi : rs[i]? = some (.slice (some ⟨g, 0, none⟩) n cap, l)) (hj : j < l.length) : w.cell? ⟨g, j, none⟩ = some (.int .i64 (gi l j)) ∧ w.frozen? ⟨g, j, none⟩ = false ∧ B ≤ g ∧ g < w.heap.size := own_at (h.bag.row i _ _ hi) (gi_get hj)
/-- The tree's own rows, and its box. -/
structure PI (m : Nat) (w1 : World) (L : Nat → Bool) (g : Nat × Nat × Nat) (w : World) : Prop where
  low : Below w1.heap.size w1 w
  p : L 5 = true → w1.heap.size ≤ g.1 ∧ w.heap[g.1]? = some (.cells (madeCells #[.int .i64 0] m) 3 (0, 0))
  q : L 11 = true → w1.heap.size ≤ g.2.1 ∧ w.heap[g.2.1]? = some (.cells (madeCells #[.int .i64 0] m) 3 (0, 0))
  pq : L 5 = true → L 11 = true → g.1 ≠ g.2.1
  box : L 13 = true → L 14 = false → w1.heap.size ≤ g.2.2 ∧ w.heap[g.2.2]? = some (.cells #[.slice none 0 0, .slice none 0 0] 53 (0, 0))
  fin : L 14 = true → w1.heap.size ≤ g.2.2 ∧ w.heap[g.2.2]? = some (.cells #[.slice (some ⟨g.1, 0, none⟩) m m, .slice (some ⟨g.2.1, 0, none⟩) m m] 53 (0, 0))
theorem PI.skip {m : Nat} {w1 : World} {L : Nat → Bool} {g : Nat × Nat × Nat} {w : World} (h : PI m w1 L g w) {i : Nat} (hi : 5 ≠ i ∧ 11 ≠ i ∧ 13 ≠ i ∧ 14 ≠ i) : PI m w1 (setL L i) g w := by
  obtain ⟨h0, h1, h2, h3, h4, h5⟩ := h
  obtain ⟨a, b, c, d⟩ := hi
  refine ⟨h0, ?_, ?_, ?_, ?_, ?_⟩
  · rw [setL_ne a]; exact h1
  · rw [setL_ne b]; exact h2
  · rw [setL_ne a, setL_ne b]; exact h3
  · rw [setL_ne c, setL_ne d]; exact h4
  · rw [setL_ne d]; exact h5
theorem PI.m5 {m : Nat} {w1 : World} {L : Nat → Bool} {g : Nat × Nat × Nat} {w : World} (h : PI m w1 L g w) (h14 : L 14 = false) : PI m w1 (setL L 5) (w.heap.size, g.2) (w.alloc (.cells (madeCells #[.int .i64 0] m) 3 (0, 0))) := by
  refine ⟨h.low.alloc h.low.size _, fun _ => ⟨h.low.size, alloc_at _ _ _ rfl⟩, fun a => ?_, fun _ a => ?_, fun a b => ?_, fun a => ?_⟩
  · rw [setL_ne (by decide)] at a; exact old_alloc (h.q a)
  · rw [setL_ne (by decide)] at a
    have := lt_heap (h.q a).2
    show w.heap.size ≠ g.2.1
    omega
  · rw [setL_ne (by decide)] at a b; exact old_alloc (h.box a b)
  · rw [setL_ne (by decide), h14] at a; cases a
theorem PI.m11 {m : Nat} {w1 : World} {L : Nat → Bool} {g : Nat × Nat × Nat} {w : World} (h : PI m w1 L g w) (h14 : L 14 = false) : PI m w1 (setL L 11) (g.1, w.heap.size, g.2.2) (w.alloc (.cells (madeCells #[.int .i64 0] m) 3 (0, 0))) := by
  refine ⟨h.low.alloc h.low.size _, fun a => ?_, fun _ => ⟨h.low.size, alloc_at _ _ _ rfl⟩, fun a _ => ?_, fun a b => ?_, fun a => ?_⟩
  · rw [setL_ne (by decide)] at a; exact old_alloc (h.p a)
  · rw [setL_ne (by decide)] at a
    have := lt_heap (h.p a).2
    show g.1 ≠ w.heap.size
    omega
  · rw [setL_ne (by decide)] at a b; exact old_alloc (h.box a b)
  · rw [setL_ne (by decide), h14] at a; cases a
theorem PI.m13 {m : Nat} {w1 : World} {L : Nat → Bool} {g : Nat × Nat × Nat} {w : World} (h : PI m w1 L g w) (h14 : L 14 = false) : PI m w1 (setL L 13) (g.1, g.2.1, w.heap.size) (w.alloc (.cells #[.slice none 0 0, .slice none 0 0] 53 (0, 0))) := by
  refine ⟨h.low.alloc h.low.size _, fun a => ?_, fun a => ?_, fun a b => ?_, fun _ _ => ⟨h.low.size, alloc_at _ _ _ rfl⟩, fun a => ?_⟩
  · rw [setL_ne (by decide)] at a; exact old_alloc (h.p a)
  · rw [setL_ne (by decide)] at a; exact old_alloc (h.q a)
  · rw [setL_ne (by decide)] at a b; exact h.pq a b
  · rw [setL_ne (by decide), h14] at a; cases a
theorem PI.m14 {m : Nat} {w1 : World} {L : Nat → Bool} {g : Nat × Nat × Nat} {w : World} (h : PI m w1 L g w) (h14 : L 14 = false) (h13 : L 13 = true) : PI m w1 (setL L 14) g ((w.setCell ⟨g.2.2, 0, none⟩ (.slice (some ⟨g.1, 0, none⟩) m m)).setCell ⟨g.2.2, 1, none⟩ (.slice (some ⟨g.2.1, 0, none⟩) m m)) := by
  obtain ⟨b1, b2⟩ := h.box h13 h14
  have key : ∀ {q : Nat} {cs : Array Value}, w.heap[q]? = some (.cells cs 3 (0, 0)) → ((w.setCell ⟨g.2.2, 0, none⟩ (.slice (some ⟨g.1, 0, none⟩) m m)).setCell ⟨g.2.2, 1, none⟩ (.slice (some ⟨g.2.1, 0, none⟩) m m)).heap[q]? = some (.cells cs 3 (0, 0)) := by
    intro q cs hq
    have hne : q ≠ g.2.2 := by
      rintro rfl
      rw [hq] at b2
      simp only [Option.some.injEq, Obj.cells.injEq] at b2
      exact absurd b2.2.1 (by decide)
    exact (Below.heap_setCell _ _ _ _ hne).trans ((Below.heap_setCell _ _ _ _ hne).trans hq)
  refine ⟨below_put (below_put h.low b1 _ _) b1 _ _, fun a => ?_, fun a => ?_, fun a b => ?_, fun _ a => ?_, fun _ => ⟨b1, ?_⟩⟩
  · rw [setL_ne (by decide)] at a; exact ⟨(h.p a).1, key (h.p a).2⟩
  · rw [setL_ne (by decide)] at a; exact ⟨(h.q a).1, key (h.q a).2⟩
  · rw [setL_ne (by decide)] at a b; exact h.pq a b
  · rw [setL_eq] at a; cases a
  · rw [set_block _ _ _ _ _ _ (set_block _ _ _ _ _ _ b2)]; rfl
def pV (W m : Nat) (nv : Value) (g : Nat × Nat × Nat) : List Value :=
  [.pointer (some ⟨W, 0, none⟩), .pointer (some ⟨W, 0, none⟩), .pointer (some ⟨W, 0, none⟩), nv, .int .i64 m, .slice (some ⟨g.1, 0, none⟩) m m, .pointer (some ⟨W, 0, none⟩), .pointer (some ⟨W, 0, none⟩), .pointer (some ⟨W, 0, none⟩), nv, .int .i64 m, .slice (some ⟨g.2.1, 0, none⟩) m m, .agg #[.slice (some ⟨g.1, 0, none⟩) m m, .slice (some ⟨g.2.1, 0, none⟩) m m], .pointer (some ⟨g.2.2, 0, none⟩), undef]
def plF (pos : List Int) (v : Int) : Int := if v = -1 then -1 else gi pos v
def szF (size : List Int) (v : Int) : Int := if v = -1 then 0 else gi size v
def partL (f : Int → Int) (num : List Int) (j : Nat) : List Int := (num.take j).map f ++ List.replicate (num.length - j) 0
theorem partL_len (f : Int → Int) (num : List Int) {j : Nat} (hj : j ≤ num.length) : (partL f num j).length = num.length := by unfold partL; simp; omega
theorem partL_set (f : Int → Int) (num : List Int) {j : Nat} {v : Int} (hv : num[j]? = some v) : (partL f num j).set j (f v) = partL f num (j + 1) := by
  have hj := (List.getElem?_eq_some_iff.1 hv).1
  unfold partL
  rw [List.set_append_right _ _ (by simp; omega), List.length_map, List.length_take, Nat.min_eq_left (by omega), Nat.sub_self]
  obtain ⟨d, hd⟩ : ∃ d, num.length - j = d + 1 := ⟨num.length - j - 1, by omega⟩
  rw [hd, List.replicate_succ, List.set_cons_zero, show num.length - (j + 1) = d by omega, List.take_succ_eq_append_getElem hj, List.map_append, List.append_assoc]
  rw [List.getElem?_eq_getElem hj] at hv
  rw [Option.some.inj hv]
  rfl
theorem partL_same (f : Int → Int) (num : List Int) {j : Nat} {v : Int} (hv : num[j]? = some v) (h0 : f v = 0) : partL f num j = partL f num (j + 1) := by
  have hj := (List.getElem?_eq_some_iff.1 hv).1
  rw [← partL_set f num hv, h0]
  unfold partL
  rw [List.set_append_right _ _ (by simp; omega), List.length_map, List.length_take, Nat.min_eq_left (by omega), Nat.sub_self]
  obtain ⟨d, hd⟩ : ∃ d, num.length - j = d + 1 := ⟨num.length - j - 1, by omega⟩
  rw [hd, List.replicate_succ, List.set_cons_zero]
theorem partL_all (f : Int → Int) (num : List Int) : partL f num num.length = num.map f := by unfold partL; simp
/-- The five rows, the result's cell, the tree's box. -/
structure TbAt (B : Nat) (w : World) (tb : Nat) (pv qv : Value) (rs : List (Value × List Int)) : Prop where
  tr : TrAt B w rs
  box : w.heap[tb]? = some (.cells #[pv, qv] 53 (0, 0))
theorem TbAt.below {B tb : Nat} {w w' : World} {pv qv : Value} {rs : List (Value × List Int)} (h : TbAt B w tb pv qv rs) (hb : Below w.heap.size w w') : TbAt B w' tb pv qv rs := ⟨h.tr.below hb, (hb.block _ (lt_heap h.box)).trans h.box⟩
theorem TbAt.put {B tb : Nat} {w : World} {pv qv : Value} {rs : List (Value × List Int)} (h : TbAt B w tb pv qv rs) {i g n cap : Nat} {xs : List Int} (hi : rs[i]? = some (.slice (some ⟨g, 0, none⟩) n cap, xs)) (hn : xs.length = n) {j : Nat} (hj : j < n) (x : Int) : TbAt B (w.setCell ⟨g, j, none⟩ (.int .i64 x)) tb pv qv (rs.set i (.slice (some ⟨g, 0, none⟩) n cap, xs.set j x)) := by
  have h0 : tb ≠ g := h.tr.bag.ne_box h.box (by decide) hi rfl
  exact ⟨h.tr.put hi hn hj x, (Below.heap_setCell _ _ _ _ h0).trans h.box⟩
theorem tbox {w : World} {b : Nat} {c0 c1 : Value} {t : TypeId} (h : w.heap[b]? = some (.cells #[c0, c1] t (0, 0))) : (w.cell? ⟨b, 0, none⟩ = some c0 ∧ w.cell? ⟨b, 1, none⟩ = some c1) ∧ (∀ j, w.frozen? ⟨b, j, none⟩ = false) ∧ b < w.heap.size :=
  ⟨⟨cell_ok h 0, cell_ok h 1⟩, fun j => Lib.frozen_of_heap h j, lt_heap h⟩
def fiveR (A S F P Q : Value) (pos size free pl sz : List Int) : List (Value × List Int) := [(A, pos), (S, size), (F, free), (P, pl), (Q, sz)]
structure SI (B : Nat) (w0 : World) (tb : Nat) (A S F P Q : Value) (pos size free pl sz : List Int) (j : Nat) (y1 y2 : Int) (L : Nat → Bool) (g : Nat) (w : World) : Prop where
  low : Below B w0 w
  at' : TbAt B w tb P Q (fiveR A S F P Q pos size free (if L 15 then pl.set j y1 else pl) (if L 17 then sz.set j y2 else sz))
theorem SI.skip {B : Nat} {w0 : World} {tb : Nat} {A S F P Q : Value} {pos size free pl sz : List Int} {j : Nat} {y1 y2 : Int} {L : Nat → Bool} {g : Nat} {w : World} (h : SI B w0 tb A S F P Q pos size free pl sz j y1 y2 L g w) {i : Nat} (hi : 15 ≠ i ∧ 17 ≠ i) : SI B w0 tb A S F P Q pos size free pl sz j y1 y2 (setL L i) g w := by
  refine ⟨h.low, ?_⟩
  rw [setL_ne hi.1, setL_ne hi.2]
  exact h.at'
def sV (tb G1 G2 p q n m j vn : Nat) (y1 y2 : Int) (g : Nat) : List Value :=
  [.pointer (some ⟨tb, 0, none⟩), .slice (some ⟨p, 0, none⟩) m m, .int .i64 j, .pointer (some ⟨tb, 1, none⟩), .slice (some ⟨q, 0, none⟩) m m, .int .i64 j, .slice (some ⟨G1, 0, none⟩) n n, .int .i64 vn, .pointer (some ⟨G1, vn, none⟩), .int .i64 y1, .slice (some ⟨G2, 0, none⟩) n n, .int .i64 vn, .pointer (some ⟨G2, vn, none⟩), .int .i64 y2, .pointer (some ⟨p, j, none⟩), undef, .pointer (some ⟨q, j, none⟩), undef]
set_option maxHeartbeats 16000000 in
set_option maxRecDepth 100000 in
theorem tree_any {w : World} {B0 W n B1 : Nat} {nv pv iv av : Value} {hs : List Value} {s : Wk} {above : List Int} (h : WalkAt B0 w W nv pv iv hs s []) (hok : s.ok) (hpn : s.par.length = n) (hal : w.ownsRow B1 3 1 av n (above.map iV)) (hlow : Low above n) (hpos : 0 < n) (hn : n ≤ 1000000) (hm : s.num.length ≤ 1000000) :
    Calls Try.prog 24 #[.pointer (some ⟨W, 0, none⟩), av] w fun e w' => ∃ tv uv, e = .returned (.agg #[tv, uv]) ∧ Below w.heap.size w w' ∧ w'.ownsRow w.heap.size 3 1 tv s.num.length ((treeL s above).place.map iV) ∧ w'.ownsRow w.heap.size 3 1 uv s.num.length ((treeL s above).size.map iV) ∧ (∀ q, tv.ownBlock = some q → uv.ownBlock ≠ some q) := by
  obtain ⟨ag, ac, rfl⟩ : ∃ g c, av = .slice (some ⟨g, 0, none⟩) n c := by
    rcases own_slice hal with ⟨_, h0⟩ | ⟨g, c, h0, _⟩
    · omega
    · exact ⟨g, c, h0⟩
  obtain ⟨⟨c0, _, _⟩, _, hWl⟩ := wbox h.box
  have HW := Lib.hid h; have HOK := Lib.hid hok; have HPN := Lib.hid hpn; have HAL := Lib.hid hal; have HLOW := Lib.hid hlow; have HM := Lib.hid hm
  clear h hok hpn hal hlow hm
  have hmk := run_make_row' (P := Try.prog) 35 3 (.int .i64 0) 8 Try.underlying35 info3 rfl .i64 .i64 n (by omega) (by omega)
  have HMK := Lib.hid hmk
  clear hmk
  go_enter Try.func24, Try.ntmps24
  go_upto_region 2 with (fail)
  have hb0 : Below w.heap.size w (w.alloc (.cells #[.slice none 0 0, .slice none 0 0] 53 (0, 0))) := (Below.refl _ _).alloc (Nat.le_refl _) _
  have HR0 := Lib.hid (alloc_at w (.cells #[.slice none 0 0, .slice none 0 0] 53 (0, 0)) w.heap.size rfl)
  have HB0 := Lib.hid hb0
  have hz0 : w.heap.size ≤ (w.alloc (.cells #[.slice none 0 0, .slice none 0 0] 53 (0, 0))).heap.size := by simp
  clear hb0
  generalize w.alloc (.cells #[.slice none 0 0, .slice none 0 0] 53 (0, 0)) = w0 at *
  refine wp_region_by (by kernel_rfl) (tV n) (TI n w0) (0, 0, 0) (fun _ => rfl) (by kernel_rfl) ?h0 ?steps ?done
  case h0 => exact ⟨⟨rfl, rfl, rfl, Nat.le_refl _, fun _ _ => rfl⟩, fun a => by simp at a, fun a => by simp at a, fun a => by simp at a, fun a => by simp at a, fun a => by simp at a, fun a => by simp at a⟩
  case steps =>
    have hmk := HMK.out
    refine (Steps.cons (k' := 1) ?s0 rfl (Steps.cons (k' := 2) ?s1 rfl (Steps.cons (k' := 3) ?s2 rfl (Steps.cons (k' := 4) ?s3 rfl (Steps.cons (k' := 5) ?s4 rfl (Steps.cons (k' := 6) ?s5 rfl (Steps.cons (k' := 7) ?s6 rfl (Steps.cons (k' := 8) ?s7 rfl (Steps.cons (k' := 9) ?s8 rfl Steps.nil)))))))))
    case s0 =>
      intro L g w' hL hd hcl hI K hK
      simp only [full, tV, Act.put, List.setIfInBounds_toArray, List.set_cons_zero, List.set_cons_succ] at hK ⊢
      have HL := Lib.hid hL; have HD := Lib.hid hd; have HC := Lib.hid hcl; have HJ := Lib.hid hI; have HK := Lib.hid hK
      clear hL hd hcl hI hK
      go_simp
      exact HK.out _ _ g rfl (fun _ _ => rfl) (HJ.out.skip (by decide))
    case s1 =>
      intro L g w' hL hd hcl hI K hK
      simp only [full, tV, Act.put, List.setIfInBounds_toArray, List.set_cons_zero, List.set_cons_succ] at hK ⊢
      have l6 : L 6 = false := hcl.not 6 1 (by kernel_rfl) hL
      have HL := Lib.hid hL; have HD := Lib.hid hd; have HC := Lib.hid hcl; have HJ := Lib.hid hI; have HK := Lib.hid hK
      clear hL hd hcl hI hK
      go_simp
      exact HK.out _ _ (w'.heap.size, g.2) rfl (get_trans (set_get 1 HL.out rfl) (set_get 6 l6 rfl)) HJ.out.m1
    case s2 =>
      intro L g w' hL hd hcl hI K hK
      simp only [full, tV, Act.put, List.setIfInBounds_toArray, List.set_cons_zero, List.set_cons_succ] at hK ⊢
      have HL := Lib.hid hL; have HD := Lib.hid hd; have HC := Lib.hid hcl; have HJ := Lib.hid hI; have HK := Lib.hid hK
      clear hL hd hcl hI hK
      go_simp
      exact HK.out _ _ g rfl (fun _ _ => rfl) (HJ.out.skip (by decide))
    case s3 =>
      intro L g w' hL hd hcl hI K hK
      simp only [full, tV, Act.put, List.setIfInBounds_toArray, List.set_cons_zero, List.set_cons_succ] at hK ⊢
      have l7 : L 7 = false := hcl.not 7 3 (by kernel_rfl) hL
      have HL := Lib.hid hL; have HD := Lib.hid hd; have HC := Lib.hid hcl; have HJ := Lib.hid hI; have HK := Lib.hid hK
      clear hL hd hcl hI hK
      go_simp
      exact HK.out _ _ (g.1, w'.heap.size, g.2.2) rfl (get_trans (set_get 3 HL.out rfl) (set_get 7 l7 rfl)) HJ.out.m2
    case s4 =>
      intro L g w' hL hd hcl hI K hK
      simp only [full, tV, Act.put, List.setIfInBounds_toArray, List.set_cons_zero, List.set_cons_succ] at hK ⊢
      have HL := Lib.hid hL; have HD := Lib.hid hd; have HC := Lib.hid hcl; have HJ := Lib.hid hI; have HK := Lib.hid hK
      clear hL hd hcl hI hK
      go_simp
      exact HK.out _ _ g rfl (fun _ _ => rfl) (HJ.out.skip (by decide))
    case s5 =>
      intro L g w' hL hd hcl hI K hK
      simp only [full, tV, Act.put, List.setIfInBounds_toArray, List.set_cons_zero, List.set_cons_succ] at hK ⊢
      have l8 : L 8 = false := hcl.not 8 5 (by kernel_rfl) hL
      have HL := Lib.hid hL; have HD := Lib.hid hd; have HC := Lib.hid hcl; have HJ := Lib.hid hI; have HK := Lib.hid hK
      clear hL hd hcl hI hK
      go_simp
      exact HK.out _ _ (g.1, g.2.1, w'.heap.size) rfl (get_trans (set_get 5 HL.out rfl) (set_get 8 l8 rfl)) HJ.out.m3
    case s6 =>
      intro L g w' hL hd hcl hI K hK
      simp only [full, tV, Act.put, List.setIfInBounds_toArray, List.set_cons_zero, List.set_cons_succ] at hK ⊢
      have HL := Lib.hid hL; have HD := Lib.hid hd; have HC := Lib.hid hcl; have HJ := Lib.hid hI; have HK := Lib.hid hK
      clear hL hd hcl hI hK
      go_simp
      exact HK.out _ _ g rfl (fun _ _ => rfl) (HJ.out.skip (by decide))
    case s7 =>
      intro L g w' hL hd hcl hI K hK
      simp only [full, tV, Act.put, List.setIfInBounds_toArray, List.set_cons_zero, List.set_cons_succ] at hK ⊢
      have HL := Lib.hid hL; have HD := Lib.hid hd; have HC := Lib.hid hcl; have HJ := Lib.hid hI; have HK := Lib.hid hK
      clear hL hd hcl hI hK
      go_simp
      exact HK.out _ _ g rfl (fun _ _ => rfl) (HJ.out.skip (by decide))
    case s8 =>
      intro L g w' hL hd hcl hI K hK
      simp only [full, tV, Act.put, List.setIfInBounds_toArray, List.set_cons_zero, List.set_cons_succ] at hK ⊢
      have HL := Lib.hid hL; have HD := Lib.hid hd; have HC := Lib.hid hcl; have HJ := Lib.hid hI; have HK := Lib.hid hK
      clear hL hd hcl hI hK
      go_simp
      exact HK.out _ _ g rfl (fun _ _ => rfl) (HJ.out.skip (by decide))
  case done =>
    intro g w1 hI
    obtain ⟨a1, a2⟩ := hI.a rfl
    obtain ⟨b1, b2⟩ := hI.b rfl
    obtain ⟨c1, c2⟩ := hI.c rfl
    have nab := hI.ab rfl rfl; have nac := hI.ac rfl rfl; have nbc := hI.bc rfl rfl
    have HB := Lib.hid (HB0.out.trans (hI.low.mono hz0))
    obtain ⟨G1, G2, G3⟩ := g
    have hmx : n ≤ maxLen := by unfold maxLen; omega
    have hbag : Bag w.heap.size w1 ([(.slice (some ⟨G1, 0, none⟩) n n, List.replicate n 0)] ++ [(.slice (some ⟨G2, 0, none⟩) n n, List.replicate n 0)] ++ [(.slice (some ⟨G3, 0, none⟩) n n, List.replicate n 0)]) := by
      refine (((Bag.nil _ _).more _ _ (own_made a2 (Nat.le_trans hz0 a1) hmx) (fun i r hi => by simp at hi)).more _ _ (own_made b2 (Nat.le_trans hz0 b1) hmx) (fun i r hi q hq e => ?_)).more _ _ (own_made c2 (Nat.le_trans hz0 c1) hmx) (fun i r hi q hq e => ?_)
      · rcases i with _ | i
        · simp at hi; subst hi
          have h1 : G1 = q := Option.some.inj hq
          have h2 : G2 = q := Option.some.inj e
          exact nab (by show G1 = G2; omega)
        · simp at hi
      · rcases i with _ | _ | i
        · simp at hi; subst hi
          have h1 : G1 = q := Option.some.inj hq
          have h2 : G3 = q := Option.some.inj e
          exact nac (by show G1 = G3; omega)
        · simp at hi; subst hi
          have h1 : G2 = q := Option.some.inj hq
          have h2 : G3 = q := Option.some.inj e
          exact nbc (by show G2 = G3; omega)
        · simp at hi
    have HT := Lib.hid (show TrAt w.heap.size w1 [(.slice (some ⟨G1, 0, none⟩) n n, List.replicate n 0), (.slice (some ⟨G2, 0, none⟩) n n, List.replicate n 0), (.slice (some ⟨G3, 0, none⟩) n n, List.replicate n 0)] from ⟨hbag, (hI.low.block _ (lt_heap HR0.out)).trans HR0.out⟩)
    clear hI hbag a1 a2 b1 b2 c1 c2 nab nac nbc hmx HB0 HR0 hz0
    simp only [full, tV, Act.put, List.setIfInBounds_toArray, List.set_cons_zero, List.set_cons_succ]
    obtain ⟨fsz, hfsz⟩ : ∃ a, a = (List.range n).reverse.foldl (sizeStep above) (List.replicate n 0) := ⟨_, rfl⟩
    have HFSZ := Lib.hid hfsz
    clear hfsz
    have hwn : wrap64 ((n : Int) - 1) = (n : Int) - 1 := Go.IntWalk.wrap64_in _ (by omega)
    have HWN := Lib.hid hwn
    go_wp2_with (fail)
    clear hwn
    go_loopg [9] n (fun k zv wr => ∃ (z : Int) (size : List Int), zv = .int .i64 z ∧ z + 1 = (k : Int) ∧ k ≤ n ∧ SzOk n k size ∧ (List.range k).reverse.foldl (sizeStep above) size = fsz ∧ Below w.heap.size w wr ∧ TrAt w.heap.size wr [(.slice (some ⟨G1, 0, none⟩) n n, List.replicate n 0), (.slice (some ⟨G2, 0, none⟩) n n, size), (.slice (some ⟨G3, 0, none⟩) n n, List.replicate n 0)])
    case atStart => exact ⟨(n : Int) - 1, _, by first | rfl | rw [HWN.out], by omega, Nat.le_refl _, SzOk.zero n, HFSZ.out.symm, HB.out, HT.out⟩
    case round =>
      obtain ⟨z, size, rfl, hz, hkn, hsz, hfo, hbr, htr⟩ := hrel
      by_cases hk0 : gk = 0
      · have hzn : decide (0 ≤ z) = false := decide_eq_false (by omega)
        have hse : size = fsz := by
          rw [hk0] at hfo
          exact hfo
        rw [hk0] at hsz
        have HSZ := Lib.hid hsz; have HBR := Lib.hid hbr; have HTR := Lib.hid htr; have HSE := Lib.hid hse
        clear hz hkn hsz hfo hbr htr hse hk0
        go_wp2_with (fail)
        clear hzn
        go_loopw [50] (fun i wx => ∃ (j : Nat) (x : List Int × List Int), j ≤ n ∧ i = .int .i64 j ∧ x = (List.range j).foldl (laidStep above size) (List.replicate n 0, List.replicate n 0) ∧ LdOk n j x ∧ Below w.heap.size w wx ∧ TrAt w.heap.size wx [(.slice (some ⟨G1, 0, none⟩) n n, x.1), (.slice (some ⟨G2, 0, none⟩) n n, size), (.slice (some ⟨G3, 0, none⟩) n n, x.2)]) (fun i _ => n - (intOf i).toNat)
        case atStart => exact ⟨0, _, Nat.zero_le _, rfl, rfl, LdOk.zero n, HBR.out, HTR.out⟩
        case round =>
          obtain ⟨j, x, hj, rfl, hx, hld, hbx, htx⟩ := hrel
          obtain ⟨xa, xf⟩ := x
          replace htx : TrAt w.heap.size wr [(.slice (some ⟨G1, 0, none⟩) n n, xa), (.slice (some ⟨G2, 0, none⟩) n n, size), (.slice (some ⟨G3, 0, none⟩) n n, xf)] := htx
          by_cases hjn : j < n
          · have hji : (j : Int) < (n : Int) := by omega
            have HX2 := Lib.hid (show laidStep above size (xa, xf) j = (List.range (j + 1)).foldl (laidStep above size) (List.replicate n 0, List.replicate n 0) from by
              rw [List.range_succ, List.foldl_append, ← hx]; rfl)
            have HL2 := Lib.hid (hld.step hjn HLOW.out HSZ.out.len HSZ.out.nn)
            have hl1 : xa.length = n := hld.len.1
            have hl2 : xf.length = n := hld.len.2
            have HBX := Lib.hid hbx; have HTX := Lib.hid htx
            have hjb : ((j : Int) * (n + 1)) ≤ 2000000000000 := by
              have h1 : (j : Int) * (n + 1) ≤ 1000000 * 1000001 := Int.mul_le_mul (by omega) (by omega) (by omega) (by omega)
              omega
            by_cases hj0 : 0 < j
            · obtain ⟨q0, q1⟩ := HLOW.out.2 j hj0 hjn
              obtain ⟨a, ha⟩ : ∃ a : Nat, gi above j = a := ⟨(gi above j).toNat, by omega⟩
              have han : a < n := by omega
              have hai : (a : Int) < (n : Int) := by omega
              obtain ⟨ca, _, _, hagl⟩ := own_at HAL.out (gi_get (l := above) (v := j) (by rw [HLOW.out.1]; exact hjn))
              rw [ha] at ca
              have ca2 := (hbx.cell (p := ⟨ag, j, none⟩) hagl).trans ca
              obtain ⟨fa, hfa⟩ : ∃ y, gi xf a = y := ⟨_, rfl⟩
              obtain ⟨sj, hsj⟩ : ∃ y, gi size j = y := ⟨_, rfl⟩
              have hfr := hld.free _ (gi_mem (v := a) (by show a < xf.length; omega))
              have hsr := HSZ.out.nn _ (gi_mem (v := j) (by rw [HSZ.out.len]; exact hjn))
              rw [hfa] at hfr; rw [hsj] at hsr
              have HW1 := Lib.hid (show wrap64 (fa + sj) = fa + sj from Go.IntWalk.wrap64_in _ (by omega))
              have HW2 := Lib.hid (show wrap64 (fa + 1) = fa + 1 from Go.IntWalk.wrap64_in _ (by omega))
              have HLAID := Lib.hid (show laidStep above size (xa, xf) j = (xa.set j fa, (xf.set a (fa + sj)).set j (fa + 1)) from by
                unfold laidStep
                dsimp only
                rw [if_pos hj0, ha, hfa, hsj, Int.toNat_natCast]
                dsimp only
                rw [gi_set (by omega) _ _ (by omega), if_pos rfl])
              have k1 := (sat_get htx (i := 2) (j := a) rfl (by omega)).1
              rw [hfa] at k1
              obtain ⟨k2, k3, k4, k5⟩ := sat_get htx (i := 0) (j := j) rfl (by omega)
              have HCA := Lib.hid ca; have HAGL := Lib.hid hagl
              clear hx hld hbx htx ca ha hfr hsr hjb q0 q1
              go_upto_region 14 with (fail)
              have HT1 := Lib.hid (HTX.out.put (i := 0) rfl hl1 hjn fa)
              have HB1 := Lib.hid (below_put HBX.out k4 j (.int .i64 fa))
              clear k1 k2 k3 k4 k5 ca2 HTX HBX
              generalize wr.setCell ⟨G1, j, none⟩ (.int .i64 fa) = w3 at *
              have ca3 := (HB1.out.cell (p := ⟨ag, j, none⟩) HAGL.out).trans HCA.out
              have k1 := (sat_get HT1.out (i := 2) (j := a) rfl (by omega)).1
              have k2 := (sat_get HT1.out (i := 1) (j := j) rfl (by rw [HSZ.out.len]; exact hjn)).1
              rw [hfa] at k1; rw [hsj] at k2
              have hw1 := HW1.out
              go_still_tail 13, (by kernel_rfl)
              change wpList _ _ _ _ _ w3.drew
              have HT2 := Lib.hid (HT1.out.below (w' := w3.drew) ⟨rfl, rfl, rfl, Nat.le_refl _, fun _ _ => rfl⟩)
              have HB2 := Lib.hid (show Below w.heap.size w w3.drew from ⟨HB1.out.os, HB1.out.tape, HB1.out.output, HB1.out.size, HB1.out.block⟩)
              clear k1 k2 ca3 HT1 HB1
              generalize w3.drew = w4 at *
              obtain ⟨k1, k2, k3, k4⟩ := sat_get HT2.out (i := 2) (j := a) rfl (by omega)
              go_upto_region 15 with (fail)
              rw [HW1.out] at *
              have HT3 := Lib.hid (HT2.out.put (i := 2) rfl hl2 han (fa + sj))
              have HB3 := Lib.hid (below_put HB2.out k3 a (.int .i64 (fa + sj)))
              clear k1 k2 k3 k4 hw1 HT2 HB2
              generalize w4.setCell ⟨G3, a, none⟩ (.int .i64 (fa + sj)) = w5 at *
              have k1 := (sat_get HT3.out (i := 0) (j := j) rfl (by rw [List.length_set]; omega)).1
              rw [gi_set (by omega) _ _ (by omega), if_pos rfl] at k1
              obtain ⟨k2, k3, k4, k5⟩ := sat_get HT3.out (i := 2) (j := j) rfl (by rw [List.length_set]; omega)
              have hw2 := HW2.out
              go_wp2_with (fail)
              go_roundw
              case rel =>
                refine ⟨j + 1, _, by omega, by go_num, HX2.out, ?_, below_put HB3.out k4 _ _, ?_⟩
                · exact HL2.out
                · rw [HLAID.out]
                  exact HT3.out.put (i := 2) rfl (by rw [List.length_set]; exact hl2) hjn (fa + 1)
              case measure => simp [intOf]; omega
            · obtain rfl : j = 0 := by omega
              obtain ⟨y0, hy0⟩ : ∃ y, gi xa (0 : Nat) = y := ⟨_, rfl⟩
              have hyr := hld.at' _ (gi_mem (v := 0) (by show 0 < xa.length; omega))
              rw [hy0] at hyr
              have HW2 := Lib.hid (show wrap64 (y0 + 1) = y0 + 1 from Go.IntWalk.wrap64_in _ (by omega))
              have HLAID := Lib.hid (show laidStep above size (xa, xf) 0 = (xa, xf.set 0 (y0 + 1)) from by
                unfold laidStep
                dsimp only
                rw [if_neg (by omega), ← hy0])
              have k1 := (sat_get htx (i := 0) (j := 0) rfl (by omega)).1
              rw [hy0] at k1
              obtain ⟨k2, k3, k4, k5⟩ := sat_get htx (i := 2) (j := 0) rfl (by omega)
              clear hx hld hbx htx hy0 hyr hjb hj0
              have hw2 := HW2.out
              go_wp2_with (fail)
              go_roundw
              case rel =>
                refine ⟨0 + 1, _, by omega, by go_num, HX2.out, ?_, below_put HBX.out k4 _ _, ?_⟩
                · exact HL2.out
                · rw [HLAID.out]
                  exact HTX.out.put (i := 2) rfl hl2 hjn (y0 + 1)
              case measure => simp [intOf]; omega
          · obtain rfl : n = j := by omega
            obtain ⟨m, hm⟩ : ∃ m, m = s.num.length := ⟨_, rfl⟩
            have HMM := Lib.hid hm
            obtain ⟨na, nc, hnv⟩ : ∃ a c, nv = .slice a m c := by
              rcases own_slice (HW.out.bag.row 0 _ _ rfl) with ⟨q0, q1⟩ | ⟨g, c, q0, _⟩
              · exact ⟨none, 0, by rw [q0, hm]; exact congrArg (fun k => Value.slice none k 0) q1.symm⟩
              · exact ⟨some ⟨g, 0, none⟩, c, by rw [q0, hm]⟩
            subst hnv
            have hm6 : m ≤ 1000000 := by rw [hm]; exact HM.out
            have HPOS := Lib.hid (show treeL s above = ⟨s.num.map (plF xa), s.num.map (szF size)⟩ from by
              have e1 := HLOW.out.1
              unfold treeL
              dsimp only
              rw [e1, ← HFSZ.out, ← HSE.out, ← hx]
              rfl)
            have HBX := Lib.hid hbx; have HTX := Lib.hid htx
            have d0 := (hbx.cell (p := ⟨W, 0, none⟩) hWl).trans c0
            have hmk := run_make_row' (P := Try.prog) 35 3 (.int .i64 0) 8 Try.underlying35 info3 rfl .i64 .i64 m (by omega) (by omega)
            have HMKm := Lib.hid hmk
            have hBw := hbx.size
            have hWr := Nat.lt_of_lt_of_le hWl hBw
            have hl1 : xa.length = n := hld.len.1
            have hl2 : xf.length = n := hld.len.2
            clear hj hjn hmk hm hx hld hbx htx
            go_wp2_with (fail)
            refine wp_region_by (by kernel_rfl) (pV W m (.slice na m nc)) (PI m wr) (0, 0, 0) (fun _ => rfl) (by kernel_rfl) ?p0 ?psteps ?pdone
            case p0 => exact ⟨⟨rfl, rfl, rfl, Nat.le_refl _, fun _ _ => rfl⟩, fun a => by simp at a, fun a => by simp at a, fun a => by simp at a, fun a => by simp at a, fun a => by simp at a⟩
            case pdone =>
              intro g w5 hI
              obtain ⟨p1, p2⟩ := hI.p rfl
              obtain ⟨q1, q2⟩ := hI.q rfl
              obtain ⟨t1, t2⟩ := hI.fin rfl
              have hpq := hI.pq rfl rfl
              have HB5 := Lib.hid (HBX.out.trans (hI.low.mono hBw))
              obtain ⟨p, q, tb⟩ := g
              have hmx : m ≤ maxLen := by unfold maxLen; omega
              have htr5 : TrAt w.heap.size w5 ([(.slice (some ⟨G1, 0, none⟩) n n, xa), (.slice (some ⟨G2, 0, none⟩) n n, size), (.slice (some ⟨G3, 0, none⟩) n n, xf)] ++ [(.slice (some ⟨p, 0, none⟩) m m, List.replicate m 0)] ++ [(.slice (some ⟨q, 0, none⟩) m m, List.replicate m 0)]) := by
                have h1 := HTX.out.below hI.low
                have h2 : Bag w.heap.size w5 _ := h1.bag.more (.slice (some ⟨p, 0, none⟩) m m) (List.replicate m 0) (own_made p2 (Nat.le_trans hBw p1) hmx) (fun i r hi k hk e => by
                  have e1 : p = k := Option.some.inj e
                  have e2 := (HTX.out.bag.lt hi hk).2
                  have e3 : wr.heap.size ≤ p := p1
                  omega)
                refine ⟨h2.more (.slice (some ⟨q, 0, none⟩) m m) (List.replicate m 0) (own_made q2 (Nat.le_trans hBw q1) hmx) (fun i r hi k hk e => ?_), h1.res⟩
                have e1 : q = k := Option.some.inj e
                have e3 : wr.heap.size ≤ q := q1
                rcases Nat.lt_or_ge i 3 with h3 | h3
                · rw [List.getElem?_append_left (by simpa using h3)] at hi
                  have e2 := (HTX.out.bag.lt hi hk).2
                  omega
                · rw [List.getElem?_append_right (by simpa using h3)] at hi
                  rcases hd : i - 3 with _ | d
                  · have hi' : [(Value.slice (some ⟨p, 0, none⟩) m m, List.replicate m (0 : Int))][i - 3]? = some r := hi
                    rw [hd] at hi'
                    simp only [List.getElem?_cons_zero, Option.some.injEq] at hi'
                    subst hi'
                    have e4 : p = k := Option.some.inj hk
                    exact hpq (by show p = q; omega)
                  · have hi' : [(Value.slice (some ⟨p, 0, none⟩) m m, List.replicate m (0 : Int))][i - 3]? = some r := hi
                    rw [hd] at hi'
                    simp at hi'
              have HT5 := Lib.hid (show TbAt w.heap.size w5 tb (.slice (some ⟨p, 0, none⟩) m m) (.slice (some ⟨q, 0, none⟩) m m) (fiveR (.slice (some ⟨G1, 0, none⟩) n n) (.slice (some ⟨G2, 0, none⟩) n n) (.slice (some ⟨G3, 0, none⟩) n n) (.slice (some ⟨p, 0, none⟩) m m) (.slice (some ⟨q, 0, none⟩) m m) xa size xf (partL (plF xa) s.num 0) (partL (szF size) s.num 0)) from ⟨by
                have e : partL (plF xa) s.num 0 = List.replicate m 0 := by unfold partL; rw [← HMM.out]; simp
                have e2 : partL (szF size) s.num 0 = List.replicate m 0 := by unfold partL; rw [← HMM.out]; simp
                rw [e, e2]
                exact htr5, t2⟩)
              have d5 := (HB5.out.cell (p := ⟨W, 0, none⟩) hWl).trans c0
              have hWl5 := Nat.lt_of_lt_of_le hWl HB5.out.size
              clear hI p1 p2 q1 q2 t1 t2 hpq htr5 hmx d0 HTX HBX hBw hWr
              simp only [full, pV, Act.put, List.setIfInBounds_toArray, List.set_cons_zero, List.set_cons_succ]
              go_wp2_with (fail)
              clear d5 hWl5
              go_loopw [105] (fun i wx => ∃ k : Nat, k ≤ m ∧ i = .int .i64 k ∧ Below w.heap.size w wx ∧ TbAt w.heap.size wx tb (.slice (some ⟨p, 0, none⟩) m m) (.slice (some ⟨q, 0, none⟩) m m) (fiveR (.slice (some ⟨G1, 0, none⟩) n n) (.slice (some ⟨G2, 0, none⟩) n n) (.slice (some ⟨G3, 0, none⟩) n n) (.slice (some ⟨p, 0, none⟩) m m) (.slice (some ⟨q, 0, none⟩) m m) xa size xf (partL (plF xa) s.num k) (partL (szF size) s.num k))) (fun i _ => m - (intOf i).toNat)
              case atStart => exact ⟨0, Nat.zero_le _, rfl, HB5.out, HT5.out⟩
              case round =>
                obtain ⟨k, hk, rfl, hby, hty⟩ := hrel
                by_cases hkm : k < m
                · obtain ⟨v, hv⟩ : ∃ v, s.num[k]? = some v := ⟨_, List.getElem?_eq_getElem (by rw [← HMM.out]; exact hkm)⟩
                  have hnr := HW.out.bag.row 0 _ _ rfl
                  obtain ⟨ng, hng, _⟩ := own_head hnr (by show 0 < s.num.length; rw [← HMM.out]; omega)
                  subst hng
                  obtain ⟨cn, _, _, hngl⟩ := own_at hnr hv
                  have cn2 := (hby.cell (p := ⟨ng, k, none⟩) hngl).trans cn
                  have hki : (k : Int) < (m : Int) := by omega
                  obtain ⟨⟨b0, b1⟩, _, htl⟩ := tbox hty.box
                  have hpl : (partL (plF xa) s.num k).length = m := by rw [partL_len _ _ (by rw [← HMM.out]; exact hk)]; exact HMM.out.symm
                  have hql : (partL (szF size) s.num k).length = m := by rw [partL_len _ _ (by rw [← HMM.out]; exact hk)]; exact HMM.out.symm
                  obtain ⟨k1, k2, k3, k4⟩ := sat_get hty.tr (i := 3) (j := k) rfl (by rw [hpl]; exact hkm)
                  have HBY := Lib.hid hby; have HTY := Lib.hid hty; have HV := Lib.hid hv
                  have HVR := Lib.hid (HOK.out.1 v (List.mem_of_getElem? hv))
                  clear hby hty hv hnr cn hk
                  go_upto_region 22 with (fail)
                  have HT7 := Lib.hid (HTY.out.put (i := 3) rfl hpl hkm (-1))
                  have HB7 := Lib.hid (below_put HBY.out k3 k (.int .i64 (-1)))
                  clear k1 k2 k3 k4 b0 b1 cn2 HTY HBY htl
                  generalize wr.setCell ⟨p, k, none⟩ (.int .i64 (-1)) = w7 at *
                  by_cases hv1 : v = -1
                  · have qv : (v == -1) = true := by simpa using hv1
                    have e1 : plF xa v = -1 := by unfold plF; rw [if_pos hv1]
                    have e2 : szF size v = 0 := by unfold szF; rw [if_pos hv1]
                    have HS1 := Lib.hid (partL_set (plF xa) s.num HV.out)
                    have HS2 := Lib.hid (partL_same (szF size) s.num HV.out e2)
                    rw [e1] at HS1
                    clear e1 e2
                    subst hv1
                    go_wp2_with (fail)
                    go_roundw
                    case rel =>
                      refine ⟨k + 1, by omega, by go_num, HB7.out, ?_⟩
                      have h1 := HT7.out
                      rw [HS1.out, HS2.out] at h1
                      exact h1
                    case measure => simp [intOf]; omega
                  · have hvr := HVR.out.resolve_left hv1
                    rw [HPN.out] at hvr
                    obtain ⟨vn, hvn⟩ : ∃ vn : Nat, v = vn := ⟨v.toNat, by omega⟩
                    subst hvn
                    have hvn : vn < n := by omega
                    have hvi : (vn : Int) < (n : Int) := by omega
                    have qv : ((vn : Int) == -1) = false := by simp
                    obtain ⟨y1, hy1⟩ : ∃ y, gi xa vn = y := ⟨_, rfl⟩
                    obtain ⟨y2, hy2⟩ : ∃ y, gi size vn = y := ⟨_, rfl⟩
                    have e1 : plF xa vn = y1 := by unfold plF; rw [if_neg hv1]; exact hy1
                    have e2 : szF size vn = y2 := by unfold szF; rw [if_neg hv1]; exact hy2
                    have HS1 := Lib.hid (partL_set (plF xa) s.num HV.out)
                    have HS2 := Lib.hid (partL_set (szF size) s.num HV.out)
                    rw [e1] at HS1
                    rw [e2] at HS2
                    have HY1 := Lib.hid hy1; have HY2 := Lib.hid hy2
                    clear e1 e2 hy1 hy2 hv1 hvr
                    go_upto_region 23 with (fail)
                    clear qv
                    refine wp_region_by (by kernel_rfl) (sV tb G1 G2 p q n m k vn y1 y2) (SI w.heap.size w tb (.slice (some ⟨G1, 0, none⟩) n n) (.slice (some ⟨G2, 0, none⟩) n n) (.slice (some ⟨G3, 0, none⟩) n n) (.slice (some ⟨p, 0, none⟩) m m) (.slice (some ⟨q, 0, none⟩) m m) xa size xf ((partL (plF xa) s.num k).set k (-1)) (partL (szF size) s.num k) k y1 y2) 0 (fun _ => rfl) (by kernel_rfl) ?u0 ?usteps ?udone
                    case u0 => exact ⟨⟨HB7.out.os, HB7.out.tape, HB7.out.output, HB7.out.size, HB7.out.block⟩, HT7.out.below ⟨rfl, rfl, rfl, Nat.le_refl _, fun _ _ => rfl⟩⟩
                    case udone =>
                      intro g w' hI
                      have h1 := hI.at'
                      have HB8 := Lib.hid hI.low
                      simp only [if_true] at h1
                      rw [List.set_set, HS1.out, HS2.out] at h1
                      have HT8 := Lib.hid h1
                      clear hI h1
                      simp only [full, sV, Act.put, List.setIfInBounds_toArray, List.set_cons_zero, List.set_cons_succ]
                      go_wp2_with (fail)
                      go_roundw
                      case rel => exact ⟨k + 1, by omega, by go_num, HB8.out, HT8.out⟩
                      case measure => simp [intOf]; omega
                    case usteps =>
                      refine (Steps.cons (k' := 1) ?s0 rfl (Steps.cons (k' := 2) ?s1 rfl (Steps.cons (k' := 3) ?s2 rfl (Steps.cons (k' := 4) ?s3 rfl (Steps.cons (k' := 5) ?s4 rfl (Steps.cons (k' := 6) ?s5 rfl (Steps.cons (k' := 7) ?s6 rfl (Steps.cons (k' := 8) ?s7 rfl (Steps.cons (k' := 9) ?s8 rfl (Steps.cons (k' := 10) ?s9 rfl (Steps.cons (k' := 11) ?s10 rfl (Steps.cons (k' := 12) ?s11 rfl (Steps.cons (k' := 13) ?s12 rfl (Steps.cons (k' := 14) ?s13 rfl (Steps.cons (k' := 15) ?s14 rfl (Steps.cons (k' := 16) ?s15 rfl (Steps.cons (k' := 17) ?s16 rfl (Steps.cons (k' := 18) ?s17 rfl Steps.nil))))))))))))))))))
                      case s0 =>
                        intro L g w' hL hd hcl hI K hK
                        simp only [full, sV, Act.put, List.setIfInBounds_toArray, List.set_cons_zero, List.set_cons_succ] at hK ⊢
                        obtain ⟨⟨b0, b1⟩, _, hl⟩ := tbox hI.at'.box
                        have HL := Lib.hid hL; have HD := Lib.hid hd; have HC := Lib.hid hcl; have HJ := Lib.hid hI; have HK := Lib.hid hK
                        clear hL hd hcl hI hK
                        go_simp
                        exact HK.out _ _ g rfl (fun _ _ => by first | rfl | trivial) (HJ.out.skip (by decide))
                      case s1 =>
                        intro L g w' hL hd hcl hI K hK
                        simp only [full, sV, Act.put, List.setIfInBounds_toArray, List.set_cons_zero, List.set_cons_succ] at hK ⊢
                        obtain ⟨⟨b0, b1⟩, _, hl⟩ := tbox hI.at'.box
                        have HL := Lib.hid hL; have HD := Lib.hid hd; have HC := Lib.hid hcl; have HJ := Lib.hid hI; have HK := Lib.hid hK
                        clear hL hd hcl hI hK
                        go_simp
                        exact HK.out _ _ g rfl (fun _ _ => by first | rfl | trivial) (HJ.out.skip (by decide))
                      case s2 =>
                        intro L g w' hL hd hcl hI K hK
                        simp only [full, sV, Act.put, List.setIfInBounds_toArray, List.set_cons_zero, List.set_cons_succ] at hK ⊢
                        obtain ⟨⟨b0, b1⟩, _, hl⟩ := tbox hI.at'.box
                        have HL := Lib.hid hL; have HD := Lib.hid hd; have HC := Lib.hid hcl; have HJ := Lib.hid hI; have HK := Lib.hid hK
                        clear hL hd hcl hI hK
                        go_simp
                        exact HK.out _ _ g rfl (fun _ _ => by first | rfl | trivial) (HJ.out.skip (by decide))
                      case s3 =>
                        intro L g w' hL hd hcl hI K hK
                        simp only [full, sV, Act.put, List.setIfInBounds_toArray, List.set_cons_zero, List.set_cons_succ] at hK ⊢
                        obtain ⟨⟨b0, b1⟩, _, hl⟩ := tbox hI.at'.box
                        have HL := Lib.hid hL; have HD := Lib.hid hd; have HC := Lib.hid hcl; have HJ := Lib.hid hI; have HK := Lib.hid hK
                        clear hL hd hcl hI hK
                        go_simp
                        exact HK.out _ _ g rfl (fun _ _ => by first | rfl | trivial) (HJ.out.skip (by decide))
                      case s4 =>
                        intro L g w' hL hd hcl hI K hK
                        simp only [full, sV, Act.put, List.setIfInBounds_toArray, List.set_cons_zero, List.set_cons_succ] at hK ⊢
                        obtain ⟨⟨b0, b1⟩, _, hl⟩ := tbox hI.at'.box
                        have HL := Lib.hid hL; have HD := Lib.hid hd; have HC := Lib.hid hcl; have HJ := Lib.hid hI; have HK := Lib.hid hK
                        clear hL hd hcl hI hK
                        go_simp
                        exact HK.out _ _ g rfl (fun _ _ => by first | rfl | trivial) (HJ.out.skip (by decide))
                      case s5 =>
                        intro L g w' hL hd hcl hI K hK
                        simp only [full, sV, Act.put, List.setIfInBounds_toArray, List.set_cons_zero, List.set_cons_succ] at hK ⊢
                        obtain ⟨⟨b0, b1⟩, _, hl⟩ := tbox hI.at'.box
                        have HL := Lib.hid hL; have HD := Lib.hid hd; have HC := Lib.hid hcl; have HJ := Lib.hid hI; have HK := Lib.hid hK
                        clear hL hd hcl hI hK
                        go_simp
                        exact HK.out _ _ g rfl (fun _ _ => by first | rfl | trivial) (HJ.out.skip (by decide))
                      case s6 =>
                        intro L g w' hL hd hcl hI K hK
                        simp only [full, sV, Act.put, List.setIfInBounds_toArray, List.set_cons_zero, List.set_cons_succ] at hK ⊢
                        obtain ⟨⟨b0, b1⟩, _, hl⟩ := tbox hI.at'.box
                        have HL := Lib.hid hL; have HD := Lib.hid hd; have HC := Lib.hid hcl; have HJ := Lib.hid hI; have HK := Lib.hid hK
                        clear hL hd hcl hI hK
                        go_simp
                        exact HK.out _ _ g rfl (fun _ _ => by first | rfl | trivial) (HJ.out.skip (by decide))
                      case s7 =>
                        intro L g w' hL hd hcl hI K hK
                        simp only [full, sV, Act.put, List.setIfInBounds_toArray, List.set_cons_zero, List.set_cons_succ] at hK ⊢
                        obtain ⟨⟨b0, b1⟩, _, hl⟩ := tbox hI.at'.box
                        have HL := Lib.hid hL; have HD := Lib.hid hd; have HC := Lib.hid hcl; have HJ := Lib.hid hI; have HK := Lib.hid hK
                        clear hL hd hcl hI hK
                        go_simp
                        exact HK.out _ _ g rfl (fun _ _ => by first | rfl | trivial) (HJ.out.skip (by decide))
                      case s8 =>
                        intro L g w' hL hd hcl hI K hK
                        simp only [full, sV, Act.put, List.setIfInBounds_toArray, List.set_cons_zero, List.set_cons_succ] at hK ⊢
                        obtain ⟨⟨b0, b1⟩, _, hl⟩ := tbox hI.at'.box
                        have HL := Lib.hid hL; have HD := Lib.hid hd; have HC := Lib.hid hcl; have HJ := Lib.hid hI; have HK := Lib.hid hK
                        clear hL hd hcl hI hK
                        go_simp
                        exact HK.out _ _ g rfl (fun _ _ => by first | rfl | trivial) (HJ.out.skip (by decide))
                      case s9 =>
                        intro L g w' hL hd hcl hI K hK
                        simp only [full, sV, Act.put, List.setIfInBounds_toArray, List.set_cons_zero, List.set_cons_succ] at hK ⊢
                        obtain ⟨⟨b0, b1⟩, _, hl⟩ := tbox hI.at'.box
                        have z := (sat_get hI.at'.tr (i := 0) (j := vn) rfl (by rw [hl1]; exact hvn)).1
                        rw [HY1.out] at z
                        have HL := Lib.hid hL; have HD := Lib.hid hd; have HC := Lib.hid hcl; have HJ := Lib.hid hI; have HK := Lib.hid hK
                        clear hL hd hcl hI hK
                        go_simp
                        exact HK.out _ _ g rfl (fun _ _ => by first | rfl | trivial) (HJ.out.skip (by decide))
                      case s10 =>
                        intro L g w' hL hd hcl hI K hK
                        simp only [full, sV, Act.put, List.setIfInBounds_toArray, List.set_cons_zero, List.set_cons_succ] at hK ⊢
                        obtain ⟨⟨b0, b1⟩, _, hl⟩ := tbox hI.at'.box
                        have HL := Lib.hid hL; have HD := Lib.hid hd; have HC := Lib.hid hcl; have HJ := Lib.hid hI; have HK := Lib.hid hK
                        clear hL hd hcl hI hK
                        go_simp
                        exact HK.out _ _ g rfl (fun _ _ => by first | rfl | trivial) (HJ.out.skip (by decide))
                      case s11 =>
                        intro L g w' hL hd hcl hI K hK
                        simp only [full, sV, Act.put, List.setIfInBounds_toArray, List.set_cons_zero, List.set_cons_succ] at hK ⊢
                        obtain ⟨⟨b0, b1⟩, _, hl⟩ := tbox hI.at'.box
                        have HL := Lib.hid hL; have HD := Lib.hid hd; have HC := Lib.hid hcl; have HJ := Lib.hid hI; have HK := Lib.hid hK
                        clear hL hd hcl hI hK
                        go_simp
                        exact HK.out _ _ g rfl (fun _ _ => by first | rfl | trivial) (HJ.out.skip (by decide))
                      case s12 =>
                        intro L g w' hL hd hcl hI K hK
                        simp only [full, sV, Act.put, List.setIfInBounds_toArray, List.set_cons_zero, List.set_cons_succ] at hK ⊢
                        obtain ⟨⟨b0, b1⟩, _, hl⟩ := tbox hI.at'.box
                        have HL := Lib.hid hL; have HD := Lib.hid hd; have HC := Lib.hid hcl; have HJ := Lib.hid hI; have HK := Lib.hid hK
                        clear hL hd hcl hI hK
                        go_simp
                        exact HK.out _ _ g rfl (fun _ _ => by first | rfl | trivial) (HJ.out.skip (by decide))
                      case s13 =>
                        intro L g w' hL hd hcl hI K hK
                        simp only [full, sV, Act.put, List.setIfInBounds_toArray, List.set_cons_zero, List.set_cons_succ] at hK ⊢
                        obtain ⟨⟨b0, b1⟩, _, hl⟩ := tbox hI.at'.box
                        have z := (sat_get hI.at'.tr (i := 1) (j := vn) rfl (by rw [HSZ.out.len]; exact hvn)).1
                        rw [HY2.out] at z
                        have HL := Lib.hid hL; have HD := Lib.hid hd; have HC := Lib.hid hcl; have HJ := Lib.hid hI; have HK := Lib.hid hK
                        clear hL hd hcl hI hK
                        go_simp
                        exact HK.out _ _ g rfl (fun _ _ => by first | rfl | trivial) (HJ.out.skip (by decide))
                      case s14 =>
                        intro L g w' hL hd hcl hI K hK
                        simp only [full, sV, Act.put, List.setIfInBounds_toArray, List.set_cons_zero, List.set_cons_succ] at hK ⊢
                        obtain ⟨⟨b0, b1⟩, _, hl⟩ := tbox hI.at'.box
                        have HL := Lib.hid hL; have HD := Lib.hid hd; have HC := Lib.hid hcl; have HJ := Lib.hid hI; have HK := Lib.hid hK
                        clear hL hd hcl hI hK
                        go_simp
                        exact HK.out _ _ g rfl (fun _ _ => by first | rfl | trivial) (HJ.out.skip (by decide))
                      case s15 =>
                        intro L g w' hL hd hcl hI K hK
                        simp only [full, sV, Act.put, List.setIfInBounds_toArray, List.set_cons_zero, List.set_cons_succ] at hK ⊢
                        obtain ⟨⟨b0, b1⟩, _, hl⟩ := tbox hI.at'.box
                        have hll : (if L 15 = true then ((partL (plF xa) s.num k).set k (-1)).set k y1 else (partL (plF xa) s.num k).set k (-1)).length = m := by split <;> simp [hpl]
                        obtain ⟨z1, z2, z3, z4⟩ := sat_get hI.at'.tr (i := 3) (j := k) rfl (by rw [hll]; exact hkm)
                        have HLL := Lib.hid hll
                        clear hll
                        have HL := Lib.hid hL; have HD := Lib.hid hd; have HC := Lib.hid hcl; have HJ := Lib.hid hI; have HK := Lib.hid hK
                        clear hL hd hcl hI hK
                        go_simp
                        refine HK.out _ _ g rfl (fun _ _ => by first | rfl | trivial) ⟨below_put HJ.out.low z3 _ _, ?_⟩
                        have h1 := HJ.out.at'.put (i := 3) rfl HLL.out hkm y1
                        have ea : setL L 15 15 = true := setL_eq
                        have eb : setL L 15 17 = L 17 := setL_ne (by decide)
                        rw [ea, eb]
                        rw [HL.out] at h1
                        exact h1
                      case s16 =>
                        intro L g w' hL hd hcl hI K hK
                        simp only [full, sV, Act.put, List.setIfInBounds_toArray, List.set_cons_zero, List.set_cons_succ] at hK ⊢
                        obtain ⟨⟨b0, b1⟩, _, hl⟩ := tbox hI.at'.box
                        have HL := Lib.hid hL; have HD := Lib.hid hd; have HC := Lib.hid hcl; have HJ := Lib.hid hI; have HK := Lib.hid hK
                        clear hL hd hcl hI hK
                        go_simp
                        exact HK.out _ _ g rfl (fun _ _ => by first | rfl | trivial) (HJ.out.skip (by decide))
                      case s17 =>
                        intro L g w' hL hd hcl hI K hK
                        simp only [full, sV, Act.put, List.setIfInBounds_toArray, List.set_cons_zero, List.set_cons_succ] at hK ⊢
                        obtain ⟨⟨b0, b1⟩, _, hl⟩ := tbox hI.at'.box
                        have hll : (if L 17 = true then (partL (szF size) s.num k).set k y2 else partL (szF size) s.num k).length = m := by split <;> simp [hql]
                        obtain ⟨z1, z2, z3, z4⟩ := sat_get hI.at'.tr (i := 4) (j := k) rfl (by rw [hll]; exact hkm)
                        have HLL := Lib.hid hll
                        clear hll
                        have HL := Lib.hid hL; have HD := Lib.hid hd; have HC := Lib.hid hcl; have HJ := Lib.hid hI; have HK := Lib.hid hK
                        clear hL hd hcl hI hK
                        go_simp
                        refine HK.out _ _ g rfl (fun _ _ => by first | rfl | trivial) ⟨below_put HJ.out.low z3 _ _, ?_⟩
                        have h1 := HJ.out.at'.put (i := 4) rfl HLL.out hkm y2
                        have ea : setL L 17 17 = true := setL_eq
                        have eb : setL L 17 15 = L 15 := setL_ne (by decide)
                        rw [ea, eb]
                        rw [HL.out] at h1
                        exact h1
                · obtain rfl : k = m := by omega
                  obtain ⟨⟨b0, b1⟩, _, htl⟩ := tbox hty.box
                  obtain ⟨_, hrz, hrl⟩ := tbox hty.tr.res
                  have f0 := hrz 0
                  have f1 := hrz 1
                  have hp := hty.tr.bag.row 3 _ _ rfl
                  have hq := hty.tr.bag.row 4 _ _ rfl
                  have HBY := Lib.hid hby; have HTY := Lib.hid hty; have HP := Lib.hid hp; have HQ := Lib.hid hq
                  clear hby hty hp hq hkm hk hrz
                  go_wp2_with (fail)
                  have hres := HTY.out.tr.res
                  have hfin : ((wr.setCell ⟨w.heap.size, 0, none⟩ (.slice (some ⟨p, 0, none⟩) k k)).setCell ⟨w.heap.size, 1, none⟩ (.slice (some ⟨q, 0, none⟩) k k)).heap[w.heap.size]? = some (.cells #[.slice (some ⟨p, 0, none⟩) k k, .slice (some ⟨q, 0, none⟩) k k] 53 (0, 0)) := by rw [set_block _ _ _ _ _ _ (set_block _ _ _ _ _ _ hres)]; rfl
                  obtain ⟨⟨z0, z1⟩, _, _⟩ := tbox hfin
                  refine bodyPost_ret (v := .agg #[.slice (some ⟨p, 0, none⟩) k k, .slice (some ⟨q, 0, none⟩) k k]) (by simp [results, Try.results24, go_sem, z0, z1]) rfl ?_
                  have key : ∀ {v : Value} {xs : List Value} {l : Nat}, wr.ownsRow w.heap.size 3 1 v l xs → ((wr.setCell ⟨w.heap.size, 0, none⟩ (.slice (some ⟨p, 0, none⟩) k k)).setCell ⟨w.heap.size, 1, none⟩ (.slice (some ⟨q, 0, none⟩) k k)).ownsRow w.heap.size 3 1 v l xs := by
                    intro v xs l ho
                    refine own_keep ho (fun b hb => ?_)
                    have hne : b ≠ w.heap.size := fun e => by
                      subst e
                      exact ne_type ho hres (by decide) hb rfl
                    exact (Below.heap_setCell _ _ _ _ hne).trans (Below.heap_setCell _ _ _ _ hne)
                  have e1 : (treeL s above).place = partL (plF xa) s.num k := by rw [HPOS.out, HMM.out, partL_all]
                  have e2 : (treeL s above).size = partL (szF size) s.num k := by rw [HPOS.out, HMM.out, partL_all]
                  have l1 : (partL (plF xa) s.num k).length = s.num.length := by rw [HMM.out, partL_all, List.length_map]
                  have l2 : (partL (szF size) s.num k).length = s.num.length := by rw [HMM.out, partL_all, List.length_map]
                  refine ⟨_, _, rfl, below_put (below_put HBY.out (Nat.le_refl _) _ _) (Nat.le_refl _) _ _, ?_, ?_, HTY.out.tr.bag.apart 3 4 _ _ rfl rfl (by omega)⟩
                  · have h1 := key HP.out
                    rw [e1, ← l1]
                    exact h1
                  · have h1 := key HQ.out
                    rw [e2, ← l2]
                    exact h1
            case psteps =>
              have hmk := HMKm.out
              refine (Steps.cons (k' := 1) ?s0 rfl (Steps.cons (k' := 2) ?s1 rfl (Steps.cons (k' := 3) ?s2 rfl (Steps.cons (k' := 4) ?s3 rfl (Steps.cons (k' := 5) ?s4 rfl (Steps.cons (k' := 6) ?s5 rfl (Steps.cons (k' := 7) ?s6 rfl (Steps.cons (k' := 8) ?s7 rfl (Steps.cons (k' := 9) ?s8 rfl (Steps.cons (k' := 10) ?s9 rfl (Steps.cons (k' := 11) ?s10 rfl (Steps.cons (k' := 12) ?s11 rfl (Steps.cons (k' := 13) ?s12 rfl (Steps.cons (k' := 14) ?s13 rfl (Steps.cons (k' := 15) ?s14 rfl Steps.nil)))))))))))))))
              case s0 =>
                intro L g w' hL hd hcl hI K hK
                simp only [full, pV, Act.put, List.setIfInBounds_toArray, List.set_cons_zero, List.set_cons_succ] at hK ⊢
                have HL := Lib.hid hL; have HD := Lib.hid hd; have HC := Lib.hid hcl; have HJ := Lib.hid hI; have HK := Lib.hid hK
                clear hL hd hcl hI hK
                go_simp
                exact HK.out _ _ g rfl (fun _ _ => rfl) (HJ.out.skip (by decide))
              case s1 =>
                intro L g w' hL hd hcl hI K hK
                simp only [full, pV, Act.put, List.setIfInBounds_toArray, List.set_cons_zero, List.set_cons_succ] at hK ⊢
                have HL := Lib.hid hL; have HD := Lib.hid hd; have HC := Lib.hid hcl; have HJ := Lib.hid hI; have HK := Lib.hid hK
                clear hL hd hcl hI hK
                go_simp
                exact HK.out _ _ g rfl (fun _ _ => rfl) (HJ.out.skip (by decide))
              case s2 =>
                intro L g w' hL hd hcl hI K hK
                simp only [full, pV, Act.put, List.setIfInBounds_toArray, List.set_cons_zero, List.set_cons_succ] at hK ⊢
                have HL := Lib.hid hL; have HD := Lib.hid hd; have HC := Lib.hid hcl; have HJ := Lib.hid hI; have HK := Lib.hid hK
                clear hL hd hcl hI hK
                go_simp
                exact HK.out _ _ g rfl (fun _ _ => rfl) (HJ.out.skip (by decide))
              case s3 =>
                intro L g w' hL hd hcl hI K hK
                simp only [full, pV, Act.put, List.setIfInBounds_toArray, List.set_cons_zero, List.set_cons_succ] at hK ⊢
                have z := (World.cell?_of_block (hI.low.block W hWr)).trans d0
                have z2 := Nat.lt_of_lt_of_le hWr hI.low.size
                have HL := Lib.hid hL; have HD := Lib.hid hd; have HC := Lib.hid hcl; have HJ := Lib.hid hI; have HK := Lib.hid hK
                clear hL hd hcl hI hK
                go_simp
                exact HK.out _ _ g rfl (fun _ _ => rfl) (HJ.out.skip (by decide))
              case s4 =>
                intro L g w' hL hd hcl hI K hK
                simp only [full, pV, Act.put, List.setIfInBounds_toArray, List.set_cons_zero, List.set_cons_succ] at hK ⊢
                have HL := Lib.hid hL; have HD := Lib.hid hd; have HC := Lib.hid hcl; have HJ := Lib.hid hI; have HK := Lib.hid hK
                clear hL hd hcl hI hK
                go_simp
                exact HK.out _ _ g rfl (fun _ _ => rfl) (HJ.out.skip (by decide))
              case s5 =>
                intro L g w' hL hd hcl hI K hK
                simp only [full, pV, Act.put, List.setIfInBounds_toArray, List.set_cons_zero, List.set_cons_succ] at hK ⊢
                have l12 : L 12 = false := hcl.not 12 5 (by kernel_rfl) hL
                have l14 : L 14 = false := hcl.not 14 12 (by kernel_rfl) l12
                have HL := Lib.hid hL; have HD := Lib.hid hd; have HC := Lib.hid hcl; have HJ := Lib.hid hI; have HK := Lib.hid hK
                clear hL hd hcl hI hK
                go_simp
                exact HK.out _ _ (w'.heap.size, g.2) rfl (get_trans (set_get 5 HL.out rfl) (set_get 12 l12 rfl)) (HJ.out.m5 l14)
              case s6 =>
                intro L g w' hL hd hcl hI K hK
                simp only [full, pV, Act.put, List.setIfInBounds_toArray, List.set_cons_zero, List.set_cons_succ] at hK ⊢
                have HL := Lib.hid hL; have HD := Lib.hid hd; have HC := Lib.hid hcl; have HJ := Lib.hid hI; have HK := Lib.hid hK
                clear hL hd hcl hI hK
                go_simp
                exact HK.out _ _ g rfl (fun _ _ => rfl) (HJ.out.skip (by decide))
              case s7 =>
                intro L g w' hL hd hcl hI K hK
                simp only [full, pV, Act.put, List.setIfInBounds_toArray, List.set_cons_zero, List.set_cons_succ] at hK ⊢
                have HL := Lib.hid hL; have HD := Lib.hid hd; have HC := Lib.hid hcl; have HJ := Lib.hid hI; have HK := Lib.hid hK
                clear hL hd hcl hI hK
                go_simp
                exact HK.out _ _ g rfl (fun _ _ => rfl) (HJ.out.skip (by decide))
              case s8 =>
                intro L g w' hL hd hcl hI K hK
                simp only [full, pV, Act.put, List.setIfInBounds_toArray, List.set_cons_zero, List.set_cons_succ] at hK ⊢
                have HL := Lib.hid hL; have HD := Lib.hid hd; have HC := Lib.hid hcl; have HJ := Lib.hid hI; have HK := Lib.hid hK
                clear hL hd hcl hI hK
                go_simp
                exact HK.out _ _ g rfl (fun _ _ => rfl) (HJ.out.skip (by decide))
              case s9 =>
                intro L g w' hL hd hcl hI K hK
                simp only [full, pV, Act.put, List.setIfInBounds_toArray, List.set_cons_zero, List.set_cons_succ] at hK ⊢
                have z := (World.cell?_of_block (hI.low.block W hWr)).trans d0
                have z2 := Nat.lt_of_lt_of_le hWr hI.low.size
                have HL := Lib.hid hL; have HD := Lib.hid hd; have HC := Lib.hid hcl; have HJ := Lib.hid hI; have HK := Lib.hid hK
                clear hL hd hcl hI hK
                go_simp
                exact HK.out _ _ g rfl (fun _ _ => rfl) (HJ.out.skip (by decide))
              case s10 =>
                intro L g w' hL hd hcl hI K hK
                simp only [full, pV, Act.put, List.setIfInBounds_toArray, List.set_cons_zero, List.set_cons_succ] at hK ⊢
                have HL := Lib.hid hL; have HD := Lib.hid hd; have HC := Lib.hid hcl; have HJ := Lib.hid hI; have HK := Lib.hid hK
                clear hL hd hcl hI hK
                go_simp
                exact HK.out _ _ g rfl (fun _ _ => rfl) (HJ.out.skip (by decide))
              case s11 =>
                intro L g w' hL hd hcl hI K hK
                simp only [full, pV, Act.put, List.setIfInBounds_toArray, List.set_cons_zero, List.set_cons_succ] at hK ⊢
                have l12 : L 12 = false := hcl.not 12 11 (by kernel_rfl) hL
                have l14 : L 14 = false := hcl.not 14 12 (by kernel_rfl) l12
                have HL := Lib.hid hL; have HD := Lib.hid hd; have HC := Lib.hid hcl; have HJ := Lib.hid hI; have HK := Lib.hid hK
                clear hL hd hcl hI hK
                go_simp
                exact HK.out _ _ (g.1, w'.heap.size, g.2.2) rfl (get_trans (set_get 11 HL.out rfl) (set_get 12 l12 rfl)) (HJ.out.m11 l14)
              case s12 =>
                intro L g w' hL hd hcl hI K hK
                simp only [full, pV, Act.put, List.setIfInBounds_toArray, List.set_cons_zero, List.set_cons_succ] at hK ⊢
                have HL := Lib.hid hL; have HD := Lib.hid hd; have HC := Lib.hid hcl; have HJ := Lib.hid hI; have HK := Lib.hid hK
                clear hL hd hcl hI hK
                go_simp
                exact HK.out _ _ g rfl (fun _ _ => rfl) (HJ.out.skip (by decide))
              case s13 =>
                intro L g w' hL hd hcl hI K hK
                simp only [full, pV, Act.put, List.setIfInBounds_toArray, List.set_cons_zero, List.set_cons_succ] at hK ⊢
                have l14 : L 14 = false := hcl.not 14 13 (by kernel_rfl) hL
                have HL := Lib.hid hL; have HD := Lib.hid hd; have HC := Lib.hid hcl; have HJ := Lib.hid hI; have HK := Lib.hid hK
                clear hL hd hcl hI hK
                go_simp
                exact HK.out _ _ (g.1, g.2.1, w'.heap.size) rfl (set_get 13 HL.out rfl) (HJ.out.m13 l14)
              case s14 =>
                intro L g w' hL hd hcl hI K hK
                simp only [full, pV, Act.put, List.setIfInBounds_toArray, List.set_cons_zero, List.set_cons_succ] at hK ⊢
                have l13 : L 13 = true := dep_of hd 13 (by kernel_rfl)
                obtain ⟨⟨z1, z2⟩, z3, z4⟩ := tbox (hI.box l13 hL).2
                have z5 := z3 0
                have z6 := z3 1
                clear z3
                have HL := Lib.hid hL; have HD := Lib.hid hd; have HC := Lib.hid hcl; have HJ := Lib.hid hI; have HK := Lib.hid hK
                clear hL hd hcl hI hK
                go_simp
                exact HK.out _ _ g rfl (fun _ _ => rfl) (HJ.out.m14 HL.out l13)
      · obtain ⟨v, hv⟩ : ∃ v, gk = v + 1 := ⟨gk - 1, by omega⟩
        subst hv
        obtain rfl : z = (v : Int) := by omega
        have hvn : v < n := by omega
        have hvi : (v : Int) < (n : Int) := by omega
        obtain ⟨s1, s2, s3, s4⟩ := hsz.step hvn HLOW.out
        obtain ⟨sv, hsv⟩ : ∃ y, gi size v = y := ⟨_, rfl⟩
        rw [hsv] at s2 s3 s4
        have hw1 : wrap64 (sv + 1) = sv + 1 := Go.IntWalk.wrap64_in _ (by omega)
        have HW1 := Lib.hid hw1; have HS1 := Lib.hid s1; have HS4 := Lib.hid s4; have HS2 := Lib.hid s2
        have hwv : wrap64 ((v : Int) - 1) = (v : Int) - 1 := Go.IntWalk.wrap64_in _ (by omega)
        have HWV := Lib.hid hwv
        obtain ⟨k1, k2, k3, k4⟩ := sat_get htr (i := 1) (j := v) rfl (by rw [hsz.len]; exact hvn)
        rw [hsv] at k1
        have HSL := Lib.hid hsz.len
        have HFO := Lib.hid (show (List.range v).reverse.foldl (sizeStep above) (sizeStep above size v) = fsz from by rw [range_rev, List.foldl_cons] at hfo; exact hfo)
        have HBR := Lib.hid hbr; have HTR := Lib.hid htr; have HSV := Lib.hid hsv
        clear hz hkn hsz hfo hbr htr hk0 s1 s2 s3 s4 hsv hwv hw1
        by_cases hv0 : 0 < v
        · have hw1 := HW1.out
          go_upto_region 8 with (fail)
          rw [HW1.out] at *
          clear hw1
          have HT1 := Lib.hid (HTR.out.put (i := 1) rfl HSL.out hvn (sv + 1))
          have HB1 := Lib.hid (below_put HBR.out k3 v (.int .i64 (sv + 1)))
          clear k1 k2 k3 k4 HTR HBR
          generalize wr.setCell ⟨G2, v, none⟩ (.int .i64 (sv + 1)) = w3 at *
          obtain ⟨q0, q1⟩ := HLOW.out.2 v hv0 hvn
          obtain ⟨a, ha⟩ : ∃ a : Nat, gi above v = a := ⟨(gi above v).toNat, by omega⟩
          have han : a < n := by omega
          have hai : (a : Int) < (n : Int) := by omega
          obtain ⟨ca, _, _, hagl⟩ := own_at HAL.out (gi_get (l := above) (v := v) (by rw [HLOW.out.1]; exact hvn))
          rw [ha] at ca
          have ca3 := (HB1.out.cell (p := ⟨ag, v, none⟩) hagl).trans ca
          obtain ⟨r1, r2, r3⟩ := HS4.out hv0
          rw [ha] at r1 r3
          obtain ⟨sa, hsa⟩ : ∃ y, gi (size.set v (sv + 1)) a = y := ⟨_, rfl⟩
          rw [hsa] at r1 r3
          rw [r2] at r3
          have k1 := (sat_get HT1.out (i := 1) (j := a) rfl (by rw [List.length_set, HSL.out]; exact han)).1
          have k2 := (sat_get HT1.out (i := 1) (j := v) rfl (by rw [List.length_set, HSL.out]; exact hvn)).1
          rw [hsa] at k1; rw [r2] at k2
          have HW3 := Lib.hid (show wrap64 (sa + (sv + 1)) = sa + (sv + 1) from Go.IntWalk.wrap64_in _ (by have := HS2.out; omega))
          have HSTEP := Lib.hid (show sizeStep above size v = (size.set v (sv + 1)).set a (sa + (sv + 1)) from by
            unfold sizeStep
            dsimp only
            rw [if_pos hv0, HSV.out, ha, hsa, r2, Int.toNat_natCast])
          clear ca ha q0 q1 r1 r2 r3 hsa hv0
          have hw3 := HW3.out
          go_still_tail 13, (by kernel_rfl)
          change wpList _ _ _ _ _ w3.drew
          have HT2 := Lib.hid (HT1.out.below (w' := w3.drew) ⟨rfl, rfl, rfl, Nat.le_refl _, fun _ _ => rfl⟩)
          have HB2 := Lib.hid (show Below w.heap.size w w3.drew from ⟨HB1.out.os, HB1.out.tape, HB1.out.output, HB1.out.size, HB1.out.block⟩)
          clear k1 k2 ca3 HT1 HB1
          generalize w3.drew = w4 at *
          obtain ⟨k1, k2, k3, k4⟩ := sat_get HT2.out (i := 1) (j := a) rfl (by rw [List.length_set, HSL.out]; exact han)
          have hwv := HWV.out
          go_wp2_with (fail)
          go_roundg v
          case measure => omega
          case rel =>
            refine ⟨(v : Int) - 1, sizeStep above size v, by first | rfl | rw [HWV.out], by omega, by omega, HS1.out, HFO.out, below_put HB2.out k3 _ _, ?_⟩
            rw [HSTEP.out]
            have := HT2.out.put (i := 1) rfl (by rw [List.length_set]; exact HSL.out) han (sa + (sv + 1))
            exact this
        · obtain rfl : v = 0 := by omega
          have HSTEP := Lib.hid (show sizeStep above size 0 = size.set 0 (sv + 1) from by
            unfold sizeStep
            dsimp only
            rw [if_neg (by omega), ← HSV.out])
          clear hv0
          have hw1 := HW1.out
          have hwv := HWV.out
          go_wp2_with (fail)
          go_roundg 0
          case measure => omega
          case rel =>
            refine ⟨((0 : Nat) : Int) - 1, sizeStep above size 0, by first | rfl | rw [HWV.out], by omega, by omega, HS1.out, HFO.out, below_put HBR.out k3 _ _, ?_⟩
            rw [HSTEP.out]
            exact HTR.out.put (i := 1) rfl HSL.out hvn (sv + 1)
end Go.Proofs.Ytipongpgmbhpkaa
