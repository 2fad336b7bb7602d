/-
  flow: Doms: rows of bools.
-/
import Derived.Test.YtipongpgmbhpkaaDomBF
namespace Go.Proofs.Ytipongpgmbhpkaa
open Go.ChangeShapes Go.WideShapes Go.ChangeAt Go.RowKit
open Go.Proofs.Ytipongpgmbhpkaa.RegInv
set_option linter.unusedVariables false

theorem infoBools : (Try.prog.info? 33).map (fun i => (i.zero, i.size, i.bytes)) = some (some (.slice none 0 0), 1, 24) := by kernel_rfl
/-- Rows of bools, each of a block of its own. -/
structure BagB (B : Nat) (w : World) (rs : List (Value × List Bool)) : Prop where
  row : ∀ (i : Nat) (v : Value) (xs : List Bool), rs[i]? = some (v, xs) → w.ownsRow B 4 1 v xs.length (xs.map Value.bool)
  apart : ∀ (i j : Nat) (r s : Value × List Bool), rs[i]? = some r → rs[j]? = some s → i ≠ j → ∀ q, r.1.ownBlock = some q → s.1.ownBlock ≠ some q
theorem BagB.lt {B : Nat} {w : World} {rs : List (Value × List Bool)} (h : BagB B w rs) {i : Nat} {r : Value × List Bool} (hi : rs[i]? = some r) {q : Nat} (hq : r.1.ownBlock = some q) : B ≤ q ∧ q < w.heap.size := (h.row i r.1 r.2 hi).lt q hq
theorem BagB.keep {B : Nat} {w w' : World} {rs : List (Value × List Bool)} (h : BagB B w rs) (hk : ∀ (i : Nat) (r : Value × List Bool), rs[i]? = some r → ∀ q, r.1.ownBlock = some q → w'.heap[q]? = w.heap[q]?) : BagB B w' rs :=
  ⟨fun i v xs hi => own_keep (h.row i v xs hi) (hk i _ hi), h.apart⟩
theorem BagB.below {B : Nat} {w w' : World} {rs : List (Value × List Bool)} (h : BagB B w rs) (hb : Below w.heap.size w w') : BagB B w' rs := h.keep (fun i r hi q hq => hb.block q (h.lt hi hq).2)
theorem BagB.other {B : Nat} {w : World} {rs : List (Value × List Bool)} (h : BagB B w rs) {R : Nat} {cs : Array Value} {t : TypeId} (hR : w.heap[R]? = some (.cells cs t (0, 0))) (ht : t ≠ 4) (j : Nat) (u : Value) : BagB B (w.setCell ⟨R, j, none⟩ u) rs := by
  refine h.keep (fun i r hi q hq => ?_)
  refine Below.heap_setCell _ _ _ _ ?_
  rintro rfl
  obtain ⟨cs', h1⟩ := own_type (h.row i r.1 r.2 hi) hq
  rw [hR] at h1
  simp only [Option.some.injEq, Obj.cells.injEq] at h1
  exact ht h1.2.1
theorem BagB.put {B : Nat} {w : World} {rs : List (Value × List Bool)} (h : BagB B w rs) {i g n cap : Nat} {xs : List Bool} (hi : rs[i]? = some (.slice (some ⟨g, 0, none⟩) n cap, xs)) (hn : xs.length = n) {j : Nat} (hj : j < n) (x : Bool) : BagB B (w.setCell ⟨g, j, none⟩ (.bool x)) (rs.set i (.slice (some ⟨g, 0, none⟩) n cap, xs.set j x)) := by
  subst hn
  have hil := (List.getElem?_eq_some_iff.1 hi).1
  refine ⟨fun k v ys hk => ?_, fun k l r s hk hl hne q hq => ?_⟩
  · by_cases hki : i = k
    · subst hki
      rw [List.getElem?_set_self hil] at hk
      cases hk
      have := own_put (h.row i _ _ hi) hj (Value.bool x)
      rw [List.length_set, List.map_set]
      exact this
    · rw [List.getElem?_set_ne hki] at hk
      refine own_keep (h.row k v ys hk) (fun q hq => Below.heap_setCell _ _ _ _ ?_)
      rintro rfl
      exact h.apart i k _ _ hi hk hki _ rfl hq
  · by_cases hki : i = k
    · subst hki
      rw [List.getElem?_set_self hil] at hk
      cases hk
      rw [List.getElem?_set_ne hne] at hl
      exact h.apart i l _ _ hi hl hne q hq
    · rw [List.getElem?_set_ne hki] at hk
      by_cases hli : i = l
      · subst hli
        rw [List.getElem?_set_self hil] at hl
        cases hl
        exact h.apart k i _ _ hk hi hne q hq
      · rw [List.getElem?_set_ne hli] at hl
        exact h.apart k l _ _ hk hl hne q hq
theorem BagB.more {B : Nat} {w : World} {rs : List (Value × List Bool)} (h : BagB B w rs) (v : Value) (xs : List Bool) (hown : w.ownsRow B 4 1 v xs.length (xs.map Value.bool)) (hnew : ∀ (i : Nat) (r : Value × List Bool), rs[i]? = some r → ∀ q, r.1.ownBlock = some q → v.ownBlock ≠ some q) : BagB B w (rs ++ [(v, xs)]) := by
  have key : ∀ (k : Nat) (r : Value × List Bool), (rs ++ [(v, xs)])[k]? = some r → (k < rs.length ∧ rs[k]? = some r) ∨ (k = rs.length ∧ r = (v, xs)) := by
    intro k r hk
    rcases Nat.lt_trichotomy k rs.length with hlt | rfl | hgt
    · rw [List.getElem?_append_left hlt] at hk; exact .inl ⟨hlt, hk⟩
    · rw [List.getElem?_append_right (Nat.le_refl _), Nat.sub_self] at hk
      simp only [List.getElem?_cons_zero, Option.some.injEq] at hk
      exact .inr ⟨rfl, hk.symm⟩
    · rw [List.getElem?_eq_none (by simp; omega)] at hk; cases hk
  refine ⟨fun k u ys hk => ?_, fun k l r s hk hl hne q hq => ?_⟩
  · rcases key k _ hk with ⟨_, hk'⟩ | ⟨_, e⟩
    · exact h.row k u ys hk'
    · cases e; exact hown
  · rcases key k _ hk with ⟨_, hk'⟩ | ⟨rfl, rfl⟩
    · rcases key l _ hl with ⟨_, hl'⟩ | ⟨_, rfl⟩
      · exact h.apart k l r s hk' hl' hne q hq
      · exact hnew k r hk' q hq
    · rcases key l _ hl with ⟨_, hl'⟩ | ⟨rfl, rfl⟩
      · intro e
        exact hnew l s hl' q e hq
      · exact absurd rfl hne
theorem BagB.nil (B : Nat) (w : World) : BagB B w [] := ⟨fun i v xs h => by simp at h, fun i j r s h => by simp at h⟩

/-- Row b as far as it is filled. -/
def curRow (t : Tr) (n b a : Nat) : List Bool := (List.range n).map (fun (c : Nat) => decide (c < a) && t.over (c : Int) (b : Int))
def domRow (t : Tr) (n b : Nat) : List Bool := (List.range n).map (fun (c : Nat) => t.over (c : Int) (b : Int))
theorem curRow_len (t : Tr) (n b a : Nat) : (curRow t n b a).length = n := by simp [curRow]
theorem curRow_zero (t : Tr) (n b : Nat) : curRow t n b 0 = List.replicate n false := by
  unfold curRow
  apply List.ext_getElem (by simp)
  intro i h1 h2
  simp
theorem curRow_set (t : Tr) (n b a : Nat) (ha : a < n) : (curRow t n b a).set a (t.over (a : Int) (b : Int)) = curRow t n b (a + 1) := by
  unfold curRow
  apply List.ext_getElem (by simp)
  intro i h1 h2
  simp only [List.getElem_set, List.getElem_map, List.getElem_range]
  by_cases e : a = i
  · subst e; simp
  · rw [if_neg e]
    by_cases h3 : i < a
    · simp [h3, show i < a + 1 by omega]
    · simp [h3, show ¬ i < a + 1 by omega]
theorem curRow_end (t : Tr) (n b : Nat) : curRow t n b n = domRow t n b := by
  unfold curRow domRow
  refine List.map_congr_left (fun c hc => ?_)
  simp [List.mem_range.1 hc]
theorem curRow_at (t : Tr) {n b a : Nat} (ha : a < n) : (curRow t n b a)[a]? = some false := by
  unfold curRow
  rw [List.getElem?_map, List.getElem?_range ha]; simp
theorem domsL_rows (g : Gr) : domsL g = (List.range g.outs.length).map (fun b => domRow (ofL g.outs) g.outs.length b) := by
  unfold domsL upto domRow
  simp only [List.map_map]
  rfl
/-- The header as it is filled. -/
def heads (rs : List (Value × List Bool)) (n : Nat) : List Value := rs.map (·.1) ++ List.replicate (n - rs.length) (.slice none 0 0)
theorem heads_set {rs : List (Value × List Bool)} {n : Nat} (h : rs.length < n) (v : Value) (xs : List Bool) : (heads rs n).set rs.length v = heads (rs ++ [(v, xs)]) n := by
  unfold heads
  rw [List.set_append_right _ _ (by simp), List.length_map, Nat.sub_self, List.map_append, List.append_assoc, List.length_append, List.length_singleton, show n - rs.length = (n - (rs.length + 1)) + 1 by omega, List.replicate_succ, List.set_cons_zero]
  rfl
theorem heads_len {rs : List (Value × List Bool)} {n : Nat} (h : rs.length ≤ n) : (heads rs n).length = n := by unfold heads; simp; omega
theorem heads_last (rs : List (Value × List Bool)) (v : Value) (xs : List Bool) (n : Nat) : (heads (rs ++ [(v, xs)]) n)[rs.length]? = some v := by
  unfold heads
  rw [List.getElem?_append_left (by simp), List.getElem?_map, List.getElem?_append_right (Nat.le_refl _), Nat.sub_self]
  rfl
theorem heads_at {rs : List (Value × List Bool)} {n i : Nat} {r : Value × List Bool} (h : rs[i]? = some r) : (heads rs n)[i]? = some r.1 := by
  unfold heads
  rw [List.getElem?_append_left (by simp; exact (List.getElem?_eq_some_iff.1 h).1), List.getElem?_map, h]
  rfl
theorem heads_put {rs : List (Value × List Bool)} {v : Value} {xs ys : List Bool} {n : Nat} : heads (rs ++ [(v, xs)]) n = heads (rs ++ [(v, ys)]) n := by
  unfold heads
  simp

/-- Doms in memory. -/
structure DmAt (w wr : World) (T H : Nat) (tv uv : Value) (t : Tr) (n : Nat) (rs : List (Value × List Bool)) : Prop where
  low : Below w.heap.size w wr
  box : wr.heap[T]? = some (.cells #[tv, uv] 53 (0, 0))
  tlow : w.heap.size ≤ T
  hp : wr.ownsRow w.heap.size 3 1 tv t.place.length (t.place.map iV)
  hq : wr.ownsRow w.heap.size 3 1 uv t.size.length (t.size.map iV)
  head : wr.ownsRow w.heap.size 33 1 (.slice (some ⟨H, 0, none⟩) n n) n (heads rs n)
  bag : BagB w.heap.size wr rs
theorem DmAt.below {w wr w' : World} {T H : Nat} {tv uv : Value} {t : Tr} {n : Nat} {rs : List (Value × List Bool)} (h : DmAt w wr T H tv uv t n rs) (hb : Below wr.heap.size wr w') : DmAt w w' T H tv uv t n rs :=
  ⟨h.low.trans (hb.mono h.low.size), (hb.block T (lt_heap h.box)).trans h.box, h.tlow, own_keep h.hp (fun q hq => hb.block q (h.hp.lt q hq).2), own_keep h.hq (fun q hq => hb.block q (h.hq.lt q hq).2), own_keep h.head (fun q hq => hb.block q (h.head.lt q hq).2), h.bag.below hb⟩
theorem DmAt.put {w wr : World} {T H : Nat} {tv uv : Value} {t : Tr} {n g cap : Nat} {rs : List (Value × List Bool)} {xs : List Bool} (h : DmAt w wr T H tv uv t n (rs ++ [(.slice (some ⟨g, 0, none⟩) n cap, xs)])) (hn : xs.length = n) {j : Nat} (hj : j < n) (x : Bool) : DmAt w (wr.setCell ⟨g, j, none⟩ (.bool x)) T H tv uv t n (rs ++ [(.slice (some ⟨g, 0, none⟩) n cap, xs.set j x)]) := by
  have hi : (rs ++ [(Value.slice (some ⟨g, 0, none⟩) n cap, xs)])[rs.length]? = some (.slice (some ⟨g, 0, none⟩) n cap, xs) := by simp
  obtain ⟨cs, hcs⟩ := own_type (h.bag.row _ _ _ hi) (q := g) rfl
  have hb := h.bag.put hi hn hj x
  rw [List.set_append_right _ _ (Nat.le_refl _), Nat.sub_self, List.set_cons_zero] at hb
  have hne : ∀ {e : TypeId} {s k : Nat} {v : Value} {ys : List Value}, wr.ownsRow w.heap.size e s v k ys → 4 ≠ e → (wr.setCell ⟨g, j, none⟩ (.bool x)).ownsRow w.heap.size e s v k ys := by
    intro e s k v ys ho he
    refine own_keep ho (fun q hq => Below.heap_setCell _ _ _ _ ?_)
    rintro rfl
    obtain ⟨cs', h1⟩ := own_type ho hq
    rw [hcs] at h1
    simp only [Option.some.injEq, Obj.cells.injEq] at h1
    exact he h1.2.1
  have hTg : T ≠ g := by
    rintro rfl
    have h1 := h.box
    rw [hcs] at h1
    simp only [Option.some.injEq, Obj.cells.injEq] at h1
    exact absurd h1.2.1 (by decide)
  refine ⟨below_put h.low (h.bag.lt hi (q := g) rfl).1 _ _, (Below.heap_setCell _ _ _ _ hTg).trans h.box, h.tlow, hne h.hp (by decide), hne h.hq (by decide), ?_, hb⟩
  have := hne h.head (by decide)
  rw [heads_put (ys := xs.set j x)] at this
  exact this
/-- A row is made, and put into the header. -/
theorem DmAt.row {w wr : World} {T H : Nat} {tv uv : Value} {t : Tr} {n : Nat} {rs : List (Value × List Bool)} (h : DmAt w wr T H tv uv t n rs) (hl : rs.length < n) (hm : n ≤ maxLen) :
    DmAt w ((wr.alloc (.cells (madeCells #[.bool false] n) 4)).setCell ⟨H, rs.length, none⟩ (.slice (some ⟨wr.heap.size, 0, none⟩) n n)) T H tv uv t n (rs ++ [(.slice (some ⟨wr.heap.size, 0, none⟩) n n, List.replicate n false)]) := by
  have ha : Below wr.heap.size wr (wr.alloc (.cells (madeCells #[.bool false] n) 4)) := (Below.refl _ _).alloc (Nat.le_refl _) _
  have h1 := h.below ha
  have hown := boolmade (w := wr) (n := n) hm
  have hW : wr.heap.size < (wr.alloc (.cells (madeCells #[.bool false] n) 4)).heap.size := by simp
  generalize wr.alloc (.cells (madeCells #[.bool false] n) 4) = W at *
  obtain ⟨cs, hcs⟩ := own_type h1.head (q := H) rfl
  have hHlow := (h1.head.lt H rfl).1
  have hne : ∀ {B : Nat} {e : TypeId} {s k : Nat} {v : Value} {ys : List Value}, W.ownsRow B e s v k ys → 33 ≠ e → (W.setCell ⟨H, rs.length, none⟩ (.slice (some ⟨wr.heap.size, 0, none⟩) n n)).ownsRow B e s v k ys := by
    intro B e s k v ys ho he
    refine own_keep ho (fun q hq => Below.heap_setCell _ _ _ _ ?_)
    rintro rfl
    obtain ⟨cs', h2⟩ := own_type ho hq
    rw [hcs] at h2
    simp only [Option.some.injEq, Obj.cells.injEq] at h2
    exact he h2.2.1
  have hTH : T ≠ H := by
    rintro rfl
    have h2 := h1.box
    rw [hcs] at h2
    simp only [Option.some.injEq, Obj.cells.injEq] at h2
    exact absurd h2.2.1 (by decide)
  refine ⟨below_put h1.low hHlow _ _, (Below.heap_setCell _ _ _ _ hTH).trans h1.box, h1.tlow, hne h1.hp (by decide), hne h1.hq (by decide), ?_, ?_⟩
  · have := own_put h1.head hl (Value.slice (some ⟨wr.heap.size, 0, none⟩) n n)
    rw [heads_set hl _ (List.replicate n false)] at this
    exact this
  · refine (h1.bag.other hcs (by decide) _ _).more _ _ ?_ (fun i r hi q hq => ?_)
    · have := own_mono (hne hown (by decide)) h.low.size
      rw [List.length_replicate]
      exact this
    · intro e
      have e2 : wr.heap.size = q := Option.some.inj e
      have := (h.bag.lt hi hq).2
      omega
structure XI (w : World) (T H : Nat) (tv uv : Value) (t : Tr) (n g b a : Nat) (rs : List (Value × List Bool)) (L : Nat → Bool) (gh : Nat) (wr : World) : Prop where
  at' : DmAt w wr T H tv uv t n (rs ++ [(.slice (some ⟨g, 0, none⟩) n n, curRow t n b (if L 10 then a + 1 else a))])
theorem XI.skip {w : World} {T H : Nat} {tv uv : Value} {t : Tr} {n g b a : Nat} {rs : List (Value × List Bool)} {L : Nat → Bool} {gh : Nat} {wr : World} (h : XI w T H tv uv t n g b a rs L gh wr) {i : Nat} (hi : 10 ≠ i) : XI w T H tv uv t n g b a rs (setL L i) gh wr := by
  refine ⟨?_⟩
  rw [setL_ne hi]
  exact h.at'
def xV (H T : Nat) (tv uv : Value) (t : Tr) (n g b a : Nat) (_ : Nat) : List Value :=
  [.slice (some ⟨H, 0, none⟩) n n, .int .i64 b, .pointer (some ⟨H, b, none⟩), .slice (some ⟨g, 0, none⟩) n n, .int .i64 a, .agg #[tv, uv], .int .i64 a, .int .i64 b, .bool (t.over (a : Int) (b : Int)), .pointer (some ⟨g, a, none⟩), undef]
end Go.Proofs.Ytipongpgmbhpkaa
