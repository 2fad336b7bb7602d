/-
  flow: find: what it needs.
-/
import Derived.Test.YtipongpgmbhpkaaDomX
namespace Go.Proofs.Ytipongpgmbhpkaa
open Go.ChangeShapes Go.WideShapes Go.ChangeAt Go.RowKit
set_option linter.unusedVariables false

theorem KeptL.grown {ov fv : Value} {w w1 w' : World} (h : KeptL ov fv w w1) (o : Obj) {r : Option Nat} (hg : (w1.alloc o).grownBy w' r) (hr : ∀ q, r = some q → w.heap.size ≤ q) : KeptL ov fv w w' :=
  ⟨Nat.le_trans h.1 (Nat.le_trans (by simp) hg.size), fun k hk a b => ((hg.block k (by simp; have := h.1; omega) (fun e => by have := hr k e.symm; omega)).trans (Below.heap_alloc _ _ _ (by have := h.1; omega))).trans (h.2 k hk a b)⟩
theorem KeptL.below {ov fv : Value} {w w1 w' : World} (h : KeptL ov fv w w1) (hb : Below w1.heap.size w1 w') : KeptL ov fv w w' :=
  ⟨Nat.le_trans h.1 hb.size, fun k hk a b => (hb.block k (Nat.lt_of_lt_of_le hk h.1)).trans (h.2 k hk a b)⟩
theorem KeptL.trans {ov fv : Value} {w w1 w2 : World} (h : KeptL ov fv w w1) (h' : KeptL ov fv w1 w2) : KeptL ov fv w w2 :=
  ⟨Nat.le_trans h.1 h'.1, fun k hk a b => (h'.2 k (Nat.lt_of_lt_of_le hk h.1) a b).trans (h.2 k hk a b)⟩
section
variable {B : Nat} {w w' : World} {P G : Nat} {tv uv ov fv v : Value} {l : Lo} {rs : List (Value × List Int)} {i : Nat} {xs : List Int}
theorem LoAt.more (h : LoAt B w P G tv uv ov fv l rs i) (hown : w.ownsRow B 3 1 v xs.length (xs.map iV)) (hnew : ∀ (k : Nat) (r : Value × List Int), rs[k]? = some r → ∀ q, r.1.ownBlock = some q → v.ownBlock ≠ some q) : LoAt B w P G tv uv ov fv l (rs ++ [(v, xs)]) i := by
  refine ⟨h.box, h.low, h.bag.more v xs hown hnew, ?_, ?_⟩
  · rw [List.getElem?_append_left (List.getElem?_eq_some_iff.1 h.outer).1]; exact h.outer
  · rw [List.getElem?_append_left (List.getElem?_eq_some_iff.1 h.far).1]; exact h.far
theorem LoAt.applast {n g' cap' : Nat} (h : LoAt B w P G tv uv ov fv l (rs ++ [(v, xs)]) i) (hi : i + 1 < rs.length) (hn : xs.length = n) (x : Int) (hown : w'.ownsRow B 3 1 (.slice (some ⟨g', 0, none⟩) (n + 1) cap') (n + 1) (xs.map iV ++ [.int .i64 x])) (hg : w.grownBy w' v.ownBlock) (hat : v.ownBlock = some g' ∨ w.heap.size ≤ g') : LoAt B w' P G tv uv ov fv l (rs ++ [(.slice (some ⟨g', 0, none⟩) (n + 1) cap', xs ++ [x])]) i := by
  have hk : (rs ++ [(v, xs)])[rs.length]? = some (v, xs) := by simp
  have hb := h.bag.app hk hn x hown hg hat
  rw [List.set_append_right _ _ (Nat.le_refl _), Nat.sub_self, List.set_cons_zero] at hb
  refine ⟨(hg.block P (lt_heap h.box) (fun e => h.bag.ne_box h.box (by decide) hk e.symm rfl)).trans h.box, h.low, hb, ?_, ?_⟩
  · have := h.outer; rw [List.getElem?_append_left (by omega)] at this ⊢; exact this
  · have := h.far; rw [List.getElem?_append_left (by omega)] at this ⊢; exact this
theorem LoAt.takelast {a : Option Addr} {n m cap : Nat} (h : LoAt B w P G tv uv ov fv l (rs ++ [(.slice a n cap, xs)]) i) (hi : i + 1 < rs.length) (hn : xs.length = n) (hm : m < n) : LoAt B w P G tv uv ov fv l (rs ++ [(.slice a m cap, xs.take m)]) i := by
  have hk : (rs ++ [(Value.slice a n cap, xs)])[rs.length]? = some (.slice a n cap, xs) := by simp
  have hb := h.bag.take hk hn hm
  rw [List.set_append_right _ _ (Nat.le_refl _), Nat.sub_self, List.set_cons_zero] at hb
  refine ⟨h.box, h.low, hb, ?_, ?_⟩
  · have := h.outer; rw [List.getElem?_append_left (by omega)] at this ⊢; exact this
  · have := h.far; rw [List.getElem?_append_left (by omega)] at this ⊢; exact this
theorem LoAt.front {r : Value × List Int} (h : LoAt B w P G tv uv ov fv l (rs ++ [r]) i) (hi : i + 1 < rs.length) : LoAt B w P G tv uv ov fv l rs i := by
  refine ⟨h.box, h.low, h.bag.sub (fun k => k) (fun _ _ _ _ hne => hne) (fun k r' hk => by rw [List.getElem?_append_left (List.getElem?_eq_some_iff.1 hk).1]; exact hk), ?_, ?_⟩
  · have := h.outer; rw [List.getElem?_append_left (by omega)] at this; exact this
  · have := h.far; rw [List.getElem?_append_left (by omega)] at this; exact this
end
theorem rest2_snoc {i : Nat} {rs rs' : List (Value × List Int)} {r : Value × List Int} (h : Rest2 i (rs ++ [r]) rs') (hi : i + 1 < rs.length) : rs' = rs'.take rs.length ++ [r] ∧ Rest2 i rs (rs'.take rs.length) := by
  have hl : rs'.length = rs.length + 1 := by rw [h.1]; simp
  refine ⟨?_, by rw [List.length_take]; omega, fun k a b => ?_⟩
  · apply List.ext_getElem?
    intro k
    rcases Nat.lt_trichotomy k rs.length with hk | rfl | hk
    · rw [List.getElem?_append_left (by rw [List.length_take]; omega), List.getElem?_take, if_pos hk]
    · rw [List.getElem?_append_right (by rw [List.length_take]; omega), h.2 _ (by omega) (by omega), List.length_take, Nat.min_eq_left (by omega), Nat.sub_self]
      simp
    · rw [List.getElem?_eq_none (by omega), List.getElem?_eq_none (by simp; omega)]
  · rw [List.getElem?_take]
    split
    · rename_i hk
      rw [h.2 k a b, List.getElem?_append_left hk]
    · rename_i hk
      rw [List.getElem?_eq_none (by omega)]
/-- A tree whose numbers are such that nothing runs over. -/
structure Tr.ok (t : Tr) (n : Nat) : Prop where
  pl : t.place.length = n
  sl : t.size.length = n
  pb : ∀ x ∈ t.place, -1 ≤ x ∧ x ≤ 4000000000000
  sb : ∀ x ∈ t.size, 0 ≤ x ∧ x ≤ 4000000000000
theorem own_rowAt {B : Nat} {w : World} {v : Value} {xs : List Int} (h : w.ownsRow B 3 1 v xs.length (xs.map iV)) : RowAt w.heap.size w v xs := by
  rcases own_slice h with ⟨h0, h1⟩ | ⟨g, c, h0, _, h2, _⟩
  · exact ⟨.inl ⟨h0, List.length_eq_zero_iff.1 h1⟩⟩
  · subst h0
    exact ⟨.inr ⟨g, 0, c, rfl, h2, h2, fun j x hx => by rw [Nat.zero_add]; exact (own_at h hx).1⟩⟩
/-- Over, of a tree whose rows the call has made. -/
theorem over_own {B : Nat} {w : World} {tv uv : Value} {t : Tr} {n : Nat} (hp : w.ownsRow B 3 1 tv t.place.length (t.place.map iV)) (hs : w.ownsRow B 3 1 uv t.size.length (t.size.map iV)) (ht : t.ok n) (a b : Nat) (ha : a < n) (hb : b < n) :
    Calls Try.prog 20 #[.agg #[tv, uv], .int .i64 a, .int .i64 b] w fun e w' => e = .returned (.bool (t.over a b)) ∧ Below w.heap.size w w' := by
  have h1 := gi_get (l := t.place) (v := a) (by rw [ht.pl]; exact ha)
  have h2 := gi_get (l := t.place) (v := b) (by rw [ht.pl]; exact hb)
  have h3 := gi_get (l := t.size) (v := a) (by rw [ht.sl]; exact ha)
  have p1 := ht.pb _ (List.mem_of_getElem? h1)
  have p3 := ht.sb _ (List.mem_of_getElem? h3)
  exact over_any (own_rowAt hp) (own_rowAt hs) (by rw [ht.sl, ht.pl]) a b _ _ _ h1 h2 h3 (by omega)
/-- The search ends, and each way up, too. -/
def findOk (t : Tr) (ins : List (List Int)) (top : Int) : Nat → List Int → Lo → Bool
  | 0, left, _ => left.isEmpty
  | k + 1, left, l => decide (left.length ≤ 1000000) && match left with
    | [] => true
    | _ :: _ => reach l.far.length l.far (left.getLastD 0) &&
      let r := Lo.farthest l.far.length l.far (left.getLastD 0)
      let left1 := left.take (left.length - 1)
      if r.1 = top then findOk t ins top k left1 ⟨l.outer, r.2⟩ else findOk t ins top k (left1 ++ (gr ins r.1).filter (fun b => t.over top b)) ⟨l.outer.set r.1.toNat top, r.2.set r.1.toNat top⟩
theorem findOk_step {t : Tr} {ins : List (List Int)} {top : Int} {k : Nat} {left : List Int} {l : Lo} (hne : left ≠ []) (h : findOk t ins top (k + 1) left l = true) :
    left.length ≤ 1000000 ∧ reach l.far.length l.far (left.getLastD 0) = true ∧
    (if (Lo.farthest l.far.length l.far (left.getLastD 0)).1 = top then findOk t ins top k (left.take (left.length - 1)) ⟨l.outer, (Lo.farthest l.far.length l.far (left.getLastD 0)).2⟩ else findOk t ins top k (left.take (left.length - 1) ++ (gr ins (Lo.farthest l.far.length l.far (left.getLastD 0)).1).filter (fun b => t.over top b)) ⟨l.outer.set (Lo.farthest l.far.length l.far (left.getLastD 0)).1.toNat top, (Lo.farthest l.far.length l.far (left.getLastD 0)).2.set (Lo.farthest l.far.length l.far (left.getLastD 0)).1.toNat top⟩) = true := by
  cases left with
  | nil => exact absurd rfl hne
  | cons a tl =>
    unfold findOk at h
    simp only [Bool.and_eq_true, decide_eq_true_eq] at h
    exact ⟨h.1, h.2.1, h.2.2⟩
theorem find_step {t : Tr} {ins : List (List Int)} {top : Int} {k : Nat} {left : List Int} {l : Lo} (hne : left ≠ []) :
    Lo.find t ins top (k + 1) left l = if (Lo.farthest l.far.length l.far (left.getLastD 0)).1 = top then Lo.find t ins top k (left.take (left.length - 1)) ⟨l.outer, (Lo.farthest l.far.length l.far (left.getLastD 0)).2⟩ else Lo.find t ins top k (left.take (left.length - 1) ++ (gr ins (Lo.farthest l.far.length l.far (left.getLastD 0)).1).filter (fun b => t.over top b)) ⟨l.outer.set (Lo.farthest l.far.length l.far (left.getLastD 0)).1.toNat top, (Lo.farthest l.far.length l.far (left.getLastD 0)).2.set (Lo.farthest l.far.length l.far (left.getLastD 0)).1.toNat top⟩ := by
  cases left with
  | nil => exact absurd rfl hne
  | cons a tl => rfl
theorem find_nil {t : Tr} {ins : List (List Int)} {top : Int} {k : Nat} {l : Lo} : Lo.find t ins top k [] l = l := by cases k <;> rfl
/-- What stands in a row of rows that is read alone. -/
def InsAt2 (B : Nat) (w : World) (ig : Nat) (ins : List (List Int)) : Prop := ∀ (i : Nat) (row : List Int), ins[i]? = some row → row.length ≤ 1000000 ∧ ∃ a c, w.cell? ⟨ig, i, none⟩ = some (.slice a row.length c) ∧ (row ≠ [] → ∃ b, a = some ⟨b, 0, none⟩ ∧ b < B ∧ b < w.heap.size ∧ ∀ (k : Nat) (x : Int), row[k]? = some x → w.cell? ⟨b, k, none⟩ = some (.int .i64 x))
theorem filter_take {f : Int → Bool} {l : List Int} {k : Nat} {x : Int} (h : l[k]? = some x) : (l.take (k + 1)).filter f = (l.take k).filter f ++ if f x then [x] else [] := by
  have hlt := (List.getElem?_eq_some_iff.1 h).1
  rw [List.take_succ_eq_append_getElem hlt, List.filter_append]
  rw [List.getElem?_eq_getElem hlt] at h
  rw [Option.some.inj h]
  congr 1
  simp only [List.filter_cons, List.filter_nil]
end Go.Proofs.Ytipongpgmbhpkaa
