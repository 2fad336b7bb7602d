/-
  dom: walked.
-/
import Derived.Test.YtipongpgmbhpkaaDomH
import Derived.Test.YtipongpgmbhpkaaDomE
import Derived.Deep.LoopGhost
import Derived.Deep.OwnRows
namespace Go.Proofs.Ytipongpgmbhpkaa
open Go.ChangeShapes Go.WideShapes Go.ChangeAt Go.RowKit
open Go.Proofs.Ytipongpgmbhpkaa.RegInv
set_option linter.unusedVariables false

theorem Bag.sub {B : Nat} {w : World} {rs rs' : List (Value × List Int)} (h : Bag B w rs) (f : Nat → Nat) (hi : ∀ i j, i < rs'.length → j < rs'.length → i ≠ j → f i ≠ f j) (hf : ∀ (i : Nat) (r : Value × List Int), rs'[i]? = some r → rs[f i]? = some r) : Bag B w rs' :=
  ⟨fun i v xs hk => h.row (f i) v xs (hf i _ hk), fun i j r s hr hs hne => h.apart (f i) (f j) r s (hf i r hr) (hf j s hs) (hi i j (List.getElem?_eq_some_iff.1 hr).1 (List.getElem?_eq_some_iff.1 hs).1 hne)⟩
theorem Bag.more {B : Nat} {w : World} {rs : List (Value × List Int)} (h : Bag B w rs) (v : Value) (xs : List Int) (hown : w.ownsRow B 3 1 v xs.length (xs.map iV)) (hnew : ∀ (i : Nat) (r : Value × List Int), rs[i]? = some r → ∀ q, r.1.ownBlock = some q → v.ownBlock ≠ some q) : Bag B w (rs ++ [(v, xs)]) := by
  have key : ∀ (k : Nat) (r : Value × List Int), (rs ++ [(v, xs)])[k]? = some r → (k < rs.length ∧ rs[k]? = some r) ∨ (k = rs.length ∧ r = (v, xs)) := by
    intro k r hk
    rcases Nat.lt_trichotomy k rs.length with hlt | rfl | hgt
    · rw [List.getElem?_append_left hlt] at hk; exact .inl ⟨hlt, hk⟩
    · rw [List.getElem?_append_right (Nat.le_refl _), Nat.sub_self] at hk
      simp only [List.getElem?_cons_zero, Option.some.injEq] at hk
      exact .inr ⟨rfl, hk.symm⟩
    · rw [List.getElem?_eq_none (by simp; omega)] at hk; cases hk
  refine ⟨fun k u ys hk => ?_, fun k l r s hk hl hne q hq => ?_⟩
  · rcases key k _ hk with ⟨_, hk'⟩ | ⟨_, e⟩
    · exact h.row k u ys hk'
    · cases e; exact hown
  · rcases key k _ hk with ⟨_, hk'⟩ | ⟨rfl, rfl⟩
    · rcases key l _ hl with ⟨_, hl'⟩ | ⟨_, rfl⟩
      · exact h.apart k l r s hk' hl' hne q hq
      · exact hnew k r hk' q hq
    · rcases key l _ hl with ⟨_, hl'⟩ | ⟨rfl, rfl⟩
      · intro e
        exact hnew l s hl' q e hq
      · exact absurd rfl hne
theorem own_at {B : Nat} {w : World} {g n k cap j : Nat} {xs : List Int} {x : Int} (h : w.ownsRow B 3 1 (.slice (some ⟨g, 0, none⟩) n cap) k (xs.map iV)) (hx : xs[j]? = some x) : w.cell? ⟨g, j, none⟩ = some (.int .i64 x) ∧ w.frozen? ⟨g, j, none⟩ = false ∧ B ≤ g ∧ g < w.heap.size := by
  rcases own_slice h with ⟨h0, _⟩ | ⟨g', cap', h0, h1, h2, _⟩
  · cases h0
  · cases h0
    refine ⟨own_cell h (by rw [List.getElem?_map, hx]; rfl), ?_, h1, h2⟩
    obtain ⟨cs, hcs⟩ := own_type h (q := g) rfl
    exact Lib.frozen_of_heap hcs j
theorem own_head {B : Nat} {w : World} {a : Option Addr} {n k cap : Nat} {xs : List Value} (h : w.ownsRow B 3 1 (.slice a n cap) k xs) (hk : 0 < k) : ∃ g, a = some ⟨g, 0, none⟩ ∧ n ≤ cap := by
  rcases own_slice h with ⟨_, h0⟩ | ⟨g, c, h0, _, _, h3⟩
  · omega
  · simp only [Value.slice.injEq] at h0
    exact ⟨g, h0.1, by omega⟩
theorem wkRows_ext {nv pv : Value} {hs : List Value} {s : Wk} {ext : List (Value × List Int)} {i : Nat} (hi : i < ext.length) : (wkRows nv pv hs s ext)[2 + i]? = ext[i]? := by
  unfold wkRows
  rw [show 2 + i = i + 1 + 1 by omega, List.getElem?_cons_succ, List.getElem?_cons_succ, List.getElem?_append_left hi]
theorem wkRows_setext {nv pv : Value} {hs : List Value} {s : Wk} {ext : List (Value × List Int)} {i : Nat} (hi : i < ext.length) (r : Value × List Int) : (wkRows nv pv hs s ext).set (2 + i) r = wkRows nv pv hs s (ext.set i r) := by
  unfold wkRows
  rw [show 2 + i = i + 1 + 1 by omega, List.set_cons_succ, List.set_cons_succ, List.set_append_left _ _ hi]
theorem WalkAt.putext {B : Nat} {w : World} {W g n cap i : Nat} {nv pv iv : Value} {hs : List Value} {s : Wk} {xs : List Int} {ext : List (Value × List Int)} (h : WalkAt B w W nv pv iv hs s ext) (hi : ext[i]? = some (.slice (some ⟨g, 0, none⟩) n cap, xs)) (hn : xs.length = n) {j : Nat} (hj : j < n) (x : Int) :
    WalkAt B (w.setCell ⟨g, j, none⟩ (.int .i64 x)) W nv pv iv hs s (ext.set i (.slice (some ⟨g, 0, none⟩) n cap, xs.set j x)) := by
  have hil := (List.getElem?_eq_some_iff.1 hi).1
  have hk := (wkRows_ext (nv := nv) (pv := pv) (hs := hs) (s := s) hil).trans hi
  have hr := h.bag.row _ _ _ hk
  have h0 : W ≠ g := ne_type hr h.box (by decide) rfl
  refine ⟨(Below.heap_setCell _ _ _ _ h0).trans h.box, h.low, own_keep h.hdr (fun q hq => Below.heap_setCell _ _ _ _ ?_), h.len, ?_⟩
  · rintro rfl
    exact own_apart h.hdr hr (by decide) hq rfl
  · have := h.bag.put hk hn hj x
    rw [wkRows_setext hil] at this
    exact this
theorem WalkAt.takeext {B : Nat} {w : World} {W n m cap i : Nat} {a : Option Addr} {nv pv iv : Value} {hs : List Value} {s : Wk} {xs : List Int} {ext : List (Value × List Int)} (h : WalkAt B w W nv pv iv hs s ext) (hi : ext[i]? = some (.slice a n cap, xs)) (hn : xs.length = n) (hm : m < n) :
    WalkAt B w W nv pv iv hs s (ext.set i (.slice a m cap, xs.take m)) := by
  have hil := (List.getElem?_eq_some_iff.1 hi).1
  have hk := (wkRows_ext (nv := nv) (pv := pv) (hs := hs) (s := s) hil).trans hi
  refine ⟨h.box, h.low, h.hdr, h.len, ?_⟩
  have := h.bag.take hk hn hm
  rw [wkRows_setext hil] at this
  exact this
theorem WalkAt.appext {B : Nat} {w w' : World} {W g' cap' n i : Nat} {v nv pv iv : Value} {hs : List Value} {s : Wk} {xs : List Int} {ext : List (Value × List Int)} (h : WalkAt B w W nv pv iv hs s ext) (hi : ext[i]? = some (v, xs)) (hn : xs.length = n) (x : Int) (hown : w'.ownsRow B 3 1 (.slice (some ⟨g', 0, none⟩) (n + 1) cap') (n + 1) (xs.map iV ++ [.int .i64 x])) (hg : w.grownBy w' v.ownBlock) (hat : v.ownBlock = some g' ∨ w.heap.size ≤ g') :
    WalkAt B w' W nv pv iv hs s (ext.set i (.slice (some ⟨g', 0, none⟩) (n + 1) cap', xs ++ [x])) := by
  have hil := (List.getElem?_eq_some_iff.1 hi).1
  have hk := (wkRows_ext (nv := nv) (pv := pv) (hs := hs) (s := s) hil).trans hi
  have hr := h.bag.row _ _ _ hk
  refine ⟨(hg.block W (lt_heap h.box) (fun e => ne_type hr h.box (by decide) e.symm rfl)).trans h.box, h.low, own_keep h.hdr (fun q hq => hg.block q (h.hdr.lt q hq).2 (fun e => own_apart h.hdr hr (by decide) hq e.symm)), h.len, ?_⟩
  have := h.bag.app hk hn x hown hg hat
  rw [wkRows_setext hil] at this
  exact this
theorem WalkAt.bare {B : Nat} {w : World} {W : Nat} {nv pv iv : Value} {hs : List Value} {s : Wk} {ext : List (Value × List Int)} (h : WalkAt B w W nv pv iv hs s ext) : WalkAt B w W nv pv iv hs s [] := by
  refine ⟨h.box, h.low, h.hdr, h.len, h.bag.sub (fun i => if i < 2 then i else i + ext.length) (fun i j _ _ hne => by split <;> split <;> omega) (fun i r hi => ?_)⟩
  split
  · rename_i h2
    rcases i with _ | _ | i
    · exact hi
    · exact hi
    · omega
  · rename_i h2
    obtain ⟨j, rfl⟩ : ∃ j, i = j + 1 + 1 := ⟨i - 2, by omega⟩
    unfold wkRows at hi ⊢
    rw [show j + 1 + 1 + ext.length = (ext.length + j) + 1 + 1 by omega, List.getElem?_cons_succ, List.getElem?_cons_succ, List.getElem?_append_right (by omega), Nat.add_sub_cancel_left]
    simpa using hi
theorem WalkAt.ext2 {B : Nat} {w1 w : World} {W : Nat} {nv pv iv va vc : Value} {hs : List Value} {s : Wk} {xs ys : List Int} (h : WalkAt B w1 W nv pv iv hs s []) (hb : Below w1.heap.size w1 w) (ha : w.ownsRow B 3 1 va xs.length (xs.map iV)) (hc : w.ownsRow B 3 1 vc ys.length (ys.map iV)) (na : ∀ q, va.ownBlock = some q → w1.heap.size ≤ q) (nc : ∀ q, vc.ownBlock = some q → w1.heap.size ≤ q) (hne : ∀ q, va.ownBlock = some q → vc.ownBlock ≠ some q) : WalkAt B w W nv pv iv hs s [(va, xs), (vc, ys)] := by
  have h' := h.below hb
  refine ⟨h'.box, h'.low, h'.hdr, h'.len, ?_⟩
  have h1 := h.bag.add hb va xs ha na
  have h2 := h1.more vc ys hc (fun i r hi q hq e => ?_)
  · have hz : (wkRows nv pv hs s [(va, xs), (vc, ys)]).length = 4 + (hs.zip s.ins).length := by unfold wkRows; simp; omega
    have hz0 : (wkRows nv pv hs s []).length = 2 + (hs.zip s.ins).length := by unfold wkRows; simp; omega
    refine h2.sub (fun i => if i < 2 then i else if i = 2 then 2 + (hs.zip s.ins).length else if i = 3 then 3 + (hs.zip s.ins).length else i - 2) (fun i j hi hj hne => ?_) (fun i r hi => ?_)
    · rw [hz] at hi hj
      split <;> split <;> (try split) <;> (try split) <;> (try split) <;> (try split) <;> omega
    · rcases i with _ | _ | _ | _ | i
      · exact hi
      · exact hi
      · rw [if_neg (by omega), if_pos rfl, List.getElem?_append_left (by simp [hz0]), List.getElem?_append_right (by omega), hz0, Nat.sub_self]
        exact hi
      · rw [if_neg (by omega), if_neg (by omega), if_pos rfl, List.getElem?_append_right (by simp [hz0]; omega)]
        rw [show 3 + (hs.zip s.ins).length - (wkRows nv pv hs s [] ++ [(va, xs)]).length = 0 by simp [hz0]; omega]
        exact hi
      · rw [if_neg (by omega), if_neg (by omega), if_neg (by omega), show i + 1 + 1 + 1 + 1 - 2 = i + 1 + 1 by omega]
        have hl := (List.getElem?_eq_some_iff.1 hi).1
        rw [hz] at hl
        rw [List.getElem?_append_left (by rw [List.length_append, hz0]; omega), List.getElem?_append_left (by rw [hz0]; omega)]
        exact hi
  · have hkl := (List.getElem?_eq_some_iff.1 hi).1
    rcases Nat.lt_or_ge i (wkRows nv pv hs s []).length with hlt | hge
    · rw [List.getElem?_append_left hlt] at hi
      have := (h.bag.lt hi hq).2
      have := nc q e
      omega
    · rw [List.length_append, List.length_singleton] at hkl
      obtain rfl : i = (wkRows nv pv hs s []).length := by omega
      rw [List.getElem?_append_right (Nat.le_refl _), Nat.sub_self] at hi
      cases hi
      exact hne q hq e
theorem last_get {l : List Int} {m : Nat} (h : l.length = m + 1) : l[m]? = some (l.getLastD 0) := by
  rw [List.getLastD_eq_getLast?, List.getLast?_eq_getElem?, h, Nat.add_sub_cancel]
  rw [List.getElem?_eq_getElem (by omega)]; rfl
theorem step_end {outs : List (List Int)} {x : WS} {f : Nat} {row : List Int} (hb : x.path.getLastD 0 = (f : Int)) (hrow : outs[f]? = some row) (hk : gi x.tried f = (row.length : Int)) : x.step outs = ⟨x.s, x.path.take (x.path.length - 1), x.tried⟩ := by
  have hgr : gr outs (f : Int) = row := by unfold gr; rw [Int.toNat_natCast, List.getD_eq_getElem?_getD, hrow]; rfl
  unfold WS.step
  dsimp only
  rw [hb, hgr, if_pos hk]
theorem step_way {outs : List (List Int)} {x : WS} {f k : Nat} {row : List Int} {tt : Int} (hb : x.path.getLastD 0 = (f : Int)) (hrow : outs[f]? = some row) (hk : gi x.tried f = (k : Int)) (ht : row[k]? = some tt) : x.step outs = if 0 ≤ tt ∧ tt < (outs.length : Int) then ⟨x.s.goes f tt.toNat, if x.s.isNew tt.toNat then x.path ++ [tt] else x.path, x.tried.set f ((k : Int) + 1)⟩ else ⟨x.s, x.path, x.tried.set f ((k : Int) + 1)⟩ := by
  have hgr : gr outs (f : Int) = row := by unfold gr; rw [Int.toNat_natCast, List.getD_eq_getElem?_getD, hrow]; rfl
  have hkl := (List.getElem?_eq_some_iff.1 ht).1
  have hg : gi row (k : Int) = tt := by unfold gi; rw [Int.toNat_natCast, List.getD_eq_getElem?_getD, ht]; rfl
  unfold WS.step
  dsimp only
  rw [hb, hgr, hk, if_neg (by omega), hg, Int.toNat_natCast]
theorem RowAt.slice {B : Nat} {w : World} {v : Value} {xs : List Int} (h : RowAt B w v xs) : ∃ a c, v = .slice a xs.length c := by
  rcases h.lies with ⟨rfl, rfl⟩ | ⟨b, off, cap, rfl, _⟩
  · exact ⟨none, 0, rfl⟩
  · exact ⟨_, _, rfl⟩
theorem row_le : ∀ {outs : List (List Int)} {f : Nat} {row : List Int}, outs[f]? = some row → row.length ≤ edges outs
  | [], f, row, h => by simp at h
  | r :: rs, 0, row, h => by
    simp only [List.getElem?_cons_zero, Option.some.injEq] at h
    subst h
    simp only [edges, List.map_cons, List.sum_cons]
    omega
  | r :: rs, f + 1, row, h => by
    rw [List.getElem?_cons_succ] at h
    have := row_le (outs := rs) h
    simp only [edges, List.map_cons, List.sum_cons] at this ⊢
    omega
end Go.Proofs.Ytipongpgmbhpkaa
