/-
  RunDeep: a function that calls itself.
-/
import Derived.Test.YtaomlahphlemdaaGreatDoorRunAG
namespace Go.Proofs.YtaomlahphlemdaaGreatDoor
open Go.ChangeShapes Go.WideShapes Go.ChangeAt Go.RowKit
set_option linter.unusedVariables false

def deepO : List Od := [⟨0, 0⟩, ⟨0, 0⟩, ⟨0, 0⟩, ⟨2, 0⟩, ⟨0, 0⟩, ⟨1, 0⟩, ⟨8, 11⟩, ⟨12, 13⟩, ⟨0, 0⟩, ⟨0, 0⟩, ⟨1, 0⟩, ⟨16, 0⟩, ⟨11, 13⟩,
  ⟨0, 0⟩, ⟨0, 0⟩, ⟨0, 0⟩, ⟨1, 1⟩, ⟨0, 0⟩, ⟨0, 0⟩, ⟨0, 0⟩, ⟨2, 0⟩, ⟨0, 0⟩, ⟨1, 1⟩, ⟨8, 2⟩, ⟨15, 0⟩, ⟨8, 1⟩, ⟨16, 0⟩, ⟨1, 0⟩, ⟨16, 0⟩,
  ⟨0, 0⟩, ⟨0, 0⟩, ⟨0, 0⟩, ⟨4, 0⟩, ⟨15, 0⟩, ⟨16, 0⟩, ⟨1, 0⟩, ⟨16, 0⟩]
def deepB : List Bo := [⟨0, 1, 1⟩, ⟨29, 0, 0⟩]
/-- The runner of the program that goes deep. -/
def dS (n : Int) (next : Nat) (pile : List Int) (calls : List (Nat × Nat)) (leaks : List Lk) (steps deep : Int) : Rn := ⟨deepO, deepB, next, pile, calls, 1048576, 0, 0, leaks, steps, deep, [[n]], 0, false⟩
/-- Such a runner is small. -/
structure Small (pile : List Int) (calls : List (Nat × Nat)) (leaks : List Lk) (steps : Int) (a : Nat) : Prop where
  len : pile.length ≤ a
  vals : pile.all inI = true
  cnt : calls.length ≤ 2000
  marks : calls.all (fun c => decide (c.1 ≤ 1099511627776) && decide (c.2 ≤ 1099511627776)) = true
  lks : leaks.length ≤ a
  lo : 0 ≤ steps
  hi : steps ≤ a
theorem Small.ok {n : Int} {next : Nat} {pile : List Int} {calls : List (Nat × Nat)} {leaks : List Lk} {steps deep : Int} {a : Nat} (h : Small pile calls leaks steps a) (ha : a ≤ 1000000) (hn : next ≤ 100) : okR (dS n next pile calls leaks steps deep) = true := by
  obtain ⟨h1, h2, h3, h4, h5, h6, h7⟩ := h
  unfold okR
  simp only [dS, h2, h4, Bool.and_true, Bool.and_eq_true]
  refine ⟨⟨⟨⟨⟨⟨?_, ?_⟩, ?_⟩, ?_⟩, ?_⟩, ?_⟩, ?_⟩
  all_goals first | exact decide_eq_true (by omega) | simp
theorem Small.push {pile : List Int} {calls : List (Nat × Nat)} {leaks : List Lk} {steps : Int} {a b : Nat} (h : Small pile calls leaks steps a) (v : Int) (hv : inI v = true) (hb : a + 1 ≤ b) : Small (pile ++ [v]) calls leaks steps b :=
  ⟨by have := h.len; simp; omega, by rw [List.all_append, h.vals]; simp [hv], h.cnt, h.marks, by have := h.lks; omega, h.lo, by have := h.hi; omega⟩
theorem Small.step {pile : List Int} {calls : List (Nat × Nat)} {leaks : List Lk} {steps : Int} {a b : Nat} (h : Small pile calls leaks steps a) (hb : a + 1 ≤ b) : Small pile calls leaks (steps + 1) b :=
  ⟨by have := h.len; omega, h.vals, h.cnt, h.marks, by have := h.lks; omega, by have := h.lo; omega, by have := h.hi; omega⟩
theorem Small.pop {pile : List Int} {v : Int} {calls : List (Nat × Nat)} {leaks : List Lk} {steps : Int} {a : Nat} (h : Small (pile ++ [v]) calls leaks steps a) : Small pile calls leaks steps a :=
  ⟨by have := h.len; simp at this; omega, by have := h.vals; rw [List.all_append, Bool.and_eq_true] at this; exact this.1, h.cnt, h.marks, h.lks, h.lo, h.hi⟩
theorem Small.more {pile : List Int} {calls : List (Nat × Nat)} {leaks : List Lk} {steps : Int} {a b : Nat} (h : Small pile calls leaks steps a) (hb : a ≤ b) : Small pile calls leaks steps b :=
  ⟨by have := h.len; omega, h.vals, h.cnt, h.marks, by have := h.lks; omega, h.lo, by have := h.hi; omega⟩
theorem Small.leak {pile : List Int} {calls : List (Nat × Nat)} {leaks : List Lk} {steps : Int} {a b : Nat} (h : Small pile calls leaks steps a) (l : Lk) (hb : a + 1 ≤ b) : Small pile calls (leaks ++ [l]) steps b :=
  ⟨by have := h.len; omega, h.vals, h.cnt, h.marks, by have := h.lks; simp; omega, h.lo, by have := h.hi; omega⟩
section
variable {n : Int} {next : Nat} {pile : List Int} {calls : List (Nat × Nat)} {leaks : List Lk} {steps deep : Int} {a : Nat}
theorem d_step (h : Small pile calls leaks steps a) (ha : a ≤ 1000000) (hn : next ≤ 100) (ho : deepO[next]? = some ⟨0, 0⟩) : Hop (dS n next pile calls leaks steps deep) (dS n (next + 1) pile calls leaks (steps + 1) deep) := by
  refine Hop.one rfl (h.ok ha hn) ?_
  have hs := h.hi
  unfold Rn.does
  simp only [dS, ho]
  rw [if_pos trivial]
  simp only [Rn.step]
  rw [if_neg (by omega)]
theorem d_lay (h : Small pile calls leaks steps a) (ha : a ≤ 1000000) (hn : next ≤ 100) (v : Int) (ho : deepO[next]? = some ⟨1, v⟩) : Hop (dS n next pile calls leaks steps deep) (dS n (next + 1) (pile ++ [v]) calls leaks steps deep) := by
  refine Hop.one rfl (h.ok ha hn) ?_
  unfold Rn.does
  simp only [dS, ho]
  rfl
theorem d_get (h : Small pile calls leaks steps a) (ha : a ≤ 1000000) (hn : next ≤ 100) {C : List (Nat × Nat)} {b ret : Nat} (hc : calls = C ++ [(b, ret)]) (v : Int) (hv : pile[b]? = some v) (ho : deepO[next]? = some ⟨2, 0⟩) : Hop (dS n next pile calls leaks steps deep) (dS n (next + 1) (pile ++ [v]) calls leaks steps deep) := by
  refine Hop.one rfl (h.ok ha hn) ?_
  subst hc
  unfold Rn.does
  simp only [dS, ho]
  rw [if_neg (by decide), if_neg (by decide), if_pos trivial]
  simp [Rn.getLocal, Rn.place, Rn.lay, hv]
theorem d_both (o x y : Int) (h : Small (pile ++ [x] ++ [y]) calls leaks steps a) (ha : a ≤ 1000000) (hn : next ≤ 100) (ho : deepO[next]? = some ⟨8, o⟩) (h1 : o = 1 ∨ o = 2 ∨ o = 11) : Hop (dS n next (pile ++ [x] ++ [y]) calls leaks steps deep) (dS n (next + 1) (pile ++ [doI o x y]) calls leaks steps deep) := by
  refine Hop.one rfl (h.ok ha hn) ?_
  unfold Rn.does
  simp only [dS, ho]
  rw [if_neg (by decide), if_neg (by decide), if_neg (by decide), if_neg (by decide), if_neg (by decide), if_neg (by decide), if_neg (by decide), if_neg (by decide), if_pos trivial]
  unfold Rn.both
  simp only [Rn.pick, List.getLast?_append, List.getLast?_singleton, Option.some_or, List.dropLast_concat]
  rw [if_pos (by omega), if_neg (by omega)]
  rfl
theorem d_fork_yes (v : Int) (hv : v ≠ 0) (h : Small (pile ++ [v]) calls leaks steps a) (ha : a ≤ 1000000) (hn : next ≤ 100) (ho : deepO[next]? = some ⟨12, 13⟩) : Hop (dS n next (pile ++ [v]) calls leaks steps deep) (dS n (next + 1) pile calls (leaks ++ [⟨1, 1, 0⟩]) steps deep) := by
  refine Hop.one rfl (h.ok ha hn) ?_
  unfold Rn.does
  simp only [dS, ho]
  simp [Rn.turns, Rn.pick, hv, Rn.which, Rn.leak, boolI]
theorem d_fork_no (h : Small (pile ++ [0]) calls leaks steps a) (ha : a ≤ 1000000) (hn : next ≤ 100) (ho : deepO[next]? = some ⟨12, 13⟩) : Hop (dS n next (pile ++ [0]) calls leaks steps deep) (dS n 13 pile calls (leaks ++ [⟨1, 0, 0⟩]) steps deep) := by
  refine Hop.one rfl (h.ok ha hn) ?_
  unfold Rn.does
  simp only [dS, ho]
  simp [Rn.turns, Rn.pick, Rn.which, Rn.leak, boolI]
theorem d_enter (v : Int) (h : Small (pile ++ [v]) calls leaks steps a) (ha : a ≤ 1000000) (hn : next ≤ 100) (hc : calls.length < 2000) (ho : deepO[next]? = some ⟨15, 0⟩) : Hop (dS n next (pile ++ [v]) calls leaks steps deep) (dS n 0 (pile ++ [v]) (calls ++ [(pile.length, next + 1)]) leaks steps (max deep (calls.length + 1 : Nat))) := by
  refine Hop.one rfl (h.ok ha hn) ?_
  unfold Rn.does
  simp only [dS, ho]
  rw [if_neg (by decide), if_neg (by decide), if_neg (by decide), if_neg (by decide), if_neg (by decide), if_neg (by decide), if_neg (by decide), if_neg (by decide), if_neg (by decide), if_neg (by decide), if_neg (by decide), if_pos trivial]
  unfold Rn.into
  rw [if_pos (by decide), if_neg (by simpa using hc)]
  simp [deepB]
  omega
theorem d_leave (v : Int) {C : List (Nat × Nat)} {b ret : Nat} (hC : C ≠ []) (hb : b ≤ pile.length) (h : Small (pile ++ [v]) (C ++ [(b, ret)]) leaks steps a) (ha : a ≤ 1000000) (hn : next ≤ 100) (ho : deepO[next]? = some ⟨16, 0⟩) : Hop (dS n next (pile ++ [v]) (C ++ [(b, ret)]) leaks steps deep) (dS n ret (pile.take b ++ [v]) C leaks steps deep) := by
  refine Hop.one rfl (h.ok ha hn) ?_
  have hl : (C ++ [(b, ret)]).length ≠ 1 := by
    have := List.length_pos_iff.2 hC
    simp; omega
  unfold Rn.does
  simp only [dS, ho]
  rw [if_neg (by decide), if_neg (by decide), if_neg (by decide), if_neg (by decide), if_neg (by decide), if_neg (by decide), if_neg (by decide), if_neg (by decide), if_neg (by decide), if_neg (by decide), if_neg (by decide), if_neg (by decide), if_pos trivial]
  unfold Rn.leave
  simp only [Rn.pick, List.getLast?_append, List.getLast?_singleton, Option.some_or, List.dropLast_concat]
  rw [if_pos hb, if_neg hl]
  rfl
end

theorem Small.ret {pile : List Int} {C : List (Nat × Nat)} {c : Nat × Nat} {leaks : List Lk} {steps : Int} {a : Nat} (h : Small pile (C ++ [c]) leaks steps a) : Small pile C leaks steps a :=
  ⟨h.len, h.vals, by have := h.cnt; simp at this; omega, by have := h.marks; rw [List.all_append, Bool.and_eq_true] at this; exact this.1, h.lks, h.lo, h.hi⟩
theorem Small.call {pile : List Int} {C : List (Nat × Nat)} {leaks : List Lk} {steps : Int} {a : Nat} (h : Small pile C leaks steps a) (b ret : Nat) (hb : b ≤ 1000000) (hr : ret ≤ 100) (hc : C.length < 2000) : Small pile (C ++ [(b, ret)]) leaks steps a :=
  ⟨h.len, h.vals, by simp; omega, by rw [List.all_append, h.marks]; simp; omega, h.lks, h.lo, h.hi⟩
theorem inI_small {x : Int} (h : -1 ≤ x) (h2 : x ≤ 5000) : inI x = true := by unfold inI; simp; omega
theorem doI_eq (a b : Int) : doI 11 a b = boolI (a == b) := rfl
theorem doI_sub (k : Nat) (hk : k < 4999) : doI 2 ((k + 1 : Nat) : Int) 1 = (k : Int) := by
  unfold doI
  rw [if_neg (by decide), if_pos rfl]
  unfold wrap64; omega
theorem doI_add (k : Nat) (hk : k < 4999) : doI 1 1 (k : Int) = ((k + 1 : Nat) : Int) := by
  unfold doI
  rw [if_pos rfl]
  unfold wrap64; omega
theorem take_snoc (P : List Int) (X : List Int) : (P ++ X).take P.length = P := by simp
/-- From f's beginning to its second call. -/
theorem deep_down {n : Int} {P : List Int} {C : List (Nat × Nat)} {L : List Lk} {s d : Int} {ret a : Nat} (k : Nat) (hk : k < 4999) (h : Small (P ++ [((k + 1 : Nat) : Int)]) (C ++ [(P.length, ret)]) L s a) (ha : a + 30 ≤ 1000000) :
    Hop (dS n 0 (P ++ [((k + 1 : Nat) : Int)]) (C ++ [(P.length, ret)]) L s d) (dS n 24 (P ++ [((k + 1 : Nat) : Int)] ++ [1] ++ [(k : Int)]) (C ++ [(P.length, ret)]) (L ++ [⟨1, 0, 0⟩]) (s + 11) d) ∧ Small (P ++ [((k + 1 : Nat) : Int)] ++ [1] ++ [(k : Int)]) (C ++ [(P.length, ret)]) (L ++ [⟨1, 0, 0⟩]) (s + 11) (a + 30) := by
  have hv : inI (((k + 1 : Nat) : Int)) = true := inI_small (by omega) (by omega)
  have g0 : (P ++ [((k + 1 : Nat) : Int)])[P.length]? = some ((k + 1 : Nat) : Int) := by simp
  have g1 : (P ++ [((k + 1 : Nat) : Int)] ++ [1])[P.length]? = some ((k + 1 : Nat) : Int) := by simp
  have hz : doI 11 ((k + 1 : Nat) : Int) 0 = 0 := by
    rw [doI_eq]
    have : (((k + 1 : Nat) : Int) == 0) = false := by simp; omega
    rw [this]; rfl
  have s1 := h.step (b := a + 1) (by omega)
  have s2 := s1.step (b := a + 2) (by omega)
  have s3 := s2.step (b := a + 3) (by omega)
  have s4 := s3.push _ hv (b := a + 4) (by omega)
  have s5 := s4.step (b := a + 5) (by omega)
  have s6 := s5.push 0 (by decide) (b := a + 6) (by omega)
  have s7 := s3.step (b := a + 5) (by omega)
  have s8 := s7.push 0 (by decide) (b := a + 7) (by omega)
  have s9 := s7.leak ⟨1, 0, 0⟩ (b := a + 8) (by omega)
  have t1 := s9.step (b := a + 9) (by omega)
  have t2 := t1.step (b := a + 10) (by omega)
  have t3 := t2.step (b := a + 11) (by omega)
  have t4 := t3.push 1 (by decide) (b := a + 12) (by omega)
  have t5 := t4.step (b := a + 13) (by omega)
  have t6 := t5.step (b := a + 14) (by omega)
  have t7 := t6.step (b := a + 15) (by omega)
  have t8 := t7.push _ hv (b := a + 16) (by omega)
  have t9 := t8.step (b := a + 17) (by omega)
  have u1 := t9.push 1 (by decide) (b := a + 18) (by omega)
  have u2 := t7.step (b := a + 19) (by omega)
  have u3 := u2.push (k : Int) (inI_small (by omega) (by omega)) (b := a + 20) (by omega)
  have e1 : s + 1 + 1 + 1 + 1 + 1 + 1 + 1 + 1 + 1 + 1 + 1 = s + 11 := by omega
  refine ⟨?_, ?_⟩
  · have q := (d_step (next := 0) h (n := n) (deep := d) (by omega) (by omega) rfl).trans <| (d_step (next := 1) s1 (by omega) (by omega) rfl).trans <| (d_step (next := 2) s2 (by omega) (by omega) rfl).trans <|
      (d_get (next := 3) s3 (by omega) (by omega) rfl _ g0 rfl).trans <| (d_step (next := 4) s4 (by omega) (by omega) rfl).trans <| (d_lay (next := 5) s5 (by omega) (by omega) 0 rfl).trans <|
      (d_both (next := 6) 11 _ 0 s6 (by omega) (by omega) rfl (by omega)).trans <| (show Hop _ _ by rw [hz]; exact (d_fork_no (next := 7) s8 (by omega) (by omega) rfl)).trans <|
      (d_step (next := 13) s9 (by omega) (by omega) rfl).trans <| (d_step (next := 14) t1 (by omega) (by omega) rfl).trans <| (d_step (next := 15) t2 (by omega) (by omega) rfl).trans <| (d_lay (next := 16) t3 (by omega) (by omega) 1 rfl).trans <|
      (d_step (next := 17) t4 (by omega) (by omega) rfl).trans <| (d_step (next := 18) t5 (by omega) (by omega) rfl).trans <| (d_step (next := 19) t6 (by omega) (by omega) rfl).trans <| (d_get (next := 20) t7 (by omega) (by omega) rfl _ g1 rfl).trans <|
      (d_step (next := 21) t8 (by omega) (by omega) rfl).trans <| (d_lay (next := 22) t9 (by omega) (by omega) 1 rfl).trans <| (d_both (next := 23) 2 _ 1 u1 (by omega) (by omega) rfl (by omega))
    rw [doI_sub k hk, e1] at q
    exact q
  · rw [e1] at u3
    exact u3.more (by omega)
/-- f of k, from its beginning to where it was asked. -/
theorem deep_all (n : Int) : ∀ (k : Nat) (P : List Int) (C : List (Nat × Nat)) (L : List Lk) (s d : Int) (ret a : Nat), k < 4999 → C ≠ [] → C.length + 1 + k ≤ 2000 → Small (P ++ [(k : Int)]) (C ++ [(P.length, ret)]) L s a → a + 60 * k + 60 ≤ 1000000 → ret ≤ 100 → (C.length + 1 : Nat) ≤ d →
    Hop (dS n 0 (P ++ [(k : Int)]) (C ++ [(P.length, ret)]) L s d) (dS n ret (P ++ [(k : Int)]) C (L ++ List.replicate k ⟨1, 0, 0⟩ ++ [⟨1, 1, 0⟩]) (s + 11 * k + 6) (max d (C.length + 1 + k : Nat))) ∧ Small (P ++ [(k : Int)]) C (L ++ List.replicate k ⟨1, 0, 0⟩ ++ [⟨1, 1, 0⟩]) (s + 11 * k + 6) (a + 60 * k + 60)
  | 0, P, C, L, s, d, ret, a, hk, hC, hl, h, ha, hr, hd => by
    have g0 : (P ++ [((0 : Nat) : Int)])[P.length]? = some 0 := by simp
    have hz : doI 11 0 0 = 1 := rfl
    have s1 := h.step (b := a + 1) (by omega)
    have s2 := s1.step (b := a + 2) (by omega)
    have s3 := s2.step (b := a + 3) (by omega)
    have s4 := s3.push 0 (by decide) (b := a + 4) (by omega)
    have s5 := s4.step (b := a + 5) (by omega)
    have s6 := s5.push 0 (by decide) (b := a + 6) (by omega)
    have s7 := s3.step (b := a + 5) (by omega)
    have s8 := s7.push 1 (by decide) (b := a + 7) (by omega)
    have s9 := s7.leak ⟨1, 1, 0⟩ (b := a + 8) (by omega)
    have t1 := s9.step (b := a + 9) (by omega)
    have t2 := t1.step (b := a + 10) (by omega)
    have t3 := t2.push 0 (by decide) (b := a + 11) (by omega)
    have e1 : s + 1 + 1 + 1 + 1 + 1 + 1 = s + 11 * (0 : Nat) + 6 := by omega
    have e2 : max d ((C.length + 1 + 0 : Nat) : Int) = d := by omega
    have q := (d_step (next := 0) h (n := n) (deep := d) (by omega) (by omega) rfl).trans <| (d_step (next := 1) s1 (by omega) (by omega) rfl).trans <| (d_step (next := 2) s2 (by omega) (by omega) rfl).trans <|
      (d_get (next := 3) s3 (by omega) (by omega) rfl _ g0 rfl).trans <| (d_step (next := 4) s4 (by omega) (by omega) rfl).trans <| (d_lay (next := 5) s5 (by omega) (by omega) 0 rfl).trans <|
      (d_both (next := 6) 11 0 0 s6 (by omega) (by omega) rfl (by omega)).trans <| (d_fork_yes (next := 7) 1 (by decide) s8 (by omega) (by omega) rfl).trans <|
      (d_step (next := 8) s9 (by omega) (by omega) rfl).trans <| (d_step (next := 9) t1 (by omega) (by omega) rfl).trans <| (d_lay (next := 10) t2 (by omega) (by omega) 0 rfl).trans <|
      (d_leave (next := 11) 0 hC (by simp) t3 (by omega) (by omega) rfl)
    rw [List.take_left' (by simp), e1] at q
    rw [e2, List.replicate_zero, List.append_nil]
    refine ⟨q, ?_⟩
    have := (((t3.pop).pop).push 0 (by decide) (b := a + 12) (by omega)).ret
    rw [← e1]
    exact this.more (by omega)
  | k + 1, P, C, L, s, d, ret, a, hk, hC, hl, h, ha, hr, hd => by
    obtain ⟨q1, m1⟩ := deep_down (n := n) (d := d) k (by omega) h (by omega)
    have q2 := d_enter (n := n) (deep := d) (next := 24) (k : Int) m1 (by omega) (by omega) (by simp; omega) rfl
    have m2 := m1.call (P ++ [((k + 1 : Nat) : Int)] ++ [1]).length 25 (by have := m1.len; simp at this ⊢; omega) (by omega) (by simp; omega)
    obtain ⟨q3, m3⟩ := deep_all n k (P ++ [((k + 1 : Nat) : Int)] ++ [1]) (C ++ [(P.length, ret)]) (L ++ [⟨1, 0, 0⟩]) (s + 11) (max d ((C ++ [(P.length, ret)]).length + 1 : Nat)) 25 (a + 30) (by omega) (by simp) (by simp; omega) m2 (by omega) (by omega) (by omega)
    have q4 := d_both (n := n) (next := 25) (deep := max (max d ((C ++ [(P.length, ret)]).length + 1 : Nat)) ((C ++ [(P.length, ret)]).length + 1 + k : Nat)) 1 1 (k : Int) m3 (by omega) (by omega) rfl (by omega)
    rw [doI_add k (by omega)] at q4
    have m4 := m3.pop.pop.push ((k + 1 : Nat) : Int) (inI_small (by omega) (by omega)) (Nat.le_refl _)
    have q5 := d_leave (n := n) (next := 26) (deep := max (max d ((C ++ [(P.length, ret)]).length + 1 : Nat)) ((C ++ [(P.length, ret)]).length + 1 + k : Nat)) ((k + 1 : Nat) : Int) hC (by simp) m4 (by omega) (by omega) rfl
    rw [List.take_left' (by simp)] at q5
    have hL : L ++ [⟨1, 0, 0⟩] ++ List.replicate k ⟨1, 0, 0⟩ ++ [⟨1, 1, 0⟩] = L ++ List.replicate (k + 1) (⟨1, 0, 0⟩ : Lk) ++ [⟨1, 1, 0⟩] := by
      rw [List.replicate_succ]; simp
    have hs : s + 11 + 11 * (k : Int) + 6 = s + 11 * ((k + 1 : Nat) : Int) + 6 := by omega
    have hD : max (max d ((C ++ [(P.length, ret)]).length + 1 : Nat)) (((C ++ [(P.length, ret)]).length + 1 + k : Nat) : Int) = max d ((C.length + 1 + (k + 1) : Nat) : Int) := by simp; omega
    have q := q1.trans (q2.trans (q3.trans (q4.trans q5)))
    rw [hL, hs, hD] at q
    rw [hL, hs] at m4
    refine ⟨q, ?_⟩
    have m5 := (m4.pop.pop.push ((k + 1 : Nat) : Int) (inI_small (by omega) (by omega)) (Nat.le_refl _)).ret
    exact m5.more (by omega)
/-- Too deep: it fails. -/
theorem deep_fail (n : Int) : ∀ (k : Nat) (P : List Int) (C : List (Nat × Nat)) (L : List Lk) (s d : Int) (ret a : Nat), k < 4999 → 2000 < C.length + 1 + k → C.length + 1 ≤ 2000 → Small (P ++ [(k : Int)]) (C ++ [(P.length, ret)]) L s a → a + 60 * k + 60 ≤ 1000000 →
    ∃ m z, goes m (dS n 0 (P ++ [(k : Int)]) (C ++ [(P.length, ret)]) L s d) = some z ∧ z.fault = 41
  | 0, P, C, L, s, d, ret, a, hk, h1, h2, h, ha => by omega
  | k + 1, P, C, L, s, d, ret, a, hk, h1, h2, h, ha => by
    obtain ⟨q1, m1⟩ := deep_down (n := n) (d := d) k (by omega) h (by omega)
    by_cases hc : C.length + 1 = 2000
    · have q2 : (dS n 24 (P ++ [((k + 1 : Nat) : Int)] ++ [1] ++ [(k : Int)]) (C ++ [(P.length, ret)]) (L ++ [⟨1, 0, 0⟩]) (s + 11) d).does = some (dS n 25 (P ++ [((k + 1 : Nat) : Int)] ++ [1] ++ [(k : Int)]) (C ++ [(P.length, ret)]) (L ++ [⟨1, 0, 0⟩]) (s + 11) d).fail := by
        have ho : deepO[24]? = some ⟨15, 0⟩ := rfl
        unfold Rn.does
        simp only [dS, ho]
        rw [if_neg (by decide), if_neg (by decide), if_neg (by decide), if_neg (by decide), if_neg (by decide), if_neg (by decide), if_neg (by decide), if_neg (by decide), if_neg (by decide), if_neg (by decide), if_neg (by decide), if_pos trivial]
        unfold Rn.into
        rw [if_pos (by decide), if_pos (by simp; omega)]
      obtain ⟨m, hm⟩ := q1.goes (n := 1) (z := (dS n 25 (P ++ [((k + 1 : Nat) : Int)] ++ [1] ++ [(k : Int)]) (C ++ [(P.length, ret)]) (L ++ [⟨1, 0, 0⟩]) (s + 11) d).fail) (by
        rw [goes, if_neg (by simp [dS]), if_pos (m1.ok (by omega) (by omega)), q2]
        rfl)
      exact ⟨m, _, hm, rfl⟩
    · have q2 := d_enter (n := n) (deep := d) (next := 24) (k : Int) m1 (by omega) (by omega) (by simp; omega) rfl
      have m2 := m1.call (P ++ [((k + 1 : Nat) : Int)] ++ [1]).length 25 (by have := m1.len; simp at this ⊢; omega) (by omega) (by simp; omega)
      obtain ⟨m, z, hm, hz⟩ := deep_fail n k (P ++ [((k + 1 : Nat) : Int)] ++ [1]) (C ++ [(P.length, ret)]) (L ++ [⟨1, 0, 0⟩]) (s + 11) (max d ((C ++ [(P.length, ret)]).length + 1 : Nat)) 25 (a + 30) (by omega) (by simp; omega) (by simp; omega) m2 (by omega)
      obtain ⟨m', hm'⟩ := (q1.trans q2).goes hm
      exact ⟨m', z, hm', hz⟩

/-- The whole run. -/
theorem deep_run (n : Nat) (hn : n < 4096) : ∃ k rz, goes k (dS n 29 [] [(0, 0)] [] 0 1) = some rz ∧ (2000 < n + 2 → rz.fault = 41) ∧ (n + 2 ≤ 2000 → rz.fault = 0 ∧ rz.val = n ∧ rz.deep = n + 2 ∧ rz.leaks.length = n + 1) := by
  have s0 : Small [] [(0, 0)] [] 0 0 := ⟨by simp, by simp, by simp, by decide, by simp, by omega, by omega⟩
  have s1 := s0.step (b := 1) (by omega)
  have s2 := s1.step (b := 2) (by omega)
  have s3 := s2.step (b := 3) (by omega)
  have s4 := s3.push (n : Int) (inI_small (by omega) (by omega)) (b := 4) (by omega)
  have s5 := s4.call 0 34 (by omega) (by omega) (by simp)
  have qa := (d_step (n := n) (deep := 1) (next := 29) s0 (by omega) (by omega) rfl).trans <| (d_step (next := 30) s1 (by omega) (by omega) rfl).trans <| (d_step (next := 31) s2 (by omega) (by omega) rfl)
  have qb : Hop (dS n 32 [] [(0, 0)] [] (0 + 1 + 1 + 1) 1) (dS n 33 ([] ++ [(n : Int)]) [(0, 0)] [] (0 + 1 + 1 + 1) 1) := by
    refine Hop.one rfl (s3.ok (by omega) (by omega)) ?_
    rfl
  have qc := d_enter (n := n) (deep := 1) (next := 33) (n : Int) s4 (by omega) (by omega) (by simp) rfl
  have q := qa.trans (qb.trans qc)
  have e1 : max (1 : Int) (([(0, 0)] : List (Nat × Nat)).length + 1 : Nat) = 2 := rfl
  rw [e1] at q
  by_cases hd : 2000 < n + 2
  ·
    obtain ⟨m, z, hm, hz⟩ := deep_fail n n [] [(0, 0)] [] (0 + 1 + 1 + 1) 2 34 4 (by omega) (by simp; omega) (by simp) s5 (by omega)
    obtain ⟨m', hm'⟩ := q.goes hm
    exact ⟨m', z, hm', fun _ => hz, fun h => by omega⟩
  ·
    obtain ⟨q2, m2⟩ := deep_all n n [] [(0, 0)] [] (0 + 1 + 1 + 1) 2 34 4 (by omega) (by simp) (by simp; omega) s5 (by omega) (by omega) (by simp)
    have q3 : (dS n 34 ([] ++ [(n : Int)]) [(0, 0)] ([] ++ List.replicate n ⟨1, 0, 0⟩ ++ [⟨1, 1, 0⟩]) (0 + 1 + 1 + 1 + 11 * n + 6) (max 2 (([(0, 0)] : List (Nat × Nat)).length + 1 + n : Nat))).does =
        some { dS n 35 [] [] ([] ++ List.replicate n ⟨1, 0, 0⟩ ++ [⟨1, 1, 0⟩]) (0 + 1 + 1 + 1 + 11 * n + 6) (max 2 (([(0, 0)] : List (Nat × Nat)).length + 1 + n : Nat)) with next := 0, val := n, ended := true } := by
      have ho : deepO[34]? = some ⟨16, 0⟩ := rfl
      unfold Rn.does
      simp only [dS, ho]
      rfl
    obtain ⟨m, hm⟩ := (q.trans q2).goes (n := 1) (z := { dS n 35 [] [] ([] ++ List.replicate n ⟨1, 0, 0⟩ ++ [⟨1, 1, 0⟩]) (0 + 1 + 1 + 1 + 11 * n + 6) (max 2 (([(0, 0)] : List (Nat × Nat)).length + 1 + n : Nat)) with next := 0, val := n, ended := true }) (by
      rw [goes, if_neg (by simp [dS]), if_pos (m2.ok (by omega) (by omega)), q3]
      rfl)
    refine ⟨m, _, hm, (fun h => absurd h hd), ?_⟩
    intro _
    refine ⟨rfl, rfl, ?_, ?_⟩
    · show max (2 : Int) (([(0, 0)] : List (Nat × Nat)).length + 1 + n : Nat) = n + 2
      simp; omega
    · show ([] ++ List.replicate n (⟨1, 0, 0⟩ : Lk) ++ [(⟨1, 1, 0⟩ : Lk)]).length = n + 1
      simp


def deepT : List UInt8 := [112, 117, 98, 108, 105, 99, 32, 110, 59, 32, 102, 117, 110, 99, 32, 102, 40, 107, 41, 32, 123, 32, 105, 102, 32, 107, 32, 61, 61, 32, 48, 32, 123, 32, 114, 101, 116, 117, 114, 110, 32, 48, 59, 32, 125, 32, 114, 101, 116, 117, 114, 110, 32, 49, 32, 43, 32, 102, 40, 107, 32, 45, 32, 49, 41, 59, 32, 125, 32, 102, 117, 110, 99, 32, 109, 97, 105, 110, 40, 41, 32, 123, 32, 114, 101, 116, 117, 114, 110, 32, 102, 40, 110, 41, 59, 32, 125]
theorem deepT_fit : prFit (parseL deepT).1 = true := by kernel_rfl
theorem deepT_good : prGood (parseL deepT).1 = true := by kernel_rfl
theorem deepT_err : (parseL deepT).2 = (0, 0, 0) := by kernel_rfl
theorem deepT_ck : (ckProg (parseL deepT).1).err = 0 := by kernel_rfl
theorem deepT_g : (parseL deepT).1.globals = [⟨[110], 1, 0, 1, 8⟩] := by kernel_rfl
theorem deepT_o : (planOf (parseL deepT).1 (ckProg (parseL deepT).1).gm (ckProg (parseL deepT).1).fm).orders = deepO := by kernel_rfl
theorem deepT_b : (planOf (parseL deepT).1 (ckProg (parseL deepT).1).gm (ckProg (parseL deepT).1).fm).bodies = deepB := by kernel_rfl
theorem deepT_m : (look (ckProg (parseL deepT).1).fm mainL).getD 0 = 1 := by kernel_rfl
theorem deep_runL (n : Nat) (hn : n < 4096) : ∃ k rz, runL (parseL deepT).1 [[(n : Int)]] 1048576 k = some rz ∧ (2000 < n + 2 → rz.fault = 41) ∧ (n + 2 ≤ 2000 → rz.fault = 0 ∧ rz.val = n ∧ rz.deep = n + 2 ∧ rz.leaks.length = n + 1) := by
  obtain ⟨k, rz, h1, h2⟩ := deep_run n hn
  refine ⟨k, rz, ?_, h2⟩
  unfold runL rn0
  rw [deepT_o, deepT_b, deepT_m, deepT_g]
  exact h1
set_option maxHeartbeats 4000000 in
set_option maxRecDepth 100000 in
theorem deep_core (n0 : Int) (n : Nat) (hn : n < 4096) (hm : bits .and .i64 n0 4095 = (n : Int)) (w : World) (hg : Ground w) :
    Calls Tryz.prog 7 #[.int .i64 n0] w fun e w' => e = .returned (.bool true) ∧ Below w.heap.size w w' := by
  have HG := Lib.hid hg; have HM := Lib.hid hm
  clear hg hm
  go_enter Tryz.func7, Tryz.ntmps7
  go_wp2_with (fail)
  refine (head6_any _ HG.out).mono ?_
  rintro e w0 ⟨rfl, hg0⟩
  have HG0 := Lib.hid hg0
  clear hg0
  go_wp2_with (fail)
  rw [HM.out]
  go_wp2_with (fail)
  refine (Program_any ⟨deepT.toArray⟩ (by decide) w0 (HG.out.more HG0.out).signs).mono ?_
  intro e w1 hp
  change ParsePost deepT w0 e w1 at hp
  unfold ParsePost at hp
  rw [deepT_err] at hp
  obtain ⟨cs, rfl, hat, hgr⟩ := hp
  obtain ⟨a1, a2, a3, b1, b2, b3, rfl⟩ := hat.cells
  have HAT := Lib.hid hat; have HG1 := Lib.hid (grown_trans HG0.out hgr)
  clear hat hgr
  go_wp2_with (fail)
  have hg2 : w1.grownBy ((((w1.alloc (.cells #[.slice a1 a2 a3, .slice b1 b2 b3] 25)).alloc (.cells #[.int .i64 0, .int .i64 0, .int .i64 0] 67)).alloc (.cells #[.int .i64 (n : Int)] 2)).alloc (.cells #[.slice (some ⟨w1.heap.size + 1 + 1, 0, none⟩) 1 1] 59)) none := grown_trans (grown_trans (grown_trans (grown_alloc _ _) (grown_alloc _ _)) (grown_alloc _ _)) (grown_alloc _ _)
  have hb2 : ((((w1.alloc (.cells #[.slice a1 a2 a3, .slice b1 b2 b3] 25)).alloc (.cells #[.int .i64 0, .int .i64 0, .int .i64 0] 67)).alloc (.cells #[.int .i64 (n : Int)] 2)).alloc (.cells #[.slice (some ⟨w1.heap.size + 1 + 1, 0, none⟩) 1 1] 59)).heap[w1.heap.size + 1]? = some (.cells #[.int .i64 0, .int .i64 0, .int .i64 0] 67 (0, 0)) := alloc_past _ _ _ _ (by simp) (alloc_past _ _ _ _ (by simp) (alloc_at _ _ _ (by simp)))
  have hb3 : ((((w1.alloc (.cells #[.slice a1 a2 a3, .slice b1 b2 b3] 25)).alloc (.cells #[.int .i64 0, .int .i64 0, .int .i64 0] 67)).alloc (.cells #[.int .i64 (n : Int)] 2)).alloc (.cells #[.slice (some ⟨w1.heap.size + 1 + 1, 0, none⟩) 1 1] 59)).heap[w1.heap.size + 1 + 1]? = some (.cells #[.int .i64 (n : Int)] 2 (0, 0)) := alloc_past _ _ _ _ (by simp) (alloc_at _ _ _ (by simp))
  have hb4 : ((((w1.alloc (.cells #[.slice a1 a2 a3, .slice b1 b2 b3] 25)).alloc (.cells #[.int .i64 0, .int .i64 0, .int .i64 0] 67)).alloc (.cells #[.int .i64 (n : Int)] 2)).alloc (.cells #[.slice (some ⟨w1.heap.size + 1 + 1, 0, none⟩) 1 1] 59)).heap[w1.heap.size + 1 + 1 + 1]? = some (.cells #[.slice (some ⟨w1.heap.size + 1 + 1, 0, none⟩) 1 1] 59 (0, 0)) := alloc_at _ _ _ (by simp)
  generalize ((((w1.alloc (.cells #[.slice a1 a2 a3, .slice b1 b2 b3] 25)).alloc (.cells #[.int .i64 0, .int .i64 0, .int .i64 0] 67)).alloc (.cells #[.int .i64 (n : Int)] 2)).alloc (.cells #[.slice (some ⟨w1.heap.size + 1 + 1, 0, none⟩) 1 1] 59)) = W2 at *
  have HG2 := Lib.hid (grown_trans HG1.out hg2); have HB2 := Lib.hid hb2
  have HIN := Lib.hid (insAt_rows (ins := [[(n : Int)]]) [w1.heap.size + 1 + 1] rfl (by simp) hb4 (fun i b ws h1 h2 => by
    cases i with
    | zero =>
      obtain rfl : w1.heap.size + 1 + 1 = b := by simpa using h1
      obtain rfl : [(n : Int)] = ws := by simpa using h2
      exact ⟨hb3, by simp⟩
    | succ i => simp at h1))
  have HAT2 := Lib.hid (HAT.out.keep (S' := (· < W2.heap.size)) hg2.size (fun q _ hq => Nat.lt_of_lt_of_le hq hg2.size) (fun q _ hq o => World.cell?_of_block (hg2.block q hq (by simp))))
  clear hg2 hb2 hb3 hb4
  obtain ⟨k, rz, hrz, hdeep, hflat⟩ := deep_runL n hn
  refine (run_good deepT_fit deepT_good deepT_ck (by rw [deepT_g]; decide) HAT2.out [[(n : Int)]] _ HIN.out 1048576 k rz hrz).mono ?_
  rintro e w3 ⟨hg3, hr3⟩
  have HG3 := Lib.hid (grown_trans HG2.out hg3)
  have HB3 := Lib.hid ((hg3.block _ (Array.getElem?_eq_some_iff.1 HB2.out).1 (by simp)).trans HB2.out)
  clear hg3
  have hlt : w1.heap.size + 1 < w3.heap.size := (Array.getElem?_eq_some_iff.1 HB3.out).1
  obtain ⟨⟨z0, z1, z2⟩, _, _, _⟩ := three HB3.out
  have q2 : IntKind.i64.wrap ((n : Int) + 2) = ((n + 2 : Nat) : Int) := by rw [IntWalk.i64_in _ (by omega)]; omega
  have q1 : IntKind.i64.wrap ((n : Int) + 1) = ((n + 1 : Nat) : Int) := by rw [IntWalk.i64_in _ (by omega)]; omega
  by_cases hd : 2000 < n + 2
  · have hf := hdeep hd
    rcases hr3 with ⟨_, rfl⟩ | ⟨h0, _⟩
    · rw [hf]
      unfold zeroR
      go_wp2_with (fail)
      go_ret
      exact ⟨rfl, below_grown (grown_trans HG3.out (grown_alloc _ _)) (Nat.le_refl _)⟩
    · omega
  · obtain ⟨o1, o2, o3, o4⟩ := hflat (by omega)
    rcases hr3 with ⟨h0, _⟩ | ⟨_, rs, rfl, hrs⟩
    · exact absurd o1 h0
    obtain ⟨⟨lv, mg, gs, rfl, hlv, hm⟩⟩ := hrs
    obtain ⟨la, lcap, rfl, _⟩ := own_slice hlv
    rw [o2, o3, o4]
    clear hm hlv
    go_wp2_with (fail)
    go_ret
    exact ⟨rfl, below_grown (grown_trans HG3.out (grown_alloc _ _)) (Nat.le_refl _)⟩
end Go.Proofs.YtaomlahphlemdaaGreatDoor
