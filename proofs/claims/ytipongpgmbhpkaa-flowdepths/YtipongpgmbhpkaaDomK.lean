/-
  dom: newFinder.
-/
import Derived.Test.YtipongpgmbhpkaaDomJ
namespace Go.Proofs.Ytipongpgmbhpkaa
open Go.ChangeShapes Go.WideShapes Go.ChangeAt Go.RowKit
open Go.Proofs.Ytipongpgmbhpkaa.RegInv
set_option linter.unusedVariables false

/-- Three rows are made in any order, then the box. -/
structure NI (n : Nat) (w1 : World) (L : Nat → Bool) (g : Nat × Nat × Nat × Nat) (w : World) : Prop where
  low : Below w1.heap.size w1 w
  a : L 1 = true → w1.heap.size ≤ g.1 ∧ w.heap[g.1]? = some (.cells (madeCells #[.int .i64 0] n) 3 (0, 0))
  b : L 3 = true → w1.heap.size ≤ g.2.1 ∧ w.heap[g.2.1]? = some (.cells (madeCells #[.int .i64 0] n) 3 (0, 0))
  c : L 5 = true → w1.heap.size ≤ g.2.2.1 ∧ w.heap[g.2.2.1]? = some (.cells (madeCells #[.int .i64 0] n) 3 (0, 0))
  ab : L 1 = true → L 3 = true → g.1 ≠ g.2.1
  ac : L 1 = true → L 5 = true → g.1 ≠ g.2.2.1
  bc : L 3 = true → L 5 = true → g.2.1 ≠ g.2.2.1
  box : L 7 = true → w1.heap.size ≤ g.2.2.2 ∧ w.heap[g.2.2.2]? = some (.cells #[.slice (some ⟨g.1, 0, none⟩) n n, .slice (some ⟨g.2.1, 0, none⟩) n n, .slice (some ⟨g.2.2.1, 0, none⟩) n n] 70 (0, 0))
theorem NI.skip {n : Nat} {w1 : World} {L : Nat → Bool} {g : Nat × Nat × Nat × Nat} {w : World} (h : NI n w1 L g w) {i : Nat} (hi : 1 ≠ i ∧ 3 ≠ i ∧ 5 ≠ i ∧ 7 ≠ i) : NI n w1 (setL L i) g w := by
  obtain ⟨h0, h1, h2, h3, h4, h5, h6, h7⟩ := h
  obtain ⟨a, b, c, d⟩ := hi
  refine ⟨h0, ?_, ?_, ?_, ?_, ?_, ?_, ?_⟩
  · rw [setL_ne a]; exact h1
  · rw [setL_ne b]; exact h2
  · rw [setL_ne c]; exact h3
  · rw [setL_ne a, setL_ne b]; exact h4
  · rw [setL_ne a, setL_ne c]; exact h5
  · rw [setL_ne b, setL_ne c]; exact h6
  · rw [setL_ne d]; exact h7
theorem old_alloc {w : World} {o o' : Obj} {q B : Nat} (h : B ≤ q ∧ w.heap[q]? = some o) : B ≤ q ∧ (w.alloc o').heap[q]? = some o := ⟨h.1, (Below.heap_alloc _ _ _ (lt_heap h.2)).trans h.2⟩
theorem NI.m1 {n : Nat} {w1 : World} {L : Nat → Bool} {g : Nat × Nat × Nat × Nat} {w : World} (h : NI n w1 L g w) (h7 : L 7 = false) : NI n w1 (setL L 1) (w.heap.size, g.2) (w.alloc (.cells (madeCells #[.int .i64 0] n) 3 (0, 0))) := by
  refine ⟨h.low.alloc h.low.size _, fun _ => ⟨h.low.size, alloc_at _ _ _ rfl⟩, fun a => ?_, fun a => ?_, fun _ a => ?_, fun _ a => ?_, fun a b => ?_, fun a => ?_⟩
  · rw [setL_ne (by decide)] at a; exact old_alloc (h.b a)
  · rw [setL_ne (by decide)] at a; exact old_alloc (h.c a)
  · rw [setL_ne (by decide)] at a
    have := lt_heap (h.b a).2
    show w.heap.size ≠ g.2.1
    omega
  · rw [setL_ne (by decide)] at a
    have := lt_heap (h.c a).2
    show w.heap.size ≠ g.2.2.1
    omega
  · rw [setL_ne (by decide)] at a b; exact h.bc a b
  · rw [setL_ne (by decide), h7] at a; cases a
theorem NI.m2 {n : Nat} {w1 : World} {L : Nat → Bool} {g : Nat × Nat × Nat × Nat} {w : World} (h : NI n w1 L g w) (h7 : L 7 = false) : NI n w1 (setL L 3) (g.1, w.heap.size, g.2.2) (w.alloc (.cells (madeCells #[.int .i64 0] n) 3 (0, 0))) := by
  refine ⟨h.low.alloc h.low.size _, fun a => ?_, fun _ => ⟨h.low.size, alloc_at _ _ _ rfl⟩, fun a => ?_, fun a _ => ?_, fun a b => ?_, fun _ a => ?_, fun a => ?_⟩
  · rw [setL_ne (by decide)] at a; exact old_alloc (h.a a)
  · rw [setL_ne (by decide)] at a; exact old_alloc (h.c a)
  · rw [setL_ne (by decide)] at a
    have := lt_heap (h.a a).2
    show g.1 ≠ w.heap.size
    omega
  · rw [setL_ne (by decide)] at a b; exact h.ac a b
  · rw [setL_ne (by decide)] at a
    have := lt_heap (h.c a).2
    show w.heap.size ≠ g.2.2.1
    omega
  · rw [setL_ne (by decide), h7] at a; cases a
theorem NI.m3 {n : Nat} {w1 : World} {L : Nat → Bool} {g : Nat × Nat × Nat × Nat} {w : World} (h : NI n w1 L g w) (h7 : L 7 = false) : NI n w1 (setL L 5) (g.1, g.2.1, w.heap.size, g.2.2.2) (w.alloc (.cells (madeCells #[.int .i64 0] n) 3 (0, 0))) := by
  refine ⟨h.low.alloc h.low.size _, fun a => ?_, fun a => ?_, fun _ => ⟨h.low.size, alloc_at _ _ _ rfl⟩, fun a b => ?_, fun a _ => ?_, fun a _ => ?_, fun a => ?_⟩
  · rw [setL_ne (by decide)] at a; exact old_alloc (h.a a)
  · rw [setL_ne (by decide)] at a; exact old_alloc (h.b a)
  · rw [setL_ne (by decide)] at a b; exact h.ab a b
  · rw [setL_ne (by decide)] at a
    have := lt_heap (h.a a).2
    show g.1 ≠ w.heap.size
    omega
  · rw [setL_ne (by decide)] at a
    have := lt_heap (h.b a).2
    show g.2.1 ≠ w.heap.size
    omega
  · rw [setL_ne (by decide), h7] at a; cases a
theorem NI.m4 {n : Nat} {w1 : World} {L : Nat → Bool} {g : Nat × Nat × Nat × Nat} {w : World} (h : NI n w1 L g w) : NI n w1 (setL L 7) (g.1, g.2.1, g.2.2.1, w.heap.size) (w.alloc (.cells #[.slice (some ⟨g.1, 0, none⟩) n n, .slice (some ⟨g.2.1, 0, none⟩) n n, .slice (some ⟨g.2.2.1, 0, none⟩) n n] 70 (0, 0))) := by
  refine ⟨h.low.alloc h.low.size _, fun a => ?_, fun a => ?_, fun a => ?_, fun a b => ?_, fun a b => ?_, fun a b => ?_, fun _ => ⟨h.low.size, alloc_at _ _ _ rfl⟩⟩
  · rw [setL_ne (by decide)] at a; exact old_alloc (h.a a)
  · rw [setL_ne (by decide)] at a; exact old_alloc (h.b a)
  · rw [setL_ne (by decide)] at a; exact old_alloc (h.c a)
  · rw [setL_ne (by decide)] at a b; exact h.ab a b
  · rw [setL_ne (by decide)] at a b; exact h.ac a b
  · rw [setL_ne (by decide)] at a b; exact h.bc a b
def nV (n : Nat) (g : Nat × Nat × Nat × Nat) : List Value :=
  [.int .i64 n, .slice (some ⟨g.1, 0, none⟩) n n, .int .i64 n, .slice (some ⟨g.2.1, 0, none⟩) n n, .int .i64 n, .slice (some ⟨g.2.2.1, 0, none⟩) n n, .agg #[.slice (some ⟨g.1, 0, none⟩) n n, .slice (some ⟨g.2.1, 0, none⟩) n n, .slice (some ⟨g.2.2.1, 0, none⟩) n n], .pointer (some ⟨g.2.2.2, 0, none⟩), .pointer (some ⟨g.2.2.2, 0, none⟩)]

/-- The rows as they are filled. -/
def uptoz (n j : Nat) : List Int := upto j ++ List.replicate (n - j) 0
theorem uptoz_set (n j : Nat) (h : j < n) : (uptoz n j).set j (j : Int) = uptoz n (j + 1) := by
  unfold uptoz upto
  rw [List.set_append_right _ _ (by simp), List.length_map, List.length_range, Nat.sub_self]
  obtain ⟨d, hd⟩ : ∃ d, n - j = d + 1 := ⟨n - j - 1, by omega⟩
  rw [hd, List.replicate_succ, List.set_cons_zero, show n - (j + 1) = d by omega, List.range_succ, List.map_append, List.append_assoc]
  rfl
theorem uptoz_len (n j : Nat) (h : j ≤ n) : (uptoz n j).length = n := by unfold uptoz upto; simp; omega
def Fn.part (n j : Nat) : Fn := ⟨List.replicate j (-1) ++ List.replicate (n - j) 0, uptoz n j, uptoz n j⟩
theorem Fn.part_end (n : Nat) : Fn.part n n = Fn.new n := by unfold Fn.part Fn.new uptoz; simp
def rowsF (hv ev bv : Value) (f : Fn) : List (Value × List Int) := [(hv, f.hangs), (ev, f.entry), (bv, f.best)]
def atNew (f : Fn) (j : Nat) (a b c : Bool) : Fn := ⟨if a then f.hangs.set j (-1) else f.hangs, if b then f.entry.set j (j : Int) else f.entry, if c then f.best.set j (j : Int) else f.best⟩
structure NJ (B : Nat) (w0 : World) (F : Nat) (hv ev bv : Value) (f : Fn) (j : Nat) (L : Nat → Bool) (g : Nat) (w : World) : Prop where
  low : Below B w0 w
  at' : FinderAt B w F hv ev bv (atNew f j (L 18) (L 20) (L 22)) (rowsF hv ev bv (atNew f j (L 18) (L 20) (L 22))) 0
theorem NJ.skip {B : Nat} {w0 : World} {F : Nat} {hv ev bv : Value} {f : Fn} {j : Nat} {L : Nat → Bool} {g : Nat} {w : World} (h : NJ B w0 F hv ev bv f j L g w) {i : Nat} (hi : 18 ≠ i ∧ 20 ≠ i ∧ 22 ≠ i) : NJ B w0 F hv ev bv f j (setL L i) g w := by
  obtain ⟨a, b, c⟩ := hi
  refine ⟨h.low, ?_⟩
  rw [setL_ne a, setL_ne b, setL_ne c]
  exact h.at'
def mV (F G1 G2 G3 n j : Nat) (g : Nat) : List Value :=
  [.pointer (some ⟨F, 0, none⟩), .pointer (some ⟨F, 0, none⟩), .pointer (some ⟨F, 0, none⟩), .slice (some ⟨G1, 0, none⟩) n n, .int .i64 j,
   .pointer (some ⟨F, 0, none⟩), .pointer (some ⟨F, 0, none⟩), .pointer (some ⟨F, 1, none⟩), .slice (some ⟨G2, 0, none⟩) n n, .int .i64 j,
   .pointer (some ⟨F, 0, none⟩), .pointer (some ⟨F, 0, none⟩), .pointer (some ⟨F, 2, none⟩), .slice (some ⟨G3, 0, none⟩) n n, .int .i64 j, .int .i64 j, .int .i64 j,
   .pointer (some ⟨G1, j, none⟩), undef, .pointer (some ⟨G2, j, none⟩), undef, .pointer (some ⟨G3, j, none⟩), undef]
set_option maxHeartbeats 8000000 in
set_option maxRecDepth 100000 in
theorem newFinder_any {w : World} (n : Nat) (hn : n ≤ 1000000) : Calls Try.prog 29 #[.int .i64 n] w fun e w' => ∃ F hv ev bv, e = .returned (.pointer (some ⟨F, 0, none⟩)) ∧ Below w.heap.size w w' ∧ FinderAt w.heap.size w' F hv ev bv (Fn.new n) (rowsF hv ev bv (Fn.new n)) 0 := by
  go_enter Try.func29, Try.ntmps29
  go_wp2_with (fail)
  refine wp_region_by (by kernel_rfl) (nV n) (NI n w) (0, 0, 0, 0) (fun _ => rfl) (by kernel_rfl) ?h0 ?steps ?done
  case h0 => exact ⟨⟨rfl, rfl, rfl, Nat.le_refl _, fun _ _ => rfl⟩, fun a => by simp at a, fun a => by simp at a, fun a => by simp at a, fun a => by simp at a, fun a => by simp at a, fun a => by simp at a, fun a => by simp at a⟩
  case steps =>
    have hmk := run_make_row' (P := Try.prog) 35 3 (.int .i64 0) 8 Try.underlying35 info3 rfl .i64 .i64 n (by omega) (by omega)
    refine (Steps.cons (k' := 1) ?s0 rfl (Steps.cons (k' := 2) ?s1 rfl (Steps.cons (k' := 3) ?s2 rfl (Steps.cons (k' := 4) ?s3 rfl (Steps.cons (k' := 5) ?s4 rfl (Steps.cons (k' := 6) ?s5 rfl (Steps.cons (k' := 7) ?s6 rfl (Steps.cons (k' := 8) ?s7 rfl (Steps.cons (k' := 9) ?s8 rfl Steps.nil)))))))))
    case s0 =>
      intro L g w' hL hd hcl hI K hK
      simp only [full, nV, Act.put, List.setIfInBounds_toArray, List.set_cons_zero, List.set_cons_succ] at hK ⊢
      have HL := Lib.hid hL; have HD := Lib.hid hd; have HC := Lib.hid hcl; have HJ := Lib.hid hI; have HK := Lib.hid hK
      clear hL hd hcl hI hK
      go_simp
      exact HK.out _ _ g rfl (fun _ _ => rfl) (HJ.out.skip (by decide))
    case s1 =>
      intro L g w' hL hd hcl hI K hK
      simp only [full, nV, Act.put, List.setIfInBounds_toArray, List.set_cons_zero, List.set_cons_succ] at hK ⊢
      have l6 : L 6 = false := hcl.not 6 1 (by kernel_rfl) hL
      have l7 : L 7 = false := hcl.not 7 6 (by kernel_rfl) l6
      have HL := Lib.hid hL; have HD := Lib.hid hd; have HC := Lib.hid hcl; have HJ := Lib.hid hI; have HK := Lib.hid hK
      clear hL hd hcl hI hK
      go_simp
      exact HK.out _ _ (w'.heap.size, g.2) rfl (get_trans (get_trans (set_get 1 HL.out rfl) (set_get 6 l6 rfl)) (set_get 7 l7 rfl)) (HJ.out.m1 l7)
    case s2 =>
      intro L g w' hL hd hcl hI K hK
      simp only [full, nV, Act.put, List.setIfInBounds_toArray, List.set_cons_zero, List.set_cons_succ] at hK ⊢
      have HL := Lib.hid hL; have HD := Lib.hid hd; have HC := Lib.hid hcl; have HJ := Lib.hid hI; have HK := Lib.hid hK
      clear hL hd hcl hI hK
      go_simp
      exact HK.out _ _ g rfl (fun _ _ => rfl) (HJ.out.skip (by decide))
    case s3 =>
      intro L g w' hL hd hcl hI K hK
      simp only [full, nV, Act.put, List.setIfInBounds_toArray, List.set_cons_zero, List.set_cons_succ] at hK ⊢
      have l6 : L 6 = false := hcl.not 6 3 (by kernel_rfl) hL
      have l7 : L 7 = false := hcl.not 7 6 (by kernel_rfl) l6
      have HL := Lib.hid hL; have HD := Lib.hid hd; have HC := Lib.hid hcl; have HJ := Lib.hid hI; have HK := Lib.hid hK
      clear hL hd hcl hI hK
      go_simp
      exact HK.out _ _ (g.1, w'.heap.size, g.2.2) rfl (get_trans (get_trans (set_get 3 HL.out rfl) (set_get 6 l6 rfl)) (set_get 7 l7 rfl)) (HJ.out.m2 l7)
    case s4 =>
      intro L g w' hL hd hcl hI K hK
      simp only [full, nV, Act.put, List.setIfInBounds_toArray, List.set_cons_zero, List.set_cons_succ] at hK ⊢
      have HL := Lib.hid hL; have HD := Lib.hid hd; have HC := Lib.hid hcl; have HJ := Lib.hid hI; have HK := Lib.hid hK
      clear hL hd hcl hI hK
      go_simp
      exact HK.out _ _ g rfl (fun _ _ => rfl) (HJ.out.skip (by decide))
    case s5 =>
      intro L g w' hL hd hcl hI K hK
      simp only [full, nV, Act.put, List.setIfInBounds_toArray, List.set_cons_zero, List.set_cons_succ] at hK ⊢
      have l6 : L 6 = false := hcl.not 6 5 (by kernel_rfl) hL
      have l7 : L 7 = false := hcl.not 7 6 (by kernel_rfl) l6
      have HL := Lib.hid hL; have HD := Lib.hid hd; have HC := Lib.hid hcl; have HJ := Lib.hid hI; have HK := Lib.hid hK
      clear hL hd hcl hI hK
      go_simp
      exact HK.out _ _ (g.1, g.2.1, w'.heap.size, g.2.2.2) rfl (get_trans (get_trans (set_get 5 HL.out rfl) (set_get 6 l6 rfl)) (set_get 7 l7 rfl)) (HJ.out.m3 l7)
    case s6 =>
      intro L g w' hL hd hcl hI K hK
      simp only [full, nV, Act.put, List.setIfInBounds_toArray, List.set_cons_zero, List.set_cons_succ] at hK ⊢
      have HL := Lib.hid hL; have HD := Lib.hid hd; have HC := Lib.hid hcl; have HJ := Lib.hid hI; have HK := Lib.hid hK
      clear hL hd hcl hI hK
      go_simp
      exact HK.out _ _ g rfl (fun _ _ => rfl) (HJ.out.skip (by decide))
    case s7 =>
      intro L g w' hL hd hcl hI K hK
      simp only [full, nV, Act.put, List.setIfInBounds_toArray, List.set_cons_zero, List.set_cons_succ] at hK ⊢
      have l8 : L 8 = false := hcl.not 8 7 (by kernel_rfl) hL
      have HL := Lib.hid hL; have HD := Lib.hid hd; have HC := Lib.hid hcl; have HJ := Lib.hid hI; have HK := Lib.hid hK
      clear hL hd hcl hI hK
      go_simp
      exact HK.out _ _ (g.1, g.2.1, g.2.2.1, w'.heap.size) rfl (get_trans (set_get 7 HL.out rfl) (set_get 8 l8 rfl)) HJ.out.m4
    case s8 =>
      intro L g w' hL hd hcl hI K hK
      simp only [full, nV, Act.put, List.setIfInBounds_toArray, List.set_cons_zero, List.set_cons_succ] at hK ⊢
      have HL := Lib.hid hL; have HD := Lib.hid hd; have HC := Lib.hid hcl; have HJ := Lib.hid hI; have HK := Lib.hid hK
      clear hL hd hcl hI hK
      go_simp
      exact HK.out _ _ g rfl (fun _ _ => rfl) (HJ.out.skip (by decide))
  case done =>
    intro g w1 hI
    obtain ⟨a1, a2⟩ := hI.a rfl
    obtain ⟨b1, b2⟩ := hI.b rfl
    obtain ⟨c1, c2⟩ := hI.c rfl
    obtain ⟨d1, d2⟩ := hI.box rfl
    have nab := hI.ab rfl rfl; have nac := hI.ac rfl rfl; have nbc := hI.bc rfl rfl
    have HB := Lib.hid hI.low
    obtain ⟨G1, G2, G3, F⟩ := g
    have hmx : n ≤ maxLen := by unfold maxLen; omega
    have hbag : Bag w.heap.size w1 (rowsF (.slice (some ⟨G1, 0, none⟩) n n) (.slice (some ⟨G2, 0, none⟩) n n) (.slice (some ⟨G3, 0, none⟩) n n) (Fn.part n 0)) := by
      have e : rowsF (.slice (some ⟨G1, 0, none⟩) n n) (.slice (some ⟨G2, 0, none⟩) n n) (.slice (some ⟨G3, 0, none⟩) n n) (Fn.part n 0) = (([] ++ [(.slice (some ⟨G1, 0, none⟩) n n, List.replicate n 0)]) ++ [(.slice (some ⟨G2, 0, none⟩) n n, List.replicate n 0)]) ++ [(.slice (some ⟨G3, 0, none⟩) n n, List.replicate n 0)] := by
        unfold rowsF Fn.part uptoz upto; simp
      rw [e]
      refine (((Bag.nil _ _).more _ _ (own_made a2 a1 hmx) (fun i r hi => by simp at hi)).more _ _ (own_made b2 b1 hmx) (fun i r hi q hq e => ?_)).more _ _ (own_made c2 c1 hmx) (fun i r hi q hq e => ?_)
      · rcases i with _ | i
        · simp at hi; subst hi
          have h1 : G1 = q := Option.some.inj hq
          have h2 : G2 = q := Option.some.inj e
          exact nab (by show G1 = G2; omega)
        · simp at hi
      · rcases i with _ | _ | i
        · simp at hi; subst hi
          have h1 : G1 = q := Option.some.inj hq
          have h2 : G3 = q := Option.some.inj e
          exact nac (by show G1 = G3; omega)
        · simp at hi; subst hi
          have h1 : G2 = q := Option.some.inj hq
          have h2 : G3 = q := Option.some.inj e
          exact nbc (by show G2 = G3; omega)
        · simp at hi
    have HF := Lib.hid (show FinderAt w.heap.size w1 F (.slice (some ⟨G1, 0, none⟩) n n) (.slice (some ⟨G2, 0, none⟩) n n) (.slice (some ⟨G3, 0, none⟩) n n) (Fn.part n 0) (rowsF (.slice (some ⟨G1, 0, none⟩) n n) (.slice (some ⟨G2, 0, none⟩) n n) (.slice (some ⟨G3, 0, none⟩) n n) (Fn.part n 0)) 0 from ⟨d2, d1, hbag, rfl, rfl, rfl⟩)
    clear hI hbag a1 a2 b1 b2 c1 c2 d1 d2 nab nac nbc hmx
    simp only [full, nV, Act.put, List.setIfInBounds_toArray, List.set_cons_zero, List.set_cons_succ]
    go_wp2_with (fail)
    go_loopw [14] (fun i wr => ∃ j : Nat, j ≤ n ∧ i = .int .i64 j ∧ Below w.heap.size w wr ∧ FinderAt w.heap.size wr F (.slice (some ⟨G1, 0, none⟩) n n) (.slice (some ⟨G2, 0, none⟩) n n) (.slice (some ⟨G3, 0, none⟩) n n) (Fn.part n j) (rowsF (.slice (some ⟨G1, 0, none⟩) n n) (.slice (some ⟨G2, 0, none⟩) n n) (.slice (some ⟨G3, 0, none⟩) n n) (Fn.part n j)) 0) (fun i _ => n - (intOf i).toNat)
    case atStart => exact ⟨0, Nat.zero_le _, rfl, HB.out, HF.out⟩
    case round =>
      obtain ⟨j, hj, rfl, hbr, hfr⟩ := hrel
      have HBR := Lib.hid hbr; have HFR := Lib.hid hfr
      clear hbr hfr
      by_cases hjl : j < n
      · have hji : (j : Int) < (n : Int) := by omega
        go_wp2_with (fail)
        refine wp_region_by (by kernel_rfl) (mV F G1 G2 G3 n j) (NJ w.heap.size w F (.slice (some ⟨G1, 0, none⟩) n n) (.slice (some ⟨G2, 0, none⟩) n n) (.slice (some ⟨G3, 0, none⟩) n n) (Fn.part n j) j) 0 (fun _ => rfl) (by kernel_rfl) ?k0 ?ksteps ?kdone
        case k0 => exact ⟨⟨HBR.out.os, HBR.out.tape, HBR.out.output, HBR.out.size, HBR.out.block⟩, HFR.out.below ⟨rfl, rfl, rfl, Nat.le_refl _, fun _ _ => rfl⟩⟩
        case kdone =>
          intro g w' hI
          have hf := hI.at'
          have e : atNew (Fn.part n j) j true true true = Fn.part n (j + 1) := by
            unfold atNew Fn.part
            simp only [if_true]
            rw [fills_set n j hjl, uptoz_set n j hjl]
          rw [e] at hf
          have HF2 := Lib.hid hf; have HB2 := Lib.hid hI.low
          clear hf hI
          simp only [full, mV, Act.put, List.setIfInBounds_toArray, List.set_cons_zero, List.set_cons_succ]
          go_wp2_with (fail)
          go_roundw
          case rel => exact ⟨j + 1, by omega, by go_num, HB2.out, HF2.out⟩
          case measure => simp [intOf]; omega
        case ksteps =>
          refine (Steps.cons (k' := 1) ?s0 rfl (Steps.cons (k' := 2) ?s1 rfl (Steps.cons (k' := 3) ?s2 rfl (Steps.cons (k' := 4) ?s3 rfl (Steps.cons (k' := 5) ?s4 rfl (Steps.cons (k' := 6) ?s5 rfl (Steps.cons (k' := 7) ?s6 rfl (Steps.cons (k' := 8) ?s7 rfl (Steps.cons (k' := 9) ?s8 rfl (Steps.cons (k' := 10) ?s9 rfl (Steps.cons (k' := 11) ?s10 rfl (Steps.cons (k' := 12) ?s11 rfl (Steps.cons (k' := 13) ?s12 rfl (Steps.cons (k' := 14) ?s13 rfl (Steps.cons (k' := 15) ?s14 rfl (Steps.cons (k' := 16) ?s15 rfl (Steps.cons (k' := 17) ?s16 rfl (Steps.cons (k' := 18) ?s17 rfl (Steps.cons (k' := 19) ?s18 rfl (Steps.cons (k' := 20) ?s19 rfl (Steps.cons (k' := 21) ?s20 rfl (Steps.cons (k' := 22) ?s21 rfl (Steps.cons (k' := 23) ?s22 rfl Steps.nil)))))))))))))))))))))))
          case s0 =>
            intro L g w' hL hd hcl hI K hK
            simp only [full, mV, Act.put, List.setIfInBounds_toArray, List.set_cons_zero, List.set_cons_succ] at hK ⊢
            have hbx := hI.at'.box
            obtain ⟨⟨c0, c1, c2⟩, _, hl⟩ := wbox hbx
            clear hbx
            have HL := Lib.hid hL; have HD := Lib.hid hd; have HC := Lib.hid hcl; have HJ := Lib.hid hI; have HK := Lib.hid hK
            clear hL hd hcl hI hK
            go_simp
            exact HK.out _ _ g rfl (fun _ _ => by first | rfl | trivial) (HJ.out.skip (by decide))
          case s1 =>
            intro L g w' hL hd hcl hI K hK
            simp only [full, mV, Act.put, List.setIfInBounds_toArray, List.set_cons_zero, List.set_cons_succ] at hK ⊢
            have hbx := hI.at'.box
            obtain ⟨⟨c0, c1, c2⟩, _, hl⟩ := wbox hbx
            clear hbx
            have HL := Lib.hid hL; have HD := Lib.hid hd; have HC := Lib.hid hcl; have HJ := Lib.hid hI; have HK := Lib.hid hK
            clear hL hd hcl hI hK
            go_simp
            exact HK.out _ _ g rfl (fun _ _ => by first | rfl | trivial) (HJ.out.skip (by decide))
          case s2 =>
            intro L g w' hL hd hcl hI K hK
            simp only [full, mV, Act.put, List.setIfInBounds_toArray, List.set_cons_zero, List.set_cons_succ] at hK ⊢
            have hbx := hI.at'.box
            obtain ⟨⟨c0, c1, c2⟩, _, hl⟩ := wbox hbx
            clear hbx
            have HL := Lib.hid hL; have HD := Lib.hid hd; have HC := Lib.hid hcl; have HJ := Lib.hid hI; have HK := Lib.hid hK
            clear hL hd hcl hI hK
            go_simp
            exact HK.out _ _ g rfl (fun _ _ => by first | rfl | trivial) (HJ.out.skip (by decide))
          case s3 =>
            intro L g w' hL hd hcl hI K hK
            simp only [full, mV, Act.put, List.setIfInBounds_toArray, List.set_cons_zero, List.set_cons_succ] at hK ⊢
            have hbx := hI.at'.box
            obtain ⟨⟨c0, c1, c2⟩, _, hl⟩ := wbox hbx
            clear hbx
            have HL := Lib.hid hL; have HD := Lib.hid hd; have HC := Lib.hid hcl; have HJ := Lib.hid hI; have HK := Lib.hid hK
            clear hL hd hcl hI hK
            go_simp
            exact HK.out _ _ g rfl (fun _ _ => by first | rfl | trivial) (HJ.out.skip (by decide))
          case s4 =>
            intro L g w' hL hd hcl hI K hK
            simp only [full, mV, Act.put, List.setIfInBounds_toArray, List.set_cons_zero, List.set_cons_succ] at hK ⊢
            have hbx := hI.at'.box
            obtain ⟨⟨c0, c1, c2⟩, _, hl⟩ := wbox hbx
            clear hbx
            have HL := Lib.hid hL; have HD := Lib.hid hd; have HC := Lib.hid hcl; have HJ := Lib.hid hI; have HK := Lib.hid hK
            clear hL hd hcl hI hK
            go_simp
            exact HK.out _ _ g rfl (fun _ _ => by first | rfl | trivial) (HJ.out.skip (by decide))
          case s5 =>
            intro L g w' hL hd hcl hI K hK
            simp only [full, mV, Act.put, List.setIfInBounds_toArray, List.set_cons_zero, List.set_cons_succ] at hK ⊢
            have hbx := hI.at'.box
            obtain ⟨⟨c0, c1, c2⟩, _, hl⟩ := wbox hbx
            clear hbx
            have HL := Lib.hid hL; have HD := Lib.hid hd; have HC := Lib.hid hcl; have HJ := Lib.hid hI; have HK := Lib.hid hK
            clear hL hd hcl hI hK
            go_simp
            exact HK.out _ _ g rfl (fun _ _ => by first | rfl | trivial) (HJ.out.skip (by decide))
          case s6 =>
            intro L g w' hL hd hcl hI K hK
            simp only [full, mV, Act.put, List.setIfInBounds_toArray, List.set_cons_zero, List.set_cons_succ] at hK ⊢
            have hbx := hI.at'.box
            obtain ⟨⟨c0, c1, c2⟩, _, hl⟩ := wbox hbx
            clear hbx
            have HL := Lib.hid hL; have HD := Lib.hid hd; have HC := Lib.hid hcl; have HJ := Lib.hid hI; have HK := Lib.hid hK
            clear hL hd hcl hI hK
            go_simp
            exact HK.out _ _ g rfl (fun _ _ => by first | rfl | trivial) (HJ.out.skip (by decide))
          case s7 =>
            intro L g w' hL hd hcl hI K hK
            simp only [full, mV, Act.put, List.setIfInBounds_toArray, List.set_cons_zero, List.set_cons_succ] at hK ⊢
            have hbx := hI.at'.box
            obtain ⟨⟨c0, c1, c2⟩, _, hl⟩ := wbox hbx
            clear hbx
            have HL := Lib.hid hL; have HD := Lib.hid hd; have HC := Lib.hid hcl; have HJ := Lib.hid hI; have HK := Lib.hid hK
            clear hL hd hcl hI hK
            go_simp
            exact HK.out _ _ g rfl (fun _ _ => by first | rfl | trivial) (HJ.out.skip (by decide))
          case s8 =>
            intro L g w' hL hd hcl hI K hK
            simp only [full, mV, Act.put, List.setIfInBounds_toArray, List.set_cons_zero, List.set_cons_succ] at hK ⊢
            have hbx := hI.at'.box
            obtain ⟨⟨c0, c1, c2⟩, _, hl⟩ := wbox hbx
            clear hbx
            have HL := Lib.hid hL; have HD := Lib.hid hd; have HC := Lib.hid hcl; have HJ := Lib.hid hI; have HK := Lib.hid hK
            clear hL hd hcl hI hK
            go_simp
            exact HK.out _ _ g rfl (fun _ _ => by first | rfl | trivial) (HJ.out.skip (by decide))
          case s9 =>
            intro L g w' hL hd hcl hI K hK
            simp only [full, mV, Act.put, List.setIfInBounds_toArray, List.set_cons_zero, List.set_cons_succ] at hK ⊢
            have hbx := hI.at'.box
            obtain ⟨⟨c0, c1, c2⟩, _, hl⟩ := wbox hbx
            clear hbx
            have HL := Lib.hid hL; have HD := Lib.hid hd; have HC := Lib.hid hcl; have HJ := Lib.hid hI; have HK := Lib.hid hK
            clear hL hd hcl hI hK
            go_simp
            exact HK.out _ _ g rfl (fun _ _ => by first | rfl | trivial) (HJ.out.skip (by decide))
          case s10 =>
            intro L g w' hL hd hcl hI K hK
            simp only [full, mV, Act.put, List.setIfInBounds_toArray, List.set_cons_zero, List.set_cons_succ] at hK ⊢
            have hbx := hI.at'.box
            obtain ⟨⟨c0, c1, c2⟩, _, hl⟩ := wbox hbx
            clear hbx
            have HL := Lib.hid hL; have HD := Lib.hid hd; have HC := Lib.hid hcl; have HJ := Lib.hid hI; have HK := Lib.hid hK
            clear hL hd hcl hI hK
            go_simp
            exact HK.out _ _ g rfl (fun _ _ => by first | rfl | trivial) (HJ.out.skip (by decide))
          case s11 =>
            intro L g w' hL hd hcl hI K hK
            simp only [full, mV, Act.put, List.setIfInBounds_toArray, List.set_cons_zero, List.set_cons_succ] at hK ⊢
            have hbx := hI.at'.box
            obtain ⟨⟨c0, c1, c2⟩, _, hl⟩ := wbox hbx
            clear hbx
            have HL := Lib.hid hL; have HD := Lib.hid hd; have HC := Lib.hid hcl; have HJ := Lib.hid hI; have HK := Lib.hid hK
            clear hL hd hcl hI hK
            go_simp
            exact HK.out _ _ g rfl (fun _ _ => by first | rfl | trivial) (HJ.out.skip (by decide))
          case s12 =>
            intro L g w' hL hd hcl hI K hK
            simp only [full, mV, Act.put, List.setIfInBounds_toArray, List.set_cons_zero, List.set_cons_succ] at hK ⊢
            have hbx := hI.at'.box
            obtain ⟨⟨c0, c1, c2⟩, _, hl⟩ := wbox hbx
            clear hbx
            have HL := Lib.hid hL; have HD := Lib.hid hd; have HC := Lib.hid hcl; have HJ := Lib.hid hI; have HK := Lib.hid hK
            clear hL hd hcl hI hK
            go_simp
            exact HK.out _ _ g rfl (fun _ _ => by first | rfl | trivial) (HJ.out.skip (by decide))
          case s13 =>
            intro L g w' hL hd hcl hI K hK
            simp only [full, mV, Act.put, List.setIfInBounds_toArray, List.set_cons_zero, List.set_cons_succ] at hK ⊢
            have hbx := hI.at'.box
            obtain ⟨⟨c0, c1, c2⟩, _, hl⟩ := wbox hbx
            clear hbx
            have HL := Lib.hid hL; have HD := Lib.hid hd; have HC := Lib.hid hcl; have HJ := Lib.hid hI; have HK := Lib.hid hK
            clear hL hd hcl hI hK
            go_simp
            exact HK.out _ _ g rfl (fun _ _ => by first | rfl | trivial) (HJ.out.skip (by decide))
          case s14 =>
            intro L g w' hL hd hcl hI K hK
            simp only [full, mV, Act.put, List.setIfInBounds_toArray, List.set_cons_zero, List.set_cons_succ] at hK ⊢
            have hbx := hI.at'.box
            obtain ⟨⟨c0, c1, c2⟩, _, hl⟩ := wbox hbx
            clear hbx
            have HL := Lib.hid hL; have HD := Lib.hid hd; have HC := Lib.hid hcl; have HJ := Lib.hid hI; have HK := Lib.hid hK
            clear hL hd hcl hI hK
            go_simp
            exact HK.out _ _ g rfl (fun _ _ => by first | rfl | trivial) (HJ.out.skip (by decide))
          case s15 =>
            intro L g w' hL hd hcl hI K hK
            simp only [full, mV, Act.put, List.setIfInBounds_toArray, List.set_cons_zero, List.set_cons_succ] at hK ⊢
            have hbx := hI.at'.box
            obtain ⟨⟨c0, c1, c2⟩, _, hl⟩ := wbox hbx
            clear hbx
            have HL := Lib.hid hL; have HD := Lib.hid hd; have HC := Lib.hid hcl; have HJ := Lib.hid hI; have HK := Lib.hid hK
            clear hL hd hcl hI hK
            go_simp
            exact HK.out _ _ g rfl (fun _ _ => by first | rfl | trivial) (HJ.out.skip (by decide))
          case s16 =>
            intro L g w' hL hd hcl hI K hK
            simp only [full, mV, Act.put, List.setIfInBounds_toArray, List.set_cons_zero, List.set_cons_succ] at hK ⊢
            have hbx := hI.at'.box
            obtain ⟨⟨c0, c1, c2⟩, _, hl⟩ := wbox hbx
            clear hbx
            have HL := Lib.hid hL; have HD := Lib.hid hd; have HC := Lib.hid hcl; have HJ := Lib.hid hI; have HK := Lib.hid hK
            clear hL hd hcl hI hK
            go_simp
            exact HK.out _ _ g rfl (fun _ _ => by first | rfl | trivial) (HJ.out.skip (by decide))
          case s17 =>
            intro L g w' hL hd hcl hI K hK
            simp only [full, mV, Act.put, List.setIfInBounds_toArray, List.set_cons_zero, List.set_cons_succ] at hK ⊢
            have hbx := hI.at'.box
            obtain ⟨⟨c0, c1, c2⟩, _, hl⟩ := wbox hbx
            clear hbx
            have HL := Lib.hid hL; have HD := Lib.hid hd; have HC := Lib.hid hcl; have HJ := Lib.hid hI; have HK := Lib.hid hK
            clear hL hd hcl hI hK
            go_simp
            exact HK.out _ _ g rfl (fun _ _ => by first | rfl | trivial) (HJ.out.skip (by decide))
          case s18 =>
            intro L g w' hL hd hcl hI K hK
            simp only [full, mV, Act.put, List.setIfInBounds_toArray, List.set_cons_zero, List.set_cons_succ] at hK ⊢
            have hbx := hI.at'.box
            obtain ⟨⟨c0, c1, c2⟩, _, hl⟩ := wbox hbx
            clear hbx
            have hr := hI.at'.bag.row 0 _ _ rfl
            have hlen : (atNew (Fn.part n j) j (L 18) (L 20) (L 22)).hangs.length = n := by unfold atNew Fn.part; dsimp only; split <;> simp <;> omega
            obtain ⟨y, hy⟩ : ∃ y, (atNew (Fn.part n j) j (L 18) (L 20) (L 22)).hangs[j]? = some y := ⟨_, List.getElem?_eq_getElem (by rw [hlen]; exact hjl)⟩
            obtain ⟨y1, y2, y3, y4⟩ := own_at hr hy
            have HLEN := Lib.hid hlen
            clear hr hlen hy
            have HL := Lib.hid hL; have HD := Lib.hid hd; have HC := Lib.hid hcl; have HJ := Lib.hid hI; have HK := Lib.hid hK
            clear hL hd hcl hI hK
            go_simp
            refine HK.out _ _ g rfl (fun _ _ => by first | rfl | trivial) ⟨below_put HJ.out.low y3 _ _, ?_⟩
            have h1 := HJ.out.at'.puthangs HLEN.out hjl (-1)
            have hLf := HL.out
            have ea : setL L 18 18 = true := setL_eq
            have eb : setL L 18 20 = L 20 := setL_ne (by decide)
            have ec : setL L 18 22 = L 22 := setL_ne (by decide)
            rw [ea, eb, ec]
            rw [hLf] at h1
            exact h1
          case s19 =>
            intro L g w' hL hd hcl hI K hK
            simp only [full, mV, Act.put, List.setIfInBounds_toArray, List.set_cons_zero, List.set_cons_succ] at hK ⊢
            have hbx := hI.at'.box
            obtain ⟨⟨c0, c1, c2⟩, _, hl⟩ := wbox hbx
            clear hbx
            have HL := Lib.hid hL; have HD := Lib.hid hd; have HC := Lib.hid hcl; have HJ := Lib.hid hI; have HK := Lib.hid hK
            clear hL hd hcl hI hK
            go_simp
            exact HK.out _ _ g rfl (fun _ _ => by first | rfl | trivial) (HJ.out.skip (by decide))
          case s20 =>
            intro L g w' hL hd hcl hI K hK
            simp only [full, mV, Act.put, List.setIfInBounds_toArray, List.set_cons_zero, List.set_cons_succ] at hK ⊢
            have hbx := hI.at'.box
            obtain ⟨⟨c0, c1, c2⟩, _, hl⟩ := wbox hbx
            clear hbx
            have hr := hI.at'.bag.row 1 _ _ rfl
            have hlen : (atNew (Fn.part n j) j (L 18) (L 20) (L 22)).entry.length = n := by unfold atNew Fn.part; dsimp only; split <;> simp [uptoz_len n j hj]
            obtain ⟨y, hy⟩ : ∃ y, (atNew (Fn.part n j) j (L 18) (L 20) (L 22)).entry[j]? = some y := ⟨_, List.getElem?_eq_getElem (by rw [hlen]; exact hjl)⟩
            obtain ⟨y1, y2, y3, y4⟩ := own_at hr hy
            have HLEN := Lib.hid hlen
            clear hr hlen hy
            have HL := Lib.hid hL; have HD := Lib.hid hd; have HC := Lib.hid hcl; have HJ := Lib.hid hI; have HK := Lib.hid hK
            clear hL hd hcl hI hK
            go_simp
            refine HK.out _ _ g rfl (fun _ _ => by first | rfl | trivial) ⟨below_put HJ.out.low y3 _ _, ?_⟩
            have h1 := HJ.out.at'.putentry HLEN.out hjl (j : Int)
            have hLf := HL.out
            have ea : setL L 20 20 = true := setL_eq
            have eb : setL L 20 18 = L 18 := setL_ne (by decide)
            have ec : setL L 20 22 = L 22 := setL_ne (by decide)
            rw [ea, eb, ec]
            rw [hLf] at h1
            exact h1
          case s21 =>
            intro L g w' hL hd hcl hI K hK
            simp only [full, mV, Act.put, List.setIfInBounds_toArray, List.set_cons_zero, List.set_cons_succ] at hK ⊢
            have hbx := hI.at'.box
            obtain ⟨⟨c0, c1, c2⟩, _, hl⟩ := wbox hbx
            clear hbx
            have HL := Lib.hid hL; have HD := Lib.hid hd; have HC := Lib.hid hcl; have HJ := Lib.hid hI; have HK := Lib.hid hK
            clear hL hd hcl hI hK
            go_simp
            exact HK.out _ _ g rfl (fun _ _ => by first | rfl | trivial) (HJ.out.skip (by decide))
          case s22 =>
            intro L g w' hL hd hcl hI K hK
            simp only [full, mV, Act.put, List.setIfInBounds_toArray, List.set_cons_zero, List.set_cons_succ] at hK ⊢
            have hbx := hI.at'.box
            obtain ⟨⟨c0, c1, c2⟩, _, hl⟩ := wbox hbx
            clear hbx
            have hr := hI.at'.bag.row 2 _ _ rfl
            have hlen : (atNew (Fn.part n j) j (L 18) (L 20) (L 22)).best.length = n := by unfold atNew Fn.part; dsimp only; split <;> simp [uptoz_len n j hj]
            obtain ⟨y, hy⟩ : ∃ y, (atNew (Fn.part n j) j (L 18) (L 20) (L 22)).best[j]? = some y := ⟨_, List.getElem?_eq_getElem (by rw [hlen]; exact hjl)⟩
            obtain ⟨y1, y2, y3, y4⟩ := own_at hr hy
            have HLEN := Lib.hid hlen
            clear hr hlen hy
            have HL := Lib.hid hL; have HD := Lib.hid hd; have HC := Lib.hid hcl; have HJ := Lib.hid hI; have HK := Lib.hid hK
            clear hL hd hcl hI hK
            go_simp
            refine HK.out _ _ g rfl (fun _ _ => by first | rfl | trivial) ⟨below_put HJ.out.low y3 _ _, ?_⟩
            have h1 := HJ.out.at'.putbest HLEN.out hjl (j : Int)
            have hLf := HL.out
            have ea : setL L 22 22 = true := setL_eq
            have eb : setL L 22 18 = L 18 := setL_ne (by decide)
            have ec : setL L 22 20 = L 20 := setL_ne (by decide)
            rw [ea, eb, ec]
            rw [hLf] at h1
            exact h1
      · obtain rfl : j = n := by omega
        rw [Fn.part_end] at HFR
        go_wp2_with (fail)
        go_ret
        exact ⟨_, _, _, _, rfl, HBR.out, HFR.out⟩
end Go.Proofs.Ytipongpgmbhpkaa
