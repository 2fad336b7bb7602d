/-
  flow: New.
-/
import Derived.Test.YtipongpgmbhpkaaDomT
namespace Go.Proofs.Ytipongpgmbhpkaa
open Go.ChangeShapes Go.WideShapes Go.ChangeAt Go.RowKit
open Go.Proofs.Ytipongpgmbhpkaa.RegInv
set_option linter.unusedVariables false

/-- Two rows of rows are made in any order, then the box. -/
structure BI (n : Nat) (w1 : World) (L : Nat → Bool) (g : Nat × Nat × Nat) (w : World) : Prop where
  low : Below w1.heap.size w1 w
  o : L 3 = true → w1.heap.size ≤ g.1 ∧ w.heap[g.1]? = some (.cells (madeCells #[.slice none 0 0] n) 35 (0, 0))
  j : L 7 = true → w1.heap.size ≤ g.2.1 ∧ w.heap[g.2.1]? = some (.cells (madeCells #[.slice none 0 0] n) 35 (0, 0))
  oj : L 3 = true → L 7 = true → g.1 ≠ g.2.1
  box : L 9 = true → w1.heap.size ≤ g.2.2 ∧ w.heap[g.2.2]? = some (.cells #[.slice (some ⟨g.1, 0, none⟩) n n, .slice (some ⟨g.2.1, 0, none⟩) n n] 41 (0, 0))
theorem BI.skip {n : Nat} {w1 : World} {L : Nat → Bool} {g : Nat × Nat × Nat} {w : World} (h : BI n w1 L g w) {i : Nat} (hi : 3 ≠ i ∧ 7 ≠ i ∧ 9 ≠ i) : BI n w1 (setL L i) g w := by
  obtain ⟨h0, h1, h2, h3, h4⟩ := h
  obtain ⟨a, b, c⟩ := hi
  refine ⟨h0, ?_, ?_, ?_, ?_⟩
  · rw [setL_ne a]; exact h1
  · rw [setL_ne b]; exact h2
  · rw [setL_ne a, setL_ne b]; exact h3
  · rw [setL_ne c]; exact h4
theorem BI.m3 {n : Nat} {w1 : World} {L : Nat → Bool} {g : Nat × Nat × Nat} {w : World} (h : BI n w1 L g w) (h9 : L 9 = false) : BI n w1 (setL L 3) (w.heap.size, g.2) (w.alloc (.cells (madeCells #[.slice none 0 0] n) 35 (0, 0))) := by
  refine ⟨h.low.alloc h.low.size _, fun _ => ⟨h.low.size, alloc_at _ _ _ rfl⟩, fun a => ?_, fun _ a => ?_, fun a => ?_⟩
  · rw [setL_ne (by decide)] at a; exact old_alloc (h.j a)
  · rw [setL_ne (by decide)] at a
    have := lt_heap (h.j a).2
    show w.heap.size ≠ g.2.1
    omega
  · rw [setL_ne (by decide), h9] at a; cases a
theorem BI.m7 {n : Nat} {w1 : World} {L : Nat → Bool} {g : Nat × Nat × Nat} {w : World} (h : BI n w1 L g w) (h9 : L 9 = false) : BI n w1 (setL L 7) (g.1, w.heap.size, g.2.2) (w.alloc (.cells (madeCells #[.slice none 0 0] n) 35 (0, 0))) := by
  refine ⟨h.low.alloc h.low.size _, fun a => ?_, fun _ => ⟨h.low.size, alloc_at _ _ _ rfl⟩, fun a _ => ?_, fun a => ?_⟩
  · rw [setL_ne (by decide)] at a; exact old_alloc (h.o a)
  · rw [setL_ne (by decide)] at a
    have := lt_heap (h.o a).2
    show g.1 ≠ w.heap.size
    omega
  · rw [setL_ne (by decide), h9] at a; cases a
theorem BI.m9 {n : Nat} {w1 : World} {L : Nat → Bool} {g : Nat × Nat × Nat} {w : World} (h : BI n w1 L g w) : BI n w1 (setL L 9) (g.1, g.2.1, w.heap.size) (w.alloc (.cells #[.slice (some ⟨g.1, 0, none⟩) n n, .slice (some ⟨g.2.1, 0, none⟩) n n] 41 (0, 0))) := by
  refine ⟨h.low.alloc h.low.size _, fun a => ?_, fun a => ?_, fun a b => ?_, fun _ => ⟨h.low.size, alloc_at _ _ _ rfl⟩⟩
  · rw [setL_ne (by decide)] at a; exact old_alloc (h.o a)
  · rw [setL_ne (by decide)] at a; exact old_alloc (h.j a)
  · rw [setL_ne (by decide)] at a b; exact h.oj a b
def bV (B n : Nat) (bv : Value) (g : Nat × Nat × Nat) : List Value :=
  [.pointer (some ⟨B, 1, none⟩), bv, .int .i64 n, .slice (some ⟨g.1, 0, none⟩) n n, .pointer (some ⟨B, 1, none⟩), bv, .int .i64 n, .slice (some ⟨g.2.1, 0, none⟩) n n, .agg #[.slice (some ⟨g.1, 0, none⟩) n n, .slice (some ⟨g.2.1, 0, none⟩) n n], .pointer (some ⟨g.2.2, 0, none⟩), .pointer (some ⟨g.2.2, 0, none⟩)]
def oV (G og n lb j t m : Nat) (h0 : Value) (g : Nat × Nat × Nat) : List Value :=
  [.pointer (some ⟨G, 0, none⟩), .pointer (some ⟨G, 0, none⟩), .pointer (some ⟨G, 0, none⟩), .slice (some ⟨og, 0, none⟩) n n, .int .i64 j, .pointer (some ⟨G, 0, none⟩), .pointer (some ⟨G, 0, none⟩), .pointer (some ⟨G, 0, none⟩), .slice (some ⟨og, 0, none⟩) n n, .int .i64 j, .pointer (some ⟨og, j, none⟩), h0, .pointer (some ⟨lb, 0, none⟩), .int .i64 t, .slice (some ⟨g.1, 0, none⟩) 1 1, .slice (some ⟨g.2.1, 0, none⟩) (m + 1) g.2.2, .pointer (some ⟨og, j, none⟩), undef]
def jV (G ig n lb j t m : Nat) (h0 : Value) (g : Nat × Nat × Nat) : List Value :=
  [.pointer (some ⟨G, 0, none⟩), .pointer (some ⟨G, 0, none⟩), .pointer (some ⟨G, 1, none⟩), .slice (some ⟨ig, 0, none⟩) n n, .pointer (some ⟨lb, 0, none⟩), .int .i64 t, .pointer (some ⟨G, 0, none⟩), .pointer (some ⟨G, 0, none⟩), .pointer (some ⟨G, 1, none⟩), .slice (some ⟨ig, 0, none⟩) n n, .pointer (some ⟨lb, 0, none⟩), .int .i64 t, .pointer (some ⟨ig, t, none⟩), h0, .int .i64 j, .slice (some ⟨g.1, 0, none⟩) 1 1, .slice (some ⟨g.2.1, 0, none⟩) (m + 1) g.2.2, .pointer (some ⟨ig, t, none⟩), undef]
structure Gr.ok (g : Gr) (n M : Nat) : Prop where
  ol : g.outs.length = n
  jl : g.ins.length = n
  om : ∀ r ∈ g.outs, r.length ≤ M
  jm : ∀ r ∈ g.ins, r.length ≤ M
theorem set_le {l : List (List Int)} {M v : Nat} {x : Int} (h : ∀ r ∈ l, r.length ≤ M) : ∀ r ∈ l.set v (gr l v ++ [x]), r.length ≤ M + 1 := by
  intro r hr
  rcases List.mem_or_eq_of_mem_set hr with hr | rfl
  · exact Nat.le_succ_of_le (h r hr)
  · rw [List.length_append, List.length_singleton]
    unfold gr
    rw [Int.toNat_natCast]
    rcases Nat.lt_or_ge v l.length with hv | hv
    · rw [List.getD_eq_getElem?_getD, List.getElem?_eq_getElem hv]
      exact Nat.succ_le_succ (h _ (List.getElem_mem hv))
    · rw [List.getD_eq_getElem?_getD, List.getElem?_eq_none hv]
      exact Nat.succ_le_succ (Nat.zero_le _)
theorem Gr.ok.way {g : Gr} {n M : Nat} (h : g.ok n M) (src : Nat) (tt : Int) : (Gr.way src g tt).ok n (M + 1) := by
  unfold Gr.way
  split
  · rename_i hc
    obtain ⟨t, rfl⟩ : ∃ t : Nat, tt = t := ⟨tt.toNat, by omega⟩
    rw [Int.toNat_natCast]
    refine ⟨by dsimp only; rw [List.length_set]; exact h.ol, by dsimp only; rw [List.length_set]; exact h.jl, ?_, set_le h.jm⟩
    exact set_le (v := src) h.om
  · exact ⟨h.ol, h.jl, fun r hr => Nat.le_succ_of_le (h.om r hr), fun r hr => Nat.le_succ_of_le (h.jm r hr)⟩
def grStep (g : Gr) (r : List Int × Nat) : Gr := r.1.foldl (Gr.way r.2) g
def grZero (ways : List (List Int)) : Gr := ⟨ways.map (fun _ => []), ways.map (fun _ => [])⟩
theorem graphL_eq (ways : List (List Int)) : graphL ways = (ways.zipIdx.take ways.length).foldl grStep (grZero ways) := by
  rw [List.take_of_length_le (by simp)]; rfl
theorem edges_drop {ways : List (List Int)} {j : Nat} {row : List Int} (h : ways[j]? = some row) : edges (ways.drop j) = row.length + edges (ways.drop (j + 1)) := by
  have hl := (List.getElem?_eq_some_iff.1 h).1
  rw [List.drop_eq_getElem_cons hl]
  rw [List.getElem?_eq_getElem hl] at h
  rw [Option.some.inj h]
  unfold edges
  rw [List.map_cons, List.sum_cons]
theorem zip_idx {ways : List (List Int)} {j : Nat} {row : List Int} (h : ways[j]? = some row) : ways.zipIdx[j]? = some (row, j) := by
  rw [List.getElem?_zipIdx, h]; simp
set_option maxHeartbeats 16000000 in
set_option maxRecDepth 100000 in
theorem new_any {w : World} {ways : List (List Int)} {nm : ByteArray} {bv : Value} (h : BlocksAt w.heap.size w bv ways) (hn : ways.length ≤ 1000000) (he : edges ways ≤ 1000000) :
    Calls Try.prog 10 #[.agg #[.string nm, bv]] w fun e w' => ∃ G ov iv os js, e = .returned (.pointer (some ⟨G, 0, none⟩)) ∧ Below w.heap.size w w' ∧ GrAt w.heap.size w' G ov iv os js (graphL ways) := by
  obtain ⟨i0, hi, hz0⟩ := Option.map_eq_some_iff.1 info3
  obtain ⟨h1, h2, h3⟩ : i0.zero = some (.int .i64 0) ∧ i0.size = 1 ∧ i0.bytes = 8 := by simpa using hz0
  have HI := Lib.hid hi; have HZ0 := Lib.hid h1; have HZ1 := Lib.hid h2; have HZ2 := Lib.hid h3
  clear hi h1 h2 h3 hz0
  have HBK := Lib.hid h
  obtain ⟨ba, bc, rfl, hrows⟩ := h.form
  obtain ⟨n, hnn⟩ : ∃ n, n = ways.length := ⟨_, rfl⟩
  have HN := Lib.hid hnn
  rw [← hnn] at hn ⊢
  rw [← hnn] at HBK
  have HROWS := Lib.hid hrows
  have hmk := run_make_row' (P := Try.prog) 22 35 (.slice none 0 0) 24 Try.underlying22 infoRow rfl .i64 .i64 n (by omega) (by omega)
  have HMK := Lib.hid hmk
  clear h hrows hnn hmk
  go_enter Try.func10, Try.ntmps10
  go_upto_region 1 with (fail)
  have HB0 := Lib.hid (show Below w.heap.size w (w.alloc (.cells #[.string nm, .slice ba n bc] 30 (0, 0))) from (Below.refl _ _).alloc (Nat.le_refl _) _)
  obtain ⟨⟨_, c1⟩, _, hFl⟩ := tbox (alloc_at w (.cells #[.string nm, .slice ba n bc] 30 (0, 0)) w.heap.size rfl)
  have hz0 : w.heap.size ≤ (w.alloc (.cells #[.string nm, .slice ba n bc] 30 (0, 0))).heap.size := by simp
  change Code.wp _ _ _ _ (w.alloc (.cells #[.string nm, .slice ba n bc] 30 (0, 0)))
  generalize w.alloc (.cells #[.string nm, .slice ba n bc] 30 (0, 0)) = w0 at *
  refine wp_region_by (by kernel_rfl) (bV w.heap.size n (.slice ba n bc)) (BI n w0) (0, 0, 0) (fun _ => rfl) (by kernel_rfl) ?h0 ?steps ?done
  case h0 => exact ⟨⟨rfl, rfl, rfl, Nat.le_refl _, fun _ _ => rfl⟩, fun a => by simp at a, fun a => by simp at a, fun a => by simp at a, fun a => by simp at a⟩
  case steps =>
    have hmk := HMK.out
    refine (Steps.cons (k' := 1) ?s0 rfl (Steps.cons (k' := 2) ?s1 rfl (Steps.cons (k' := 3) ?s2 rfl (Steps.cons (k' := 4) ?s3 rfl (Steps.cons (k' := 5) ?s4 rfl (Steps.cons (k' := 6) ?s5 rfl (Steps.cons (k' := 7) ?s6 rfl (Steps.cons (k' := 8) ?s7 rfl (Steps.cons (k' := 9) ?s8 rfl (Steps.cons (k' := 10) ?s9 rfl (Steps.cons (k' := 11) ?s10 rfl Steps.nil)))))))))))
    case s0 =>
      intro L g w' hL hd hcl hI K hK
      simp only [full, bV, Act.put, List.setIfInBounds_toArray, List.set_cons_zero, List.set_cons_succ] at hK ⊢
      have HL := Lib.hid hL; have HD := Lib.hid hd; have HC := Lib.hid hcl; have HJ := Lib.hid hI; have HK := Lib.hid hK
      clear hL hd hcl hI hK
      go_simp
      exact HK.out _ _ g rfl (fun _ _ => rfl) (HJ.out.skip (by decide))
    case s1 =>
      intro L g w' hL hd hcl hI K hK
      simp only [full, bV, Act.put, List.setIfInBounds_toArray, List.set_cons_zero, List.set_cons_succ] at hK ⊢
      have z := (World.cell?_of_block (hI.low.block w.heap.size hFl)).trans c1
      have z2 := Nat.lt_of_lt_of_le hFl hI.low.size
      have HL := Lib.hid hL; have HD := Lib.hid hd; have HC := Lib.hid hcl; have HJ := Lib.hid hI; have HK := Lib.hid hK
      clear hL hd hcl hI hK
      go_simp
      exact HK.out _ _ g rfl (fun _ _ => rfl) (HJ.out.skip (by decide))
    case s2 =>
      intro L g w' hL hd hcl hI K hK
      simp only [full, bV, Act.put, List.setIfInBounds_toArray, List.set_cons_zero, List.set_cons_succ] at hK ⊢
      have HL := Lib.hid hL; have HD := Lib.hid hd; have HC := Lib.hid hcl; have HJ := Lib.hid hI; have HK := Lib.hid hK
      clear hL hd hcl hI hK
      go_simp
      exact HK.out _ _ g rfl (fun _ _ => rfl) (HJ.out.skip (by decide))
    case s3 =>
      intro L g w' hL hd hcl hI K hK
      simp only [full, bV, Act.put, List.setIfInBounds_toArray, List.set_cons_zero, List.set_cons_succ] at hK ⊢
      have l8 : L 8 = false := hcl.not 8 3 (by kernel_rfl) hL
      have l9 : L 9 = false := hcl.not 9 8 (by kernel_rfl) l8
      have HL := Lib.hid hL; have HD := Lib.hid hd; have HC := Lib.hid hcl; have HJ := Lib.hid hI; have HK := Lib.hid hK
      clear hL hd hcl hI hK
      go_simp
      exact HK.out _ _ (w'.heap.size, g.2) rfl (get_trans (set_get 3 HL.out rfl) (set_get 8 l8 rfl)) (HJ.out.m3 l9)
    case s4 =>
      intro L g w' hL hd hcl hI K hK
      simp only [full, bV, Act.put, List.setIfInBounds_toArray, List.set_cons_zero, List.set_cons_succ] at hK ⊢
      have HL := Lib.hid hL; have HD := Lib.hid hd; have HC := Lib.hid hcl; have HJ := Lib.hid hI; have HK := Lib.hid hK
      clear hL hd hcl hI hK
      go_simp
      exact HK.out _ _ g rfl (fun _ _ => rfl) (HJ.out.skip (by decide))
    case s5 =>
      intro L g w' hL hd hcl hI K hK
      simp only [full, bV, Act.put, List.setIfInBounds_toArray, List.set_cons_zero, List.set_cons_succ] at hK ⊢
      have z := (World.cell?_of_block (hI.low.block w.heap.size hFl)).trans c1
      have z2 := Nat.lt_of_lt_of_le hFl hI.low.size
      have HL := Lib.hid hL; have HD := Lib.hid hd; have HC := Lib.hid hcl; have HJ := Lib.hid hI; have HK := Lib.hid hK
      clear hL hd hcl hI hK
      go_simp
      exact HK.out _ _ g rfl (fun _ _ => rfl) (HJ.out.skip (by decide))
    case s6 =>
      intro L g w' hL hd hcl hI K hK
      simp only [full, bV, Act.put, List.setIfInBounds_toArray, List.set_cons_zero, List.set_cons_succ] at hK ⊢
      have HL := Lib.hid hL; have HD := Lib.hid hd; have HC := Lib.hid hcl; have HJ := Lib.hid hI; have HK := Lib.hid hK
      clear hL hd hcl hI hK
      go_simp
      exact HK.out _ _ g rfl (fun _ _ => rfl) (HJ.out.skip (by decide))
    case s7 =>
      intro L g w' hL hd hcl hI K hK
      simp only [full, bV, Act.put, List.setIfInBounds_toArray, List.set_cons_zero, List.set_cons_succ] at hK ⊢
      have l8 : L 8 = false := hcl.not 8 7 (by kernel_rfl) hL
      have l9 : L 9 = false := hcl.not 9 8 (by kernel_rfl) l8
      have HL := Lib.hid hL; have HD := Lib.hid hd; have HC := Lib.hid hcl; have HJ := Lib.hid hI; have HK := Lib.hid hK
      clear hL hd hcl hI hK
      go_simp
      exact HK.out _ _ (g.1, w'.heap.size, g.2.2) rfl (get_trans (set_get 7 HL.out rfl) (set_get 8 l8 rfl)) (HJ.out.m7 l9)
    case s8 =>
      intro L g w' hL hd hcl hI K hK
      simp only [full, bV, Act.put, List.setIfInBounds_toArray, List.set_cons_zero, List.set_cons_succ] at hK ⊢
      have HL := Lib.hid hL; have HD := Lib.hid hd; have HC := Lib.hid hcl; have HJ := Lib.hid hI; have HK := Lib.hid hK
      clear hL hd hcl hI hK
      go_simp
      exact HK.out _ _ g rfl (fun _ _ => rfl) (HJ.out.skip (by decide))
    case s9 =>
      intro L g w' hL hd hcl hI K hK
      simp only [full, bV, Act.put, List.setIfInBounds_toArray, List.set_cons_zero, List.set_cons_succ] at hK ⊢
      have l10 : L 10 = false := hcl.not 10 9 (by kernel_rfl) hL
      have HL := Lib.hid hL; have HD := Lib.hid hd; have HC := Lib.hid hcl; have HJ := Lib.hid hI; have HK := Lib.hid hK
      clear hL hd hcl hI hK
      go_simp
      exact HK.out _ _ (g.1, g.2.1, w'.heap.size) rfl (get_trans (set_get 9 HL.out rfl) (set_get 10 l10 rfl)) (HJ.out.m9)
    case s10 =>
      intro L g w' hL hd hcl hI K hK
      simp only [full, bV, Act.put, List.setIfInBounds_toArray, List.set_cons_zero, List.set_cons_succ] at hK ⊢
      have HL := Lib.hid hL; have HD := Lib.hid hd; have HC := Lib.hid hcl; have HJ := Lib.hid hI; have HK := Lib.hid hK
      clear hL hd hcl hI hK
      go_simp
      exact HK.out _ _ g rfl (fun _ _ => rfl) (HJ.out.skip (by decide))
  case done =>
    intro g w1 hI
    obtain ⟨o1, o2⟩ := hI.o rfl
    obtain ⟨j1, j2⟩ := hI.j rfl
    obtain ⟨b1, b2⟩ := hI.box rfl
    have hoj := hI.oj rfl rfl
    have HB1 := Lib.hid (HB0.out.trans (hI.low.mono hz0))
    obtain ⟨og, ig, G⟩ := g
    have hmx : n ≤ maxLen := by unfold maxLen; omega
    have hdrow : ∀ {b : Nat}, w1.heap[b]? = some (.cells (madeCells #[.slice none 0 0] n) 35 (0, 0)) → w.heap.size ≤ b → w1.ownsRow w.heap.size 35 1 (.slice (some ⟨b, 0, none⟩) n n) (List.replicate n (Value.slice none 0 0)).length (List.replicate n (Value.slice none 0 0)) := by
      intro b hb hB
      rw [List.length_replicate]
      refine ⟨by simp, .inr ⟨b, n, _, rfl, hB, hb, Nat.le_refl _, hmx, ?_, ?_⟩⟩
      · rw [madeCells_one]; simp
      · rw [madeCells_one]; simp
    have hG : GrAt w.heap.size w1 G (.slice (some ⟨og, 0, none⟩) n n) (.slice (some ⟨ig, 0, none⟩) n n) (List.replicate n (.slice none 0 0)) (List.replicate n (.slice none 0 0)) (grZero ways) := by
      have hm : ways.map (fun _ => ([] : List Int)) = List.replicate n [] := by rw [HN.out]; exact List.map_const' ..
      refine ⟨b2, Nat.le_trans hz0 b1, hdrow o2 (Nat.le_trans hz0 o1), hdrow j2 (Nat.le_trans hz0 j1), by unfold grZero; rw [hm]; simp, by unfold grZero; rw [hm]; simp, ?_, fun q hq e => hoj (by have e1 : og = q := Option.some.inj hq; have e2 : ig = q := Option.some.inj e; show og = ig; omega)⟩
      unfold grZero
      rw [hm, List.zip_replicate']
      exact (((Bag.nil _ _).nils n).nils n)
    have HG := Lib.hid hG
    have d1 := (hI.low.cell (p := ⟨w.heap.size, 1, none⟩) hFl).trans c1
    have hFl1 := Nat.lt_of_lt_of_le hFl hI.low.size
    clear hI o1 o2 j1 j2 b1 b2 hoj hmx hdrow hG c1 hFl hz0
    simp only [full, bV, Act.put, List.setIfInBounds_toArray, List.set_cons_zero, List.set_cons_succ]
    go_wp2_with (fail)
    clear d1 hFl1
    go_loopw [21] (fun i wr => ∃ (j M : Nat) (g : Gr) (os js : List Value), j ≤ n ∧ i = .int .i64 j ∧ g = (ways.zipIdx.take j).foldl grStep (grZero ways) ∧ g.ok n M ∧ M + edges (ways.drop j) ≤ 1000000 ∧ Below w.heap.size w wr ∧ GrAt w.heap.size wr G (.slice (some ⟨og, 0, none⟩) n n) (.slice (some ⟨ig, 0, none⟩) n n) os js g) (fun i _ => n - (intOf i).toNat)
    case atStart => exact ⟨0, 0, grZero ways, _, _, Nat.zero_le _, rfl, rfl, ⟨by unfold grZero; simp [HN.out], by unfold grZero; simp [HN.out], fun r hr => by unfold grZero at hr; simp at hr; rw [hr.2]; exact Nat.le_refl _, fun r hr => by unfold grZero at hr; simp at hr; rw [hr.2]; exact Nat.le_refl _⟩, by rw [List.drop_zero]; omega, HB1.out, HG.out⟩
    case round =>
      obtain ⟨j, M, g, os, js, hj, rfl, hg, hok, hM, hbr, hgr⟩ := hrel
      by_cases hjl : j < n
      · have hji : (j : Int) < (n : Int) := by omega
        obtain ⟨row, hrow⟩ : ∃ r, ways[j]? = some r := ⟨_, List.getElem?_eq_getElem (by rw [← HN.out]; exact hjl)⟩
        obtain ⟨bb, off, rfl, hbb, hbl, hcells⟩ := HROWS.out (fun e => by have := HN.out; rw [e] at this; simp at this; omega)
        obtain ⟨a0, l0, k0, a1, l1, k1, x2, x3, ev, x5, p0, p1, p2, p3, p4, p5, p6⟩ := hcells j row hrow
        have q0 := (hbr.cell (p := ⟨bb, off + j * 6, none⟩) hbb).trans p0
        have q1 := (hbr.cell (p := ⟨bb, off + j * 6 + 1, none⟩) hbb).trans p1
        have q2 := (hbr.cell (p := ⟨bb, off + j * 6 + 2, none⟩) hbb).trans p2
        have q3 := (hbr.cell (p := ⟨bb, off + j * 6 + 3, none⟩) hbb).trans p3
        have q4 := (hbr.cell (p := ⟨bb, off + j * 6 + 4, none⟩) hbb).trans p4
        have q5 := (hbr.cell (p := ⟨bb, off + j * 6 + 5, none⟩) hbb).trans p5
        have hbl2 := Nat.lt_of_lt_of_le hbl hbr.size
        obtain ⟨ea, ec, rfl, hedge⟩ := p6.form
        have HED := Lib.hid hedge; have HROW := Lib.hid hrow
        have HGG := Lib.hid hg; have HOK := Lib.hid hok; have HMM := Lib.hid hM; have HBR := Lib.hid hbr; have HGR := Lib.hid hgr
        clear hcells p0 p1 p2 p3 p4 p5 p6 hedge hrow hg hok hM hbr hgr hbl
        go_upto_region 6 with (fail)
        have HB2 := Lib.hid (HBR.out.alloc HBR.out.size (.cells #[.slice a0 l0 k0, .slice a1 l1 k1, .int .i64 x2, .int .i64 x3, .slice ea row.length ec, .int .i64 x5] 49))
        have HG2 := Lib.hid (HGR.out.below (w' := wr.alloc (.cells #[.slice a0 l0 k0, .slice a1 l1 k1, .int .i64 x2, .int .i64 x3, .slice ea row.length ec, .int .i64 x5] 49)) ((Below.refl _ _).alloc (Nat.le_refl _) _))
        clear q0 q1 q2 q3 q4 q5 hbl2 HBR HGR
        generalize wr.alloc (.cells #[.slice a0 l0 k0, .slice a1 l1 k1, .int .i64 x2, .int .i64 x3, .slice ea row.length ec, .int .i64 x5] 49) = w2 at *
        have HEDGE := Lib.hid (edges_drop HROW.out)
        have hrl : row.length ≤ 1000000 := Nat.le_trans (row_le HROW.out) he
        go_loopw [30] (fun i wx => ∃ (k : Nat) (g2 : Gr) (os js : List Value), k ≤ row.length ∧ i = .int .i64 k ∧ g2 = (row.take k).foldl (Gr.way j) g ∧ g2.ok n (M + k) ∧ Below w.heap.size w wx ∧ GrAt w.heap.size wx G (.slice (some ⟨og, 0, none⟩) n n) (.slice (some ⟨ig, 0, none⟩) n n) os js g2) (fun i _ => row.length - (intOf i).toNat)
        case atStart => exact ⟨0, g, os, js, Nat.zero_le _, rfl, rfl, HOK.out, HB2.out, HG2.out⟩
        case round =>
          obtain ⟨k, g2, os2, js2, hk, rfl, hg2, hok2, hbx, hgx⟩ := hrel
          by_cases hkl : k < row.length
          · have hki : (k : Int) < (row.length : Int) := by omega
            obtain ⟨eb, eoff, rfl, heb, hebl, hecell⟩ := HED.out (fun e => by rw [e] at hkl; simp at hkl)
            obtain ⟨x, hx⟩ : ∃ x, row[k]? = some x := ⟨_, List.getElem?_eq_getElem hkl⟩
            obtain ⟨ua, ul, uc, e1, e2⟩ := hecell k x hx
            have f1 := (hbx.cell (p := ⟨eb, eoff + k * 2, none⟩) heb).trans e1
            have f2 := (hbx.cell (p := ⟨eb, eoff + k * 2 + 1, none⟩) heb).trans e2
            have hebl2 := Nat.lt_of_lt_of_le hebl hbx.size
            have HFT := Lib.hid (show (row.take (k + 1)).foldl (Gr.way j) g = Gr.way j g2 x from by rw [foldl_take (Gr.way j) g hx, ← hg2])
            have HOK2 := Lib.hid hok2; have HBX := Lib.hid hbx; have HGX := Lib.hid hgx
            have HOK3 := Lib.hid (hok2.way j x)
            clear hecell hx e1 e2 hebl hg2 hok2 hbx hgx
            go_upto_region 8 with (fail)
            have HB3 := Lib.hid (HBX.out.alloc HBX.out.size (.cells #[.int .i64 x, .slice ua ul uc] 51))
            have HG3 := Lib.hid (HGX.out.below (w' := wr.alloc (.cells #[.int .i64 x, .slice ua ul uc] 51)) ((Below.refl _ _).alloc (Nat.le_refl _) _))
            obtain ⟨lb, hlb⟩ : ∃ lb, lb = wr.heap.size := ⟨_, rfl⟩
            have HLB := Lib.hid (show (wr.alloc (.cells #[.int .i64 x, .slice ua ul uc] 51)).heap[lb]? = some (.cells #[.int .i64 x, .slice ua ul uc] 51 (0, 0)) from alloc_at _ _ _ hlb)
            have HLBB := Lib.hid (show w.heap.size ≤ lb from by rw [hlb]; exact HBX.out.size)
            rw [← hlb]
            clear f1 f2 hebl2 HBX HGX hlb
            generalize wr.alloc (.cells #[.int .i64 x, .slice ua ul uc] 51) = w3 at *
            obtain ⟨⟨z1, _⟩, _, z2⟩ := tbox HLB.out
            by_cases hin : 0 ≤ x ∧ x < (n : Int)
            · have HHAS := Lib.hid (show (decide (0 ≤ x) && decide (x < (n : Int))) = true from by simp [hin.1, hin.2])
              obtain ⟨t, ht⟩ : ∃ t : Nat, x = t := ⟨x.toNat, by omega⟩
              subst ht
              have htn : t < n := by omega
              have hti : (t : Int) < (n : Int) := by omega
              have HWAY := Lib.hid (show Gr.way j g2 t = ⟨g2.outs.set j (gr g2.outs j ++ [(t : Int)]), g2.ins.set t (gr g2.ins t ++ [(j : Int)])⟩ from by
                unfold Gr.way
                rw [if_pos (by rw [HOK2.out.ol]; exact hin), Int.toNat_natCast])
              clear hin
              go_upto_region 9 with (go_at_call 18; refine (has_any HG3.out.box _).mono ?_; rintro e w4 ⟨he, rfl⟩; rw [HHAS.out] at he; subst he)
              clear z1 z2
              have hol : os2.length = n := by rw [HG3.out.lo]; exact HOK2.out.ol
              have hjs : js2.length = n := by rw [HG3.out.lj]; exact HOK2.out.jl
              have HJS := Lib.hid hjs
              obtain ⟨h0, hh0⟩ : ∃ u, os2[j]? = some u := ⟨_, List.getElem?_eq_getElem (by rw [hol]; exact hjl)⟩
              obtain ⟨xs, hxs⟩ : ∃ u, g2.outs[j]? = some u := ⟨_, List.getElem?_eq_getElem (by rw [HOK2.out.ol]; exact hjl)⟩
              have hir := HG3.out.orow hh0 hxs
              have hrv := HG3.out.bag.row _ _ _ hir
              obtain ⟨ha, hcap, rfl⟩ := own_form hrv
              have hhd := HG3.out.ho
              rw [hol] at hhd
              have ch := own_cell hhd hh0
              obtain ⟨hwB, hogl⟩ := hhd.lt og rfl
              have hfg : w4.frozen? ⟨og, j, none⟩ = false := by
                obtain ⟨cs, hcs⟩ := own_type hhd (q := og) rfl
                exact Lib.frozen_of_heap hcs j
              have NF := Lib.hid (show some G ≠ (Value.slice ha xs.length hcap).ownBlock from fun e => HG3.out.bag.ne_box HG3.out.box (by decide) hir e.symm rfl)
              have NG := Lib.hid (show some og ≠ (Value.slice ha xs.length hcap).ownBlock from fun e => own_apart hhd hrv (by decide) (q := og) rfl e.symm)
              have NL := Lib.hid (show some lb ≠ (Value.slice ha xs.length hcap).ownBlock from fun e => ne_type hrv HLB.out (by decide) e.symm rfl)
              have NGL := Lib.hid (show lb ≠ og from ne_type hhd HLB.out (by decide) rfl)
              have hxl : xs.length ≤ 1000000 := Nat.le_trans (HOK2.out.om _ (List.mem_of_getElem? hxs)) (by have := HMM.out; have := HEDGE.out; omega)
              obtain ⟨⟨b0, b1⟩, _, hGl⟩ := tbox HG3.out.box
              obtain ⟨⟨z1, _⟩, _, hlbl⟩ := tbox HLB.out
              have hBw : w.heap.size ≤ w4.heap.size := HB3.out.size
              have HRV := Lib.hid hrv; have HH0 := Lib.hid hh0; have HXS := Lib.hid hxs; have HOL := Lib.hid hol
              clear hir hrv hh0 hxs hol hhd hjs
              refine wp_region_by (by kernel_rfl) (oV G og n lb j t xs.length (.slice ha xs.length hcap)) (GX 14 15 17 w.heap.size w4 (.slice ha xs.length hcap) xs (t : Int) og j) (0, 0, 0) (fun _ => rfl) (by kernel_rfl) ?q0 ?qsteps ?qdone
              case q0 => exact GX.start 14 15 17 _ _ _ _ _ _ _ (by simp) (by simp) (by simp) ⟨rfl, rfl, rfl, rfl⟩
              case qdone =>
                intro g5 w' hI
                obtain ⟨w5, hg3, hown, hat, rfl⟩ := hI.fin rfl
                have HG5 := Lib.hid (HG3.out.appout HOL.out HH0.out HXS.out (t : Int) hown hg3 hat)
                have HB5 := Lib.hid (below_put (HB3.out.grown hg3 hBw (fun k hk => (HRV.out.lt k hk).1)) hwB j (.slice (some ⟨g5.2.1, 0, none⟩) (xs.length + 1) g5.2.2))
                have HLB5 := Lib.hid (show (w5.setCell ⟨og, j, none⟩ (.slice (some ⟨g5.2.1, 0, none⟩) (xs.length + 1) g5.2.2)).heap[lb]? = some (.cells #[.int .i64 t, .slice ua ul uc] 51 (0, 0)) from (Below.heap_setCell _ _ _ _ NGL.out).trans ((hg3.block lb hlbl NL.out).trans HLB.out))
                obtain ⟨ga, gb, gc⟩ := g5
                have hgro : gr g2.outs (j : Int) = xs := by unfold gr; rw [Int.toNat_natCast, List.getD_eq_getElem?_getD, HXS.out]; rfl
                have HGRO := Lib.hid hgro
                clear hI hown hg3 hat NF NG NL NGL HRV HH0 HXS HOL ch hwB hogl hfg hxl b0 b1 hGl z1 hlbl hBw HG3 HB3 HLB
                simp only [full, oV, Act.put, List.setIfInBounds_toArray, List.set_cons_zero, List.set_cons_succ]
                generalize w5.setCell ⟨og, j, none⟩ (.slice (some ⟨gb, 0, none⟩) (xs.length + 1) gc) = w6 at *
                generalize os2.set j (Value.slice (some ⟨gb, 0, none⟩) (xs.length + 1) gc) = os3 at *
                obtain ⟨h1, hh1⟩ : ∃ u, js2[t]? = some u := ⟨_, List.getElem?_eq_getElem (by rw [HJS.out]; exact htn)⟩
                obtain ⟨ys, hys⟩ : ∃ u, g2.ins[t]? = some u := ⟨_, List.getElem?_eq_getElem (by rw [HOK2.out.jl]; exact htn)⟩
                have hir := HG5.out.jrow hh1 hys
                have hrv := HG5.out.bag.row _ _ _ hir
                obtain ⟨ka, kcap, rfl⟩ := own_form hrv
                have hhd := HG5.out.hj
                rw [HJS.out] at hhd
                have ch := own_cell hhd hh1
                obtain ⟨hwB, higl⟩ := hhd.lt ig rfl
                have hfg : w6.frozen? ⟨ig, t, none⟩ = false := by
                  obtain ⟨cs, hcs⟩ := own_type hhd (q := ig) rfl
                  exact Lib.frozen_of_heap hcs t
                have NF := Lib.hid (show some G ≠ (Value.slice ka ys.length kcap).ownBlock from fun e => HG5.out.bag.ne_box HG5.out.box (by decide) hir e.symm rfl)
                have NG := Lib.hid (show some ig ≠ (Value.slice ka ys.length kcap).ownBlock from fun e => own_apart hhd hrv (by decide) (q := ig) rfl e.symm)
                have NL := Lib.hid (show some lb ≠ (Value.slice ka ys.length kcap).ownBlock from fun e => ne_type hrv HLB5.out (by decide) e.symm rfl)
                have hyl : ys.length ≤ 1000000 := Nat.le_trans (HOK2.out.jm _ (List.mem_of_getElem? hys)) (by have := HMM.out; have := HEDGE.out; omega)
                obtain ⟨⟨b0, b1⟩, _, hGl⟩ := tbox HG5.out.box
                obtain ⟨⟨z1, _⟩, _, hlbl⟩ := tbox HLB5.out
                have hBw : w.heap.size ≤ w6.heap.size := HB5.out.size
                have HRV := Lib.hid hrv; have HH1 := Lib.hid hh1; have HYS := Lib.hid hys
                clear hir hrv hh1 hys hhd
                go_wp2_with (fail)
                refine wp_region_by (by kernel_rfl) (jV G ig n lb j t ys.length (.slice ka ys.length kcap)) (GX 15 16 18 w.heap.size w6 (.slice ka ys.length kcap) ys (j : Int) ig t) (0, 0, 0) (fun _ => rfl) (by kernel_rfl) ?r0 ?rsteps ?rdone
                case r0 => exact GX.start 15 16 18 _ _ _ _ _ _ _ (by simp) (by simp) (by simp) ⟨rfl, rfl, rfl, rfl⟩
                case rdone =>
                  intro g7 w' hI
                  obtain ⟨w7, hg3, hown, hat, rfl⟩ := hI.fin rfl
                  have hgri : gr g2.ins (t : Int) = ys := by unfold gr; rw [Int.toNat_natCast, List.getD_eq_getElem?_getD, HYS.out]; rfl
                  have HG7 := Lib.hid (HG5.out.appin HJS.out HH1.out HYS.out (j : Int) hown hg3 hat)
                  have HB7 := Lib.hid (below_put (HB5.out.grown hg3 hBw (fun k hk => (HRV.out.lt k hk).1)) hwB t (.slice (some ⟨g7.2.1, 0, none⟩) (ys.length + 1) g7.2.2))
                  obtain ⟨ga', gb', gc'⟩ := g7
                  have HW2 := Lib.hid (show Gr.way j g2 t = ⟨g2.outs.set j (xs ++ [(t : Int)]), g2.ins.set t (ys ++ [(j : Int)])⟩ from by rw [HWAY.out, HGRO.out, hgri])
                  clear hI hown hg3 hat NF NG NL HRV HH1 HYS ch hwB higl hfg hyl b0 b1 hGl z1 hlbl hBw HG5 HB5 HLB5 hgri hgro
                  simp only [full, jV, Act.put, List.setIfInBounds_toArray, List.set_cons_zero, List.set_cons_succ]
                  go_wp2_with (fail)
                  go_roundw
                  case rel => exact ⟨k + 1, Gr.way j g2 t, os3, _, by omega, by go_num, HFT.out.symm, HOK3.out, HB7.out, by rw [HW2.out]; exact HG7.out⟩
                  case measure => simp [intOf]; omega
                case rsteps =>
                  refine (Steps.cons (k' := 1) ?s0 rfl (Steps.cons (k' := 2) ?s1 rfl (Steps.cons (k' := 3) ?s2 rfl (Steps.cons (k' := 4) ?s3 rfl (Steps.cons (k' := 5) ?s4 rfl (Steps.cons (k' := 6) ?s5 rfl (Steps.cons (k' := 7) ?s6 rfl (Steps.cons (k' := 8) ?s7 rfl (Steps.cons (k' := 9) ?s8 rfl (Steps.cons (k' := 10) ?s9 rfl (Steps.cons (k' := 11) ?s10 rfl (Steps.cons (k' := 12) ?s11 rfl (Steps.cons (k' := 13) ?s12 rfl (Steps.cons (k' := 14) ?s13 rfl (Steps.cons (k' := 15) ?s14 rfl (Steps.cons (k' := 16) ?s15 rfl (Steps.cons (k' := 17) ?s16 rfl (Steps.cons (k' := 18) ?s17 rfl (Steps.cons (k' := 19) ?s18 rfl Steps.nil)))))))))))))))))))
                  case s0 =>
                    intro L g w' hL hd hcl hI K hK
                    simp only [full, jV, Act.put, List.setIfInBounds_toArray, List.set_cons_zero, List.set_cons_succ] at hK ⊢
                    have HL := Lib.hid hL; have HD := Lib.hid hd; have HC := Lib.hid hcl; have HJ := Lib.hid hI; have HK := Lib.hid hK
                    clear hL hd hcl hI hK
                    go_simp
                    exact HK.out _ _ g rfl (fun _ _ => rfl) (HJ.out.skip (by decide))
                  case s1 =>
                    intro L g w' hL hd hcl hI K hK
                    simp only [full, jV, Act.put, List.setIfInBounds_toArray, List.set_cons_zero, List.set_cons_succ] at hK ⊢
                    have HL := Lib.hid hL; have HD := Lib.hid hd; have HC := Lib.hid hcl; have HJ := Lib.hid hI; have HK := Lib.hid hK
                    clear hL hd hcl hI hK
                    go_simp
                    exact HK.out _ _ g rfl (fun _ _ => rfl) (HJ.out.skip (by decide))
                  case s2 =>
                    intro L g w' hL hd hcl hI K hK
                    simp only [full, jV, Act.put, List.setIfInBounds_toArray, List.set_cons_zero, List.set_cons_succ] at hK ⊢
                    have HL := Lib.hid hL; have HD := Lib.hid hd; have HC := Lib.hid hcl; have HJ := Lib.hid hI; have HK := Lib.hid hK
                    clear hL hd hcl hI hK
                    go_simp
                    exact HK.out _ _ g rfl (fun _ _ => rfl) (HJ.out.skip (by decide))
                  case s3 =>
                    intro L g w' hL hd hcl hI K hK
                    simp only [full, jV, Act.put, List.setIfInBounds_toArray, List.set_cons_zero, List.set_cons_succ] at hK ⊢
                    have l17 : L 17 = false := hcl.not 17 3 (by kernel_rfl) hL
                    have l18 : L 18 = false := hcl.not 18 17 (by kernel_rfl) l17
                    have hg := hI.held l18
                    have z := (World.cell?_of_block (hg.block G hGl NF.out)).trans b1
                    clear hg
                    have HL := Lib.hid hL; have HD := Lib.hid hd; have HC := Lib.hid hcl; have HJ := Lib.hid hI; have HK := Lib.hid hK
                    clear hL hd hcl hI hK
                    go_simp
                    exact HK.out _ _ g rfl (fun _ _ => rfl) (HJ.out.skip (by decide))
                  case s4 =>
                    intro L g w' hL hd hcl hI K hK
                    simp only [full, jV, Act.put, List.setIfInBounds_toArray, List.set_cons_zero, List.set_cons_succ] at hK ⊢
                    have HL := Lib.hid hL; have HD := Lib.hid hd; have HC := Lib.hid hcl; have HJ := Lib.hid hI; have HK := Lib.hid hK
                    clear hL hd hcl hI hK
                    go_simp
                    exact HK.out _ _ g rfl (fun _ _ => rfl) (HJ.out.skip (by decide))
                  case s5 =>
                    intro L g w' hL hd hcl hI K hK
                    simp only [full, jV, Act.put, List.setIfInBounds_toArray, List.set_cons_zero, List.set_cons_succ] at hK ⊢
                    have l17 : L 17 = false := hcl.not 17 5 (by kernel_rfl) hL
                    have l18 : L 18 = false := hcl.not 18 17 (by kernel_rfl) l17
                    have hg := hI.held l18
                    have z := (World.cell?_of_block (hg.block lb hlbl NL.out)).trans z1
                    clear hg
                    have HL := Lib.hid hL; have HD := Lib.hid hd; have HC := Lib.hid hcl; have HJ := Lib.hid hI; have HK := Lib.hid hK
                    clear hL hd hcl hI hK
                    go_simp
                    exact HK.out _ _ g rfl (fun _ _ => rfl) (HJ.out.skip (by decide))
                  case s6 =>
                    intro L g w' hL hd hcl hI K hK
                    simp only [full, jV, Act.put, List.setIfInBounds_toArray, List.set_cons_zero, List.set_cons_succ] at hK ⊢
                    have HL := Lib.hid hL; have HD := Lib.hid hd; have HC := Lib.hid hcl; have HJ := Lib.hid hI; have HK := Lib.hid hK
                    clear hL hd hcl hI hK
                    go_simp
                    exact HK.out _ _ g rfl (fun _ _ => rfl) (HJ.out.skip (by decide))
                  case s7 =>
                    intro L g w' hL hd hcl hI K hK
                    simp only [full, jV, Act.put, List.setIfInBounds_toArray, List.set_cons_zero, List.set_cons_succ] at hK ⊢
                    have HL := Lib.hid hL; have HD := Lib.hid hd; have HC := Lib.hid hcl; have HJ := Lib.hid hI; have HK := Lib.hid hK
                    clear hL hd hcl hI hK
                    go_simp
                    exact HK.out _ _ g rfl (fun _ _ => rfl) (HJ.out.skip (by decide))
                  case s8 =>
                    intro L g w' hL hd hcl hI K hK
                    simp only [full, jV, Act.put, List.setIfInBounds_toArray, List.set_cons_zero, List.set_cons_succ] at hK ⊢
                    have HL := Lib.hid hL; have HD := Lib.hid hd; have HC := Lib.hid hcl; have HJ := Lib.hid hI; have HK := Lib.hid hK
                    clear hL hd hcl hI hK
                    go_simp
                    exact HK.out _ _ g rfl (fun _ _ => rfl) (HJ.out.skip (by decide))
                  case s9 =>
                    intro L g w' hL hd hcl hI K hK
                    simp only [full, jV, Act.put, List.setIfInBounds_toArray, List.set_cons_zero, List.set_cons_succ] at hK ⊢
                    have l12 : L 12 = false := hcl.not 12 9 (by kernel_rfl) hL
                    have l13 : L 13 = false := hcl.not 13 12 (by kernel_rfl) l12
                    have l16 : L 16 = false := hcl.not 16 13 (by kernel_rfl) l13
                    have l18 : L 18 = false := hcl.not 18 16 (by kernel_rfl) l16
                    have hg := hI.held l18
                    have z := (World.cell?_of_block (hg.block G hGl NF.out)).trans b1
                    clear hg
                    have HL := Lib.hid hL; have HD := Lib.hid hd; have HC := Lib.hid hcl; have HJ := Lib.hid hI; have HK := Lib.hid hK
                    clear hL hd hcl hI hK
                    go_simp
                    exact HK.out _ _ g rfl (fun _ _ => rfl) (HJ.out.skip (by decide))
                  case s10 =>
                    intro L g w' hL hd hcl hI K hK
                    simp only [full, jV, Act.put, List.setIfInBounds_toArray, List.set_cons_zero, List.set_cons_succ] at hK ⊢
                    have HL := Lib.hid hL; have HD := Lib.hid hd; have HC := Lib.hid hcl; have HJ := Lib.hid hI; have HK := Lib.hid hK
                    clear hL hd hcl hI hK
                    go_simp
                    exact HK.out _ _ g rfl (fun _ _ => rfl) (HJ.out.skip (by decide))
                  case s11 =>
                    intro L g w' hL hd hcl hI K hK
                    simp only [full, jV, Act.put, List.setIfInBounds_toArray, List.set_cons_zero, List.set_cons_succ] at hK ⊢
                    have l12 : L 12 = false := hcl.not 12 11 (by kernel_rfl) hL
                    have l13 : L 13 = false := hcl.not 13 12 (by kernel_rfl) l12
                    have l16 : L 16 = false := hcl.not 16 13 (by kernel_rfl) l13
                    have l18 : L 18 = false := hcl.not 18 16 (by kernel_rfl) l16
                    have hg := hI.held l18
                    have z := (World.cell?_of_block (hg.block lb hlbl NL.out)).trans z1
                    clear hg
                    have HL := Lib.hid hL; have HD := Lib.hid hd; have HC := Lib.hid hcl; have HJ := Lib.hid hI; have HK := Lib.hid hK
                    clear hL hd hcl hI hK
                    go_simp
                    exact HK.out _ _ g rfl (fun _ _ => rfl) (HJ.out.skip (by decide))
                  case s12 =>
                    intro L g w' hL hd hcl hI K hK
                    simp only [full, jV, Act.put, List.setIfInBounds_toArray, List.set_cons_zero, List.set_cons_succ] at hK ⊢
                    have HL := Lib.hid hL; have HD := Lib.hid hd; have HC := Lib.hid hcl; have HJ := Lib.hid hI; have HK := Lib.hid hK
                    clear hL hd hcl hI hK
                    go_simp
                    exact HK.out _ _ g rfl (fun _ _ => rfl) (HJ.out.skip (by decide))
                  case s13 =>
                    intro L g w' hL hd hcl hI K hK
                    simp only [full, jV, Act.put, List.setIfInBounds_toArray, List.set_cons_zero, List.set_cons_succ] at hK ⊢
                    have l16 : L 16 = false := hcl.not 16 13 (by kernel_rfl) hL
                    have l18 : L 18 = false := hcl.not 18 16 (by kernel_rfl) l16
                    have hg := hI.held l18
                    have z := (World.cell?_of_block (hg.block ig higl NG.out)).trans ch
                    clear hg
                    have HL := Lib.hid hL; have HD := Lib.hid hd; have HC := Lib.hid hcl; have HJ := Lib.hid hI; have HK := Lib.hid hK
                    clear hL hd hcl hI hK
                    go_simp
                    exact HK.out _ _ g rfl (fun _ _ => rfl) (HJ.out.skip (by decide))
                  case s14 =>
                    intro L g w' hL hd hcl hI K hK
                    simp only [full, jV, Act.put, List.setIfInBounds_toArray, List.set_cons_zero, List.set_cons_succ] at hK ⊢
                    have HL := Lib.hid hL; have HD := Lib.hid hd; have HC := Lib.hid hcl; have HJ := Lib.hid hI; have HK := Lib.hid hK
                    clear hL hd hcl hI hK
                    go_simp
                    exact HK.out _ _ g rfl (fun _ _ => rfl) (HJ.out.skip (by decide))
                  case s15 =>
                    intro L g w' hL hd hcl hI K hK
                    simp only [full, jV, Act.put, List.setIfInBounds_toArray, List.set_cons_zero, List.set_cons_succ] at hK ⊢
                    have l16 : L 16 = false := hcl.not 16 15 (by kernel_rfl) hL
                    have l18 : L 18 = false := hcl.not 18 16 (by kernel_rfl) l16
                    have HL := Lib.hid hL; have HD := Lib.hid hd; have HC := Lib.hid hcl; have HJ := Lib.hid hI; have HK := Lib.hid hK
                    clear hL hd hcl hI hK
                    go_simp
                    exact HK.out _ _ (w'.heap.size, g.2.1, g.2.2) rfl (set_get 15 HL.out rfl) (HJ.out.build (by decide) (by decide) l16 l18)
                  case s16 =>
                    intro L g w' hL hd hcl hI K hK
                    simp only [full, jV, Act.put, List.setIfInBounds_toArray, List.set_cons_zero, List.set_cons_succ] at hK ⊢
                    have l18 : L 18 = false := hcl.not 18 16 (by kernel_rfl) hL
                    have l15 : L 15 = true := dep_of hd 15 (by kernel_rfl)
                    have HL := Lib.hid hL; have HD := Lib.hid hd; have HC := Lib.hid hcl; have HJ := Lib.hid hI; have HK := Lib.hid hK
                    clear hL hd hcl hI hK
                    rw [if_pos (by rfl)]
                    refine wp_append_lies _ (.tmp 68) (.tmp 70) 35 ?eo w.heap.size 3 i0 (.int .i64 0) 1 8 Try.underlying35 HI.out HZ0.out HZ1.out HZ2.out rfl (by decide) (.slice ka ys.length kcap) ys.length (ys.map iV) ?e1 ?hown ⟨g.1, 0, none⟩ 1 1 [.int .i64 j] ?e2 rfl ?hnews (one_int _) (by decide) ?h63 ?hby ?hba w'.heap.size rfl ?_
                    case eo => rfl
                    case e1 => rfl
                    case e2 => rfl
                    case hown => exact own_keep HRV.out (fun q hq => (HJ.out.pre HL.out).block q (HRV.out.lt q hq).2)
                    case hnews => exact World.news_of_block (cs := #[.int .i64 j]) (HJ.out.made l15 HL.out).2
                    case h63 => unfold maxLen; omega
                    case hby => omega
                    case hba => exact Nat.le_trans hBw (HJ.out.pre HL.out).size
                    intro b2 cap2 wq hownq hgrq hatq hltq
                    simp only [Act.put, List.setIfInBounds_toArray, List.set_cons_zero, List.set_cons_succ]
                    exact HK.out _ _ (g.1, b2, cap2) rfl (set_get 16 HL.out rfl) (HJ.out.append (by decide) HL.out l18 hownq hgrq hatq)
                  case s17 =>
                    intro L g w' hL hd hcl hI K hK
                    simp only [full, jV, Act.put, List.setIfInBounds_toArray, List.set_cons_zero, List.set_cons_succ] at hK ⊢
                    have HL := Lib.hid hL; have HD := Lib.hid hd; have HC := Lib.hid hcl; have HJ := Lib.hid hI; have HK := Lib.hid hK
                    clear hL hd hcl hI hK
                    go_simp
                    exact HK.out _ _ g rfl (fun _ _ => rfl) (HJ.out.skip (by decide))
                  case s18 =>
                    intro L g w' hL hd hcl hI K hK
                    simp only [full, jV, Act.put, List.setIfInBounds_toArray, List.set_cons_zero, List.set_cons_succ] at hK ⊢
                    have l16 : L 16 = true := dep_of hd 16 (by kernel_rfl)
                    have hg := hI.held hL
                    have z := (World.frozen?_of_block (hg.block ig higl NG.out)).trans hfg
                    have z2 := Nat.lt_of_lt_of_le higl hg.size
                    have z3 := (World.cell?_of_block (hg.block ig higl NG.out)).trans ch
                    clear hg
                    have HL := Lib.hid hL; have HD := Lib.hid hd; have HC := Lib.hid hcl; have HJ := Lib.hid hI; have HK := Lib.hid hK
                    clear hL hd hcl hI hK
                    go_simp
                    exact HK.out _ _ g rfl (fun _ _ => rfl) (HJ.out.store (by decide) l16 HL.out)
              case qsteps =>
                refine (Steps.cons (k' := 1) ?s0 rfl (Steps.cons (k' := 2) ?s1 rfl (Steps.cons (k' := 3) ?s2 rfl (Steps.cons (k' := 4) ?s3 rfl (Steps.cons (k' := 5) ?s4 rfl (Steps.cons (k' := 6) ?s5 rfl (Steps.cons (k' := 7) ?s6 rfl (Steps.cons (k' := 8) ?s7 rfl (Steps.cons (k' := 9) ?s8 rfl (Steps.cons (k' := 10) ?s9 rfl (Steps.cons (k' := 11) ?s10 rfl (Steps.cons (k' := 12) ?s11 rfl (Steps.cons (k' := 13) ?s12 rfl (Steps.cons (k' := 14) ?s13 rfl (Steps.cons (k' := 15) ?s14 rfl (Steps.cons (k' := 16) ?s15 rfl (Steps.cons (k' := 17) ?s16 rfl (Steps.cons (k' := 18) ?s17 rfl Steps.nil))))))))))))))))))
                case s0 =>
                  intro L g w' hL hd hcl hI K hK
                  simp only [full, oV, Act.put, List.setIfInBounds_toArray, List.set_cons_zero, List.set_cons_succ] at hK ⊢
                  have HL := Lib.hid hL; have HD := Lib.hid hd; have HC := Lib.hid hcl; have HJ := Lib.hid hI; have HK := Lib.hid hK
                  clear hL hd hcl hI hK
                  go_simp
                  exact HK.out _ _ g rfl (fun _ _ => rfl) (HJ.out.skip (by decide))
                case s1 =>
                  intro L g w' hL hd hcl hI K hK
                  simp only [full, oV, Act.put, List.setIfInBounds_toArray, List.set_cons_zero, List.set_cons_succ] at hK ⊢
                  have HL := Lib.hid hL; have HD := Lib.hid hd; have HC := Lib.hid hcl; have HJ := Lib.hid hI; have HK := Lib.hid hK
                  clear hL hd hcl hI hK
                  go_simp
                  exact HK.out _ _ g rfl (fun _ _ => rfl) (HJ.out.skip (by decide))
                case s2 =>
                  intro L g w' hL hd hcl hI K hK
                  simp only [full, oV, Act.put, List.setIfInBounds_toArray, List.set_cons_zero, List.set_cons_succ] at hK ⊢
                  have HL := Lib.hid hL; have HD := Lib.hid hd; have HC := Lib.hid hcl; have HJ := Lib.hid hI; have HK := Lib.hid hK
                  clear hL hd hcl hI hK
                  go_simp
                  exact HK.out _ _ g rfl (fun _ _ => rfl) (HJ.out.skip (by decide))
                case s3 =>
                  intro L g w' hL hd hcl hI K hK
                  simp only [full, oV, Act.put, List.setIfInBounds_toArray, List.set_cons_zero, List.set_cons_succ] at hK ⊢
                  have l16 : L 16 = false := hcl.not 16 3 (by kernel_rfl) hL
                  have l17 : L 17 = false := hcl.not 17 16 (by kernel_rfl) l16
                  have hg := hI.held l17
                  have z := (World.cell?_of_block (hg.block G hGl NF.out)).trans b0
                  clear hg
                  have HL := Lib.hid hL; have HD := Lib.hid hd; have HC := Lib.hid hcl; have HJ := Lib.hid hI; have HK := Lib.hid hK
                  clear hL hd hcl hI hK
                  go_simp
                  exact HK.out _ _ g rfl (fun _ _ => rfl) (HJ.out.skip (by decide))
                case s4 =>
                  intro L g w' hL hd hcl hI K hK
                  simp only [full, oV, Act.put, List.setIfInBounds_toArray, List.set_cons_zero, List.set_cons_succ] at hK ⊢
                  have HL := Lib.hid hL; have HD := Lib.hid hd; have HC := Lib.hid hcl; have HJ := Lib.hid hI; have HK := Lib.hid hK
                  clear hL hd hcl hI hK
                  go_simp
                  exact HK.out _ _ g rfl (fun _ _ => rfl) (HJ.out.skip (by decide))
                case s5 =>
                  intro L g w' hL hd hcl hI K hK
                  simp only [full, oV, Act.put, List.setIfInBounds_toArray, List.set_cons_zero, List.set_cons_succ] at hK ⊢
                  have HL := Lib.hid hL; have HD := Lib.hid hd; have HC := Lib.hid hcl; have HJ := Lib.hid hI; have HK := Lib.hid hK
                  clear hL hd hcl hI hK
                  go_simp
                  exact HK.out _ _ g rfl (fun _ _ => rfl) (HJ.out.skip (by decide))
                case s6 =>
                  intro L g w' hL hd hcl hI K hK
                  simp only [full, oV, Act.put, List.setIfInBounds_toArray, List.set_cons_zero, List.set_cons_succ] at hK ⊢
                  have HL := Lib.hid hL; have HD := Lib.hid hd; have HC := Lib.hid hcl; have HJ := Lib.hid hI; have HK := Lib.hid hK
                  clear hL hd hcl hI hK
                  go_simp
                  exact HK.out _ _ g rfl (fun _ _ => rfl) (HJ.out.skip (by decide))
                case s7 =>
                  intro L g w' hL hd hcl hI K hK
                  simp only [full, oV, Act.put, List.setIfInBounds_toArray, List.set_cons_zero, List.set_cons_succ] at hK ⊢
                  have HL := Lib.hid hL; have HD := Lib.hid hd; have HC := Lib.hid hcl; have HJ := Lib.hid hI; have HK := Lib.hid hK
                  clear hL hd hcl hI hK
                  go_simp
                  exact HK.out _ _ g rfl (fun _ _ => rfl) (HJ.out.skip (by decide))
                case s8 =>
                  intro L g w' hL hd hcl hI K hK
                  simp only [full, oV, Act.put, List.setIfInBounds_toArray, List.set_cons_zero, List.set_cons_succ] at hK ⊢
                  have l10 : L 10 = false := hcl.not 10 8 (by kernel_rfl) hL
                  have l11 : L 11 = false := hcl.not 11 10 (by kernel_rfl) l10
                  have l15 : L 15 = false := hcl.not 15 11 (by kernel_rfl) l11
                  have l17 : L 17 = false := hcl.not 17 15 (by kernel_rfl) l15
                  have hg := hI.held l17
                  have z := (World.cell?_of_block (hg.block G hGl NF.out)).trans b0
                  clear hg
                  have HL := Lib.hid hL; have HD := Lib.hid hd; have HC := Lib.hid hcl; have HJ := Lib.hid hI; have HK := Lib.hid hK
                  clear hL hd hcl hI hK
                  go_simp
                  exact HK.out _ _ g rfl (fun _ _ => rfl) (HJ.out.skip (by decide))
                case s9 =>
                  intro L g w' hL hd hcl hI K hK
                  simp only [full, oV, Act.put, List.setIfInBounds_toArray, List.set_cons_zero, List.set_cons_succ] at hK ⊢
                  have HL := Lib.hid hL; have HD := Lib.hid hd; have HC := Lib.hid hcl; have HJ := Lib.hid hI; have HK := Lib.hid hK
                  clear hL hd hcl hI hK
                  go_simp
                  exact HK.out _ _ g rfl (fun _ _ => rfl) (HJ.out.skip (by decide))
                case s10 =>
                  intro L g w' hL hd hcl hI K hK
                  simp only [full, oV, Act.put, List.setIfInBounds_toArray, List.set_cons_zero, List.set_cons_succ] at hK ⊢
                  have HL := Lib.hid hL; have HD := Lib.hid hd; have HC := Lib.hid hcl; have HJ := Lib.hid hI; have HK := Lib.hid hK
                  clear hL hd hcl hI hK
                  go_simp
                  exact HK.out _ _ g rfl (fun _ _ => rfl) (HJ.out.skip (by decide))
                case s11 =>
                  intro L g w' hL hd hcl hI K hK
                  simp only [full, oV, Act.put, List.setIfInBounds_toArray, List.set_cons_zero, List.set_cons_succ] at hK ⊢
                  have l15 : L 15 = false := hcl.not 15 11 (by kernel_rfl) hL
                  have l17 : L 17 = false := hcl.not 17 15 (by kernel_rfl) l15
                  have hg := hI.held l17
                  have z := (World.cell?_of_block (hg.block og hogl NG.out)).trans ch
                  clear hg
                  have HL := Lib.hid hL; have HD := Lib.hid hd; have HC := Lib.hid hcl; have HJ := Lib.hid hI; have HK := Lib.hid hK
                  clear hL hd hcl hI hK
                  go_simp
                  exact HK.out _ _ g rfl (fun _ _ => rfl) (HJ.out.skip (by decide))
                case s12 =>
                  intro L g w' hL hd hcl hI K hK
                  simp only [full, oV, Act.put, List.setIfInBounds_toArray, List.set_cons_zero, List.set_cons_succ] at hK ⊢
                  have HL := Lib.hid hL; have HD := Lib.hid hd; have HC := Lib.hid hcl; have HJ := Lib.hid hI; have HK := Lib.hid hK
                  clear hL hd hcl hI hK
                  go_simp
                  exact HK.out _ _ g rfl (fun _ _ => rfl) (HJ.out.skip (by decide))
                case s13 =>
                  intro L g w' hL hd hcl hI K hK
                  simp only [full, oV, Act.put, List.setIfInBounds_toArray, List.set_cons_zero, List.set_cons_succ] at hK ⊢
                  have l14 : L 14 = false := hcl.not 14 13 (by kernel_rfl) hL
                  have l15 : L 15 = false := hcl.not 15 14 (by kernel_rfl) l14
                  have l17 : L 17 = false := hcl.not 17 15 (by kernel_rfl) l15
                  have hg := hI.held l17
                  have z := (World.cell?_of_block (hg.block lb hlbl NL.out)).trans z1
                  clear hg
                  have HL := Lib.hid hL; have HD := Lib.hid hd; have HC := Lib.hid hcl; have HJ := Lib.hid hI; have HK := Lib.hid hK
                  clear hL hd hcl hI hK
                  go_simp
                  exact HK.out _ _ g rfl (fun _ _ => rfl) (HJ.out.skip (by decide))
                case s14 =>
                  intro L g w' hL hd hcl hI K hK
                  simp only [full, oV, Act.put, List.setIfInBounds_toArray, List.set_cons_zero, List.set_cons_succ] at hK ⊢
                  have l15 : L 15 = false := hcl.not 15 14 (by kernel_rfl) hL
                  have l17 : L 17 = false := hcl.not 17 15 (by kernel_rfl) l15
                  have HL := Lib.hid hL; have HD := Lib.hid hd; have HC := Lib.hid hcl; have HJ := Lib.hid hI; have HK := Lib.hid hK
                  clear hL hd hcl hI hK
                  go_simp
                  exact HK.out _ _ (w'.heap.size, g.2.1, g.2.2) rfl (set_get 14 HL.out rfl) (HJ.out.build (by decide) (by decide) l15 l17)
                case s15 =>
                  intro L g w' hL hd hcl hI K hK
                  simp only [full, oV, Act.put, List.setIfInBounds_toArray, List.set_cons_zero, List.set_cons_succ] at hK ⊢
                  have l17 : L 17 = false := hcl.not 17 15 (by kernel_rfl) hL
                  have l14 : L 14 = true := dep_of hd 14 (by kernel_rfl)
                  have HL := Lib.hid hL; have HD := Lib.hid hd; have HC := Lib.hid hcl; have HJ := Lib.hid hI; have HK := Lib.hid hK
                  clear hL hd hcl hI hK
                  rw [if_pos (by rfl)]
                  refine wp_append_lies _ (.tmp 49) (.tmp 52) 35 ?eo w.heap.size 3 i0 (.int .i64 0) 1 8 Try.underlying35 HI.out HZ0.out HZ1.out HZ2.out rfl (by decide) (.slice ha xs.length hcap) xs.length (xs.map iV) ?e1 ?hown ⟨g.1, 0, none⟩ 1 1 [.int .i64 t] ?e2 rfl ?hnews (one_int _) (by decide) ?h63 ?hby ?hba w'.heap.size rfl ?_
                  case eo => rfl
                  case e1 => rfl
                  case e2 => rfl
                  case hown => exact own_keep HRV.out (fun q hq => (HJ.out.pre HL.out).block q (HRV.out.lt q hq).2)
                  case hnews => exact World.news_of_block (cs := #[.int .i64 t]) (HJ.out.made l14 HL.out).2
                  case h63 => unfold maxLen; omega
                  case hby => omega
                  case hba => exact Nat.le_trans hBw (HJ.out.pre HL.out).size
                  intro b2 cap2 wq hownq hgrq hatq hltq
                  simp only [Act.put, List.setIfInBounds_toArray, List.set_cons_zero, List.set_cons_succ]
                  exact HK.out _ _ (g.1, b2, cap2) rfl (set_get 15 HL.out rfl) (HJ.out.append (by decide) HL.out l17 hownq hgrq hatq)
                case s16 =>
                  intro L g w' hL hd hcl hI K hK
                  simp only [full, oV, Act.put, List.setIfInBounds_toArray, List.set_cons_zero, List.set_cons_succ] at hK ⊢
                  have HL := Lib.hid hL; have HD := Lib.hid hd; have HC := Lib.hid hcl; have HJ := Lib.hid hI; have HK := Lib.hid hK
                  clear hL hd hcl hI hK
                  go_simp
                  exact HK.out _ _ g rfl (fun _ _ => rfl) (HJ.out.skip (by decide))
                case s17 =>
                  intro L g w' hL hd hcl hI K hK
                  simp only [full, oV, Act.put, List.setIfInBounds_toArray, List.set_cons_zero, List.set_cons_succ] at hK ⊢
                  have l15 : L 15 = true := dep_of hd 15 (by kernel_rfl)
                  have hg := hI.held hL
                  have z := (World.frozen?_of_block (hg.block og hogl NG.out)).trans hfg
                  have z2 := Nat.lt_of_lt_of_le hogl hg.size
                  have z3 := (World.cell?_of_block (hg.block og hogl NG.out)).trans ch
                  clear hg
                  have HL := Lib.hid hL; have HD := Lib.hid hd; have HC := Lib.hid hcl; have HJ := Lib.hid hI; have HK := Lib.hid hK
                  clear hL hd hcl hI hK
                  go_simp
                  exact HK.out _ _ g rfl (fun _ _ => rfl) (HJ.out.store (by decide) l15 HL.out)
            · have HHAS := Lib.hid (show (decide (0 ≤ x) && decide (x < (n : Int))) = false from by
                by_cases h : 0 ≤ x
                · have h2 : ¬ x < (n : Int) := fun h3 => hin ⟨h, h3⟩
                  rw [decide_eq_false h2, Bool.and_false]
                · rw [decide_eq_false h, Bool.false_and])
              have HWAY := Lib.hid (show Gr.way j g2 x = g2 from by
                unfold Gr.way
                rw [if_neg (by rw [HOK2.out.ol]; exact hin)])
              clear hin
              go_wp2_with (go_at_call 18; refine (has_any HG3.out.box _).mono ?_; rintro e w4 ⟨he, rfl⟩; rw [HHAS.out] at he; subst he)
              go_roundw
              case rel => exact ⟨k + 1, g2, os2, js2, by omega, by go_num, by rw [HFT.out, HWAY.out], by have := HOK3.out; rw [HWAY.out] at this; exact this, HB3.out, HG3.out⟩
              case measure => simp [intOf]; omega
          · obtain rfl : k = row.length := by omega
            have HBX := Lib.hid hbx; have HGX := Lib.hid hgx; have HOK2 := Lib.hid hok2
            have HNX := Lib.hid (show g2 = (ways.zipIdx.take (j + 1)).foldl grStep (grZero ways) from by
              rw [foldl_take grStep (grZero ways) (zip_idx HROW.out), ← HGG.out, hg2, List.take_length]
              rfl)
            clear hg2 hok2 hbx hgx hk
            go_wp2_with (fail)
            go_roundw
            case rel => exact ⟨j + 1, M + row.length, g2, os2, js2, by omega, by go_num, HNX.out, HOK2.out, by have := HMM.out; have := HEDGE.out; omega, HBX.out, HGX.out⟩
            case measure => simp [intOf]; omega
      · obtain rfl : n = j := by omega
        have hE : g = graphL ways := by rw [graphL_eq, ← HN.out]; exact hg
        have HGR := Lib.hid hgr; have HBR := Lib.hid hbr; have HE := Lib.hid hE
        clear hg hgr hbr hok hM hE
        go_wp2_with (fail)
        go_ret
        rw [← HE.out]
        exact ⟨_, _, _, _, _, rfl, HBR.out, HGR.out⟩
end Go.Proofs.Ytipongpgmbhpkaa
