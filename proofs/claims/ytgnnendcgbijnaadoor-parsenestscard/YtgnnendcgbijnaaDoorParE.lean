/-
  The parser: two expressions joined by a mark, whichever it is.
-/
import Derived.Test.YtgnnendcgbijnaaDoorParD
namespace Go.Proofs.YtgnnendcgbijnaaDoor
open Go.ChangeShapes Go.WideShapes Go.ChangeAt Go.RowKit
set_option linter.unusedVariables false

/-- What a block of seven cells holds, cell by cell. -/
theorem seven {w : World} {k : Nat} {a b c d e f g : Value} {t : TypeId} (h : w.heap[k]? = some (.cells #[a, b, c, d, e, f, g] t (0, 0))) :
    (w.cell? ⟨k, 0, none⟩ = some a ∧ w.cell? ⟨k, 1, none⟩ = some b ∧ w.cell? ⟨k, 2, none⟩ = some c ∧ w.cell? ⟨k, 3, none⟩ = some d ∧ w.cell? ⟨k, 4, none⟩ = some e ∧ w.cell? ⟨k, 5, none⟩ = some f ∧ w.cell? ⟨k, 6, none⟩ = some g) ∧
    w.frozen? ⟨k, 0, none⟩ = false ∧ w.frozen? ⟨k, 1, none⟩ = false ∧ w.frozen? ⟨k, 2, none⟩ = false ∧ w.frozen? ⟨k, 3, none⟩ = false ∧ w.frozen? ⟨k, 4, none⟩ = false ∧ w.frozen? ⟨k, 5, none⟩ = false ∧ w.frozen? ⟨k, 6, none⟩ = false := by
  refine ⟨⟨?_, ?_, ?_, ?_, ?_, ?_, ?_⟩, Lib.frozen_of_heap h 0, Lib.frozen_of_heap h 1, Lib.frozen_of_heap h 2, Lib.frozen_of_heap h 3, Lib.frozen_of_heap h 4, Lib.frozen_of_heap h 5, Lib.frozen_of_heap h 6⟩ <;> (rw [Lib.cell_of_heap h]; rfl)
theorem Ex.At.but {w w' : World} {S : Nat → Prop} {r : Nat} {e : Ex} {cs : Array Value} (h : e.At w (fun g => S g ∧ g ≠ r) cs) (hk : ∀ k, k ≠ r → w'.heap[k]? = w.heap[k]?) : e.At w' S cs :=
  Ex.At.keep (fun _ h _ => h.1) (fun g hS _ o => World.cell?_of_block (hk g hS.2)) e cs h
theorem grown_new {r : Nat} {w w' w'' : World} (h : w.grownBy w' none) (hr : w.heap.size ≤ r) (hk : ∀ k, k ≠ r → w''.heap[k]? = w'.heap[k]?) (hs : w''.heap.size = w'.heap.size) (h1 : w''.os = w'.os) (h2 : w''.tape = w'.tape) (h3 : w''.output = w'.output) : w.grownBy w'' none :=
  ⟨h1.trans h.os, h2.trans h.tape, h3.trans h.output, by rw [hs]; exact h.size, fun k hlt hne => (hk k (by omega)).trans (h.block k hlt hne)⟩

/-- Only block r's cells have turned. -/
structure Sets (r : Nat) (w w' : World) : Prop where
  keep : ∀ k, k ≠ r → w'.heap[k]? = w.heap[k]?
  size : w'.heap.size = w.heap.size
  os : w'.os = w.os
  tape : w'.tape = w.tape
  output : w'.output = w.output
theorem Sets.refl (r : Nat) (w : World) : Sets r w w := ⟨fun _ _ => rfl, rfl, rfl, rfl, rfl⟩
theorem Sets.set {r : Nat} {w w' : World} (h : Sets r w w') (j : Nat) (v : Value) : Sets r w (w'.setCell ⟨r, j, none⟩ v) :=
  ⟨fun k hk => (Below.heap_setCell _ _ _ _ hk).trans (h.keep k hk), by have := h.size; simpa using this, h.os, h.tape, h.output⟩
theorem made_of {S : Nat → Prop} {w w5 w6 : World} {r : Nat} {ex : Ex} {cs : Array Value} (hs : Sets r w5 w6) (hat : ex.At w5 (fun g => S g ∧ g ≠ r) cs) (hg : w.grownBy w5 none) (hr : w.heap.size ≤ r) : MadePost S ex w (.returned (.agg cs)) w6 :=
  ⟨cs, rfl, hat.but hs.keep, grown_new hg hr hs.keep hs.size hs.os hs.tape hs.output⟩

def joinedL (t : Tok) (a b : Ex) : Ex :=
  if t.text = [124, 124] then .mk 8 t.line t.col 0 [] 0 [a, b]
  else if t.text = [38, 38] then .mk 7 t.line t.col 0 [] 0 [a, b]
  else if t.text = [62] then .mk 6 t.line t.col 0 [] 13 [b, a]
  else if t.text = [62, 61] then .mk 6 t.line t.col 0 [] 14 [b, a]
  else .mk 6 t.line t.col 0 [] (writtenL t.text) [a, b]

theorem writtenFrom_in (x : List UInt8) : ∀ (n : Nat) (o : Int), 1 ≤ o → o + n ≤ 16 → 1 ≤ writtenFrom x n o ∧ writtenFrom x n o ≤ 16
  | 0, o, h, h' => by rw [writtenFrom]; omega
  | n + 1, o, h, h' => by
    rw [writtenFrom]
    split
    · exact writtenFrom_in x n (o + 1) (by omega) (by omega)
    · omega
theorem written_in (x : List UInt8) : InI64 (writtenL x) := by
  have := writtenFrom_in x 15 1 (by omega) (by omega)
  unfold writtenL InI64
  omega

set_option maxHeartbeats 2000000 in
set_option maxRecDepth 100000 in
theorem joined_any (S : Nat → Prop) (t : Tok) (a b : Ex) (ca cb : Array Value) (w : World) (hS : ∀ g, w.heap.size ≤ g → S g) (ha : a.At w S ca) (hb : b.At w S cb) (hsg : Signs w) :
    Calls Tryd.prog 85 #[tokAgg t, .agg ca, .agg cb] w (MadePost S (joinedL t a b) w) := by
  obtain ⟨k1, l1, c1, n1, m1, o1, a1, b1, d1, rfl⟩ := ha.cells
  obtain ⟨k2, l2, c2, n2, m2, o2, a2, b2, d2, rfl⟩ := hb.cells
  obtain ⟨kd, tx, nm, ln, cl⟩ := t
  have HA := Lib.hid ha; have HB := Lib.hid hb; have HS := Lib.hid hS; have HG := Lib.hid hsg
  clear ha hb hS hsg
  unfold cells7 tokAgg
  simp only
  by_cases h1 : tx = [124, 124]
  · subst h1
    have HJ := Lib.hid (show joinedL ⟨kd, [124, 124], nm, ln, cl⟩ a b = .mk 8 ln cl 0 [] 0 [a, b] from rfl)
    go_enter Tryd.func85, Tryd.ntmps85
    go_wp2_with (fail)
    refine bodyPost_ret (v := .agg (cells7 8 ln cl 0 [] 0 (.slice (some ⟨w.heap.size + 1 + 1 + 1 + 1, 0, none⟩) 2 2))) (by simp [results, Tryd.results85, go_sem, cells7]) rfl ?_
    rw [HJ.out]
    refine made_two (k := w.heap.size + 1 + 1 + 1 + 1) (ca := cells7 k1 l1 c1 n1 m1 o1 (.slice a1 b1 d1)) (cb := cells7 k2 l2 c2 n2 m2 o2 (.slice a2 b2 d2)) ?_ ?_ (HS.out _ (by omega)) HA.out HB.out in0 in0
    · repeat (first | with_reducible (exact grown_alloc _ _) | with_reducible (refine grown_trans ?_ (grown_alloc _ _)))
    · exact alloc_at _ _ _ (by simp)
  by_cases h2 : tx = [38, 38]
  · subst h2
    have HJ := Lib.hid (show joinedL ⟨kd, [38, 38], nm, ln, cl⟩ a b = .mk 7 ln cl 0 [] 0 [a, b] from rfl)
    clear h1
    go_enter Tryd.func85, Tryd.ntmps85
    go_wp2_with (fail)
    refine bodyPost_ret (v := .agg (cells7 7 ln cl 0 [] 0 (.slice (some ⟨w.heap.size + 1 + 1 + 1 + 1, 0, none⟩) 2 2))) (by simp [results, Tryd.results85, go_sem, cells7]) rfl ?_
    rw [HJ.out]
    refine made_two (k := w.heap.size + 1 + 1 + 1 + 1) (ca := cells7 k1 l1 c1 n1 m1 o1 (.slice a1 b1 d1)) (cb := cells7 k2 l2 c2 n2 m2 o2 (.slice a2 b2 d2)) ?_ ?_ (HS.out _ (by omega)) HA.out HB.out in0 in0
    · repeat (first | with_reducible (exact grown_alloc _ _) | with_reducible (refine grown_trans ?_ (grown_alloc _ _)))
    · exact alloc_at _ _ _ (by simp)
  have f1 : (tx == [124, 124]) = false := by simpa using h1
  have f2 : (tx == [38, 38]) = false := by simpa using h2
  by_cases h3 : tx = [62]
  · subst h3
    have HJ := Lib.hid (show joinedL ⟨kd, [62], nm, ln, cl⟩ a b = .mk 6 ln cl 0 [] 13 [b, a] from rfl)
    clear h1 h2 f1 f2
    go_enter Tryd.func85, Tryd.ntmps85
    go_wp2_with (fail)
    have hg4 : w.grownBy ((((w.alloc (.cells #[.int .i64 kd, .string ⟨#[62]⟩, .int .i64 nm, .int .i64 ln, .int .i64 cl] 68)).alloc (.cells (cells7 k1 l1 c1 n1 m1 o1 (.slice a1 b1 d1)) 51)).alloc (.cells (cells7 k2 l2 c2 n2 m2 o2 (.slice a2 b2 d2)) 51)).alloc (.cells (cells7 0 0 0 0 [] 0 (.slice none 0 0)) 51)) none :=
      grown_trans (grown_trans (grown_trans (grown_alloc _ _) (grown_alloc _ _)) (grown_alloc _ _)) (grown_alloc _ _)
    have HG4 := Lib.hid hg4
    clear hg4
    refine (both_any (fun g => S g ∧ g ≠ w.heap.size + 1 + 1 + 1) 13 ln cl ⟨by decide, by decide⟩ b a (cells7 k2 l2 c2 n2 m2 o2 (.slice a2 b2 d2)) (cells7 k1 l1 c1 n1 m1 o1 (.slice a1 b1 d1)) _ (fun g hg => ⟨HS.out g (by simp at hg; omega), by simp at hg; omega⟩)
      (Ex.At.keep (fun g h hlt => ⟨h, by omega⟩) (fun g _ hlt o => World.cell?_of_block (HG4.out.block g hlt (by simp))) _ _ HB.out) (Ex.At.keep (fun g h hlt => ⟨h, by omega⟩) (fun g _ hlt o => World.cell?_of_block (HG4.out.block g hlt (by simp))) _ _ HA.out)).mono ?_
    rintro e w5 ⟨cs, rfl, hat, hg5⟩
    obtain ⟨k3, l3, c3, n3, m3, o3, a3, b3, d3, rfl⟩ := hat.cells
    have hsz := hg5.size
    simp at hsz
    have hsz' : w.heap.size + 1 + 1 + 1 < w5.heap.size := by omega
    have hblk := (hg5.block (w.heap.size + 1 + 1 + 1) (by simp) (by simp)).trans (alloc_at _ _ _ (by simp))
    obtain ⟨⟨z0, z1, z2, z3, z4, z5, z6⟩, f0, f1, f2, f3, f4, f5, f6⟩ := seven hblk
    have HAT := Lib.hid hat; have HG5 := Lib.hid (grown_trans HG4.out hg5)
    clear hat hg5 hblk hsz
    unfold cells7
    go_wp2_with (fail)
    refine bodyPost_ret (v := .agg (cells7 k3 l3 c3 n3 m3 o3 (.slice a3 b3 d3))) (by simp [results, Tryd.results85, go_sem, cells7, z0, z1, z2, z3, z4, z5, z6]) rfl ?_
    rw [HJ.out]
    refine made_of (r := w.heap.size + 1 + 1 + 1) ?_ HAT.out HG5.out (by omega)
    repeat (first | with_reducible (exact Sets.refl _ _) | with_reducible (refine Sets.set ?_ _ _))
  by_cases h4 : tx = [62, 61]
  · subst h4
    have HJ := Lib.hid (show joinedL ⟨kd, [62, 61], nm, ln, cl⟩ a b = .mk 6 ln cl 0 [] 14 [b, a] from rfl)
    clear h1 h2 h3 f1 f2
    go_enter Tryd.func85, Tryd.ntmps85
    go_wp2_with (fail)
    have hg4 : w.grownBy ((((w.alloc (.cells #[.int .i64 kd, .string ⟨#[62, 61]⟩, .int .i64 nm, .int .i64 ln, .int .i64 cl] 68)).alloc (.cells (cells7 k1 l1 c1 n1 m1 o1 (.slice a1 b1 d1)) 51)).alloc (.cells (cells7 k2 l2 c2 n2 m2 o2 (.slice a2 b2 d2)) 51)).alloc (.cells (cells7 0 0 0 0 [] 0 (.slice none 0 0)) 51)) none :=
      grown_trans (grown_trans (grown_trans (grown_alloc _ _) (grown_alloc _ _)) (grown_alloc _ _)) (grown_alloc _ _)
    have HG4 := Lib.hid hg4
    clear hg4
    refine (both_any (fun g => S g ∧ g ≠ w.heap.size + 1 + 1 + 1) 14 ln cl ⟨by decide, by decide⟩ b a (cells7 k2 l2 c2 n2 m2 o2 (.slice a2 b2 d2)) (cells7 k1 l1 c1 n1 m1 o1 (.slice a1 b1 d1)) _ (fun g hg => ⟨HS.out g (by simp at hg; omega), by simp at hg; omega⟩)
      (Ex.At.keep (fun g h hlt => ⟨h, by omega⟩) (fun g _ hlt o => World.cell?_of_block (HG4.out.block g hlt (by simp))) _ _ HB.out) (Ex.At.keep (fun g h hlt => ⟨h, by omega⟩) (fun g _ hlt o => World.cell?_of_block (HG4.out.block g hlt (by simp))) _ _ HA.out)).mono ?_
    rintro e w5 ⟨cs, rfl, hat, hg5⟩
    obtain ⟨k3, l3, c3, n3, m3, o3, a3, b3, d3, rfl⟩ := hat.cells
    have hsz := hg5.size
    simp at hsz
    have hsz' : w.heap.size + 1 + 1 + 1 < w5.heap.size := by omega
    have hblk := (hg5.block (w.heap.size + 1 + 1 + 1) (by simp) (by simp)).trans (alloc_at _ _ _ (by simp))
    obtain ⟨⟨z0, z1, z2, z3, z4, z5, z6⟩, f0, f1, f2, f3, f4, f5, f6⟩ := seven hblk
    have HAT := Lib.hid hat; have HG5 := Lib.hid (grown_trans HG4.out hg5)
    clear hat hg5 hblk hsz
    unfold cells7
    go_wp2_with (fail)
    refine bodyPost_ret (v := .agg (cells7 k3 l3 c3 n3 m3 o3 (.slice a3 b3 d3))) (by simp [results, Tryd.results85, go_sem, cells7, z0, z1, z2, z3, z4, z5, z6]) rfl ?_
    rw [HJ.out]
    refine made_of (r := w.heap.size + 1 + 1 + 1) ?_ HAT.out HG5.out (by omega)
    repeat (first | with_reducible (exact Sets.refl _ _) | with_reducible (refine Sets.set ?_ _ _))
  have f3 : (tx == [62]) = false := by simpa using h3
  have f4 : (tx == [62, 61]) = false := by simpa using h4
  have HJ := Lib.hid (show joinedL ⟨kd, tx, nm, ln, cl⟩ a b = .mk 6 ln cl 0 [] (writtenL tx) [a, b] by unfold joinedL; simp only [if_neg h1, if_neg h2, if_neg h3, if_neg h4])
  clear h1 h2 h3 h4
  go_enter Tryd.func85, Tryd.ntmps85
  go_wp2_with (fail)
  generalize hW : ((((w.alloc (.cells #[.int .i64 kd, .string ⟨tx.toArray⟩, .int .i64 nm, .int .i64 ln, .int .i64 cl] 68)).alloc (.cells #[.int .i64 k1, .int .i64 l1, .int .i64 c1, .int .i64 n1, .string ⟨m1.toArray⟩, .int .i64 o1, .slice a1 b1 d1] 51)).alloc (.cells #[.int .i64 k2, .int .i64 l2, .int .i64 c2, .int .i64 n2, .string ⟨m2.toArray⟩, .int .i64 o2, .slice a2 b2 d2] 51)).alloc (.cells #[.int .i64 0, .int .i64 0, .int .i64 0, .int .i64 0, .string ⟨#[]⟩, .int .i64 0, .slice none 0 0] 51)) = W4
  have hgd : w.grownBy W4 none := by rw [← hW]; exact grown_trans (grown_trans (grown_trans (grown_alloc _ _) (grown_alloc _ _)) (grown_alloc _ _)) (grown_alloc _ _)
  have q0 : W4.heap[w.heap.size]? = some (.cells #[.int .i64 kd, .string ⟨tx.toArray⟩, .int .i64 nm, .int .i64 ln, .int .i64 cl] 68 (0, 0)) := by rw [← hW]; exact alloc_past _ _ _ _ (by first | (simp; done) | (simp; omega)) (alloc_past _ _ _ _ (by first | (simp; done) | (simp; omega)) (alloc_past _ _ _ _ (by simp) (alloc_at _ _ _ rfl)))
  have q1 : W4.heap[w.heap.size + 1]? = some (.cells #[.int .i64 k1, .int .i64 l1, .int .i64 c1, .int .i64 n1, .string ⟨m1.toArray⟩, .int .i64 o1, .slice a1 b1 d1] 51 (0, 0)) := by rw [← hW]; exact alloc_past _ _ _ _ (by first | (simp; done) | (simp; omega)) (alloc_past _ _ _ _ (by simp) (alloc_at _ _ _ (by simp)))
  have q2 : W4.heap[w.heap.size + 1 + 1]? = some (.cells #[.int .i64 k2, .int .i64 l2, .int .i64 c2, .int .i64 n2, .string ⟨m2.toArray⟩, .int .i64 o2, .slice a2 b2 d2] 51 (0, 0)) := by rw [← hW]; exact alloc_past _ _ _ _ (by simp) (alloc_at _ _ _ (by simp))
  have hblk0 : W4.heap[w.heap.size + 1 + 1 + 1]? = some (.cells #[.int .i64 0, .int .i64 0, .int .i64 0, .int .i64 0, .string ⟨#[]⟩, .int .i64 0, .slice none 0 0] 51 (0, 0)) := by rw [← hW]; exact alloc_at _ _ _ (by simp)
  have hsz4 : W4.heap.size = w.heap.size + 1 + 1 + 1 + 1 := by rw [← hW]; simp
  have y1 : W4.cell? ⟨w.heap.size, 1, none⟩ = some (.string ⟨tx.toArray⟩) := by rw [Lib.cell_of_heap q0]; rfl
  have y3 : W4.cell? ⟨w.heap.size, 3, none⟩ = some (.int .i64 ln) := by rw [Lib.cell_of_heap q0]; rfl
  have y4 : W4.cell? ⟨w.heap.size, 4, none⟩ = some (.int .i64 cl) := by rw [Lib.cell_of_heap q0]; rfl
  obtain ⟨p0, p1, p2, p3, p4, p5, p6⟩ := (seven q1).1
  obtain ⟨r0, r1, r2, r3, r4, r5, r6⟩ := (seven q2).1
  clear hW q0 q1 q2
  have HGD := Lib.hid hgd; have HB0 := Lib.hid hblk0; have HZ4 := Lib.hid hsz4
  clear hgd hblk0 hsz4
  refine wp_region_still_tail 7 (by kernel_rfl) (by kernel_rfl) ?_
  simp only [List.take_succ_cons, List.take_zero, List.drop_succ_cons, List.drop_zero]
  repeat still_step
  still_call (written_any tx _ (HG.out.later HG.out.1 (below_grown (grown_trans HGD.out ⟨rfl, rfl, rfl, Nat.le_refl _, fun _ _ _ => rfl⟩) (Nat.le_refl _))))
  repeat still_step
  refine wpStill_nil ?_
  change wpList _ _ _ _ _ W4.drew
  have hgd : w.grownBy W4.drew none := grown_trans HGD.out ⟨rfl, rfl, rfl, Nat.le_refl _, fun _ _ _ => rfl⟩
  have hblk0 : W4.drew.heap[w.heap.size + 1 + 1 + 1]? = some (.cells #[.int .i64 0, .int .i64 0, .int .i64 0, .int .i64 0, .string ⟨#[]⟩, .int .i64 0, .slice none 0 0] 51 (0, 0)) := HB0.out
  have hsz4 : W4.drew.heap.size = w.heap.size + 1 + 1 + 1 + 1 := HZ4.out
  generalize W4.drew = W5 at hgd hblk0 hsz4 ⊢
  clear HGD HB0 HZ4 y1 y3 y4 p0 p1 p2 p3 p4 p5 p6 r0 r1 r2 r3 r4 r5 r6

  have HGD := Lib.hid hgd; have HB0 := Lib.hid hblk0; have HZ4 := Lib.hid hsz4
  clear hgd hblk0 hsz4
  go_wp2_with (fail)
  refine (both_any (fun g => S g ∧ g ≠ w.heap.size + 1 + 1 + 1) (writtenL tx) ln cl (written_in tx) a b (cells7 k1 l1 c1 n1 m1 o1 (.slice a1 b1 d1)) (cells7 k2 l2 c2 n2 m2 o2 (.slice a2 b2 d2)) _ (fun g hg => ⟨HS.out g (by have := HZ4.out; omega), by have := HZ4.out; omega⟩)
    (Ex.At.keep (fun g h hlt => ⟨h, by omega⟩) (fun g _ hlt o => World.cell?_of_block (HGD.out.block g hlt (by simp))) _ _ HA.out) (Ex.At.keep (fun g h hlt => ⟨h, by omega⟩) (fun g _ hlt o => World.cell?_of_block (HGD.out.block g hlt (by simp))) _ _ HB.out)).mono ?_
  rintro e w5 ⟨cs, rfl, hat, hg5⟩
  obtain ⟨k3, l3, c3, n3, m3, o3, a3, b3, d3, rfl⟩ := hat.cells
  have hsz := hg5.size
  have hsz' : w.heap.size + 1 + 1 + 1 < w5.heap.size := by have := HZ4.out; omega
  have hblk := (hg5.block (w.heap.size + 1 + 1 + 1) (by have := HZ4.out; omega) (by simp)).trans HB0.out
  obtain ⟨⟨z0, z1, z2, z3, z4, z5, z6⟩, f0, f1, f2, f3, f4, f5, f6⟩ := seven hblk
  have HAT := Lib.hid hat; have HG5 := Lib.hid (grown_trans HGD.out hg5)
  clear hat hg5 hblk hsz
  unfold cells7
  go_wp2_with (fail)
  refine bodyPost_ret (v := .agg (cells7 k3 l3 c3 n3 m3 o3 (.slice a3 b3 d3))) (by simp [results, Tryd.results85, go_sem, cells7, z0, z1, z2, z3, z4, z5, z6]) rfl ?_
  rw [HJ.out]
  refine made_of (r := w.heap.size + 1 + 1 + 1) ?_ HAT.out HG5.out (by omega)
  repeat (first | with_reducible (exact Sets.refl _ _) | with_reducible (refine Sets.set ?_ _ _))
end Go.Proofs.YtgnnendcgbijnaaDoor
