/-
  The parser: two expressions joined by a mark.
  The parser: two expressions joined by a mark, whichever it is.
  The parser: parts with marks between them: what is common to all chains.
-/
import Derived.Test.YtaomlahphlemdaaGreatDoorParC
import Derived.Deep.RegionWith
import Derived.Outline
namespace Go.Proofs.YtaomlahphlemdaaGreatDoor
open Go.ChangeShapes Go.WideShapes Go.ChangeAt Go.RowKit
set_option linter.unusedVariables false

theorem at_two {w : World} {S : Nat → Prop} {k : Nat} {kind line col num : Int} {name : List UInt8} {op : Int} {a b : Ex} {ca cb : Array Value} (hk : S k) (h : w.heap[k]? = some (.cells (ca ++ cb) 47 (0, 0))) (ha : a.At w S ca) (hb : b.At w S cb) (hn : InI64 num) (ho : InI64 op) (cap : Nat) (hc : 2 ≤ cap) (h4 : kind ≠ 4) :
    (Ex.mk kind line col num name op [a, b]).At w S (cells7 kind line col num name op (.slice (some ⟨k, 0, none⟩) 2 cap)) := by
  obtain ⟨k1, l1, c1, n1, m1, o1, a1, b1, d1, rfl⟩ := ha.cells
  obtain ⟨k2, l2, c2, n2, m2, o2, a2, b2, d2, rfl⟩ := hb.cells
  unfold Ex.At
  refine ⟨hn, ho, _, rfl, .inl h4, .inr ⟨by simp, k, 0, cap, rfl, hk, hc, by simp, ?_⟩⟩
  unfold Ex.Row
  refine ⟨⟨_, ha, fun j hj => ?_⟩, ?_⟩
  · rw [Lib.cell_of_heap h, Nat.zero_add]
    have : j = 0 ∨ j = 1 ∨ j = 2 ∨ j = 3 ∨ j = 4 ∨ j = 5 ∨ j = 6 := by omega
    rcases this with rfl | rfl | rfl | rfl | rfl | rfl | rfl <;> rfl
  · unfold Ex.Row
    refine ⟨⟨_, hb, fun j hj => ?_⟩, by unfold Ex.Row; trivial⟩
    rw [Lib.cell_of_heap h, Nat.zero_add]
    have : j = 0 ∨ j = 1 ∨ j = 2 ∨ j = 3 ∨ j = 4 ∨ j = 5 ∨ j = 6 := by omega
    rcases this with rfl | rfl | rfl | rfl | rfl | rfl | rfl <;> rfl
theorem at_one {w : World} {S : Nat → Prop} {k : Nat} {kind line col num : Int} {name : List UInt8} {op : Int} {a : Ex} {ca : Array Value} (hk : S k) (h : w.heap[k]? = some (.cells ca 47 (0, 0))) (ha : a.At w S ca) (hn : InI64 num) (ho : InI64 op) (cap : Nat) (hc : 1 ≤ cap) (h4 : kind ≠ 4 ∨ cap = 1) :
    (Ex.mk kind line col num name op [a]).At w S (cells7 kind line col num name op (.slice (some ⟨k, 0, none⟩) 1 cap)) := by
  obtain ⟨k1, l1, c1, n1, m1, o1, a1, b1, d1, rfl⟩ := ha.cells
  unfold Ex.At
  refine ⟨hn, ho, _, rfl, h4.elim .inl (fun h => .inr ⟨_, _, by rw [h]⟩), .inr ⟨by simp, k, 0, cap, rfl, hk, hc, by simp, ?_⟩⟩
  unfold Ex.Row
  refine ⟨⟨_, ha, fun j hj => ?_⟩, by unfold Ex.Row; trivial⟩
  rw [Lib.cell_of_heap h, Nat.zero_add]
theorem at_none {w : World} {S : Nat → Prop} (kind line col num : Int) (name : List UInt8) (op : Int) (hn : InI64 num) (ho : InI64 op) (a : Option Addr) (cap : Nat) (h4 : kind ≠ 4 := by decide) : (Ex.mk kind line col num name op []).At w S (cells7 kind line col num name op (.slice a 0 cap)) := by
  unfold Ex.At; exact ⟨hn, ho, _, rfl, .inl h4, .inl ⟨rfl, _, _, rfl⟩⟩
theorem in0 : InI64 0 := ⟨by decide, by decide⟩
theorem Ex.At.grown {w w' : World} {S : Nat → Prop} {e : Ex} {cs : Array Value} (h : e.At w S cs) (hg : w.grownBy w' none) : e.At w' S cs :=
  Ex.At.keep (fun _ h _ => h) (fun g _ hlt o => World.cell?_of_block (hg.block g hlt (by simp))) e cs h
theorem Ex.At.went {R : Nat} {w w' : World} {e : Ex} {cs : Array Value} (h : e.At w (R < ·) cs) (hg : Went R w w') : e.At w' (R < ·) cs :=
  Ex.At.keep (fun _ h _ => h) (fun g hS hlt o => World.cell?_of_block (hg.block g hlt (fun e => by cases e; exact absurd hS (Nat.lt_irrefl _)))) e cs h

/-- It answers an expression in new memory. -/
def MadePost (S : Nat → Prop) (ex : Ex) (w : World) (e : Ending) (w' : World) : Prop := ∃ cs, e = .returned (.agg cs) ∧ ex.At w' S cs ∧ w.grownBy w' none

theorem alloc_at (w : World) (o : Obj) (n : Nat) (hn : n = w.heap.size) : (w.alloc o).heap[n]? = some o := by subst hn; exact heap_alloc_new w o
theorem alloc_past (w : World) (o x : Obj) (n : Nat) (hn : n < w.heap.size) (h : w.heap[n]? = some x) : (w.alloc o).heap[n]? = some x := (Below.heap_alloc w o n hn).trans h
theorem made_two {S : Nat → Prop} {w w' : World} {k : Nat} {kind line col num : Int} {name : List UInt8} {op : Int} {a b : Ex} {ca cb : Array Value} (hg : w.grownBy w' none) (h : w'.heap[k]? = some (.cells (ca ++ cb) 47 (0, 0))) (hk : S k) (ha : a.At w S ca) (hb : b.At w S cb) (hn : InI64 num) (ho : InI64 op) (h4 : kind ≠ 4 := by decide) :
    MadePost S (.mk kind line col num name op [a, b]) w (.returned (.agg (cells7 kind line col num name op (.slice (some ⟨k, 0, none⟩) 2 2)))) w' := ⟨_, rfl, at_two hk h (ha.grown hg) (hb.grown hg) hn ho 2 (Nat.le_refl _) h4, hg⟩

set_option maxHeartbeats 1000000 in
set_option maxRecDepth 100000 in
theorem both_any (S : Nat → Prop) (op line col : Int) (ho : InI64 op) (a b : Ex) (ca cb : Array Value) (w : World) (hS : ∀ g, w.heap.size ≤ g → S g) (ha : a.At w S ca) (hb : b.At w S cb) :
    Calls Tryz.prog 142 #[.int .i64 op, .agg #[.int .i64 line, .int .i64 col], .agg ca, .agg cb] w (MadePost S (.mk 6 line col 0 [] op [a, b]) w) := by
  obtain ⟨k1, l1, c1, n1, m1, o1, a1, b1, d1, rfl⟩ := ha.cells
  obtain ⟨k2, l2, c2, n2, m2, o2, a2, b2, d2, rfl⟩ := hb.cells
  have HA := Lib.hid ha; have HB := Lib.hid hb; have HS := Lib.hid hS; have HO := Lib.hid ho
  clear ha hb hS ho
  unfold cells7
  go_enter Tryz.func142, Tryz.ntmps142
  go_wp2_with (fail)
  refine bodyPost_ret (v := .agg (cells7 6 line col 0 [] op (.slice (some ⟨w.heap.size + 1 + 1 + 1 + 1, 0, none⟩) 2 2))) (by simp [results, Tryz.results142, go_sem, cells7]) rfl ?_
  refine made_two (k := w.heap.size + 1 + 1 + 1 + 1) (ca := cells7 k1 l1 c1 n1 m1 o1 (.slice a1 b1 d1)) (cb := cells7 k2 l2 c2 n2 m2 o2 (.slice a2 b2 d2)) ?_ ?_ (HS.out _ (by omega)) HA.out HB.out in0 HO.out
  · repeat (first | with_reducible (exact grown_alloc _ _) | with_reducible (refine grown_trans ?_ (grown_alloc _ _)))
  · exact alloc_at _ _ _ (by simp)

theorem bytesEq (x y : List UInt8) : ((⟨x.toArray⟩ : ByteArray).toList == (⟨y.toArray⟩ : ByteArray).toList) = decide (x = y) := by
  have h : ∀ l : List UInt8, (⟨l.toArray⟩ : ByteArray).toList = l := fun l => by simp
  rw [h, h]
  by_cases e : x = y <;> simp [e]

/-- The op of a sign: the first of the fifteen that is written so, else the number behind them. -/
def writtenFrom (x : List UInt8) : Nat → Int → Int
  | 0, o => o
  | n + 1, o => if o ≤ 15 ∧ signL o ≠ x then writtenFrom x n (o + 1) else o
def writtenL (x : List UInt8) : Int := writtenFrom x 15 1

set_option maxHeartbeats 1000000 in
set_option maxRecDepth 100000 in
theorem known_any (o : Int) (h : 1 ≤ o) (w : World) : Calls Tryz.prog 30 #[.int .i64 o] w fun e w' => e = .returned (.bool (decide (o ≤ 15))) ∧ w = w' := by
  go_enter Tryz.func30, Tryz.ntmps30
  go_wp2
  go_ret
  exact ⟨rfl, rfl⟩

set_option maxHeartbeats 1000000 in
set_option maxRecDepth 100000 in
theorem written_any (x : List UInt8) (w : World) (ht : Signs w) : Calls Tryz.prog 143 #[.string ⟨x.toArray⟩] w fun e w' => e = .returned (.int .i64 (writtenL x)) ∧ w' = w := by
  have HT := Lib.hid ht
  clear ht
  go_enter Tryz.func143, Tryz.ntmps143
  go_wp2_with (fail)
  go_loop [3] (fun o => ∃ (n : Nat) (k : Int), o = .int .i64 k ∧ 1 ≤ k ∧ k + n = 16 ∧ writtenL x = writtenFrom x n k) (fun o => 16 - (intOf o).toNat)
  case atStart => exact ⟨15, 1, rfl, by omega, by omega, rfl⟩
  case round =>
    obtain ⟨n, k, rfl, hk, hn, hv⟩ := hrel
    have HV := Lib.hid hv
    clear hv
    by_cases h15 : k ≤ 15
    · obtain ⟨m, rfl⟩ : ∃ m, n = m + 1 := ⟨n - 1, by omega⟩
      have d15 : decide (k ≤ 15) = true := by simpa using h15
      by_cases hs : signL k = x
      · have HW := Lib.hid (show writtenFrom x (m + 1) k = k by rw [writtenFrom, if_neg (by simp [hs])])
        have b0 : (signL k == x) = true := by simpa using hs
        have HS := Lib.hid hs
        clear hs
        go_wp2_with (fail)
        refine (known_any k hk _).mono ?_; rintro e w1 ⟨rfl, rfl⟩
        go_wp2_with (fail)
        refine (sign_any k ⟨by omega, by omega⟩ _ HT.out).mono ?_; rintro e w1 ⟨rfl, rfl⟩
        go_wp2_with (fail)
        go_ret
        exact ⟨by rw [HV.out, HW.out]; rfl, rfl⟩
      · have HW := Lib.hid (show writtenFrom x (m + 1) k = writtenFrom x m (k + 1) by rw [writtenFrom, if_pos ⟨h15, hs⟩])
        have b0 : (signL k == x) = false := by simpa using hs
        have HS := Lib.hid hs
        clear hs
        go_wp2_with (fail)
        refine (known_any k hk _).mono ?_; rintro e w1 ⟨rfl, rfl⟩
        go_wp2_with (fail)
        refine (sign_any k ⟨by omega, by omega⟩ _ HT.out).mono ?_; rintro e w1 ⟨rfl, rfl⟩
        go_wp2_with (fail)
        go_round
        case rel => exact ⟨m, k + 1, rfl, by omega, by omega, by rw [HV.out, HW.out]⟩
        case measure => simp [intOf]; omega
    · obtain rfl : n = 0 := by omega
      have d15 : decide (k ≤ 15) = false := by simpa using h15
      go_wp2_with (fail)
      refine (known_any k hk _).mono ?_; rintro e w1 ⟨rfl, rfl⟩
      go_wp2_with (fail)
      go_ret
      exact ⟨by rw [HV.out]; rfl, rfl⟩
end Go.Proofs.YtaomlahphlemdaaGreatDoor

namespace Go.Proofs.YtaomlahphlemdaaGreatDoor
open Go.ChangeShapes Go.WideShapes Go.ChangeAt Go.RowKit
set_option linter.unusedVariables false

/-- What a block of seven cells holds, cell by cell. -/
theorem seven {w : World} {k : Nat} {a b c d e f g : Value} {t : TypeId} (h : w.heap[k]? = some (.cells #[a, b, c, d, e, f, g] t (0, 0))) :
    (w.cell? ⟨k, 0, none⟩ = some a ∧ w.cell? ⟨k, 1, none⟩ = some b ∧ w.cell? ⟨k, 2, none⟩ = some c ∧ w.cell? ⟨k, 3, none⟩ = some d ∧ w.cell? ⟨k, 4, none⟩ = some e ∧ w.cell? ⟨k, 5, none⟩ = some f ∧ w.cell? ⟨k, 6, none⟩ = some g) ∧
    w.frozen? ⟨k, 0, none⟩ = false ∧ w.frozen? ⟨k, 1, none⟩ = false ∧ w.frozen? ⟨k, 2, none⟩ = false ∧ w.frozen? ⟨k, 3, none⟩ = false ∧ w.frozen? ⟨k, 4, none⟩ = false ∧ w.frozen? ⟨k, 5, none⟩ = false ∧ w.frozen? ⟨k, 6, none⟩ = false := by
  refine ⟨⟨?_, ?_, ?_, ?_, ?_, ?_, ?_⟩, Lib.frozen_of_heap h 0, Lib.frozen_of_heap h 1, Lib.frozen_of_heap h 2, Lib.frozen_of_heap h 3, Lib.frozen_of_heap h 4, Lib.frozen_of_heap h 5, Lib.frozen_of_heap h 6⟩ <;> (rw [Lib.cell_of_heap h]; rfl)
theorem Ex.At.but {w w' : World} {S : Nat → Prop} {r : Nat} {e : Ex} {cs : Array Value} (h : e.At w (fun g => S g ∧ g ≠ r) cs) (hk : ∀ k, k ≠ r → w'.heap[k]? = w.heap[k]?) : e.At w' S cs :=
  Ex.At.keep (fun _ h _ => h.1) (fun g hS _ o => World.cell?_of_block (hk g hS.2)) e cs h
theorem grown_new {r : Nat} {w w' w'' : World} (h : w.grownBy w' none) (hr : w.heap.size ≤ r) (hk : ∀ k, k ≠ r → w''.heap[k]? = w'.heap[k]?) (hs : w''.heap.size = w'.heap.size) (h1 : w''.os = w'.os) (h2 : w''.tape = w'.tape) (h3 : w''.output = w'.output) : w.grownBy w'' none :=
  ⟨h1.trans h.os, h2.trans h.tape, h3.trans h.output, by rw [hs]; exact h.size, fun k hlt hne => (hk k (by omega)).trans (h.block k hlt hne)⟩

/-- Only block r's cells have turned. -/
structure Sets (r : Nat) (w w' : World) : Prop where
  keep : ∀ k, k ≠ r → w'.heap[k]? = w.heap[k]?
  size : w'.heap.size = w.heap.size
  os : w'.os = w.os
  tape : w'.tape = w.tape
  output : w'.output = w.output
theorem Sets.refl (r : Nat) (w : World) : Sets r w w := ⟨fun _ _ => rfl, rfl, rfl, rfl, rfl⟩
theorem Sets.set {r : Nat} {w w' : World} (h : Sets r w w') (j : Nat) (v : Value) : Sets r w (w'.setCell ⟨r, j, none⟩ v) :=
  ⟨fun k hk => (Below.heap_setCell _ _ _ _ hk).trans (h.keep k hk), by have := h.size; simpa using this, h.os, h.tape, h.output⟩
theorem made_of {S : Nat → Prop} {w w5 w6 : World} {r : Nat} {ex : Ex} {cs : Array Value} (hs : Sets r w5 w6) (hat : ex.At w5 (fun g => S g ∧ g ≠ r) cs) (hg : w.grownBy w5 none) (hr : w.heap.size ≤ r) : MadePost S ex w (.returned (.agg cs)) w6 :=
  ⟨cs, rfl, hat.but hs.keep, grown_new hg hr hs.keep hs.size hs.os hs.tape hs.output⟩

def joinedL (t : Tok) (a b : Ex) : Ex :=
  if t.text = [124, 124] then .mk 8 t.line t.col 0 [] 0 [a, b]
  else if t.text = [38, 38] then .mk 7 t.line t.col 0 [] 0 [a, b]
  else if t.text = [62] then .mk 6 t.line t.col 0 [] 13 [b, a]
  else if t.text = [62, 61] then .mk 6 t.line t.col 0 [] 14 [b, a]
  else .mk 6 t.line t.col 0 [] (writtenL t.text) [a, b]

theorem writtenFrom_in (x : List UInt8) : ∀ (n : Nat) (o : Int), 1 ≤ o → o + n ≤ 16 → 1 ≤ writtenFrom x n o ∧ writtenFrom x n o ≤ 16
  | 0, o, h, h' => by rw [writtenFrom]; omega
  | n + 1, o, h, h' => by
    rw [writtenFrom]
    split
    · exact writtenFrom_in x n (o + 1) (by omega) (by omega)
    · omega
theorem written_in (x : List UInt8) : InI64 (writtenL x) := by
  have := writtenFrom_in x 15 1 (by omega) (by omega)
  unfold writtenL InI64
  omega

set_option maxHeartbeats 2000000 in
set_option maxRecDepth 100000 in
theorem joined_any (S : Nat → Prop) (t : Tok) (a b : Ex) (ca cb : Array Value) (w : World) (hS : ∀ g, w.heap.size ≤ g → S g) (ha : a.At w S ca) (hb : b.At w S cb) (hsg : Signs w) :
    Calls Tryz.prog 140 #[tokAgg t, .agg ca, .agg cb] w (MadePost S (joinedL t a b) w) := by
  obtain ⟨k1, l1, c1, n1, m1, o1, a1, b1, d1, rfl⟩ := ha.cells
  obtain ⟨k2, l2, c2, n2, m2, o2, a2, b2, d2, rfl⟩ := hb.cells
  obtain ⟨kd, tx, nm, ln, cl⟩ := t
  have HA := Lib.hid ha; have HB := Lib.hid hb; have HS := Lib.hid hS; have HG := Lib.hid hsg
  clear ha hb hS hsg
  unfold cells7 tokAgg
  simp only
  by_cases h1 : tx = [124, 124]
  · subst h1
    have HJ := Lib.hid (show joinedL ⟨kd, [124, 124], nm, ln, cl⟩ a b = .mk 8 ln cl 0 [] 0 [a, b] from rfl)
    go_enter Tryz.func140, Tryz.ntmps140
    go_wp2_with (fail)
    refine bodyPost_ret (v := .agg (cells7 8 ln cl 0 [] 0 (.slice (some ⟨w.heap.size + 1 + 1 + 1 + 1, 0, none⟩) 2 2))) (by simp [results, Tryz.results140, go_sem, cells7]) rfl ?_
    rw [HJ.out]
    refine made_two (k := w.heap.size + 1 + 1 + 1 + 1) (ca := cells7 k1 l1 c1 n1 m1 o1 (.slice a1 b1 d1)) (cb := cells7 k2 l2 c2 n2 m2 o2 (.slice a2 b2 d2)) ?_ ?_ (HS.out _ (by omega)) HA.out HB.out in0 in0
    · repeat (first | with_reducible (exact grown_alloc _ _) | with_reducible (refine grown_trans ?_ (grown_alloc _ _)))
    · exact alloc_at _ _ _ (by simp)
  by_cases h2 : tx = [38, 38]
  · subst h2
    have HJ := Lib.hid (show joinedL ⟨kd, [38, 38], nm, ln, cl⟩ a b = .mk 7 ln cl 0 [] 0 [a, b] from rfl)
    clear h1
    go_enter Tryz.func140, Tryz.ntmps140
    go_wp2_with (fail)
    refine bodyPost_ret (v := .agg (cells7 7 ln cl 0 [] 0 (.slice (some ⟨w.heap.size + 1 + 1 + 1 + 1, 0, none⟩) 2 2))) (by simp [results, Tryz.results140, go_sem, cells7]) rfl ?_
    rw [HJ.out]
    refine made_two (k := w.heap.size + 1 + 1 + 1 + 1) (ca := cells7 k1 l1 c1 n1 m1 o1 (.slice a1 b1 d1)) (cb := cells7 k2 l2 c2 n2 m2 o2 (.slice a2 b2 d2)) ?_ ?_ (HS.out _ (by omega)) HA.out HB.out in0 in0
    · repeat (first | with_reducible (exact grown_alloc _ _) | with_reducible (refine grown_trans ?_ (grown_alloc _ _)))
    · exact alloc_at _ _ _ (by simp)
  have f1 : (tx == [124, 124]) = false := by simpa using h1
  have f2 : (tx == [38, 38]) = false := by simpa using h2
  by_cases h3 : tx = [62]
  · subst h3
    have HJ := Lib.hid (show joinedL ⟨kd, [62], nm, ln, cl⟩ a b = .mk 6 ln cl 0 [] 13 [b, a] from rfl)
    clear h1 h2 f1 f2
    go_enter Tryz.func140, Tryz.ntmps140
    go_wp2_with (fail)
    have hg4 : w.grownBy ((((w.alloc (.cells #[.int .i64 kd, .string ⟨#[62]⟩, .int .i64 nm, .int .i64 ln, .int .i64 cl] 132)).alloc (.cells (cells7 k1 l1 c1 n1 m1 o1 (.slice a1 b1 d1)) 47)).alloc (.cells (cells7 k2 l2 c2 n2 m2 o2 (.slice a2 b2 d2)) 47)).alloc (.cells (cells7 0 0 0 0 [] 0 (.slice none 0 0)) 47)) none :=
      grown_trans (grown_trans (grown_trans (grown_alloc _ _) (grown_alloc _ _)) (grown_alloc _ _)) (grown_alloc _ _)
    have HG4 := Lib.hid hg4
    clear hg4
    refine (both_any (fun g => S g ∧ g ≠ w.heap.size + 1 + 1 + 1) 13 ln cl ⟨by decide, by decide⟩ b a (cells7 k2 l2 c2 n2 m2 o2 (.slice a2 b2 d2)) (cells7 k1 l1 c1 n1 m1 o1 (.slice a1 b1 d1)) _ (fun g hg => ⟨HS.out g (by simp at hg; omega), by simp at hg; omega⟩)
      (Ex.At.keep (fun g h hlt => ⟨h, by omega⟩) (fun g _ hlt o => World.cell?_of_block (HG4.out.block g hlt (by simp))) _ _ HB.out) (Ex.At.keep (fun g h hlt => ⟨h, by omega⟩) (fun g _ hlt o => World.cell?_of_block (HG4.out.block g hlt (by simp))) _ _ HA.out)).mono ?_
    rintro e w5 ⟨cs, rfl, hat, hg5⟩
    obtain ⟨k3, l3, c3, n3, m3, o3, a3, b3, d3, rfl⟩ := hat.cells
    have hsz := hg5.size
    simp at hsz
    have hsz' : w.heap.size + 1 + 1 + 1 < w5.heap.size := by omega
    have hblk := (hg5.block (w.heap.size + 1 + 1 + 1) (by simp) (by simp)).trans (alloc_at _ _ _ (by simp))
    obtain ⟨⟨z0, z1, z2, z3, z4, z5, z6⟩, f0, f1, f2, f3, f4, f5, f6⟩ := seven hblk
    have HAT := Lib.hid hat; have HG5 := Lib.hid (grown_trans HG4.out hg5)
    clear hat hg5 hblk hsz
    unfold cells7
    go_wp2_with (fail)
    refine bodyPost_ret (v := .agg (cells7 k3 l3 c3 n3 m3 o3 (.slice a3 b3 d3))) (by simp [results, Tryz.results140, go_sem, cells7, z0, z1, z2, z3, z4, z5, z6]) rfl ?_
    rw [HJ.out]
    refine made_of (r := w.heap.size + 1 + 1 + 1) ?_ HAT.out HG5.out (by omega)
    repeat (first | with_reducible (exact Sets.refl _ _) | with_reducible (refine Sets.set ?_ _ _))
  by_cases h4 : tx = [62, 61]
  · subst h4
    have HJ := Lib.hid (show joinedL ⟨kd, [62, 61], nm, ln, cl⟩ a b = .mk 6 ln cl 0 [] 14 [b, a] from rfl)
    clear h1 h2 h3 f1 f2
    go_enter Tryz.func140, Tryz.ntmps140
    go_wp2_with (fail)
    have hg4 : w.grownBy ((((w.alloc (.cells #[.int .i64 kd, .string ⟨#[62, 61]⟩, .int .i64 nm, .int .i64 ln, .int .i64 cl] 132)).alloc (.cells (cells7 k1 l1 c1 n1 m1 o1 (.slice a1 b1 d1)) 47)).alloc (.cells (cells7 k2 l2 c2 n2 m2 o2 (.slice a2 b2 d2)) 47)).alloc (.cells (cells7 0 0 0 0 [] 0 (.slice none 0 0)) 47)) none :=
      grown_trans (grown_trans (grown_trans (grown_alloc _ _) (grown_alloc _ _)) (grown_alloc _ _)) (grown_alloc _ _)
    have HG4 := Lib.hid hg4
    clear hg4
    refine (both_any (fun g => S g ∧ g ≠ w.heap.size + 1 + 1 + 1) 14 ln cl ⟨by decide, by decide⟩ b a (cells7 k2 l2 c2 n2 m2 o2 (.slice a2 b2 d2)) (cells7 k1 l1 c1 n1 m1 o1 (.slice a1 b1 d1)) _ (fun g hg => ⟨HS.out g (by simp at hg; omega), by simp at hg; omega⟩)
      (Ex.At.keep (fun g h hlt => ⟨h, by omega⟩) (fun g _ hlt o => World.cell?_of_block (HG4.out.block g hlt (by simp))) _ _ HB.out) (Ex.At.keep (fun g h hlt => ⟨h, by omega⟩) (fun g _ hlt o => World.cell?_of_block (HG4.out.block g hlt (by simp))) _ _ HA.out)).mono ?_
    rintro e w5 ⟨cs, rfl, hat, hg5⟩
    obtain ⟨k3, l3, c3, n3, m3, o3, a3, b3, d3, rfl⟩ := hat.cells
    have hsz := hg5.size
    simp at hsz
    have hsz' : w.heap.size + 1 + 1 + 1 < w5.heap.size := by omega
    have hblk := (hg5.block (w.heap.size + 1 + 1 + 1) (by simp) (by simp)).trans (alloc_at _ _ _ (by simp))
    obtain ⟨⟨z0, z1, z2, z3, z4, z5, z6⟩, f0, f1, f2, f3, f4, f5, f6⟩ := seven hblk
    have HAT := Lib.hid hat; have HG5 := Lib.hid (grown_trans HG4.out hg5)
    clear hat hg5 hblk hsz
    unfold cells7
    go_wp2_with (fail)
    refine bodyPost_ret (v := .agg (cells7 k3 l3 c3 n3 m3 o3 (.slice a3 b3 d3))) (by simp [results, Tryz.results140, go_sem, cells7, z0, z1, z2, z3, z4, z5, z6]) rfl ?_
    rw [HJ.out]
    refine made_of (r := w.heap.size + 1 + 1 + 1) ?_ HAT.out HG5.out (by omega)
    repeat (first | with_reducible (exact Sets.refl _ _) | with_reducible (refine Sets.set ?_ _ _))
  have f3 : (tx == [62]) = false := by simpa using h3
  have f4 : (tx == [62, 61]) = false := by simpa using h4
  have HJ := Lib.hid (show joinedL ⟨kd, tx, nm, ln, cl⟩ a b = .mk 6 ln cl 0 [] (writtenL tx) [a, b] by unfold joinedL; simp only [if_neg h1, if_neg h2, if_neg h3, if_neg h4])
  clear h1 h2 h3 h4
  go_enter Tryz.func140, Tryz.ntmps140
  go_wp2_with (fail)
  generalize hW : ((((w.alloc (.cells #[.int .i64 kd, .string ⟨tx.toArray⟩, .int .i64 nm, .int .i64 ln, .int .i64 cl] 132)).alloc (.cells #[.int .i64 k1, .int .i64 l1, .int .i64 c1, .int .i64 n1, .string ⟨m1.toArray⟩, .int .i64 o1, .slice a1 b1 d1] 47)).alloc (.cells #[.int .i64 k2, .int .i64 l2, .int .i64 c2, .int .i64 n2, .string ⟨m2.toArray⟩, .int .i64 o2, .slice a2 b2 d2] 47)).alloc (.cells #[.int .i64 0, .int .i64 0, .int .i64 0, .int .i64 0, .string ⟨#[]⟩, .int .i64 0, .slice none 0 0] 47)) = W4
  have hgd : w.grownBy W4 none := by rw [← hW]; exact grown_trans (grown_trans (grown_trans (grown_alloc _ _) (grown_alloc _ _)) (grown_alloc _ _)) (grown_alloc _ _)
  have q0 : W4.heap[w.heap.size]? = some (.cells #[.int .i64 kd, .string ⟨tx.toArray⟩, .int .i64 nm, .int .i64 ln, .int .i64 cl] 132 (0, 0)) := by rw [← hW]; exact alloc_past _ _ _ _ (by first | (simp; done) | (simp; omega)) (alloc_past _ _ _ _ (by first | (simp; done) | (simp; omega)) (alloc_past _ _ _ _ (by simp) (alloc_at _ _ _ rfl)))
  have q1 : W4.heap[w.heap.size + 1]? = some (.cells #[.int .i64 k1, .int .i64 l1, .int .i64 c1, .int .i64 n1, .string ⟨m1.toArray⟩, .int .i64 o1, .slice a1 b1 d1] 47 (0, 0)) := by rw [← hW]; exact alloc_past _ _ _ _ (by first | (simp; done) | (simp; omega)) (alloc_past _ _ _ _ (by simp) (alloc_at _ _ _ (by simp)))
  have q2 : W4.heap[w.heap.size + 1 + 1]? = some (.cells #[.int .i64 k2, .int .i64 l2, .int .i64 c2, .int .i64 n2, .string ⟨m2.toArray⟩, .int .i64 o2, .slice a2 b2 d2] 47 (0, 0)) := by rw [← hW]; exact alloc_past _ _ _ _ (by simp) (alloc_at _ _ _ (by simp))
  have hblk0 : W4.heap[w.heap.size + 1 + 1 + 1]? = some (.cells #[.int .i64 0, .int .i64 0, .int .i64 0, .int .i64 0, .string ⟨#[]⟩, .int .i64 0, .slice none 0 0] 47 (0, 0)) := by rw [← hW]; exact alloc_at _ _ _ (by simp)
  have hsz4 : W4.heap.size = w.heap.size + 1 + 1 + 1 + 1 := by rw [← hW]; simp
  have y1 : W4.cell? ⟨w.heap.size, 1, none⟩ = some (.string ⟨tx.toArray⟩) := by rw [Lib.cell_of_heap q0]; rfl
  have y3 : W4.cell? ⟨w.heap.size, 3, none⟩ = some (.int .i64 ln) := by rw [Lib.cell_of_heap q0]; rfl
  have y4 : W4.cell? ⟨w.heap.size, 4, none⟩ = some (.int .i64 cl) := by rw [Lib.cell_of_heap q0]; rfl
  obtain ⟨p0, p1, p2, p3, p4, p5, p6⟩ := (seven q1).1
  obtain ⟨r0, r1, r2, r3, r4, r5, r6⟩ := (seven q2).1
  clear hW q0 q1 q2
  have HGD := Lib.hid hgd; have HB0 := Lib.hid hblk0; have HZ4 := Lib.hid hsz4
  clear hgd hblk0 hsz4
  refine wp_region_still_tail 7 (by kernel_rfl) (by kernel_rfl) ?_
  simp only [List.take_succ_cons, List.take_zero, List.drop_succ_cons, List.drop_zero]
  repeat still_step
  still_call (written_any tx _ (HG.out.later HG.out.1 (below_grown (grown_trans HGD.out ⟨rfl, rfl, rfl, Nat.le_refl _, fun _ _ _ => rfl⟩) (Nat.le_refl _))))
  repeat still_step
  refine wpStill_nil ?_
  change wpList _ _ _ _ _ W4.drew
  have hgd : w.grownBy W4.drew none := grown_trans HGD.out ⟨rfl, rfl, rfl, Nat.le_refl _, fun _ _ _ => rfl⟩
  have hblk0 : W4.drew.heap[w.heap.size + 1 + 1 + 1]? = some (.cells #[.int .i64 0, .int .i64 0, .int .i64 0, .int .i64 0, .string ⟨#[]⟩, .int .i64 0, .slice none 0 0] 47 (0, 0)) := HB0.out
  have hsz4 : W4.drew.heap.size = w.heap.size + 1 + 1 + 1 + 1 := HZ4.out
  generalize W4.drew = W5 at hgd hblk0 hsz4 ⊢
  clear HGD HB0 HZ4 y1 y3 y4 p0 p1 p2 p3 p4 p5 p6 r0 r1 r2 r3 r4 r5 r6

  have HGD := Lib.hid hgd; have HB0 := Lib.hid hblk0; have HZ4 := Lib.hid hsz4
  clear hgd hblk0 hsz4
  go_wp2_with (fail)
  refine (both_any (fun g => S g ∧ g ≠ w.heap.size + 1 + 1 + 1) (writtenL tx) ln cl (written_in tx) a b (cells7 k1 l1 c1 n1 m1 o1 (.slice a1 b1 d1)) (cells7 k2 l2 c2 n2 m2 o2 (.slice a2 b2 d2)) _ (fun g hg => ⟨HS.out g (by have := HZ4.out; omega), by have := HZ4.out; omega⟩)
    (Ex.At.keep (fun g h hlt => ⟨h, by omega⟩) (fun g _ hlt o => World.cell?_of_block (HGD.out.block g hlt (by simp))) _ _ HA.out) (Ex.At.keep (fun g h hlt => ⟨h, by omega⟩) (fun g _ hlt o => World.cell?_of_block (HGD.out.block g hlt (by simp))) _ _ HB.out)).mono ?_
  rintro e w5 ⟨cs, rfl, hat, hg5⟩
  obtain ⟨k3, l3, c3, n3, m3, o3, a3, b3, d3, rfl⟩ := hat.cells
  have hsz := hg5.size
  have hsz' : w.heap.size + 1 + 1 + 1 < w5.heap.size := by have := HZ4.out; omega
  have hblk := (hg5.block (w.heap.size + 1 + 1 + 1) (by have := HZ4.out; omega) (by simp)).trans HB0.out
  obtain ⟨⟨z0, z1, z2, z3, z4, z5, z6⟩, f0, f1, f2, f3, f4, f5, f6⟩ := seven hblk
  have HAT := Lib.hid hat; have HG5 := Lib.hid (grown_trans HGD.out hg5)
  clear hat hg5 hblk hsz
  unfold cells7
  go_wp2_with (fail)
  refine bodyPost_ret (v := .agg (cells7 k3 l3 c3 n3 m3 o3 (.slice a3 b3 d3))) (by simp [results, Tryz.results140, go_sem, cells7, z0, z1, z2, z3, z4, z5, z6]) rfl ?_
  rw [HJ.out]
  refine made_of (r := w.heap.size + 1 + 1 + 1) ?_ HAT.out HG5.out (by omega)
  repeat (first | with_reducible (exact Sets.refl _ _) | with_reducible (refine Sets.set ?_ _ _))
end Go.Proofs.YtaomlahphlemdaaGreatDoor

namespace Go.Proofs.YtaomlahphlemdaaGreatDoor
open Go.ChangeShapes Go.WideShapes Go.ChangeAt Go.RowKit
set_option linter.unusedVariables false

abbrev Par := St → Ex × St
def chainLoop (part : Par) (xs : List (List UInt8)) : Nat → Ex → St → Ex × St
  | 0, e, s => (e, s)
  | n + 1, e, s => if s.sees xs then chainLoop part xs n (joinedL s.now e (part s.next).1) (part s.next).2 else (e, s)
def chainL (part : Par) (xs : List (List UInt8)) (s : St) : Ex × St := chainLoop part xs (part s).2.left.length (part s).1 (part s).2

/-- A parser that keeps how deep the reader is, and makes no tokens. -/
def Fine (n : Nat) (part : Par) : Prop := ∀ s : St, s.left.length ≤ n → (part s).2.deep = s.deep ∧ (part s).2.left.length ≤ s.left.length

/-- It answers an expression in memory that is new, and the reader is then so. -/
def ExPost (R g : Nat) (p : Ex × St) (w : World) (e : Ending) (w' : World) : Prop := ∃ cs, e = .returned (.agg cs) ∧ p.1.At w' (w.heap.size ≤ ·) cs ∧ Went R w w' ∧ Reads R g p.2 w'
/-- What a parser promises, of readers with so few tokens left, not too deep. -/
def ParOk (R g n f : Nat) (part : Par) : Prop := ∀ (s : St) (w : World), s.left.length ≤ n → s.deep + 2 * s.left.length ≤ 300000 → Reads R g s w →
  Calls Tryz.prog f #[.pointer (some ⟨R, 0, none⟩)] w (ExPost R g (part s) w)

def lenOf (w : World) (R : Nat) : Nat := match w.cell? ⟨R, 0, none⟩ with | some (.slice _ n _) => n | _ => 0
theorem lenOf_reads {R g : Nat} {s : St} {w : World} (h : Reads R g s w) : lenOf w R = s.left.length := by
  obtain ⟨o, cap, h1, _⟩ := h.row
  unfold lenOf
  rw [Lib.cell_of_heap h1]
  rfl
theorem next_len {R g : Nat} {s : St} {w : World} {xs : List (List UInt8)} (h : Reads R g s w) (hs : s.sees xs = true) (hx : [] ∉ xs) : s.next.left.length + 1 = s.left.length ∧ s.next.deep = s.deep := by
  obtain ⟨t, r, e⟩ := List.exists_cons_of_ne_nil h.last.ne
  have hnow : s.now = t := by unfold St.now; rw [e]; rfl
  have hk : s.now.kind ≠ 0 := by
    intro hk
    have := (h.last.2 s.now (by rw [hnow, e]; simp)).1 hk
    unfold St.sees at hs
    rw [this] at hs
    exact hx (by simpa using hs)
  unfold St.next
  rw [if_neg hk]
  simp [e]
theorem Went.keep {R k : Nat} {w w' : World} {o : Obj} (h : Went R w w') (hk : w.heap[k]? = some o) (hne : k ≠ R) : w'.heap[k]? = some o :=
  (h.block k (Array.getElem?_eq_some_iff.1 hk).1 (by simpa using hne)).trans hk
theorem five {w : World} {k : Nat} {a b c d e : Value} {t : TypeId} (h : w.heap[k]? = some (.cells #[a, b, c, d, e] t (0, 0))) :
    w.cell? ⟨k, 0, none⟩ = some a ∧ w.cell? ⟨k, 1, none⟩ = some b ∧ w.cell? ⟨k, 2, none⟩ = some c ∧ w.cell? ⟨k, 3, none⟩ = some d ∧ w.cell? ⟨k, 4, none⟩ = some e := by
  refine ⟨?_, ?_, ?_, ?_, ?_⟩ <;> (rw [Lib.cell_of_heap h]; rfl)
def zero7 : Array Value := #[.int .i64 0, .int .i64 0, .int .i64 0, .int .i64 0, .string ⟨#[]⟩, .int .i64 0, .slice none 0 0]
theorem Reads.sets {R g r : Nat} {s : St} {w w' : World} (h : Reads R g s w) (hr : R < r) (hs : Sets r w w') : Reads R g s w' := by
  have h1 := h.lt; have h2 := h.low
  obtain ⟨o, cap, a1, a2, a3⟩ := h.row
  exact ⟨h.lt, ⟨o, cap, (hs.keep R (by omega)).trans a1, a2, a3.keep fun p => World.cell?_of_block (hs.keep g (by omega))⟩, h.last, h.len, h.deep, h.low, h.signs.keep (by rw [hs.size]; exact Nat.le_refl _) fun p => World.cell?_of_block (hs.keep 1 (by omega))⟩
theorem Went.sets {R r : Nat} {w w' w'' : World} (h : Went R w w') (hr : w.heap.size ≤ r) (hs : Sets r w' w'') : Went R w w'' :=
  ⟨hs.os.trans h.os, hs.tape.trans h.tape, hs.output.trans h.output, by rw [hs.size]; exact h.size, fun k hk hne => (hs.keep k (by omega)).trans (h.block k hk hne)⟩
theorem Ex.At.weak {w : World} {S S' : Nat → Prop} {e : Ex} {cs : Array Value} (h : e.At w S cs) (hS : ∀ g, S g → S' g) : e.At w S' cs := Ex.At.keep (fun g h _ => hS g h) (fun _ _ _ _ => rfl) e cs h

/-- What a chain's round begins with: the expression so far in block b, the answer's place in block r, the marks in block m. -/
structure Round (R g r b m : Nat) (n : Nat) (xs : List (List UInt8)) (part : Par) (goal : Ex × St) (d : Int) (w0 w : World) : Prop where
  blocks : R < r ∧ r < b ∧ w0.heap.size ≤ r ∧ b < w.heap.size
  went : Went R w0 w
  res : w.heap[r]? = some (.cells zero7 47 (0, 0))
  marks : Marks w m xs ∧ m < w.heap.size ∧ m ≠ R ∧ m ≠ b ∧ m ≠ r
  now : ∃ (k : Nat) (e : Ex) (s : St) (cs : Array Value), w.heap[b]? = some (.cells cs 47 (0, 0)) ∧ e.At w (fun q => r < q ∧ q ≠ b) cs ∧ Reads R g s w ∧ s.left.length ≤ k ∧ s.left.length ≤ n ∧ s.deep = d ∧ chainLoop part xs k e s = goal

def tokCells (t : Tok) : Array Value := #[.int .i64 t.kind, .string ⟨t.text.toArray⟩, .int .i64 t.num, .int .i64 t.line, .int .i64 t.col]
/-- Behind a part: what the round still needs. -/
structure PIn (R g r b tb : Nat) (t : Tok) (e : Ex) (ce : Array Value) (p : Ex × St) (cp : Array Value) (W w : World) : Prop where
  went : Went R W w
  reads : Reads R g p.2 w
  tok : w.heap[tb]? = some (.cells (tokCells t) 132 (0, 0))
  blk : w.heap[b]? = some (.cells ce 47 (0, 0))
  ate : e.At w (fun q => r < q ∧ q ≠ b) ce
  atp : p.1.At w (fun q => r < q ∧ q ≠ b) cp
theorem PIn.more {R g r b tb : Nat} {t : Tok} {e : Ex} {ce cp : Array Value} {p : Ex × St} {W w w' : World} (h : PIn R g r b tb t e ce p cp W w) (hg : w.grownBy w' none) : PIn R g r b tb t e ce p cp W w' :=
  ⟨h.went.trans (went_none hg), h.reads.more hg, (went_none (R := tb + b + 1) hg).keep h.tok (by omega), (went_none (R := tb + b + 1) hg).keep h.blk (by omega), h.ate.grown hg, h.atp.grown hg⟩
theorem grown_refl (w : World) : w.grownBy w none := ⟨rfl, rfl, rfl, Nat.le_refl _, fun _ _ _ => rfl⟩
theorem grown_drew {w w' : World} (h : w.grownBy w' none) : w.grownBy w'.drew none := ⟨h.os, h.tape, h.output, h.size, h.block⟩

def PPost (R g r b tb : Nat) (t : Tok) (e : Ex) (ce : Array Value) (p : Ex × St) (W : World) (e' : Ending) (w' : World) : Prop :=
  ∃ k l c n m o x y z, e' = .returned (.agg (cells7 k l c n m o (.slice x y z))) ∧ PIn R g r b tb t e ce p (cells7 k l c n m o (.slice x y z)) W w'
theorem part_in {R g n f r b tb : Nat} {part : Par} {t : Tok} {e : Ex} {ce : Array Value} {s : St} {W : World} (hp : ParOk R g n f part) (hl : s.left.length ≤ n) (hd : s.deep + 2 * s.left.length ≤ 300000) (h : Reads R g s W) (htok : W.heap[tb]? = some (.cells (tokCells t) 132 (0, 0))) (hblk : W.heap[b]? = some (.cells ce 47 (0, 0))) (hate : e.At W (fun q => r < q ∧ q ≠ b) ce) (hr : R < r) (hb : r < b) (htb : R < tb) (hbs : b < W.heap.size) :
    ∀ wx, W.grownBy wx none → Calls Tryz.prog f #[.pointer (some ⟨R, 0, none⟩)] wx (PPost R g r b tb t e ce (part s) W) := by
  intro wx hg
  refine (hp s wx hl hd (h.more hg)).mono ?_
  rintro e' w' ⟨cs, rfl, hat, hw, hr'⟩
  obtain ⟨k, l, c, n, m, o, x, y, z, rfl⟩ := hat.cells
  have hwt := (went_none hg).trans hw
  have hsz := hg.size
  refine ⟨k, l, c, n, m, o, x, y, z, rfl, hwt, hr', hwt.keep htok (by omega), hwt.keep hblk (by omega), ?_, hat.weak (fun q hq => ⟨by have : wx.heap.size ≤ q := hq; omega, by have : wx.heap.size ≤ q := hq; omega⟩)⟩
  exact Ex.At.keep (fun q h _ => h) (fun q h hlt o => World.cell?_of_block (hwt.block q hlt (by simp; omega))) _ _ hate
/-- Behind the joining: the new expression, and the place of the old one still as it was. -/
structure JIn (R g r b : Nat) (p : Ex) (s : St) (cp : Array Value) (ce : Array Value) (W w : World) : Prop where
  went : Went R W w
  reads : Reads R g s w
  blk : w.heap[b]? = some (.cells ce 47 (0, 0))
  atp : p.At w (fun q => r < q ∧ q ≠ b) cp
def JPost (R g r b : Nat) (p : Ex) (s : St) (ce : Array Value) (W : World) (e' : Ending) (w' : World) : Prop :=
  ∃ k l c n m o x y z, e' = .returned (.agg (cells7 k l c n m o (.slice x y z))) ∧ JIn R g r b p s (cells7 k l c n m o (.slice x y z)) ce W w'
theorem join_in {R g r b tb : Nat} {t : Tok} {e : Ex} {ce cp : Array Value} {p : Ex × St} {W w : World} (h : PIn R g r b tb t e ce p cp W w) (hb : b < w.heap.size) (hr : r < w.heap.size) :
    ∀ wx, w.grownBy wx none → Calls Tryz.prog 140 #[tokAgg t, .agg ce, .agg cp] wx (JPost R g r b (joinedL t e p.1) p.2 ce W) := by
  intro wx hg
  have h' := h.more hg
  have hsz := hg.size
  refine (joined_any (fun q => r < q ∧ q ≠ b) t e p.1 ce cp wx (fun q hq => ⟨by omega, by omega⟩) h'.ate h'.atp h'.reads.signs).mono ?_
  rintro e' w' ⟨cs, rfl, hat, hg'⟩
  obtain ⟨k, l, c, n, m, o, x, y, z, rfl⟩ := hat.cells
  exact ⟨k, l, c, n, m, o, x, y, z, rfl, h'.went.trans (went_none hg'), h'.reads.more hg', (went_none (R := b + 1) hg').keep h'.blk (by omega), hat⟩
theorem ex_end {R g r : Nat} {S : Nat → Prop} {p : Ex × St} {cs : Array Value} {w w2 w' : World} (hs : Sets r w2 w') (hat : p.1.At w2 S cs) (hS : ∀ q, S q → w.heap.size ≤ q ∧ q ≠ r) (hr : w.heap.size ≤ r) (hR : R < r) (hw : Went R w w2) (hrd : Reads R g p.2 w2) : ExPost R g p w (.returned (.agg cs)) w' :=
  ⟨cs, rfl, Ex.At.keep (fun q hq _ => (hS q hq).1) (fun q hq _ o => World.cell?_of_block (hs.keep q (hS q hq).2)) _ _ hat, hw.sets hr hs, hrd.sets hR hs⟩
theorem Sets.drew {r : Nat} {w w' : World} (h : Sets r w w') : Sets r w w'.drew := ⟨h.keep, h.size, h.os, h.tape, h.output⟩
theorem set7 {w : World} {b : Nat} {t : TypeId} {p0 p1 p2 p3 p4 p5 p6 : Value} (a0 a1 a2 a3 a4 a5 a6 : Value) (h : w.heap[b]? = some (.cells #[p0, p1, p2, p3, p4, p5, p6] t (0, 0))) :
    (((((((w.setCell ⟨b, 0, none⟩ a0).setCell ⟨b, 1, none⟩ a1).setCell ⟨b, 2, none⟩ a2).setCell ⟨b, 3, none⟩ a3).setCell ⟨b, 4, none⟩ a4).setCell ⟨b, 5, none⟩ a5).setCell ⟨b, 6, none⟩ a6).heap[b]? = some (.cells #[a0, a1, a2, a3, a4, a5, a6] t (0, 0)) := by
  have h0 : (w.setCell ⟨b, 0, none⟩ a0).heap[b]? = some (.cells #[a0, p1, p2, p3, p4, p5, p6] t (0, 0)) := set_block _ b 0 _ _ _ h
  have h1 : ((w.setCell ⟨b, 0, none⟩ a0).setCell ⟨b, 1, none⟩ a1).heap[b]? = some (.cells #[a0, a1, p2, p3, p4, p5, p6] t (0, 0)) := set_block _ b 1 _ _ _ h0
  have h2 : (((w.setCell ⟨b, 0, none⟩ a0).setCell ⟨b, 1, none⟩ a1).setCell ⟨b, 2, none⟩ a2).heap[b]? = some (.cells #[a0, a1, a2, p3, p4, p5, p6] t (0, 0)) := set_block _ b 2 _ _ _ h1
  have h3 : ((((w.setCell ⟨b, 0, none⟩ a0).setCell ⟨b, 1, none⟩ a1).setCell ⟨b, 2, none⟩ a2).setCell ⟨b, 3, none⟩ a3).heap[b]? = some (.cells #[a0, a1, a2, a3, p4, p5, p6] t (0, 0)) := set_block _ b 3 _ _ _ h2
  have h4 : (((((w.setCell ⟨b, 0, none⟩ a0).setCell ⟨b, 1, none⟩ a1).setCell ⟨b, 2, none⟩ a2).setCell ⟨b, 3, none⟩ a3).setCell ⟨b, 4, none⟩ a4).heap[b]? = some (.cells #[a0, a1, a2, a3, a4, p5, p6] t (0, 0)) := set_block _ b 4 _ _ _ h3
  have h5 : ((((((w.setCell ⟨b, 0, none⟩ a0).setCell ⟨b, 1, none⟩ a1).setCell ⟨b, 2, none⟩ a2).setCell ⟨b, 3, none⟩ a3).setCell ⟨b, 4, none⟩ a4).setCell ⟨b, 5, none⟩ a5).heap[b]? = some (.cells #[a0, a1, a2, a3, a4, a5, p6] t (0, 0)) := set_block _ b 5 _ _ _ h4
  have h6 : (((((((w.setCell ⟨b, 0, none⟩ a0).setCell ⟨b, 1, none⟩ a1).setCell ⟨b, 2, none⟩ a2).setCell ⟨b, 3, none⟩ a3).setCell ⟨b, 4, none⟩ a4).setCell ⟨b, 5, none⟩ a5).setCell ⟨b, 6, none⟩ a6).heap[b]? = some (.cells #[a0, a1, a2, a3, a4, a5, a6] t (0, 0)) := set_block _ b 6 _ _ _ h5
  exact h6
theorem round_next {R g r b m n : Nat} {xs : List (List UInt8)} {part : Par} {goal : Ex × St} {d : Int} {w0 wr W w10 w11 : World} {p : Ex} {s : St} {cp ce : Array Value} {k : Nat} (h10 : JIn R g r b p s cp ce W w10) (hs : Sets b w10 w11) (hb11 : w11.heap[b]? = some (.cells cp 47 (0, 0)))
    (hw : Went R wr W) (hwr : Went R w0 wr) (hres : wr.heap[r]? = some (.cells zero7 47 (0, 0))) (hmk : Marks wr m xs) (hm1 : m < wr.heap.size) (hm2 : m ≠ R) (hm3 : m ≠ b) (hm4 : m ≠ r) (hb1 : R < r) (hb2 : r < b) (hb3 : w0.heap.size ≤ r) (hb4 : b < wr.heap.size)
    (hk : s.left.length ≤ k) (hn : s.left.length ≤ n) (hd : s.deep = d) (hg : chainLoop part xs k p s = goal) : Round R g r b m n xs part goal d w0 w11 := by
  have hall := hw.trans h10.went
  have hsz := hall.size
  refine ⟨⟨hb1, hb2, hb3, by rw [hs.size]; omega⟩, (hwr.trans hall).sets (by omega) hs, (hs.keep r (by omega)).trans (hall.keep hres (by omega)), ⟨hmk.keep fun q => ?_, by rw [hs.size]; omega, hm2, hm3, hm4⟩, k, p, s, cp, hb11, ?_, h10.reads.sets (by omega) hs, hk, hn, hd, hg⟩
  · rw [World.cell?_of_block (hs.keep m hm3), World.cell?_of_block (hall.block m hm1 (by simpa using hm2))]
  · exact Ex.At.keep (fun q h _ => h) (fun q h _ o => World.cell?_of_block (hs.keep q h.2)) _ _ h10.atp
theorem len_next {R g r b : Nat} {p : Ex} {s : St} {cp ce : Array Value} {W w10 w11 : World} (h : JIn R g r b p s cp ce W w10) (hs : Sets b w10 w11) (hR : R < b) : lenOf w11 R = s.left.length := lenOf_reads (h.reads.sets hR hs)
end Go.Proofs.YtaomlahphlemdaaGreatDoor
