/-
  The parser: two expressions joined by a mark.
-/
import Derived.Test.YtgnnendcgbijnaaDoorParC
namespace Go.Proofs.YtgnnendcgbijnaaDoor
open Go.ChangeShapes Go.WideShapes Go.ChangeAt Go.RowKit
set_option linter.unusedVariables false

theorem at_two {w : World} {S : Nat → Prop} {k : Nat} {kind line col num : Int} {name : List UInt8} {op : Int} {a b : Ex} {ca cb : Array Value} (hk : S k) (h : w.heap[k]? = some (.cells (ca ++ cb) 51 (0, 0))) (ha : a.At w S ca) (hb : b.At w S cb) (hn : InI64 num) (ho : InI64 op) (cap : Nat) (hc : 2 ≤ cap) (h4 : kind ≠ 4) :
    (Ex.mk kind line col num name op [a, b]).At w S (cells7 kind line col num name op (.slice (some ⟨k, 0, none⟩) 2 cap)) := by
  obtain ⟨k1, l1, c1, n1, m1, o1, a1, b1, d1, rfl⟩ := ha.cells
  obtain ⟨k2, l2, c2, n2, m2, o2, a2, b2, d2, rfl⟩ := hb.cells
  unfold Ex.At
  refine ⟨hn, ho, _, rfl, .inl h4, .inr ⟨by simp, k, 0, cap, rfl, hk, hc, by simp, ?_⟩⟩
  unfold Ex.Row
  refine ⟨⟨_, ha, fun j hj => ?_⟩, ?_⟩
  · rw [Lib.cell_of_heap h, Nat.zero_add]
    have : j = 0 ∨ j = 1 ∨ j = 2 ∨ j = 3 ∨ j = 4 ∨ j = 5 ∨ j = 6 := by omega
    rcases this with rfl | rfl | rfl | rfl | rfl | rfl | rfl <;> rfl
  · unfold Ex.Row
    refine ⟨⟨_, hb, fun j hj => ?_⟩, by unfold Ex.Row; trivial⟩
    rw [Lib.cell_of_heap h, Nat.zero_add]
    have : j = 0 ∨ j = 1 ∨ j = 2 ∨ j = 3 ∨ j = 4 ∨ j = 5 ∨ j = 6 := by omega
    rcases this with rfl | rfl | rfl | rfl | rfl | rfl | rfl <;> rfl
theorem at_one {w : World} {S : Nat → Prop} {k : Nat} {kind line col num : Int} {name : List UInt8} {op : Int} {a : Ex} {ca : Array Value} (hk : S k) (h : w.heap[k]? = some (.cells ca 51 (0, 0))) (ha : a.At w S ca) (hn : InI64 num) (ho : InI64 op) (cap : Nat) (hc : 1 ≤ cap) (h4 : kind ≠ 4 ∨ cap = 1) :
    (Ex.mk kind line col num name op [a]).At w S (cells7 kind line col num name op (.slice (some ⟨k, 0, none⟩) 1 cap)) := by
  obtain ⟨k1, l1, c1, n1, m1, o1, a1, b1, d1, rfl⟩ := ha.cells
  unfold Ex.At
  refine ⟨hn, ho, _, rfl, h4.elim .inl (fun h => .inr ⟨_, _, by rw [h]⟩), .inr ⟨by simp, k, 0, cap, rfl, hk, hc, by simp, ?_⟩⟩
  unfold Ex.Row
  refine ⟨⟨_, ha, fun j hj => ?_⟩, by unfold Ex.Row; trivial⟩
  rw [Lib.cell_of_heap h, Nat.zero_add]
theorem at_none {w : World} {S : Nat → Prop} (kind line col num : Int) (name : List UInt8) (op : Int) (hn : InI64 num) (ho : InI64 op) (a : Option Addr) (cap : Nat) (h4 : kind ≠ 4 := by decide) : (Ex.mk kind line col num name op []).At w S (cells7 kind line col num name op (.slice a 0 cap)) := by
  unfold Ex.At; exact ⟨hn, ho, _, rfl, .inl h4, .inl ⟨rfl, _, _, rfl⟩⟩
theorem in0 : InI64 0 := ⟨by decide, by decide⟩
theorem Ex.At.grown {w w' : World} {S : Nat → Prop} {e : Ex} {cs : Array Value} (h : e.At w S cs) (hg : w.grownBy w' none) : e.At w' S cs :=
  Ex.At.keep (fun _ h _ => h) (fun g _ hlt o => World.cell?_of_block (hg.block g hlt (by simp))) e cs h
theorem Ex.At.went {R : Nat} {w w' : World} {e : Ex} {cs : Array Value} (h : e.At w (R < ·) cs) (hg : Went R w w') : e.At w' (R < ·) cs :=
  Ex.At.keep (fun _ h _ => h) (fun g hS hlt o => World.cell?_of_block (hg.block g hlt (fun e => by cases e; exact absurd hS (Nat.lt_irrefl _)))) e cs h

/-- It answers an expression in new memory. -/
def MadePost (S : Nat → Prop) (ex : Ex) (w : World) (e : Ending) (w' : World) : Prop := ∃ cs, e = .returned (.agg cs) ∧ ex.At w' S cs ∧ w.grownBy w' none

theorem alloc_at (w : World) (o : Obj) (n : Nat) (hn : n = w.heap.size) : (w.alloc o).heap[n]? = some o := by subst hn; exact heap_alloc_new w o
theorem alloc_past (w : World) (o x : Obj) (n : Nat) (hn : n < w.heap.size) (h : w.heap[n]? = some x) : (w.alloc o).heap[n]? = some x := (Below.heap_alloc w o n hn).trans h
theorem made_two {S : Nat → Prop} {w w' : World} {k : Nat} {kind line col num : Int} {name : List UInt8} {op : Int} {a b : Ex} {ca cb : Array Value} (hg : w.grownBy w' none) (h : w'.heap[k]? = some (.cells (ca ++ cb) 51 (0, 0))) (hk : S k) (ha : a.At w S ca) (hb : b.At w S cb) (hn : InI64 num) (ho : InI64 op) (h4 : kind ≠ 4 := by decide) :
    MadePost S (.mk kind line col num name op [a, b]) w (.returned (.agg (cells7 kind line col num name op (.slice (some ⟨k, 0, none⟩) 2 2)))) w' := ⟨_, rfl, at_two hk h (ha.grown hg) (hb.grown hg) hn ho 2 (Nat.le_refl _) h4, hg⟩

set_option maxHeartbeats 1000000 in
set_option maxRecDepth 100000 in
theorem both_any (S : Nat → Prop) (op line col : Int) (ho : InI64 op) (a b : Ex) (ca cb : Array Value) (w : World) (hS : ∀ g, w.heap.size ≤ g → S g) (ha : a.At w S ca) (hb : b.At w S cb) :
    Calls Tryd.prog 87 #[.int .i64 op, .agg #[.int .i64 line, .int .i64 col], .agg ca, .agg cb] w (MadePost S (.mk 6 line col 0 [] op [a, b]) w) := by
  obtain ⟨k1, l1, c1, n1, m1, o1, a1, b1, d1, rfl⟩ := ha.cells
  obtain ⟨k2, l2, c2, n2, m2, o2, a2, b2, d2, rfl⟩ := hb.cells
  have HA := Lib.hid ha; have HB := Lib.hid hb; have HS := Lib.hid hS; have HO := Lib.hid ho
  clear ha hb hS ho
  unfold cells7
  go_enter Tryd.func87, Tryd.ntmps87
  go_wp2_with (fail)
  refine bodyPost_ret (v := .agg (cells7 6 line col 0 [] op (.slice (some ⟨w.heap.size + 1 + 1 + 1 + 1, 0, none⟩) 2 2))) (by simp [results, Tryd.results87, go_sem, cells7]) rfl ?_
  refine made_two (k := w.heap.size + 1 + 1 + 1 + 1) (ca := cells7 k1 l1 c1 n1 m1 o1 (.slice a1 b1 d1)) (cb := cells7 k2 l2 c2 n2 m2 o2 (.slice a2 b2 d2)) ?_ ?_ (HS.out _ (by omega)) HA.out HB.out in0 HO.out
  · repeat (first | with_reducible (exact grown_alloc _ _) | with_reducible (refine grown_trans ?_ (grown_alloc _ _)))
  · exact alloc_at _ _ _ (by simp)

theorem bytesEq (x y : List UInt8) : ((⟨x.toArray⟩ : ByteArray).toList == (⟨y.toArray⟩ : ByteArray).toList) = decide (x = y) := by
  have h : ∀ l : List UInt8, (⟨l.toArray⟩ : ByteArray).toList = l := fun l => by simp
  rw [h, h]
  by_cases e : x = y <;> simp [e]

/-- The op of a sign: the first of the fifteen that is written so, else the number behind them. -/
def writtenFrom (x : List UInt8) : Nat → Int → Int
  | 0, o => o
  | n + 1, o => if o ≤ 15 ∧ signL o ≠ x then writtenFrom x n (o + 1) else o
def writtenL (x : List UInt8) : Int := writtenFrom x 15 1

set_option maxHeartbeats 1000000 in
set_option maxRecDepth 100000 in
theorem known_any (o : Int) (h : 1 ≤ o) (w : World) : Calls Tryd.prog 90 #[.int .i64 o] w fun e w' => e = .returned (.bool (decide (o ≤ 15))) ∧ w = w' := by
  go_enter Tryd.func90, Tryd.ntmps90
  go_wp2
  go_ret
  exact ⟨rfl, rfl⟩

set_option maxHeartbeats 1000000 in
set_option maxRecDepth 100000 in
theorem written_any (x : List UInt8) (w : World) (ht : Signs w) : Calls Tryd.prog 88 #[.string ⟨x.toArray⟩] w fun e w' => e = .returned (.int .i64 (writtenL x)) ∧ w' = w := by
  have HT := Lib.hid ht
  clear ht
  go_enter Tryd.func88, Tryd.ntmps88
  go_wp2_with (fail)
  go_loop [3] (fun o => ∃ (n : Nat) (k : Int), o = .int .i64 k ∧ 1 ≤ k ∧ k + n = 16 ∧ writtenL x = writtenFrom x n k) (fun o => 16 - (intOf o).toNat)
  case atStart => exact ⟨15, 1, rfl, by omega, by omega, rfl⟩
  case round =>
    obtain ⟨n, k, rfl, hk, hn, hv⟩ := hrel
    have HV := Lib.hid hv
    clear hv
    by_cases h15 : k ≤ 15
    · obtain ⟨m, rfl⟩ : ∃ m, n = m + 1 := ⟨n - 1, by omega⟩
      have d15 : decide (k ≤ 15) = true := by simpa using h15
      by_cases hs : signL k = x
      · have HW := Lib.hid (show writtenFrom x (m + 1) k = k by rw [writtenFrom, if_neg (by simp [hs])])
        have b0 : (signL k == x) = true := by simpa using hs
        have HS := Lib.hid hs
        clear hs
        go_wp2_with (fail)
        refine (known_any k hk _).mono ?_; rintro e w1 ⟨rfl, rfl⟩
        go_wp2_with (fail)
        refine (sign_any k ⟨by omega, by omega⟩ _ HT.out).mono ?_; rintro e w1 ⟨rfl, rfl⟩
        go_wp2_with (fail)
        go_ret
        exact ⟨by rw [HV.out, HW.out]; rfl, rfl⟩
      · have HW := Lib.hid (show writtenFrom x (m + 1) k = writtenFrom x m (k + 1) by rw [writtenFrom, if_pos ⟨h15, hs⟩])
        have b0 : (signL k == x) = false := by simpa using hs
        have HS := Lib.hid hs
        clear hs
        go_wp2_with (fail)
        refine (known_any k hk _).mono ?_; rintro e w1 ⟨rfl, rfl⟩
        go_wp2_with (fail)
        refine (sign_any k ⟨by omega, by omega⟩ _ HT.out).mono ?_; rintro e w1 ⟨rfl, rfl⟩
        go_wp2_with (fail)
        go_round
        case rel => exact ⟨m, k + 1, rfl, by omega, by omega, by rw [HV.out, HW.out]⟩
        case measure => simp [intOf]; omega
    · obtain rfl : n = 0 := by omega
      have d15 : decide (k ≤ 15) = false := by simpa using h15
      go_wp2_with (fail)
      refine (known_any k hk _).mono ?_; rintro e w1 ⟨rfl, rfl⟩
      go_wp2_with (fail)
      go_ret
      exact ⟨by rw [HV.out]; rfl, rfl⟩
end Go.Proofs.YtgnnendcgbijnaaDoor
