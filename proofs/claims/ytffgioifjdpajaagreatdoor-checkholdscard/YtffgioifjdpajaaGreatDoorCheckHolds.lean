/-
  CheckHolds holds for all its inputs: a global word may be turned and told, an array by an index alone, a function by a call alone. Conditions: the tables of the package start as the program's text lays them (the tied card).
-/
import Derived.Test.YtffgioifjdpajaaGreatDoorTie
import Derived.Test.YtffgioifjdpajaaGreatDoorCards
import Derived.Test.YtffgioifjdpajaaGreatDoorChkU
import Derived.Test.YtffgioifjdpajaaGreatDoorMask
import Derived.Test.YtffgioifjdpajaaGreatDoorLd
import Derived.Deep.CutBlock
import Derived.Test.YtffgioifjdpajaaGreatDoorRegInv
import Derived.ProofKit
import Derived.LaidMore
import Derived.OpenShut
import Derived.ShutString
import Derived.SliceStrings
import Derived.Stop.Joined
import Derived.SevenTiedAt
namespace Go.Proofs.YtffgioifjdpajaaGreatDoor.checkHolds
open Go.ChangeShapes Go.WideShapes Go.ChangeAt Go.WideMaps Go.WideElems Go.RowKit
open Go.ChangeMaps (open_string shut_string)
set_option linter.unusedVariables false

open Go.Proofs.YtffgioifjdpajaaGreatDoor.RegInv
structure HGh where
  b9 : Nat
  b10 : Nat
  b11 : Nat
  a1 : Option Addr
  a2 : Nat
  a3 : Nat
  c1 : Option Addr
  c2 : Nat
  c3 : Nat
  m1 : Option Nat
  m2 : Option Nat
abbrev hA (g : HGh) : Value := .agg #[.slice g.a1 g.a2 g.a3, .slice g.c1 g.c2 g.c3]
abbrev hB (g : HGh) : Value := .agg #[.map g.m1, .map g.m2]
abbrev hC (x : Int × Int × Int) : Value := .agg #[.int .i64 x.1, .int .i64 x.2.1, .int .i64 x.2.2]
abbrev hV (n : Nat) (k h : Nat) (S T : ByteArray) (x : Int × Int × Int) (g : HGh) : List Value :=
  [.slice (some ⟨n, 0, none⟩) 7 7, .int .i64 k, .pointer (some ⟨n, k, none⟩), .string S, .string (S ++ ⟨#[102, 117, 110, 99, 32, 109, 97, 105, 110, 40, 41, 32, 123, 32]⟩), .slice (some ⟨n + 1, 0, none⟩) 6 6, .int .i64 h, .pointer (some ⟨n + 1, h, none⟩), .string T,
   .string (S ++ ⟨#[102, 117, 110, 99, 32, 109, 97, 105, 110, 40, 41, 32, 123, 32]⟩ ++ T), .string (S ++ ⟨#[102, 117, 110, 99, 32, 109, 97, 105, 110, 40, 41, 32, 123, 32]⟩ ++ T ++ ⟨#[125]⟩), .tuple #[hA g, hB g, hC x], .tuple #[hA g, hB g, hC x], hA g, hB g, hC x,
   .pointer (some ⟨g.b9, 0, none⟩), .pointer (some ⟨g.b10, 0, none⟩), .pointer (some ⟨g.b11, 0, none⟩), undef, undef, undef]
structure HInv (w2 : World) (x : Int) (L : Nat → Bool) (g : HGh) (w : World) : Prop where
  grown : w2.grownBy w none
  v9 : L 16 = true → w2.heap.size ≤ g.b9 ∧ ∃ u0 u1, w.heap[g.b9]? = some (.cells #[u0, u1] 25 (0, 0))
  v10 : L 17 = true → w2.heap.size ≤ g.b10 ∧ ∃ u0 u1, w.heap[g.b10]? = some (.cells #[u0, u1] 30 (0, 0))
  v11 : L 18 = true → w2.heap.size ≤ g.b11 ∧ ∃ u0 u1 u2, w.heap[g.b11]? = some (.cells #[u0, u1, u2] 35 (0, 0)) ∧ (L 21 = true → u0 = .int .i64 x)
theorem HInv.skip {w2 : World} {x : Int} {L : Nat → Bool} {g : HGh} {w : World} {i : Nat} (h : HInv w2 x L g w) (hi : i < 16) : HInv w2 x (setL L i) g w := by
  refine ⟨h.grown, fun q => h.v9 (by rwa [setL_ne (by omega)] at q), fun q => h.v10 (by rwa [setL_ne (by omega)] at q), fun q => ?_⟩
  obtain ⟨q1, u0, u1, u2, q2, q3⟩ := h.v11 (by rwa [setL_ne (by omega)] at q)
  exact ⟨q1, u0, u1, u2, q2, fun q => q3 (by rwa [setL_ne (by omega)] at q)⟩
theorem lt_of_heap {w : World} {b : Nat} {o : Obj} (h : w.heap[b]? = some o) : b < w.heap.size := (Array.getElem?_eq_some_iff.1 h).1
theorem HInv.went {w2 : World} {x : Int} {L : Nat → Bool} {g : HGh} {w w' : World} (h : HInv w2 x L g w) (hw : w.grownBy w' none) : HInv w2 x L g w' := by
  refine ⟨grown_trans h.grown hw, fun q => ?_, fun q => ?_, fun q => ?_⟩
  · obtain ⟨q1, u0, u1, q2⟩ := h.v9 q
    exact ⟨q1, u0, u1, (hw.block _ (lt_of_heap q2) (by simp)).trans q2⟩
  · obtain ⟨q1, u0, u1, q2⟩ := h.v10 q
    exact ⟨q1, u0, u1, (hw.block _ (lt_of_heap q2) (by simp)).trans q2⟩
  · obtain ⟨q1, u0, u1, u2, q2, q3⟩ := h.v11 q
    exact ⟨q1, u0, u1, u2, (hw.block _ (lt_of_heap q2) (by simp)).trans q2, q3⟩
theorem HInv.congr {w2 : World} {x : Int} {L : Nat → Bool} {g g' : HGh} {w : World} (h : HInv w2 x L g w) (h1 : L 16 = true → g'.b9 = g.b9) (h2 : L 17 = true → g'.b10 = g.b10) (h3 : L 18 = true → g'.b11 = g.b11) : HInv w2 x L g' w := by
  refine ⟨h.grown, fun q => ?_, fun q => ?_, fun q => ?_⟩
  · rw [h1 q]; exact h.v9 q
  · rw [h2 q]; exact h.v10 q
  · rw [h3 q]; exact h.v11 q
theorem HInv.alloc9 {w2 : World} {x : Int} {L : Nat → Bool} {g : HGh} {w : World} (h : HInv w2 x L g w) (hL : L 16 = false) (u0 u1 : Value) : HInv w2 x (setL L 16) { g with b9 := w.heap.size } (w.alloc (.cells #[u0, u1] 25)) := by
  have hh := (h.congr (g' := { g with b9 := w.heap.size }) (fun q => by simp [hL] at q) (fun _ => rfl) (fun _ => rfl)).went (grown_alloc w (.cells #[u0, u1] 25))
  refine ⟨hh.grown, fun _ => ⟨h.grown.size, u0, u1, alloc_at _ _ _ rfl⟩, fun q => hh.v10 (by rwa [setL_ne (by omega)] at q), fun q => ?_⟩
  obtain ⟨q1, a, b, c, q2, q3⟩ := hh.v11 (by rwa [setL_ne (by omega)] at q)
  exact ⟨q1, a, b, c, q2, fun q => q3 (by rwa [setL_ne (by omega)] at q)⟩
theorem HInv.alloc10 {w2 : World} {x : Int} {L : Nat → Bool} {g : HGh} {w : World} (h : HInv w2 x L g w) (hL : L 17 = false) (u0 u1 : Value) : HInv w2 x (setL L 17) { g with b10 := w.heap.size } (w.alloc (.cells #[u0, u1] 30)) := by
  have hh := (h.congr (g' := { g with b10 := w.heap.size }) (fun _ => rfl) (fun q => by simp [hL] at q) (fun _ => rfl)).went (grown_alloc w (.cells #[u0, u1] 30))
  refine ⟨hh.grown, fun q => hh.v9 (by rwa [setL_ne (by omega)] at q), fun _ => ⟨h.grown.size, u0, u1, alloc_at _ _ _ rfl⟩, fun q => ?_⟩
  obtain ⟨q1, a, b, c, q2, q3⟩ := hh.v11 (by rwa [setL_ne (by omega)] at q)
  exact ⟨q1, a, b, c, q2, fun q => q3 (by rwa [setL_ne (by omega)] at q)⟩
theorem HInv.alloc11 {w2 : World} {x : Int} {L : Nat → Bool} {g : HGh} {w : World} (h : HInv w2 x L g w) (hL : L 18 = false) (h21 : L 21 = false) (u0 u1 u2 : Value) : HInv w2 x (setL L 18) { g with b11 := w.heap.size } (w.alloc (.cells #[u0, u1, u2] 35)) := by
  have hh := (h.congr (g' := { g with b11 := w.heap.size }) (fun _ => rfl) (fun _ => rfl) (fun q => by simp [hL] at q)).went (grown_alloc w (.cells #[u0, u1, u2] 35))
  refine ⟨hh.grown, fun q => hh.v9 (by rwa [setL_ne (by omega)] at q), fun q => hh.v10 (by rwa [setL_ne (by omega)] at q), fun _ => ⟨h.grown.size, u0, u1, u2, alloc_at _ _ _ rfl, fun q => ?_⟩⟩
  rw [setL_ne (by omega), h21] at q; cases q
theorem elem_ty {w : World} {a b : Nat} {cs ds : Array Value} {s t : TypeId} (h1 : w.heap[a]? = some (.cells cs s (0, 0))) (h2 : w.heap[b]? = some (.cells ds t (0, 0))) (hne : s ≠ t) : a ≠ b := by
  rintro rfl; rw [h1] at h2; simp only [Option.some.injEq, Obj.cells.injEq] at h2; exact hne h2.2.1
theorem HInv.store9 {w2 : World} {x : Int} {L : Nat → Bool} {g : HGh} {w : World} (h : HInv w2 x L g w) (hL : L 16 = true) (y z : Value) : HInv w2 x (setL L 19) g ((w.setCell ⟨g.b9, 0, none⟩ y).setCell ⟨g.b9, 1, none⟩ z) := by
  obtain ⟨p1, v0, v1, p2⟩ := h.v9 hL
  refine ⟨grown_put (grown_put h.grown _ _ p1) _ _ p1, fun _ => ⟨p1, y, z, ?_⟩, fun q => ?_, fun q => ?_⟩
  · rw [set_block _ _ _ _ _ _ (set_block _ _ _ _ _ _ p2)]; rfl
  · obtain ⟨q1, u0, u1, q2⟩ := h.v10 (by rwa [setL_ne (by omega)] at q)
    have hne := elem_ty q2 p2 (by decide)
    exact ⟨q1, u0, u1, by rw [Below.heap_setCell _ _ _ _ hne, Below.heap_setCell _ _ _ _ hne]; exact q2⟩
  · obtain ⟨q1, u0, u1, u2, q2, q3⟩ := h.v11 (by rwa [setL_ne (by omega)] at q)
    have hne := elem_ty q2 p2 (by decide)
    exact ⟨q1, u0, u1, u2, by rw [Below.heap_setCell _ _ _ _ hne, Below.heap_setCell _ _ _ _ hne]; exact q2, fun q => q3 (by rwa [setL_ne (by omega)] at q)⟩
theorem HInv.store10 {w2 : World} {x : Int} {L : Nat → Bool} {g : HGh} {w : World} (h : HInv w2 x L g w) (hL : L 17 = true) (y z : Value) : HInv w2 x (setL L 20) g ((w.setCell ⟨g.b10, 0, none⟩ y).setCell ⟨g.b10, 1, none⟩ z) := by
  obtain ⟨p1, v0, v1, p2⟩ := h.v10 hL
  refine ⟨grown_put (grown_put h.grown _ _ p1) _ _ p1, fun q => ?_, fun _ => ⟨p1, y, z, ?_⟩, fun q => ?_⟩
  · obtain ⟨q1, u0, u1, q2⟩ := h.v9 (by rwa [setL_ne (by omega)] at q)
    have hne := elem_ty q2 p2 (by decide)
    exact ⟨q1, u0, u1, by rw [Below.heap_setCell _ _ _ _ hne, Below.heap_setCell _ _ _ _ hne]; exact q2⟩
  · rw [set_block _ _ _ _ _ _ (set_block _ _ _ _ _ _ p2)]; rfl
  · obtain ⟨q1, u0, u1, u2, q2, q3⟩ := h.v11 (by rwa [setL_ne (by omega)] at q)
    have hne := elem_ty q2 p2 (by decide)
    exact ⟨q1, u0, u1, u2, by rw [Below.heap_setCell _ _ _ _ hne, Below.heap_setCell _ _ _ _ hne]; exact q2, fun q => q3 (by rwa [setL_ne (by omega)] at q)⟩
theorem HInv.store11 {w2 : World} {x : Int} {L : Nat → Bool} {g : HGh} {w : World} (h : HInv w2 x L g w) (hL : L 18 = true) (y z : Value) : HInv w2 x (setL L 21) g (((w.setCell ⟨g.b11, 0, none⟩ (.int .i64 x)).setCell ⟨g.b11, 1, none⟩ y).setCell ⟨g.b11, 2, none⟩ z) := by
  obtain ⟨p1, v0, v1, v2, p2, _⟩ := h.v11 hL
  refine ⟨grown_put (grown_put (grown_put h.grown _ _ p1) _ _ p1) _ _ p1, fun q => ?_, fun q => ?_, fun _ => ⟨p1, .int .i64 x, y, z, ?_, fun _ => rfl⟩⟩
  · obtain ⟨q1, u0, u1, q2⟩ := h.v9 (by rwa [setL_ne (by omega)] at q)
    have hne := elem_ty q2 p2 (by decide)
    exact ⟨q1, u0, u1, by rw [Below.heap_setCell _ _ _ _ hne, Below.heap_setCell _ _ _ _ hne, Below.heap_setCell _ _ _ _ hne]; exact q2⟩
  · obtain ⟨q1, u0, u1, q2⟩ := h.v10 (by rwa [setL_ne (by omega)] at q)
    have hne := elem_ty q2 p2 (by decide)
    exact ⟨q1, u0, u1, by rw [Below.heap_setCell _ _ _ _ hne, Below.heap_setCell _ _ _ _ hne, Below.heap_setCell _ _ _ _ hne]; exact q2⟩
  · rw [set_block _ _ _ _ _ _ (set_block _ _ _ _ _ _ (set_block _ _ _ _ _ _ p2))]; rfl
theorem blk1 {w w3 : World} {o : Obj} (hg : (w.alloc o).grownBy w3 none) : w3.heap[w.heap.size]? = some o := (hg.block _ (by simp) (by simp)).trans (alloc_at _ _ _ rfl)
theorem blk2 {w w3 : World} {o p : Obj} (hg : ((w.alloc o).alloc p).grownBy w3 none) : w3.heap[w.heap.size]? = some o ∧ w3.heap[w.heap.size + 1]? = some p :=
  ⟨(hg.block _ (by simp <;> omega) (by simp)).trans (alloc_past _ _ _ _ (by simp) (alloc_at _ _ _ rfl)), (hg.block _ (by simp) (by simp)).trans (alloc_at _ _ _ (by simp))⟩
theorem blk3 {w w3 : World} {o p q : Obj} (hg : (((w.alloc o).alloc p).alloc q).grownBy w3 none) : w3.heap[w.heap.size]? = some o ∧ w3.heap[w.heap.size + 1]? = some p ∧ w3.heap[w.heap.size + 1 + 1]? = some q :=
  ⟨(hg.block _ (by simp <;> omega) (by simp)).trans (alloc_past _ _ _ _ (by simp <;> omega) (alloc_past _ _ _ _ (by simp) (alloc_at _ _ _ rfl))), (hg.block _ (by simp <;> omega) (by simp)).trans (alloc_past _ _ _ _ (by simp) (alloc_at _ _ _ (by simp))), (hg.block _ (by simp) (by simp)).trans (alloc_at _ _ _ (by simp))⟩
def holdG : Nat → List UInt8
  | 0 => [118, 97, 114, 32, 103, 59, 32]
  | 1 => [112, 117, 98, 108, 105, 99, 32, 103, 59, 32]
  | 2 => [115, 101, 99, 114, 101, 116, 32, 103, 59, 32]
  | 3 => [118, 97, 114, 32, 103, 91, 51, 93, 59, 32]
  | 4 => [112, 117, 98, 108, 105, 99, 32, 103, 91, 51, 93, 59, 32]
  | 5 => [115, 101, 99, 114, 101, 116, 32, 103, 91, 51, 93, 59, 32]
  | 6 => [102, 117, 110, 99, 32, 103, 40, 41, 32, 123, 32, 125, 32]
  | _ => []
def holdU : Nat → List UInt8
  | 0 => [114, 101, 116, 117, 114, 110, 32, 103, 59, 32]
  | 1 => [103, 32, 61, 32, 49, 59, 32]
  | 2 => [114, 101, 116, 117, 114, 110, 32, 103, 91, 48, 93, 59, 32]
  | 3 => [103, 91, 48, 93, 32, 61, 32, 49, 59, 32]
  | 4 => [114, 101, 116, 117, 114, 110, 32, 103, 40, 41, 59, 32]
  | 5 => [103, 40, 41, 59, 32]
  | _ => []
def holdM : List UInt8 := [102, 117, 110, 99, 32, 109, 97, 105, 110, 40, 41, 32, 123, 32]
def holdT (k h : Nat) : List UInt8 := holdG k ++ holdM ++ holdU h ++ [125]
def holdOk (k h : Nat) : Bool := (decide (k < 3) && decide (h < 2)) || (decide (3 ≤ k) && decide (k < 6) && (h == 2 || h == 3)) || (k == 6 && decide (4 ≤ h))
def holdAll : Bool := (List.range 7).all fun k => (List.range 6).all fun h => prFit (parseL (holdT k h)).1 && (ckTx (holdT k h)).1 == (if holdOk k h then 0 else 21)
theorem holdAll_true : holdAll = true := by kernel_rfl
theorem hold_at {k h : Nat} (hk : k < 7) (hh : h < 6) : prFit (parseL (holdT k h)).1 = true ∧ (ckTx (holdT k h)).1 = (if holdOk k h then 0 else 21) := by
  have q := List.all_eq_true.1 (List.all_eq_true.1 holdAll_true k (List.mem_range.2 hk)) h (List.mem_range.2 hh)
  simp only [Bool.and_eq_true, beq_iff_eq] at q
  exact q
def holdGs : Array Value := #[.string ⟨#[118, 97, 114, 32, 103, 59, 32]⟩, .string ⟨#[112, 117, 98, 108, 105, 99, 32, 103, 59, 32]⟩, .string ⟨#[115, 101, 99, 114, 101, 116, 32, 103, 59, 32]⟩, .string ⟨#[118, 97, 114, 32, 103, 91, 51, 93, 59, 32]⟩, .string ⟨#[112, 117, 98, 108, 105, 99, 32, 103, 91, 51, 93, 59, 32]⟩, .string ⟨#[115, 101, 99, 114, 101, 116, 32, 103, 91, 51, 93, 59, 32]⟩, .string ⟨#[102, 117, 110, 99, 32, 103, 40, 41, 32, 123, 32, 125, 32]⟩]
def holdUs : Array Value := #[.string ⟨#[114, 101, 116, 117, 114, 110, 32, 103, 59, 32]⟩, .string ⟨#[103, 32, 61, 32, 49, 59, 32]⟩, .string ⟨#[114, 101, 116, 117, 114, 110, 32, 103, 91, 48, 93, 59, 32]⟩, .string ⟨#[103, 91, 48, 93, 32, 61, 32, 49, 59, 32]⟩, .string ⟨#[114, 101, 116, 117, 114, 110, 32, 103, 40, 41, 59, 32]⟩, .string ⟨#[103, 40, 41, 59, 32]⟩]
theorem holdGs_at : ∀ k, k < 7 → holdGs[k]? = some (.string ⟨(holdG k).toArray⟩) ∧ (holdG k).length ≤ 20 := by
  intro k hk
  have : k = 0 ∨ k = 1 ∨ k = 2 ∨ k = 3 ∨ k = 4 ∨ k = 5 ∨ k = 6 := by omega
  rcases this with rfl | rfl | rfl | rfl | rfl | rfl | rfl <;> exact ⟨rfl, by decide⟩
theorem holdUs_at : ∀ k, k < 6 → holdUs[k]? = some (.string ⟨(holdU k).toArray⟩) ∧ (holdU k).length ≤ 20 := by
  intro k hk
  have : k = 0 ∨ k = 1 ∨ k = 2 ∨ k = 3 ∨ k = 4 ∨ k = 5 := by omega
  rcases this with rfl | rfl | rfl | rfl | rfl | rfl <;> exact ⟨rfl, by decide⟩
set_option maxHeartbeats 16000000 in
set_option maxRecDepth 100000 in
theorem holds_core (a b : Int) (k h : Nat) (hk : k < 7) (hh : h < 6) (hka : wrap64 ((IntKind.u64.wrap a).tmod 7) = (k : Int)) (hhb : wrap64 ((IntKind.u64.wrap b).tmod 6) = (h : Int)) (w : World) (hg : Ground w) :
    Calls Tryz.prog 8 #[.int .i64 a, .int .i64 b] w fun e w' => e = .returned (.bool true) ∧ Below w.heap.size w w' := by
  have HG := Lib.hid hg; have HKA := Lib.hid hka; have HHB := Lib.hid hhb
  clear hg hka hhb
  go_enter Tryz.func8, Tryz.ntmps8
  go_wp2_with (fail)
  refine (head_any _ HG.out).mono ?_
  rintro e w1 ⟨rfl, hg1⟩
  have HG1 := Lib.hid hg1
  clear hg1
  go_upto_region 5 with (fail)
  change Code.wp _ _ _ _ ((w1.alloc (.cells holdGs 9)).alloc (.cells holdUs 9))
  obtain ⟨w2, hw2⟩ : ∃ w2, w2 = (w1.alloc (.cells holdGs 9)).alloc (.cells holdUs 9) := ⟨_, rfl⟩
  rw [← hw2]
  obtain ⟨hc, hcl⟩ := holdGs_at k hk
  obtain ⟨hd, hdl⟩ := holdUs_at h hh
  have hb1 : w2.heap[w1.heap.size]? = some (.cells holdGs 9 (0, 0)) := by rw [hw2]; exact alloc_past _ _ _ _ (by simp) (alloc_at _ _ _ rfl)
  have hb2 : w2.heap[w1.heap.size + 1]? = some (.cells holdUs 9 (0, 0)) := by rw [hw2]; exact alloc_at _ _ _ (by simp)
  have c0 : w2.cell? ⟨w1.heap.size, k, none⟩ = some (.string ⟨(holdG k).toArray⟩) := by rw [Lib.cell_of_heap hb1]; exact hc
  have d0 : w2.cell? ⟨w1.heap.size + 1, h, none⟩ = some (.string ⟨(holdU h).toArray⟩) := by rw [Lib.cell_of_heap hb2]; exact hd
  have hlt : w1.heap.size + 1 < w2.heap.size := by rw [hw2]; simp
  have hlt0 : w1.heap.size < w2.heap.size := by omega
  have HG2 := Lib.hid (grown_trans HG1.out (show w1.grownBy w2 none by rw [hw2]; exact grown_trans (grown_alloc _ _) (grown_alloc _ _)))
  obtain ⟨hfit, htx⟩ := hold_at hk hh
  have HTX := Lib.hid htx
  have hcall : ∀ wx, w2.grownBy wx none → Calls Tryz.prog 16 #[.string ((⟨(holdG k).toArray⟩ : ByteArray) ++ ⟨#[102, 117, 110, 99, 32, 109, 97, 105, 110, 40, 41, 32, 123, 32]⟩ ++ ⟨(holdU h).toArray⟩ ++ ⟨#[125]⟩)] wx (FaultPost (ckTx (holdT k h)) wx) := fun wx hwx =>
    text_fault _ (by simp only [ByteArray.size_append]; have : (⟨(holdG k).toArray⟩ : ByteArray).size = (holdG k).length := by simp [ByteArray.size]
                     have : (⟨(holdU h).toArray⟩ : ByteArray).size = (holdU h).length := by simp [ByteArray.size]
                     have : (⟨#[102, 117, 110, 99, 32, 109, 97, 105, 110, 40, 41, 32, 123, 32]⟩ : ByteArray).size = 14 := rfl
                     have : (⟨#[125]⟩ : ByteArray).size = 1 := rfl
                     omega) _ (by simp [holdT, holdM, ByteArray.data_append]) hfit wx (HG.out.more (grown_trans HG2.out hwx))
  have HCALL := Lib.hid hcall
  have hs1 : (⟨(holdG k).toArray⟩ : ByteArray).size ≤ 20 := by simpa [ByteArray.size] using hcl
  have hs2 : (⟨(holdU h).toArray⟩ : ByteArray).size ≤ 20 := by simpa [ByteArray.size] using hdl
  clear hcall hb1 hb2 hc hd hcl hdl hfit htx hw2
  have hka := HKA.out
  have hhb := HHB.out
  generalize (⟨(holdG k).toArray⟩ : ByteArray) = S at *
  generalize (⟨(holdU h).toArray⟩ : ByteArray) = T at *
  generalize ckTx (holdT k h) = x at *
  go_upto_region 7 with (fail)
  rw [hka, hhb]
  clear hka hhb HKA HHB
  have q1 : (0 : Int) ≤ (k : Int) := by omega
  have q2 : (k : Int) < 7 := by omega
  have q3 : (0 : Int) ≤ (h : Int) := by omega
  have q4 : (h : Int) < 6 := by omega
  have q5 := Int.toNat_natCast k
  have s1 : ¬ (9223372036854775807 < S.size + 14) := by omega
  have s2 : ¬ (9223372036854775807 < S.size + 14 + T.size) := by omega
  have s3 : ¬ (9223372036854775807 < S.size + 14 + T.size + 1) := by omega
  have q6 := Int.toNat_natCast h
  go_cut [9, 10, 11] from 25 to 41 (fun p9 p10 p11 wx => ∃ q, p11 = .pointer (some ⟨q, 0, none⟩) ∧ q < wx.heap.size ∧ Below w.heap.size w wx ∧ wx.cell? ⟨q, 0, none⟩ = some (.int .i64 x.1))
  case first =>
    refine wp_region_by (by kernel_rfl) (hV w1.heap.size k h S T x) (HInv w2 x.1) ⟨0, 0, 0, none, 0, 0, none, 0, 0, none, none⟩ (fun _ => rfl) (by kernel_rfl) ?h0 ?steps ?done
    case h0 => exact ⟨grown_drew (grown_refl _), fun q => by simp at q, fun q => by simp at q, fun q => by simp at q⟩
    case done =>
      intro g w' hI
      simp only [full, Act.put, List.setIfInBounds_toArray, List.set_cons_zero, List.set_cons_succ]
      go_wp2_with (fail)
      go_meet
      case rel =>
        obtain ⟨hb0, u0, u1, u2, hh, hx⟩ := hI.v11 rfl
        obtain rfl := hx rfl
        exact ⟨_, rfl, lt_of_heap hh, below_grown (grown_trans HG2.out hI.grown) (Nat.le_refl _), (three hh).1.1⟩
    case steps =>
      refine Steps.cons (k' := 1) ?s0 rfl (Steps.cons (k' := 2) ?s1 rfl (Steps.cons (k' := 3) ?s2 rfl (Steps.cons (k' := 4) ?s3 rfl (Steps.cons (k' := 5) ?s4 rfl (Steps.cons (k' := 6) ?s5 rfl (Steps.cons (k' := 7) ?s6 rfl (Steps.cons (k' := 8) ?s7 rfl (Steps.cons (k' := 9) ?s8 rfl (Steps.cons (k' := 10) ?s9 rfl (Steps.cons (k' := 11) ?s10 rfl (Steps.cons (k' := 12) ?s11 rfl (Steps.cons (k' := 13) ?s12 rfl (Steps.cons (k' := 14) ?s13 rfl (Steps.cons (k' := 15) ?s14 rfl (Steps.cons (k' := 16) ?s15 rfl (Steps.cons (k' := 17) ?s16 rfl (Steps.cons (k' := 18) ?s17 rfl (Steps.cons (k' := 19) ?s18 rfl (Steps.cons (k' := 20) ?s19 rfl (Steps.cons (k' := 21) ?s20 rfl (Steps.cons (k' := 22) ?s21 rfl (Steps.nil))))))))))))))))))))))
      case s0 =>
        intro L g w hL hd hcl hI K hK
        simp only [full, Act.put, List.setIfInBounds_toArray, List.set_cons_zero, List.set_cons_succ] at hK ⊢
        have HL := Lib.hid hL; have HD := Lib.hid hd; have HC := Lib.hid hcl; have HI := Lib.hid hI; have HK := Lib.hid hK
        clear hL hd hcl hI hK
        go_simp
        exact HK.out _ _ g rfl (fun _ _ => rfl) (HI.out.skip (by decide))
      case s1 =>
        intro L g w hL hd hcl hI K hK
        simp only [full, Act.put, List.setIfInBounds_toArray, List.set_cons_zero, List.set_cons_succ] at hK ⊢
        have HL := Lib.hid hL; have HD := Lib.hid hd; have HC := Lib.hid hcl; have HI := Lib.hid hI; have HK := Lib.hid hK
        clear hL hd hcl hI hK
        go_simp
        exact HK.out _ _ g rfl (fun _ _ => rfl) (HI.out.skip (by decide))
      case s2 =>
        intro L g w hL hd hcl hI K hK
        simp only [full, Act.put, List.setIfInBounds_toArray, List.set_cons_zero, List.set_cons_succ] at hK ⊢
        have HL := Lib.hid hL; have HD := Lib.hid hd; have HC := Lib.hid hcl; have HI := Lib.hid hI; have HK := Lib.hid hK
        clear hL hd hcl hI hK
        go_simp
        exact HK.out _ _ g rfl (fun _ _ => rfl) (HI.out.skip (by decide))
      case s3 =>
        intro L g w hL hd hcl hI K hK
        simp only [full, Act.put, List.setIfInBounds_toArray, List.set_cons_zero, List.set_cons_succ] at hK ⊢
        have z := (World.cell?_of_block (hI.grown.block _ hlt0 (by simp))).trans c0
        have HL := Lib.hid hL; have HD := Lib.hid hd; have HC := Lib.hid hcl; have HI := Lib.hid hI; have HK := Lib.hid hK
        clear hL hd hcl hI hK
        go_simp
        exact HK.out _ _ g rfl (fun _ _ => rfl) (HI.out.skip (by decide))
      case s4 =>
        intro L g w hL hd hcl hI K hK
        simp only [full, Act.put, List.setIfInBounds_toArray, List.set_cons_zero, List.set_cons_succ] at hK ⊢
        have HL := Lib.hid hL; have HD := Lib.hid hd; have HC := Lib.hid hcl; have HI := Lib.hid hI; have HK := Lib.hid hK
        clear hL hd hcl hI hK
        go_simp
        exact HK.out _ _ g rfl (fun _ _ => rfl) (HI.out.skip (by decide))
      case s5 =>
        intro L g w hL hd hcl hI K hK
        simp only [full, Act.put, List.setIfInBounds_toArray, List.set_cons_zero, List.set_cons_succ] at hK ⊢
        have HL := Lib.hid hL; have HD := Lib.hid hd; have HC := Lib.hid hcl; have HI := Lib.hid hI; have HK := Lib.hid hK
        clear hL hd hcl hI hK
        go_simp
        exact HK.out _ _ g rfl (fun _ _ => rfl) (HI.out.skip (by decide))
      case s6 =>
        intro L g w hL hd hcl hI K hK
        simp only [full, Act.put, List.setIfInBounds_toArray, List.set_cons_zero, List.set_cons_succ] at hK ⊢
        have HL := Lib.hid hL; have HD := Lib.hid hd; have HC := Lib.hid hcl; have HI := Lib.hid hI; have HK := Lib.hid hK
        clear hL hd hcl hI hK
        go_simp
        exact HK.out _ _ g rfl (fun _ _ => rfl) (HI.out.skip (by decide))
      case s7 =>
        intro L g w hL hd hcl hI K hK
        simp only [full, Act.put, List.setIfInBounds_toArray, List.set_cons_zero, List.set_cons_succ] at hK ⊢
        have HL := Lib.hid hL; have HD := Lib.hid hd; have HC := Lib.hid hcl; have HI := Lib.hid hI; have HK := Lib.hid hK
        clear hL hd hcl hI hK
        go_simp
        exact HK.out _ _ g rfl (fun _ _ => rfl) (HI.out.skip (by decide))
      case s8 =>
        intro L g w hL hd hcl hI K hK
        simp only [full, Act.put, List.setIfInBounds_toArray, List.set_cons_zero, List.set_cons_succ] at hK ⊢
        have z := (World.cell?_of_block (hI.grown.block _ hlt (by simp))).trans d0
        have HL := Lib.hid hL; have HD := Lib.hid hd; have HC := Lib.hid hcl; have HI := Lib.hid hI; have HK := Lib.hid hK
        clear hL hd hcl hI hK
        go_simp
        exact HK.out _ _ g rfl (fun _ _ => rfl) (HI.out.skip (by decide))
      case s9 =>
        intro L g w hL hd hcl hI K hK
        simp only [full, Act.put, List.setIfInBounds_toArray, List.set_cons_zero, List.set_cons_succ] at hK ⊢
        have HL := Lib.hid hL; have HD := Lib.hid hd; have HC := Lib.hid hcl; have HI := Lib.hid hI; have HK := Lib.hid hK
        clear hL hd hcl hI hK
        go_simp
        exact HK.out _ _ g rfl (fun _ _ => rfl) (HI.out.skip (by decide))
      case s10 =>
        intro L g w hL hd hcl hI K hK
        simp only [full, Act.put, List.setIfInBounds_toArray, List.set_cons_zero, List.set_cons_succ] at hK ⊢
        have HL := Lib.hid hL; have HD := Lib.hid hd; have HC := Lib.hid hcl; have HI := Lib.hid hI; have HK := Lib.hid hK
        clear hL hd hcl hI hK
        go_simp
        exact HK.out _ _ g rfl (fun _ _ => rfl) (HI.out.skip (by decide))
      case s11 =>
        intro L g w hL hd hcl hI K hK
        simp only [full, Act.put, List.setIfInBounds_toArray, List.set_cons_zero, List.set_cons_succ] at hK ⊢
        have HL := Lib.hid hL; have HD := Lib.hid hd; have HC := Lib.hid hcl; have HI := Lib.hid hI; have HK := Lib.hid hK
        clear hL hd hcl hI hK
        go_simp
        refine (HCALL.out _ HI.out.grown).mono ?_
        rintro e' w3 ⟨a1, a2, a3, b1, b2, b3, m1, m2, rfl, hg3⟩
        have l11 := HL.out
        have l12 := HC.out.not 12 11 (by kernel_rfl) l11
        have l13 := HC.out.not 13 12 (by kernel_rfl) l12
        have l14 := HC.out.not 14 12 (by kernel_rfl) l12
        have l15 := HC.out.not 15 12 (by kernel_rfl) l12
        refine HK.out _ _ { g with a1 := a1, a2 := a2, a3 := a3, c1 := b1, c2 := b2, c3 := b3, m1 := m1, m2 := m2 } rfl ?_ (HInv.skip (i := 11) ((HI.out.congr (g' := { g with a1 := a1, a2 := a2, a3 := a3, c1 := b1, c2 := b2, c3 := b3, m1 := m1, m2 := m2 }) (fun _ => rfl) (fun _ => rfl) (fun _ => rfl)).went hg3) (by decide))
        let g' : HGh := { g with a1 := a1, a2 := a2, a3 := a3, c1 := b1, c2 := b2, c3 := b3, m1 := m1, m2 := m2 }
        exact get_trans (get_trans (get_trans (get_trans (set_get 11 (v := .tuple #[hA g', hB g', hC x]) l11 rfl) (set_get 12 (v := .tuple #[hA g', hB g', hC x]) l12 rfl)) (set_get 13 (v := hA g') l13 rfl)) (set_get 14 (v := hB g') l14 rfl)) (set_get 15 (v := hC x) l15 rfl)
      case s12 =>
        intro L g w hL hd hcl hI K hK
        simp only [full, Act.put, List.setIfInBounds_toArray, List.set_cons_zero, List.set_cons_succ] at hK ⊢
        have HL := Lib.hid hL; have HD := Lib.hid hd; have HC := Lib.hid hcl; have HI := Lib.hid hI; have HK := Lib.hid hK
        clear hL hd hcl hI hK
        go_simp
        exact HK.out _ _ g rfl (fun _ _ => rfl) (HI.out.skip (by decide))
      case s13 =>
        intro L g w hL hd hcl hI K hK
        simp only [full, Act.put, List.setIfInBounds_toArray, List.set_cons_zero, List.set_cons_succ] at hK ⊢
        have HL := Lib.hid hL; have HD := Lib.hid hd; have HC := Lib.hid hcl; have HI := Lib.hid hI; have HK := Lib.hid hK
        clear hL hd hcl hI hK
        go_simp
        exact HK.out _ _ g rfl (fun _ _ => rfl) (HI.out.skip (by decide))
      case s14 =>
        intro L g w hL hd hcl hI K hK
        simp only [full, Act.put, List.setIfInBounds_toArray, List.set_cons_zero, List.set_cons_succ] at hK ⊢
        have HL := Lib.hid hL; have HD := Lib.hid hd; have HC := Lib.hid hcl; have HI := Lib.hid hI; have HK := Lib.hid hK
        clear hL hd hcl hI hK
        go_simp
        exact HK.out _ _ g rfl (fun _ _ => rfl) (HI.out.skip (by decide))
      case s15 =>
        intro L g w hL hd hcl hI K hK
        simp only [full, Act.put, List.setIfInBounds_toArray, List.set_cons_zero, List.set_cons_succ] at hK ⊢
        have HL := Lib.hid hL; have HD := Lib.hid hd; have HC := Lib.hid hcl; have HI := Lib.hid hI; have HK := Lib.hid hK
        clear hL hd hcl hI hK
        go_simp
        exact HK.out _ _ g rfl (fun _ _ => rfl) (HI.out.skip (by decide))
      case s16 =>
        intro L g w hL hd hcl hI K hK
        simp only [full, Act.put, List.setIfInBounds_toArray, List.set_cons_zero, List.set_cons_succ] at hK ⊢
        have HL := Lib.hid hL; have HD := Lib.hid hd; have HC := Lib.hid hcl; have HI := Lib.hid hI; have HK := Lib.hid hK
        clear hL hd hcl hI hK
        go_simp
        exact HK.out _ _ { g with b9 := w.heap.size } rfl (set_get 16 HL.out rfl) (HI.out.alloc9 HL.out _ _)
      case s17 =>
        intro L g w hL hd hcl hI K hK
        simp only [full, Act.put, List.setIfInBounds_toArray, List.set_cons_zero, List.set_cons_succ] at hK ⊢
        have HL := Lib.hid hL; have HD := Lib.hid hd; have HC := Lib.hid hcl; have HI := Lib.hid hI; have HK := Lib.hid hK
        clear hL hd hcl hI hK
        go_simp
        exact HK.out _ _ { g with b10 := w.heap.size } rfl (set_get 17 HL.out rfl) (HI.out.alloc10 HL.out _ _)
      case s18 =>
        intro L g w hL hd hcl hI K hK
        simp only [full, Act.put, List.setIfInBounds_toArray, List.set_cons_zero, List.set_cons_succ] at hK ⊢
        have HL := Lib.hid hL; have HD := Lib.hid hd; have HC := Lib.hid hcl; have HI := Lib.hid hI; have HK := Lib.hid hK
        clear hL hd hcl hI hK
        go_simp
        exact HK.out _ _ { g with b11 := w.heap.size } rfl (set_get 18 HL.out rfl) (HI.out.alloc11 HL.out (HC.out.not 21 18 (by kernel_rfl) HL.out) _ _ _)
      case s19 =>
        intro L g w hL hd hcl hI K hK
        simp only [full, Act.put, List.setIfInBounds_toArray, List.set_cons_zero, List.set_cons_succ] at hK ⊢
        have hl := dep_of hd 16 (by kernel_rfl)
        obtain ⟨hb0, u0, u1, hb⟩ := hI.v9 hl
        obtain ⟨⟨p0, p1⟩, f0, f1⟩ := two hb
        have hbl := lt_of_heap hb
        clear hb hb0
        have HLL := Lib.hid hl; clear hl
        have HL := Lib.hid hL; have HD := Lib.hid hd; have HC := Lib.hid hcl; have HI := Lib.hid hI; have HK := Lib.hid hK
        clear hL hd hcl hI hK
        go_simp
        exact HK.out undef _ g rfl (fun _ _ => rfl) (HI.out.store9 HLL.out _ _)
      case s20 =>
        intro L g w hL hd hcl hI K hK
        simp only [full, Act.put, List.setIfInBounds_toArray, List.set_cons_zero, List.set_cons_succ] at hK ⊢
        have hl := dep_of hd 17 (by kernel_rfl)
        obtain ⟨hb0, u0, u1, hb⟩ := hI.v10 hl
        obtain ⟨⟨p0, p1⟩, f0, f1⟩ := two hb
        have hbl := lt_of_heap hb
        clear hb hb0
        have HLL := Lib.hid hl; clear hl
        have HL := Lib.hid hL; have HD := Lib.hid hd; have HC := Lib.hid hcl; have HI := Lib.hid hI; have HK := Lib.hid hK
        clear hL hd hcl hI hK
        go_simp
        exact HK.out undef _ g rfl (fun _ _ => rfl) (HI.out.store10 HLL.out _ _)
      case s21 =>
        intro L g w hL hd hcl hI K hK
        simp only [full, Act.put, List.setIfInBounds_toArray, List.set_cons_zero, List.set_cons_succ] at hK ⊢
        have hl := dep_of hd 18 (by kernel_rfl)
        obtain ⟨hb0, u0, u1, u2, hb, _⟩ := hI.v11 hl
        obtain ⟨⟨p0, p1, p2⟩, f0, f1, f2⟩ := three hb
        have hbl := lt_of_heap hb
        clear hb hb0
        have HLL := Lib.hid hl; clear hl
        have HL := Lib.hid hL; have HD := Lib.hid hd; have HC := Lib.hid hcl; have HI := Lib.hid hI; have HK := Lib.hid hK
        clear hL hd hcl hI hK
        go_simp
        exact HK.out undef _ g rfl (fun _ _ => rfl) (HI.out.store11 HLL.out _ _)
  case rest =>
    obtain ⟨q, rfl, hq, hbl, hc⟩ := hcut
    have HBL := Lib.hid hbl
    clear hbl HCALL HG2 HG1 HG
    have hx := HTX.out
    have HH : holdOk k h = holdOk k h := rfl
    have hkk : k = 0 ∨ k = 1 ∨ k = 2 ∨ k = 3 ∨ k = 4 ∨ k = 5 ∨ k = 6 := by omega
    have hhh : h = 0 ∨ h = 1 ∨ h = 2 ∨ h = 3 ∨ h = 4 ∨ h = 5 := by omega
    rw [hx] at hc
    clear hx HTX HH q1 q2 q3 q4 q5 q6 s1 s2 s3 hs1 hs2 c0 d0 hlt hlt0 hk hh
    rcases hkk with rfl | rfl | rfl | rfl | rfl | rfl | rfl
    · rcases hhh with rfl | rfl | rfl | rfl | rfl | rfl
      · rw [show holdOk 0 0 = true from by kernel_rfl] at hc
        simp only [if_true] at hc
        go_wp2_with (fail)
        go_ret
        exact ⟨rfl, HBL.out⟩
      · rw [show holdOk 0 1 = true from by kernel_rfl] at hc
        simp only [if_true] at hc
        go_wp2_with (fail)
        go_ret
        exact ⟨rfl, HBL.out⟩
      · rw [show holdOk 0 2 = false from by kernel_rfl] at hc
        simp only [Bool.false_eq_true, if_false] at hc
        go_wp2_with (fail)
        go_ret
        exact ⟨rfl, HBL.out⟩
      · rw [show holdOk 0 3 = false from by kernel_rfl] at hc
        simp only [Bool.false_eq_true, if_false] at hc
        go_wp2_with (fail)
        go_ret
        exact ⟨rfl, HBL.out⟩
      · rw [show holdOk 0 4 = false from by kernel_rfl] at hc
        simp only [Bool.false_eq_true, if_false] at hc
        go_wp2_with (fail)
        go_ret
        exact ⟨rfl, HBL.out⟩
      · rw [show holdOk 0 5 = false from by kernel_rfl] at hc
        simp only [Bool.false_eq_true, if_false] at hc
        go_wp2_with (fail)
        go_ret
        exact ⟨rfl, HBL.out⟩
    · rcases hhh with rfl | rfl | rfl | rfl | rfl | rfl
      · rw [show holdOk 1 0 = true from by kernel_rfl] at hc
        simp only [if_true] at hc
        go_wp2_with (fail)
        go_ret
        exact ⟨rfl, HBL.out⟩
      · rw [show holdOk 1 1 = true from by kernel_rfl] at hc
        simp only [if_true] at hc
        go_wp2_with (fail)
        go_ret
        exact ⟨rfl, HBL.out⟩
      · rw [show holdOk 1 2 = false from by kernel_rfl] at hc
        simp only [Bool.false_eq_true, if_false] at hc
        go_wp2_with (fail)
        go_ret
        exact ⟨rfl, HBL.out⟩
      · rw [show holdOk 1 3 = false from by kernel_rfl] at hc
        simp only [Bool.false_eq_true, if_false] at hc
        go_wp2_with (fail)
        go_ret
        exact ⟨rfl, HBL.out⟩
      · rw [show holdOk 1 4 = false from by kernel_rfl] at hc
        simp only [Bool.false_eq_true, if_false] at hc
        go_wp2_with (fail)
        go_ret
        exact ⟨rfl, HBL.out⟩
      · rw [show holdOk 1 5 = false from by kernel_rfl] at hc
        simp only [Bool.false_eq_true, if_false] at hc
        go_wp2_with (fail)
        go_ret
        exact ⟨rfl, HBL.out⟩
    · rcases hhh with rfl | rfl | rfl | rfl | rfl | rfl
      · rw [show holdOk 2 0 = true from by kernel_rfl] at hc
        simp only [if_true] at hc
        go_wp2_with (fail)
        go_ret
        exact ⟨rfl, HBL.out⟩
      · rw [show holdOk 2 1 = true from by kernel_rfl] at hc
        simp only [if_true] at hc
        go_wp2_with (fail)
        go_ret
        exact ⟨rfl, HBL.out⟩
      · rw [show holdOk 2 2 = false from by kernel_rfl] at hc
        simp only [Bool.false_eq_true, if_false] at hc
        go_wp2_with (fail)
        go_ret
        exact ⟨rfl, HBL.out⟩
      · rw [show holdOk 2 3 = false from by kernel_rfl] at hc
        simp only [Bool.false_eq_true, if_false] at hc
        go_wp2_with (fail)
        go_ret
        exact ⟨rfl, HBL.out⟩
      · rw [show holdOk 2 4 = false from by kernel_rfl] at hc
        simp only [Bool.false_eq_true, if_false] at hc
        go_wp2_with (fail)
        go_ret
        exact ⟨rfl, HBL.out⟩
      · rw [show holdOk 2 5 = false from by kernel_rfl] at hc
        simp only [Bool.false_eq_true, if_false] at hc
        go_wp2_with (fail)
        go_ret
        exact ⟨rfl, HBL.out⟩
    · rcases hhh with rfl | rfl | rfl | rfl | rfl | rfl
      · rw [show holdOk 3 0 = false from by kernel_rfl] at hc
        simp only [Bool.false_eq_true, if_false] at hc
        go_wp2_with (fail)
        go_ret
        exact ⟨rfl, HBL.out⟩
      · rw [show holdOk 3 1 = false from by kernel_rfl] at hc
        simp only [Bool.false_eq_true, if_false] at hc
        go_wp2_with (fail)
        go_ret
        exact ⟨rfl, HBL.out⟩
      · rw [show holdOk 3 2 = true from by kernel_rfl] at hc
        simp only [if_true] at hc
        go_wp2_with (fail)
        go_ret
        exact ⟨rfl, HBL.out⟩
      · rw [show holdOk 3 3 = true from by kernel_rfl] at hc
        simp only [if_true] at hc
        go_wp2_with (fail)
        go_ret
        exact ⟨rfl, HBL.out⟩
      · rw [show holdOk 3 4 = false from by kernel_rfl] at hc
        simp only [Bool.false_eq_true, if_false] at hc
        go_wp2_with (fail)
        go_ret
        exact ⟨rfl, HBL.out⟩
      · rw [show holdOk 3 5 = false from by kernel_rfl] at hc
        simp only [Bool.false_eq_true, if_false] at hc
        go_wp2_with (fail)
        go_ret
        exact ⟨rfl, HBL.out⟩
    · rcases hhh with rfl | rfl | rfl | rfl | rfl | rfl
      · rw [show holdOk 4 0 = false from by kernel_rfl] at hc
        simp only [Bool.false_eq_true, if_false] at hc
        go_wp2_with (fail)
        go_ret
        exact ⟨rfl, HBL.out⟩
      · rw [show holdOk 4 1 = false from by kernel_rfl] at hc
        simp only [Bool.false_eq_true, if_false] at hc
        go_wp2_with (fail)
        go_ret
        exact ⟨rfl, HBL.out⟩
      · rw [show holdOk 4 2 = true from by kernel_rfl] at hc
        simp only [if_true] at hc
        go_wp2_with (fail)
        go_ret
        exact ⟨rfl, HBL.out⟩
      · rw [show holdOk 4 3 = true from by kernel_rfl] at hc
        simp only [if_true] at hc
        go_wp2_with (fail)
        go_ret
        exact ⟨rfl, HBL.out⟩
      · rw [show holdOk 4 4 = false from by kernel_rfl] at hc
        simp only [Bool.false_eq_true, if_false] at hc
        go_wp2_with (fail)
        go_ret
        exact ⟨rfl, HBL.out⟩
      · rw [show holdOk 4 5 = false from by kernel_rfl] at hc
        simp only [Bool.false_eq_true, if_false] at hc
        go_wp2_with (fail)
        go_ret
        exact ⟨rfl, HBL.out⟩
    · rcases hhh with rfl | rfl | rfl | rfl | rfl | rfl
      · rw [show holdOk 5 0 = false from by kernel_rfl] at hc
        simp only [Bool.false_eq_true, if_false] at hc
        go_wp2_with (fail)
        go_ret
        exact ⟨rfl, HBL.out⟩
      · rw [show holdOk 5 1 = false from by kernel_rfl] at hc
        simp only [Bool.false_eq_true, if_false] at hc
        go_wp2_with (fail)
        go_ret
        exact ⟨rfl, HBL.out⟩
      · rw [show holdOk 5 2 = true from by kernel_rfl] at hc
        simp only [if_true] at hc
        go_wp2_with (fail)
        go_ret
        exact ⟨rfl, HBL.out⟩
      · rw [show holdOk 5 3 = true from by kernel_rfl] at hc
        simp only [if_true] at hc
        go_wp2_with (fail)
        go_ret
        exact ⟨rfl, HBL.out⟩
      · rw [show holdOk 5 4 = false from by kernel_rfl] at hc
        simp only [Bool.false_eq_true, if_false] at hc
        go_wp2_with (fail)
        go_ret
        exact ⟨rfl, HBL.out⟩
      · rw [show holdOk 5 5 = false from by kernel_rfl] at hc
        simp only [Bool.false_eq_true, if_false] at hc
        go_wp2_with (fail)
        go_ret
        exact ⟨rfl, HBL.out⟩
    · rcases hhh with rfl | rfl | rfl | rfl | rfl | rfl
      · rw [show holdOk 6 0 = false from by kernel_rfl] at hc
        simp only [Bool.false_eq_true, if_false] at hc
        go_wp2_with (fail)
        go_ret
        exact ⟨rfl, HBL.out⟩
      · rw [show holdOk 6 1 = false from by kernel_rfl] at hc
        simp only [Bool.false_eq_true, if_false] at hc
        go_wp2_with (fail)
        go_ret
        exact ⟨rfl, HBL.out⟩
      · rw [show holdOk 6 2 = false from by kernel_rfl] at hc
        simp only [Bool.false_eq_true, if_false] at hc
        go_wp2_with (fail)
        go_ret
        exact ⟨rfl, HBL.out⟩
      · rw [show holdOk 6 3 = false from by kernel_rfl] at hc
        simp only [Bool.false_eq_true, if_false] at hc
        go_wp2_with (fail)
        go_ret
        exact ⟨rfl, HBL.out⟩
      · rw [show holdOk 6 4 = true from by kernel_rfl] at hc
        simp only [if_true] at hc
        go_wp2_with (fail)
        go_ret
        exact ⟨rfl, HBL.out⟩
      · rw [show holdOk 6 5 = true from by kernel_rfl] at hc
        simp only [if_true] at hc
        go_wp2_with (fail)
        go_ret
        exact ⟨rfl, HBL.out⟩
theorem all (a : Int) (ha : InI64 a) (b : Int) (hb : InI64 b) (w : World) (hg : Ground w) :
    Calls Tryz.prog 8 #[.int .i64 a, .int .i64 b] w fun e w' => e = .returned (.bool true) ∧ Below w.heap.size w w' :=
  holds_core a b _ _ (by have := Int.emod_lt_of_pos (a % 18446744073709551616) (show (0 : Int) < (7 : Nat) by decide); omega) (by have := Int.emod_lt_of_pos (b % 18446744073709551616) (show (0 : Int) < (6 : Nat) by decide); omega) (rem_at a 7 (by decide) (by decide)) (rem_at b 6 (by decide) (by decide)) w hg


theorem door_met (os : Os) (args : Array Value) : laidMetH Tryz.prog [("palings/ast.signs", Rows.laid_palings_ast_signs)] ((World.doorLaid Tryz.prog 4000 os).forCall (fun _ _ => 0) ⟨#[], args, []⟩).memory :=
  laidMetH_of_parts3 (fuel := 8) (laidMet_of_run' 8 (by kernel_rfl) (by kernel_rfl)) (by kernel_rfl) (by kernel_rfl)
theorem own : ownKnob Tryz.prog.godebug = none := by kernel_rfl

set_option maxHeartbeats 2000000 in
set_option maxRecDepth 100000 in
theorem lifted (os : Os) (started : os.Started) (H : Type) (enc : TypeId × Value → H) :
    ReturnsInHanded {} Tryz.checked os 8 .any (fun w args => (Rows.checkHoldsSpec.pre enc Tryz.prog Tryz.f8 [] false w args ∧ laidMetH Tryz.prog [("palings/ast.signs", Rows.laid_palings_ast_signs)] w) ∧ sizedMet enc Tryz.prog Tryz.f8 (OpenSpec.ofChange Rows.checkHoldsSpec) false w args)
      (Rows.checkHoldsSpec.post enc Tryz.prog Tryz.f8 false true false false) := by
  refine returnsInHanded_of_change_and (C := Tryz.checked) (X := fun w _ => laidMetH Tryz.prog [("palings/ast.signs", Rows.laid_palings_ast_signs)] w) (fun _ _ _ hh h => h.of_heap hh) own started (by kernel_rfl) Tryz.func8
    (ChangeSpec.witness_shaped (enc := enc) (C := Tryz.checked) (os := os) (X := fun w _ => laidMetH Tryz.prog [("palings/ast.signs", Rows.laid_palings_ast_signs)] w) false (World.doorLaid Tryz.prog 4000 os) #[.int .i64 0, .int .i64 0] 8 rfl (World.shaped_of_RefB (by kernel_rfl) (by kernel_rfl)) (by kernel_rfl) (by kernel_rfl) (by kernel_rfl) (door_met os _)) ?_
  intro W base args ds gs before hval0 hW _ _ hL _
  have hval : ∀ (j : Nat) t v, Tryz.f8.params[j]? = some t → args[j]? = some v → Value.okWide Tryz.prog W .any base t v := hval0
  have hW' := hW
  obtain ⟨p, q, hA0, hV, rfl, hfz, hnd⟩ := hW
  have hA : DataW.TrodAll enc Tryz.prog W 0 (fun _ => true) true Tryz.f8.params.toList args.toList ds p := hA0
  rw [Tryz.params8] at hA hval
  obtain ⟨v0, vs0, d0, ds0, p0, q0, hargs, rfl, rfl, h0, r0⟩ := trodAll_cons hA
  obtain ⟨v1, vs1, d1, ds1, p1, q1, rfl, rfl, rfl, h1, r1⟩ := trodAll_cons r0
  obtain ⟨rfl, rfl, rfl⟩ := trodAll_nil r1
  obtain rfl : args = #[v0, v1] := by cases args; simp_all
  obtain ⟨rfl, rfl⟩ := trodVars_none hV
  obtain ⟨a0, rfl, rfl, rfl, w0⟩ := open_int Tryz.underlying3 (hval 0 3 v0 rfl rfl) h0
  obtain ⟨a1, rfl, rfl, rfl, w1⟩ := open_int Tryz.underlying3 (hval 1 3 v1 rfl rfl) h1
  clear hA0 hval0
  simp only [List.append_nil] at hW'
  refine (all a0 (bounds_i64 w0) a1 (bounds_i64 w1) W (ground_of (by kernel_rfl) (by simp) hL)).mono fun e W' ⟨he, hg⟩ => ?_
  subst he
  exact ⟨_, rfl, post_new hW' (fun _ _ _ => (trodAll_cons_mk (shut_bool Tryz.underlying4 _) trodAll_mk0)) (fun sp => (trodAll_cons_mk (shut_int Tryz.underlying3 w0) (trodAll_cons_mk (shut_int Tryz.underlying3 w1) trodAll_mk0))) (fun _ => rfl) hg (ok_one (by kernel_rfl) rfl (okWide_bool_mk Tryz.underlying4 _))⟩

theorem row_holds : Rows.CheckHoldsSaid :=
  OpenClaim.holds_of_wide 8 Tryz.f8 rfl rfl rfl rfl rfl rfl rfl ⟨rfl, rfl, rfl, rfl, rfl⟩ rfl rfl rfl rfl rfl (by kernel_rfl) Tryz.func8 (by kernel_rfl)
    (of_decide_eq_true (by kernel_rfl)) (by unfold Func.isWrapper; first | (rw [if_pos (by decide +kernel)]; kernel_rfl) | (rw [if_neg (by decide +kernel)]; exact ⟨rfl, rfl⟩))
    (fun os started H enc _ => lifted os started H enc)

/-- THE TIED CARD. -/
theorem proved : Rows.CheckHoldsCardSaid :=
  Claim7.holds_tied_plain_at .later [] [.data] true (true, "c943f872ca2d9f9f81c620679e9a8bbe22fc0b1696667d16fa7e21e845c9e98a") false
    row_holds (fun _ h => by cases h) (by kernel_rfl) (fun _ h => by cases h) checkHolds_row_tie rfl ⟨rfl, rfl⟩ (by kernel_rfl) rfl
    (fun f fn hf hfn => by
      obtain rfl : f = 8 := Option.some.inj ((show Tryz.prog.funcNamed "palings/palingslaw05.CheckHolds" = some 8 by kernel_rfl).symm.trans hf) |>.symm
      obtain rfl : fn = Tryz.f8 := (Option.some.inj (Tryz.func8.symm.trans hfn)).symm
      exact ⟨by kernel_rfl, fun j t ht => by
        rw [Tryz.params8] at ht
        have hm : t ∈ [3, 3] := by simpa using Array.mem_of_getElem? ht
        have hall : ([3, 3].all fun u => !Tryz.prog.wantsStandIn u) = true := by kernel_rfl
        exact (show Tryz.prog.wantsStandIn t = false by simpa using List.all_eq_true.1 hall t hm)⟩)
    (by kernel_rfl)
#print axioms proved
end Go.Proofs.YtffgioifjdpajaaGreatDoor.checkHolds
