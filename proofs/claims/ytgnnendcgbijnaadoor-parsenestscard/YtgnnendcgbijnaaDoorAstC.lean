/-
  What ast's write does: a tree's text goes into the builder.
-/
import Derived.Test.YtgnnendcgbijnaaDoorAstB
namespace Go.Proofs.YtgnnendcgbijnaaDoor
open Go.ChangeShapes Go.WideShapes Go.ChangeAt Go.RowKit
set_option linter.unusedVariables false

/-- What write needs beside the tree: a builder of the call's own, the tables below it. -/
structure Desk (B b : Nat) (l : List UInt8) (w : World) : Prop where
  is : Lib.IsBuilderF 63 5 B b (Lib.byteCells l) w
  le : B ≤ w.heap.size
  low : 1 < B
  signs : Signs w
  pow : Lib.TabBelow Tryd.prog B w "internal/strconv.uint64pow10" .u64 Lib.pow10Tab

theorem Desk.wrote {B b : Nat} {l l' : List UInt8} {w w' : World} (h : Desk B b l w) (k : Wrote B b (Lib.byteCells l') w w') : Desk B b l' w' :=
  ⟨k.is, by have := k.below.size; have := h.le; omega, h.low, h.signs.later h.low k.below, fun w'' hb => h.pow w'' (k.below.trans hb)⟩
theorem Desk.alloc {B b : Nat} {l : List UInt8} {w : World} (h : Desk B b l w) (o : Obj) : Wrote B b (Lib.byteCells l) w (w.alloc o) := Wrote.more h.is (grown_alloc w o) h.le

theorem wr_any (B b : Nat) (l x : List UInt8) (s : ByteArray) (hs : s.data.toList = x) (w : World) (h : Desk B b l w) (hlen : l.length + x.length ≤ 140737488355328) :
    Calls Tryd.prog 22 #[.pointer (some ⟨b, 0, none⟩), .string s] w fun e w' => ∃ n, e = .returned (.tuple #[.int .i64 n, .nilIface]) ∧ Wrote B b (Lib.byteCells (l ++ x)) w w' := by
  subst hs
  refine (writeString_any B b _ s w h.is (by rw [Lib.byteCells_length]; simpa using hlen) h.le).mono ?_
  rintro e w' ⟨rfl, hw⟩
  rw [Lib.strCells_eq, ← Lib.byteCells_append] at hw
  exact ⟨_, rfl, hw⟩

def WritePost (B b : Nat) (l : List UInt8) (w : World) (e : Ending) (w' : World) : Prop := e = .returned (.tuple #[]) ∧ Wrote B b (Lib.byteCells l) w w'
/-- What write promises of an expression. -/
def WriteOk (ex : Ex) : Prop := ∀ (cs : Array Value) (B b : Nat) (l : List UInt8) (w : World), ex.At w (· < B) cs → Desk B b l w → l.length + ex.text.length ≤ 140737488355328 →
  Calls Tryd.prog 13 #[.agg cs, .pointer (some ⟨b, 0, none⟩)] w (WritePost B b (l ++ ex.text) w)

/-- The expression's own copy. -/
theorem box_at {w w' : World} {k : Nat} {cs : Array Value} {b : Nat} (h : w.heap[k]? = some (.cells cs 51 (0, 0))) (hb : k ≠ b) (hk : Lib.OthersKept 5 (some b) w w') : w'.heap[k]? = some (.cells cs 51 (0, 0)) :=
  hk k _ h (by simpa using hb) (fun c fz he => by injection he with _ h2; exact absurd h2 (by decide))
theorem Desk.ne {B b : Nat} {l : List UInt8} {w : World} (h : Desk B b l w) : b < w.heap.size := h.is.elim (fun x => x.lt) (fun x => x.lt)

set_option maxHeartbeats 1000000 in
set_option maxRecDepth 100000 in
theorem write_var (line col num : Int) (name : List UInt8) (op : Int) (kids : List Ex) : WriteOk (.mk 3 line col num name op kids) := by
  intro cs B b l w hat hd hlen
  unfold Ex.At at hat
  obtain ⟨_, _, kv, rfl, _, _⟩ := hat
  have ht : (Ex.mk 3 line col num name op kids).text = name := by unfold Ex.text textOf; simp
  rw [ht] at hlen ⊢
  have HD := Lib.hid hd; clear hd ht
  unfold cells7
  go_enter Tryd.func13, Tryd.ntmps13
  go_wp2_with (fail)
  refine (wr_any B b l name _ rfl _ (HD.out.wrote (HD.out.alloc _)) hlen).mono ?_
  rintro e w' ⟨n, rfl, hw⟩
  have HW := Lib.hid hw; clear hw
  go_wp2_with (fail)
  go_end0
  exact ⟨rfl, (HD.out.alloc _).trans HW.out⟩

set_option maxHeartbeats 1000000 in
set_option maxRecDepth 100000 in
theorem write_num (line col num : Int) (name : List UInt8) (op : Int) (kids : List Ex) : WriteOk (.mk 1 line col num name op kids) := by
  intro cs B b l w hat hd hlen
  unfold Ex.At at hat
  obtain ⟨hn, _, kv, rfl, _, _⟩ := hat
  have ht : (Ex.mk 1 line col num name op kids).text = Lib.itoa num := by unfold Ex.text textOf; simp
  rw [ht] at hlen ⊢
  have HD := Lib.hid hd; have HN := Lib.hid hn; clear hd ht hn
  unfold cells7
  go_enter Tryd.func13, Tryd.ntmps13
  go_wp2_with (fail)
  have hd1 := HD.out.wrote (HD.out.alloc (.cells (cells7 1 line col num name op kv) 51))
  refine (Tryd.strconv_FormatInt_10 num HN.out.1 HN.out.2 _ (hd1.pow.here)).mono ?_
  rintro e w1 ⟨rfl, k, os, rfl⟩
  have hw1 : Wrote B b (Lib.byteCells l) _ _ := Wrote.more hd1.is (grown_grow _ k os) hd1.le
  have HD2 := Lib.hid (hd1.wrote hw1); have HW1 := Lib.hid hw1
  clear hd1 hw1
  go_wp2_with (fail)
  refine (wr_any B b l (Lib.itoa num) _ rfl _ HD2.out hlen).mono ?_
  rintro e w' ⟨n, rfl, hw⟩
  have HW := Lib.hid hw; clear hw
  go_wp2_with (fail)
  go_end0
  exact ⟨rfl, ((HD.out.alloc _).trans HW1.out).trans HW.out⟩

set_option maxHeartbeats 1000000 in
set_option maxRecDepth 100000 in
theorem write_truth (line col num : Int) (name : List UInt8) (op : Int) (kids : List Ex) : WriteOk (.mk 2 line col num name op kids) := by
  intro cs B b l w hat hd hlen
  unfold Ex.At at hat
  obtain ⟨hn, _, kv, rfl, _, _⟩ := hat
  have ht : (Ex.mk 2 line col num name op kids).text = Lib.formatBool (num != 0) := by unfold Ex.text textOf; simp
  rw [ht] at hlen ⊢
  have HD := Lib.hid hd; clear hd ht hn
  unfold cells7
  generalize hq : (num != 0) = q at hlen ⊢
  go_enter Tryd.func13, Tryd.ntmps13
  go_wp2_with (fail)
  refine (Tryd.strconv_FormatBool q _).mono ?_
  rintro e w1 ⟨rfl, rfl⟩
  go_wp2_with (fail)
  refine (wr_any B b l (Lib.formatBool q) _ rfl _ (HD.out.wrote (HD.out.alloc _)) hlen).mono ?_
  rintro e w' ⟨n, rfl, hw⟩
  have HW := Lib.hid hw; clear hw
  go_wp2_with (fail)
  go_end0
  exact ⟨rfl, (HD.out.alloc _).trans HW.out⟩
end Go.Proofs.YtgnnendcgbijnaaDoor
