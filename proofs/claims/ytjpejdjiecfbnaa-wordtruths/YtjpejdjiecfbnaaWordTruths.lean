/-
  WordTruths: for every two words the law returns true, and its arguments read as before. No condition.
-/
import Derived.Test.YtjpejdjiecfbnaaRows
import Derived.Test.YtjpejdjiecfbnaaDo
import Derived.Lib.Hide
import Derived.Laws.BitsAll
import Derived.LoopN
import Derived.WalkKit
import Derived.ProofKit
import Derived.OpenShut
namespace Go.Proofs.Ytjpejdjiecfbnaa.wordTruths
open Go.ChangeShapes Go.WideShapes Go.ChangeAt Go.RowKit
set_option linter.unusedVariables false      -- a walk need not use every 'w<i>' (that an integer argument fits its kind)

theorem own : ownKnob Try.prog.godebug = none := by kernel_rfl

theorem bool_t (w : World) : Calls Try.prog 12 #[.bool true] w fun e w' => e = .returned (.int .i64 1) ∧ w = w' := bool_any true w
theorem bool_f (w : World) : Calls Try.prog 12 #[.bool false] w fun e w' => e = .returned (.int .i64 0) ∧ w = w' := bool_any false w

set_option maxRecDepth 100000 in
set_option maxHeartbeats 4000000 in
theorem coretft (a b : Int) (w : World)
   (hL : decide (bits BinOp.xor IntKind.u64 (IntKind.u64.wrap a) 9223372036854775808 < bits BinOp.xor IntKind.u64 (IntKind.u64.wrap b) 9223372036854775808) = true)
   (hE : (bits BinOp.xor IntKind.i64 a b == 0) = false) (hB : decide (IntKind.u64.wrap a < IntKind.u64.wrap b) = true)
   (D1 : ∀ w, Calls Try.prog 9 #[.int .i64 11, .int .i64 a, .int .i64 b] w fun e w' => e = .returned (.tuple #[.int .i64 0, .bool true]) ∧ w = w')
   (D2 : ∀ w, Calls Try.prog 9 #[.int .i64 12, .int .i64 a, .int .i64 b] w fun e w' => e = .returned (.tuple #[.int .i64 1, .bool true]) ∧ w = w')
   (D3 : ∀ w, Calls Try.prog 9 #[.int .i64 13, .int .i64 a, .int .i64 b] w fun e w' => e = .returned (.tuple #[.int .i64 1, .bool true]) ∧ w = w')
   (D4 : ∀ w, Calls Try.prog 9 #[.int .i64 14, .int .i64 a, .int .i64 b] w fun e w' => e = .returned (.tuple #[.int .i64 1, .bool true]) ∧ w = w')
   (D5 : ∀ w, Calls Try.prog 9 #[.int .i64 15, .int .i64 a, .int .i64 b] w fun e w' => e = .returned (.tuple #[.int .i64 1, .bool true]) ∧ w = w')
    : Calls Try.prog 6 #[.int .i64 a, .int .i64 b] w fun e w' => e = .returned (.bool true) ∧ Grown w w' := by
  have H1 := Lib.hid D1; have H2 := Lib.hid D2; have H3 := Lib.hid D3; have H4 := Lib.hid D4; have H5 := Lib.hid D5; clear D1 D2 D3 D4 D5
  go_enter Try.func6, Try.ntmps6
  go_wp2_with (fail)
  refine (head_any _).mono ?_; rintro e w' ⟨rfl, rfl⟩
  go_wp2_with (fail)
  clear hL hE hB
  refine wp_loop_rounds 6 ?_
  rw [rounds_succ]
  go_wp2_with (fail)
  refine (H1.out _).mono ?_; rintro e w' ⟨rfl, rfl⟩
  go_wp2_with (fail)
  refine (bool_f _).mono ?_; rintro e w' ⟨rfl, rfl⟩
  go_wp2_with (fail)
  refine (truth_eq _).mono ?_; rintro e w' ⟨rfl, rfl⟩
  go_wp2_with (fail)
  rw [rounds_succ]
  go_wp2_with (fail)
  refine (H2.out _).mono ?_; rintro e w' ⟨rfl, rfl⟩
  go_wp2_with (fail)
  refine (bool_t _).mono ?_; rintro e w' ⟨rfl, rfl⟩
  go_wp2_with (fail)
  refine (truth_ne _).mono ?_; rintro e w' ⟨rfl, rfl⟩
  go_wp2_with (fail)
  rw [rounds_succ]
  go_wp2_with (fail)
  refine (H3.out _).mono ?_; rintro e w' ⟨rfl, rfl⟩
  go_wp2_with (fail)
  refine (bool_t _).mono ?_; rintro e w' ⟨rfl, rfl⟩
  go_wp2_with (fail)
  refine (truth_lt _).mono ?_; rintro e w' ⟨rfl, rfl⟩
  go_wp2_with (fail)
  rw [rounds_succ]
  go_wp2_with (fail)
  refine (H4.out _).mono ?_; rintro e w' ⟨rfl, rfl⟩
  go_wp2_with (fail)
  refine (bool_t _).mono ?_; rintro e w' ⟨rfl, rfl⟩
  go_wp2_with (fail)
  refine (truth_le _).mono ?_; rintro e w' ⟨rfl, rfl⟩
  go_wp2_with (fail)
  rw [rounds_succ]
  go_wp2_with (fail)
  refine (H5.out _).mono ?_; rintro e w' ⟨rfl, rfl⟩
  go_wp2_with (fail)
  refine (bool_t _).mono ?_; rintro e w' ⟨rfl, rfl⟩
  go_wp2_with (fail)
  refine (truth_below _).mono ?_; rintro e w' ⟨rfl, rfl⟩
  go_wp2_with (fail)
  rw [rounds_succ]
  go_wp2_with (fail)
  go_ret
  exact ⟨rfl, by repeat (first | exact Grown.refl _ | apply Grown.drew | apply Grown.alloc)⟩

set_option maxRecDepth 100000 in
set_option maxHeartbeats 4000000 in
theorem coretff (a b : Int) (w : World)
   (hL : decide (bits BinOp.xor IntKind.u64 (IntKind.u64.wrap a) 9223372036854775808 < bits BinOp.xor IntKind.u64 (IntKind.u64.wrap b) 9223372036854775808) = true)
   (hE : (bits BinOp.xor IntKind.i64 a b == 0) = false) (hB : decide (IntKind.u64.wrap a < IntKind.u64.wrap b) = false)
   (D1 : ∀ w, Calls Try.prog 9 #[.int .i64 11, .int .i64 a, .int .i64 b] w fun e w' => e = .returned (.tuple #[.int .i64 0, .bool true]) ∧ w = w')
   (D2 : ∀ w, Calls Try.prog 9 #[.int .i64 12, .int .i64 a, .int .i64 b] w fun e w' => e = .returned (.tuple #[.int .i64 1, .bool true]) ∧ w = w')
   (D3 : ∀ w, Calls Try.prog 9 #[.int .i64 13, .int .i64 a, .int .i64 b] w fun e w' => e = .returned (.tuple #[.int .i64 1, .bool true]) ∧ w = w')
   (D4 : ∀ w, Calls Try.prog 9 #[.int .i64 14, .int .i64 a, .int .i64 b] w fun e w' => e = .returned (.tuple #[.int .i64 1, .bool true]) ∧ w = w')
   (D5 : ∀ w, Calls Try.prog 9 #[.int .i64 15, .int .i64 a, .int .i64 b] w fun e w' => e = .returned (.tuple #[.int .i64 0, .bool true]) ∧ w = w')
    : Calls Try.prog 6 #[.int .i64 a, .int .i64 b] w fun e w' => e = .returned (.bool true) ∧ Grown w w' := by
  have H1 := Lib.hid D1; have H2 := Lib.hid D2; have H3 := Lib.hid D3; have H4 := Lib.hid D4; have H5 := Lib.hid D5; clear D1 D2 D3 D4 D5
  go_enter Try.func6, Try.ntmps6
  go_wp2_with (fail)
  refine (head_any _).mono ?_; rintro e w' ⟨rfl, rfl⟩
  go_wp2_with (fail)
  clear hL hE hB
  refine wp_loop_rounds 6 ?_
  rw [rounds_succ]
  go_wp2_with (fail)
  refine (H1.out _).mono ?_; rintro e w' ⟨rfl, rfl⟩
  go_wp2_with (fail)
  refine (bool_f _).mono ?_; rintro e w' ⟨rfl, rfl⟩
  go_wp2_with (fail)
  refine (truth_eq _).mono ?_; rintro e w' ⟨rfl, rfl⟩
  go_wp2_with (fail)
  rw [rounds_succ]
  go_wp2_with (fail)
  refine (H2.out _).mono ?_; rintro e w' ⟨rfl, rfl⟩
  go_wp2_with (fail)
  refine (bool_t _).mono ?_; rintro e w' ⟨rfl, rfl⟩
  go_wp2_with (fail)
  refine (truth_ne _).mono ?_; rintro e w' ⟨rfl, rfl⟩
  go_wp2_with (fail)
  rw [rounds_succ]
  go_wp2_with (fail)
  refine (H3.out _).mono ?_; rintro e w' ⟨rfl, rfl⟩
  go_wp2_with (fail)
  refine (bool_t _).mono ?_; rintro e w' ⟨rfl, rfl⟩
  go_wp2_with (fail)
  refine (truth_lt _).mono ?_; rintro e w' ⟨rfl, rfl⟩
  go_wp2_with (fail)
  rw [rounds_succ]
  go_wp2_with (fail)
  refine (H4.out _).mono ?_; rintro e w' ⟨rfl, rfl⟩
  go_wp2_with (fail)
  refine (bool_t _).mono ?_; rintro e w' ⟨rfl, rfl⟩
  go_wp2_with (fail)
  refine (truth_le _).mono ?_; rintro e w' ⟨rfl, rfl⟩
  go_wp2_with (fail)
  rw [rounds_succ]
  go_wp2_with (fail)
  refine (H5.out _).mono ?_; rintro e w' ⟨rfl, rfl⟩
  go_wp2_with (fail)
  refine (bool_f _).mono ?_; rintro e w' ⟨rfl, rfl⟩
  go_wp2_with (fail)
  refine (truth_below _).mono ?_; rintro e w' ⟨rfl, rfl⟩
  go_wp2_with (fail)
  rw [rounds_succ]
  go_wp2_with (fail)
  go_ret
  exact ⟨rfl, by repeat (first | exact Grown.refl _ | apply Grown.drew | apply Grown.alloc)⟩

set_option maxRecDepth 100000 in
set_option maxHeartbeats 4000000 in
theorem coreftf (a b : Int) (w : World)
   (hL : decide (bits BinOp.xor IntKind.u64 (IntKind.u64.wrap a) 9223372036854775808 < bits BinOp.xor IntKind.u64 (IntKind.u64.wrap b) 9223372036854775808) = false)
   (hE : (bits BinOp.xor IntKind.i64 a b == 0) = true) (hB : decide (IntKind.u64.wrap a < IntKind.u64.wrap b) = false)
   (D1 : ∀ w, Calls Try.prog 9 #[.int .i64 11, .int .i64 a, .int .i64 b] w fun e w' => e = .returned (.tuple #[.int .i64 1, .bool true]) ∧ w = w')
   (D2 : ∀ w, Calls Try.prog 9 #[.int .i64 12, .int .i64 a, .int .i64 b] w fun e w' => e = .returned (.tuple #[.int .i64 0, .bool true]) ∧ w = w')
   (D3 : ∀ w, Calls Try.prog 9 #[.int .i64 13, .int .i64 a, .int .i64 b] w fun e w' => e = .returned (.tuple #[.int .i64 0, .bool true]) ∧ w = w')
   (D4 : ∀ w, Calls Try.prog 9 #[.int .i64 14, .int .i64 a, .int .i64 b] w fun e w' => e = .returned (.tuple #[.int .i64 1, .bool true]) ∧ w = w')
   (D5 : ∀ w, Calls Try.prog 9 #[.int .i64 15, .int .i64 a, .int .i64 b] w fun e w' => e = .returned (.tuple #[.int .i64 0, .bool true]) ∧ w = w')
    : Calls Try.prog 6 #[.int .i64 a, .int .i64 b] w fun e w' => e = .returned (.bool true) ∧ Grown w w' := by
  have H1 := Lib.hid D1; have H2 := Lib.hid D2; have H3 := Lib.hid D3; have H4 := Lib.hid D4; have H5 := Lib.hid D5; clear D1 D2 D3 D4 D5
  go_enter Try.func6, Try.ntmps6
  go_wp2_with (fail)
  refine (head_any _).mono ?_; rintro e w' ⟨rfl, rfl⟩
  go_wp2_with (fail)
  clear hL hE hB
  refine wp_loop_rounds 6 ?_
  rw [rounds_succ]
  go_wp2_with (fail)
  refine (H1.out _).mono ?_; rintro e w' ⟨rfl, rfl⟩
  go_wp2_with (fail)
  refine (bool_t _).mono ?_; rintro e w' ⟨rfl, rfl⟩
  go_wp2_with (fail)
  refine (truth_eq _).mono ?_; rintro e w' ⟨rfl, rfl⟩
  go_wp2_with (fail)
  rw [rounds_succ]
  go_wp2_with (fail)
  refine (H2.out _).mono ?_; rintro e w' ⟨rfl, rfl⟩
  go_wp2_with (fail)
  refine (bool_f _).mono ?_; rintro e w' ⟨rfl, rfl⟩
  go_wp2_with (fail)
  refine (truth_ne _).mono ?_; rintro e w' ⟨rfl, rfl⟩
  go_wp2_with (fail)
  rw [rounds_succ]
  go_wp2_with (fail)
  refine (H3.out _).mono ?_; rintro e w' ⟨rfl, rfl⟩
  go_wp2_with (fail)
  refine (bool_f _).mono ?_; rintro e w' ⟨rfl, rfl⟩
  go_wp2_with (fail)
  refine (truth_lt _).mono ?_; rintro e w' ⟨rfl, rfl⟩
  go_wp2_with (fail)
  rw [rounds_succ]
  go_wp2_with (fail)
  refine (H4.out _).mono ?_; rintro e w' ⟨rfl, rfl⟩
  go_wp2_with (fail)
  refine (bool_t _).mono ?_; rintro e w' ⟨rfl, rfl⟩
  go_wp2_with (fail)
  refine (truth_le _).mono ?_; rintro e w' ⟨rfl, rfl⟩
  go_wp2_with (fail)
  rw [rounds_succ]
  go_wp2_with (fail)
  refine (H5.out _).mono ?_; rintro e w' ⟨rfl, rfl⟩
  go_wp2_with (fail)
  refine (bool_f _).mono ?_; rintro e w' ⟨rfl, rfl⟩
  go_wp2_with (fail)
  refine (truth_below _).mono ?_; rintro e w' ⟨rfl, rfl⟩
  go_wp2_with (fail)
  rw [rounds_succ]
  go_wp2_with (fail)
  go_ret
  exact ⟨rfl, by repeat (first | exact Grown.refl _ | apply Grown.drew | apply Grown.alloc)⟩

set_option maxRecDepth 100000 in
set_option maxHeartbeats 4000000 in
theorem corefft (a b : Int) (w : World)
   (hL : decide (bits BinOp.xor IntKind.u64 (IntKind.u64.wrap a) 9223372036854775808 < bits BinOp.xor IntKind.u64 (IntKind.u64.wrap b) 9223372036854775808) = false)
   (hE : (bits BinOp.xor IntKind.i64 a b == 0) = false) (hB : decide (IntKind.u64.wrap a < IntKind.u64.wrap b) = true)
   (D1 : ∀ w, Calls Try.prog 9 #[.int .i64 11, .int .i64 a, .int .i64 b] w fun e w' => e = .returned (.tuple #[.int .i64 0, .bool true]) ∧ w = w')
   (D2 : ∀ w, Calls Try.prog 9 #[.int .i64 12, .int .i64 a, .int .i64 b] w fun e w' => e = .returned (.tuple #[.int .i64 1, .bool true]) ∧ w = w')
   (D3 : ∀ w, Calls Try.prog 9 #[.int .i64 13, .int .i64 a, .int .i64 b] w fun e w' => e = .returned (.tuple #[.int .i64 0, .bool true]) ∧ w = w')
   (D4 : ∀ w, Calls Try.prog 9 #[.int .i64 14, .int .i64 a, .int .i64 b] w fun e w' => e = .returned (.tuple #[.int .i64 0, .bool true]) ∧ w = w')
   (D5 : ∀ w, Calls Try.prog 9 #[.int .i64 15, .int .i64 a, .int .i64 b] w fun e w' => e = .returned (.tuple #[.int .i64 1, .bool true]) ∧ w = w')
    : Calls Try.prog 6 #[.int .i64 a, .int .i64 b] w fun e w' => e = .returned (.bool true) ∧ Grown w w' := by
  have H1 := Lib.hid D1; have H2 := Lib.hid D2; have H3 := Lib.hid D3; have H4 := Lib.hid D4; have H5 := Lib.hid D5; clear D1 D2 D3 D4 D5
  go_enter Try.func6, Try.ntmps6
  go_wp2_with (fail)
  refine (head_any _).mono ?_; rintro e w' ⟨rfl, rfl⟩
  go_wp2_with (fail)
  clear hL hE hB
  refine wp_loop_rounds 6 ?_
  rw [rounds_succ]
  go_wp2_with (fail)
  refine (H1.out _).mono ?_; rintro e w' ⟨rfl, rfl⟩
  go_wp2_with (fail)
  refine (bool_f _).mono ?_; rintro e w' ⟨rfl, rfl⟩
  go_wp2_with (fail)
  refine (truth_eq _).mono ?_; rintro e w' ⟨rfl, rfl⟩
  go_wp2_with (fail)
  rw [rounds_succ]
  go_wp2_with (fail)
  refine (H2.out _).mono ?_; rintro e w' ⟨rfl, rfl⟩
  go_wp2_with (fail)
  refine (bool_t _).mono ?_; rintro e w' ⟨rfl, rfl⟩
  go_wp2_with (fail)
  refine (truth_ne _).mono ?_; rintro e w' ⟨rfl, rfl⟩
  go_wp2_with (fail)
  rw [rounds_succ]
  go_wp2_with (fail)
  refine (H3.out _).mono ?_; rintro e w' ⟨rfl, rfl⟩
  go_wp2_with (fail)
  refine (bool_f _).mono ?_; rintro e w' ⟨rfl, rfl⟩
  go_wp2_with (fail)
  refine (truth_lt _).mono ?_; rintro e w' ⟨rfl, rfl⟩
  go_wp2_with (fail)
  rw [rounds_succ]
  go_wp2_with (fail)
  refine (H4.out _).mono ?_; rintro e w' ⟨rfl, rfl⟩
  go_wp2_with (fail)
  refine (bool_f _).mono ?_; rintro e w' ⟨rfl, rfl⟩
  go_wp2_with (fail)
  refine (truth_le _).mono ?_; rintro e w' ⟨rfl, rfl⟩
  go_wp2_with (fail)
  rw [rounds_succ]
  go_wp2_with (fail)
  refine (H5.out _).mono ?_; rintro e w' ⟨rfl, rfl⟩
  go_wp2_with (fail)
  refine (bool_t _).mono ?_; rintro e w' ⟨rfl, rfl⟩
  go_wp2_with (fail)
  refine (truth_below _).mono ?_; rintro e w' ⟨rfl, rfl⟩
  go_wp2_with (fail)
  rw [rounds_succ]
  go_wp2_with (fail)
  go_ret
  exact ⟨rfl, by repeat (first | exact Grown.refl _ | apply Grown.drew | apply Grown.alloc)⟩

set_option maxRecDepth 100000 in
set_option maxHeartbeats 4000000 in
theorem corefff (a b : Int) (w : World)
   (hL : decide (bits BinOp.xor IntKind.u64 (IntKind.u64.wrap a) 9223372036854775808 < bits BinOp.xor IntKind.u64 (IntKind.u64.wrap b) 9223372036854775808) = false)
   (hE : (bits BinOp.xor IntKind.i64 a b == 0) = false) (hB : decide (IntKind.u64.wrap a < IntKind.u64.wrap b) = false)
   (D1 : ∀ w, Calls Try.prog 9 #[.int .i64 11, .int .i64 a, .int .i64 b] w fun e w' => e = .returned (.tuple #[.int .i64 0, .bool true]) ∧ w = w')
   (D2 : ∀ w, Calls Try.prog 9 #[.int .i64 12, .int .i64 a, .int .i64 b] w fun e w' => e = .returned (.tuple #[.int .i64 1, .bool true]) ∧ w = w')
   (D3 : ∀ w, Calls Try.prog 9 #[.int .i64 13, .int .i64 a, .int .i64 b] w fun e w' => e = .returned (.tuple #[.int .i64 0, .bool true]) ∧ w = w')
   (D4 : ∀ w, Calls Try.prog 9 #[.int .i64 14, .int .i64 a, .int .i64 b] w fun e w' => e = .returned (.tuple #[.int .i64 0, .bool true]) ∧ w = w')
   (D5 : ∀ w, Calls Try.prog 9 #[.int .i64 15, .int .i64 a, .int .i64 b] w fun e w' => e = .returned (.tuple #[.int .i64 0, .bool true]) ∧ w = w')
    : Calls Try.prog 6 #[.int .i64 a, .int .i64 b] w fun e w' => e = .returned (.bool true) ∧ Grown w w' := by
  have H1 := Lib.hid D1; have H2 := Lib.hid D2; have H3 := Lib.hid D3; have H4 := Lib.hid D4; have H5 := Lib.hid D5; clear D1 D2 D3 D4 D5
  go_enter Try.func6, Try.ntmps6
  go_wp2_with (fail)
  refine (head_any _).mono ?_; rintro e w' ⟨rfl, rfl⟩
  go_wp2_with (fail)
  clear hL hE hB
  refine wp_loop_rounds 6 ?_
  rw [rounds_succ]
  go_wp2_with (fail)
  refine (H1.out _).mono ?_; rintro e w' ⟨rfl, rfl⟩
  go_wp2_with (fail)
  refine (bool_f _).mono ?_; rintro e w' ⟨rfl, rfl⟩
  go_wp2_with (fail)
  refine (truth_eq _).mono ?_; rintro e w' ⟨rfl, rfl⟩
  go_wp2_with (fail)
  rw [rounds_succ]
  go_wp2_with (fail)
  refine (H2.out _).mono ?_; rintro e w' ⟨rfl, rfl⟩
  go_wp2_with (fail)
  refine (bool_t _).mono ?_; rintro e w' ⟨rfl, rfl⟩
  go_wp2_with (fail)
  refine (truth_ne _).mono ?_; rintro e w' ⟨rfl, rfl⟩
  go_wp2_with (fail)
  rw [rounds_succ]
  go_wp2_with (fail)
  refine (H3.out _).mono ?_; rintro e w' ⟨rfl, rfl⟩
  go_wp2_with (fail)
  refine (bool_f _).mono ?_; rintro e w' ⟨rfl, rfl⟩
  go_wp2_with (fail)
  refine (truth_lt _).mono ?_; rintro e w' ⟨rfl, rfl⟩
  go_wp2_with (fail)
  rw [rounds_succ]
  go_wp2_with (fail)
  refine (H4.out _).mono ?_; rintro e w' ⟨rfl, rfl⟩
  go_wp2_with (fail)
  refine (bool_f _).mono ?_; rintro e w' ⟨rfl, rfl⟩
  go_wp2_with (fail)
  refine (truth_le _).mono ?_; rintro e w' ⟨rfl, rfl⟩
  go_wp2_with (fail)
  rw [rounds_succ]
  go_wp2_with (fail)
  refine (H5.out _).mono ?_; rintro e w' ⟨rfl, rfl⟩
  go_wp2_with (fail)
  refine (bool_f _).mono ?_; rintro e w' ⟨rfl, rfl⟩
  go_wp2_with (fail)
  refine (truth_below _).mono ?_; rintro e w' ⟨rfl, rfl⟩
  go_wp2_with (fail)
  rw [rounds_succ]
  go_wp2_with (fail)
  go_ret
  exact ⟨rfl, by repeat (first | exact Grown.refl _ | apply Grown.drew | apply Grown.alloc)⟩

theorem top_low (A : Nat) (h : A < 2 ^ 63) : A ^^^ 2 ^ 63 = 2 ^ 63 + A := by
  apply Nat.eq_of_testBit_eq
  intro i
  rw [Nat.testBit_xor, Nat.testBit_two_pow]
  rcases Nat.lt_trichotomy i 63 with hi | hi | hi
  · rw [Nat.testBit_two_pow_add_gt hi]
    have : ¬ (63 = i) := by omega
    simp [this]
  · subst hi
    rw [Nat.testBit_two_pow_add_eq, Nat.testBit_lt_two_pow h]; simp
  · have h1 : A.testBit i = false := Nat.testBit_lt_two_pow (Nat.lt_of_lt_of_le h (Nat.pow_le_pow_right (by decide) (by omega)))
    have h2 : (2 ^ 63 + A).testBit i = false := by
      apply Nat.testBit_lt_two_pow
      have : 2 ^ 64 ≤ 2 ^ i := Nat.pow_le_pow_right (by decide) (by omega)
      omega
    have : ¬ (63 = i) := by omega
    rw [h1, h2]; simp [this]
theorem top_high (A : Nat) (h : A < 2 ^ 63) : (2 ^ 63 + A) ^^^ 2 ^ 63 = A := by
  rw [← top_low A h, Nat.xor_assoc, Nat.xor_self, Nat.xor_zero]
theorem flip (a : Int) (h1 : -9223372036854775808 ≤ a) (h2 : a ≤ 9223372036854775807) :
    bits BinOp.xor IntKind.u64 (IntKind.u64.wrap a) 9223372036854775808 = a + 9223372036854775808 := by
  rw [IntKind.wrap_u64, u64_xor _ _ (by omega) (by omega) (by decide) (by decide)]
  have e : (9223372036854775808 : Int).toNat = 2 ^ 63 := by decide
  rw [e]
  by_cases h : 0 ≤ a
  · have e2 : (a % 18446744073709551616).toNat = a.toNat := by omega
    have e3 : a.toNat < 2 ^ 63 := by omega
    rw [e2, top_low _ e3]
    omega
  · have e2 : (a % 18446744073709551616).toNat = 2 ^ 63 + (a + 9223372036854775808).toNat := by omega
    have e3 : (a + 9223372036854775808).toNat < 2 ^ 63 := by omega
    rw [e2, top_high _ e3]
    omega
theorem ofInt_inj (a b : Int) (ha : -9223372036854775808 ≤ a ∧ a ≤ 9223372036854775807) (hb : -9223372036854775808 ≤ b ∧ b ≤ 9223372036854775807)
    (h : BitVec.ofInt 64 a = BitVec.ofInt 64 b) : a = b := by
  have h' := congrArg BitVec.toInt h
  rw [BitVec.toInt_ofInt, BitVec.toInt_ofInt] at h'
  have e2 : (2 ^ 64 : Nat) = 18446744073709551616 := by decide
  have f : ∀ x : Int, -9223372036854775808 ≤ x ∧ x ≤ 9223372036854775807 → x.bmod (2 ^ 64) = x := by
    intro x hx
    rw [e2]; simp only [Int.bmod]; split <;> omega
  rw [f a ha, f b hb] at h'
  exact h'
theorem same (a b : Int) (ha : -9223372036854775808 ≤ a ∧ a ≤ 9223372036854775807) (hb : -9223372036854775808 ≤ b ∧ b ≤ 9223372036854775807) :
    (bits BinOp.xor IntKind.i64 a b == 0) = (a == b) := by
  by_cases h : a = b
  · subst h
    have : bits BinOp.xor IntKind.i64 a a = 0 := by
      show IntKind.i64.wrap ((BitVec.ofInt 64 a ^^^ BitVec.ofInt 64 a).toNat : Int) = 0
      rw [BitVec.xor_self, IntWalk.i64_left]
      exact IntWalk.wrap64_in _ (by decide)
    rw [this]; simp
  · have h2 : (a == b) = false := by simpa using h
    rw [h2]
    have : ¬ bits BinOp.xor IntKind.i64 a b = 0 := by
      intro h0
      apply h
      apply ofInt_inj a b ha hb
      have h3 : wrap64 ((BitVec.ofInt 64 a ^^^ BitVec.ofInt 64 b).toNat : Int) = 0 := by
        rw [← IntWalk.i64_left]; exact h0
      have hlt := (BitVec.ofInt 64 a ^^^ BitVec.ofInt 64 b).isLt
      have h4 : (BitVec.ofInt 64 a ^^^ BitVec.ofInt 64 b).toNat = 0 := by
        unfold wrap64 at h3; omega
      have h5 : BitVec.ofInt 64 a ^^^ BitVec.ofInt 64 b = 0#64 := BitVec.eq_of_toNat_eq (by rw [h4]; rfl)
      exact BitVec.xor_eq_zero_iff.mp h5
    simpa using this

theorem all (a b : Int) (ha : -9223372036854775808 ≤ a ∧ a ≤ 9223372036854775807) (hb : -9223372036854775808 ≤ b ∧ b ≤ 9223372036854775807) (w : World) :
    Calls Try.prog 6 #[.int .i64 a, .int .i64 b] w fun e w' => e = .returned (.bool true) ∧ Grown w w' := by
  have eL : decide (bits BinOp.xor IntKind.u64 (IntKind.u64.wrap a) 9223372036854775808 < bits BinOp.xor IntKind.u64 (IntKind.u64.wrap b) 9223372036854775808) = decide (a < b) := by
    rw [flip a ha.1 ha.2, flip b hb.1 hb.2]
    congr 1
    simp
  have eE := same a b ha hb
  have d1 := fun w => do_eq a b w
  have d2 := fun w => do_ne a b w
  have d3 := fun w => do_lt a b w
  have d4 := fun w => do_le a b w
  have d5 := fun w => do_below a b w
  rcases Int.lt_trichotomy a b with h | h | h
  · have l : decide (a < b) = true := by simpa using h
    have e : (a == b) = false := by simp; omega
    have n : (a != b) = true := by simp; omega
    have le : decide (a ≤ b) = true := by simp; omega
    rw [l] at eL; rw [e] at eE
    rw [e] at d1; rw [n] at d2; rw [l] at d3; rw [le] at d4
    cases hB : decide (IntKind.u64.wrap a < IntKind.u64.wrap b) <;> rw [hB] at d5
    · exact coretff a b w eL eE hB d1 d2 d3 d4 d5
    · exact coretft a b w eL eE hB d1 d2 d3 d4 d5
  · subst h
    have l : decide (a < a) = false := by simp
    have e : (a == a) = true := by simp
    have n : (a != a) = false := by simp
    have le : decide (a ≤ a) = true := by simp
    have hB : decide (IntKind.u64.wrap a < IntKind.u64.wrap a) = false := by simp
    rw [l] at eL; rw [e] at eE
    rw [e] at d1; rw [n] at d2; rw [l] at d3; rw [le] at d4; rw [hB] at d5
    exact coreftf a a w eL eE hB d1 d2 d3 d4 d5
  · have l : decide (a < b) = false := by simp; omega
    have e : (a == b) = false := by simp; omega
    have n : (a != b) = true := by simp; omega
    have le : decide (a ≤ b) = false := by simp; omega
    rw [l] at eL; rw [e] at eE
    rw [e] at d1; rw [n] at d2; rw [l] at d3; rw [le] at d4
    cases hB : decide (IntKind.u64.wrap a < IntKind.u64.wrap b) <;> rw [hB] at d5
    · exact corefff a b w eL eE hB d1 d2 d3 d4 d5
    · exact corefft a b w eL eE hB d1 d2 d3 d4 d5

theorem walk (a0 : Int) (a1 : Int) (w0 : (Lit.int .i64 a0).wf = true) (w1 : (Lit.int .i64 a1).wf = true) (w : World) :
    Calls Try.prog 6 #[.int .i64 a0, .int .i64 a1] w fun e w' => e = .returned (.bool true) ∧ Grown w w' := by
  exact all a0 a1 (bounds_i64 w0) (bounds_i64 w1) w

/-! ### THE ROW's STEP: WRITTEN OUT: LEAVE IT -/
set_option maxRecDepth 100000 in
theorem lifted (os : Os) (started : os.Started) (H : Type) (enc : TypeId × Value → H) :
    ReturnsInHanded {} Try.checked os 6 .any (Rows.wordTruthsSpec.pre6 enc Try.prog Try.f6 Rows.wordTruthsRow.domain false) (Rows.wordTruthsSpec.post enc Try.prog Try.f6 false true false false) := by
  refine returnsInHanded_of_change (C := Try.checked) own started (by kernel_rfl) Try.func6
    (ChangeSpec.witness6 (enc := enc) (C := Try.checked) false ⟨#[], #[.int .i64 0, .int .i64 0], []⟩ 8 (by kernel_rfl) (by kernel_rfl) (by kernel_rfl) (by kernel_rfl)) ?_
  intro W base args ds gs before hval0 hW hcnd _
  have hval : ∀ (j : Nat) t v, Try.f6.params[j]? = some t → args[j]? = some v → Value.okWide Try.prog W .any base t v := hval0
  have hW' := hW
  obtain ⟨p, q, hA0, hV, rfl, hfz, hnd⟩ := hW
  have hA : DataW.TrodAll enc Try.prog W 0 (fun _ => true) true Try.f6.params.toList args.toList ds p := hA0
  rw [Try.params6] at hA hval
  obtain ⟨v0, vs0, d0, ds0, p0, q0, hargs, rfl, rfl, h0, r0⟩ := trodAll_cons hA
  obtain ⟨v1, vs1, d1, ds1, p1, q1, rfl, rfl, rfl, h1, r1⟩ := trodAll_cons r0
  obtain ⟨rfl, rfl, rfl⟩ := trodAll_nil r1
  obtain rfl : args = #[v0, v1] := by cases args; simp_all
  obtain ⟨rfl, rfl⟩ := trodVars_none hV
  obtain ⟨a0, rfl, rfl, rfl, w0⟩ := open_int Try.underlying2 (hval 0 2 v0 rfl rfl) h0
  obtain ⟨a1, rfl, rfl, rfl, w1⟩ := open_int Try.underlying2 (hval 1 2 v1 rfl rfl) h1
  clear hA0 hval0
  simp only [List.append_nil] at hW'
  refine (walk a0 a1 w0 w1 W).mono fun e W' ⟨he, hg⟩ => ?_
  subst he
  exact ⟨_, rfl, post_of_same (pa := []) (pv := []) hW' (fun _ _ _ => (trodAll_cons_mk (shut_bool Try.underlying4 _) trodAll_mk0)) (fun sp _ => (trodAll_cons_mk (shut_int Try.underlying2 w0) (trodAll_cons_mk (shut_int Try.underlying2 w1) trodAll_mk0))) (fun _ _ => rfl) rfl
    (hg.frame _) hg.2.1 (ok_one (by kernel_rfl) rfl (okWide_bool_mk Try.underlying4 _))⟩

theorem over : Rows.wordTruthsRow.holds Try.pinned (OpenSpec.ofChange Rows.wordTruthsSpec) :=
  OpenClaim.holds_of_wide 6 Try.f6 rfl rfl rfl rfl rfl rfl rfl ⟨rfl, rfl, rfl, rfl, rfl⟩ rfl rfl rfl rfl rfl (by kernel_rfl) Try.func6 (by kernel_rfl)
    (of_decide_eq_true (by kernel_rfl)) (by unfold Func.isWrapper; first | (rw [if_pos (by decide +kernel)]; kernel_rfl) | (rw [if_neg (by decide +kernel)]; exact ⟨rfl, rfl⟩))
    (fun os started H enc _ => lifted os started H enc)

/-- ████ THE STATEMENT ████ -/
theorem proved : Rows.WordTruthsSaid :=
  over
#print axioms proved
end Go.Proofs.Ytjpejdjiecfbnaa.wordTruths
