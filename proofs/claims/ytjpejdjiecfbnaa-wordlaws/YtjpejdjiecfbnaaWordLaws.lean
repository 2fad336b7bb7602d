/-
  WordLaws: for every three words and two bytes the law returns true, and its arguments read as before. No condition.
-/
import Derived.Test.YtjpejdjiecfbnaaRows
import Derived.Test.YtjpejdjiecfbnaaDo
import Derived.Lib.Hide
import Derived.Laws.BitsAll
import Derived.WalkKit
import Derived.ProofKit
import Derived.OpenShut
namespace Go.Proofs.Ytjpejdjiecfbnaa.wordLaws
open Go.ChangeShapes Go.WideShapes Go.ChangeAt Go.RowKit
set_option linter.unusedVariables false      -- a walk need not use every 'w<i>' (that an integer argument fits its kind)

theorem own : ownKnob Try.prog.godebug = none := by kernel_rfl

def doF (o x y : Int) : Int :=
  if o = 1 then wrap64 (x + y) else if o = 3 then wrap64 (x * y) else if o = 6 then bits .and .i64 x y else if o = 7 then bits .or .i64 x y else if o = 8 then bits .xor .i64 x y
  else if o = 9 then wrap64 (x * 2 ^ min (IntKind.u64.wrap (bits BinOp.and IntKind.i64 y 63)).toNat 64) else x / 2 ^ min (IntKind.u64.wrap (bits BinOp.and IntKind.i64 y 63)).toNat 64

def Ops (o : Int) : Prop := o = 1 ∨ o = 3 ∨ o = 6 ∨ o = 7 ∨ o = 8 ∨ o = 9 ∨ o = 10

theorem do9 (o x y : Int) (h : Ops o) (w : World) :
    Calls Try.prog 9 #[.int .i64 o, .int .i64 x, .int .i64 y] w fun e w' => e = .returned (.tuple #[.int .i64 (doF o x y), .bool true]) ∧ w = w' := by
  rcases h with rfl | rfl | rfl | rfl | rfl | rfl | rfl
  · exact do_add x y w
  · exact do_mul x y w
  · exact do_and x y w
  · exact do_or x y w
  · exact do_xor x y w
  · exact do_shl x y w
  · exact do_shr x y w

theorem do14 (o x y : Int) (h : Ops o) (w : World) :
    Calls Try.prog 14 #[.int .i64 o, .int .i64 x, .int .i64 y] w fun e w' => e = .returned (.int .i64 (doF o x y)) ∧ w = w' := by
  have H := Lib.hid h; clear h
  go_enter Try.func14, Try.ntmps14
  go_wp2_with (fail)
  refine (do9 _ _ _ H.out _).mono ?_; rintro e w' ⟨rfl, rfl⟩
  go_wp2_with (fail)
  go_ret
  exact ⟨rfl, rfl⟩

def Swaps (a b c o : Int) : Prop := (doF o a b != doF o b a) = false ∧ (doF o (doF o a b) c != doF o a (doF o b c)) = false

set_option maxRecDepth 100000 in
set_option maxHeartbeats 4000000 in
theorem core (a b c n m : Int) (hn0 : 0 ≤ n) (hn : n ≤ 255) (hm0 : 0 ≤ m) (hm : m ≤ 255) 
   (T1 : (doF 3 a (doF 1 b c) == doF 1 (doF 3 a b) (doF 3 a c)) = true) (T2 : (doF 9 (doF 9 a (n % 32)) (m % 32) == doF 9 a (n % 32 + m % 32)) = true) (T3 : (doF 10 (doF 10 a (n % 32)) (m % 32) == doF 10 a (n % 32 + m % 32)) = true)
   (T4 : (doF 9 a (n % 32) == doF 3 a (wrap64 (2 ^ (n % 32).toNat))) = true)
   (S1 : Swaps a b c 1) (S3 : Swaps a b c 3) (S6 : Swaps a b c 6) (S7 : Swaps a b c 7) (S8 : Swaps a b c 8)
   (w : World) :
    Calls Try.prog 7 #[.int .i64 a, .int .i64 b, .int .i64 c, .int .u8 n, .int .u8 m] w fun e w' => e = .returned (.bool true) ∧ Grown w w' := by
  have H1 := Lib.hid S1; have H3 := Lib.hid S3; have H6 := Lib.hid S6; have H7 := Lib.hid S7; have H8 := Lib.hid S8; clear S1 S3 S6 S7 S8
  have G1 := Lib.hid T1; have G2 := Lib.hid T2; have G3 := Lib.hid T3; have G4 := Lib.hid T4; clear T1 T2 T3 T4
  go_enter Try.func7, Try.ntmps7
  go_wp2_with (fail)
  refine (head_any _).mono ?_; rintro e w' ⟨rfl, rfl⟩
  go_wp2_with (fail)
  go_loop [20] (fun i => ∃ k : Nat, k ≤ 5 ∧ i = .int .i64 k) (fun i => 5 - (intOf i).toNat)
  case atStart => exact ⟨0, by omega, rfl⟩
  case round =>
    obtain ⟨k, hk, rfl⟩ := hrel
    have hc : k = 0 ∨ k = 1 ∨ k = 2 ∨ k = 3 ∨ k = 4 ∨ k = 5 := by omega
    rcases hc with rfl | rfl | rfl | rfl | rfl | rfl
    · obtain ⟨f1, f2⟩ := H1.out
      clear H1 H3 H6 H7 H8 G1 G2 G3 G4
      go_wp2_with (fail)
      refine (do14 _ _ _ (by unfold Ops; omega) _).mono ?_; rintro e w' ⟨rfl, rfl⟩
      go_wp2_with (fail)
      refine (do14 _ _ _ (by unfold Ops; omega) _).mono ?_; rintro e w' ⟨rfl, rfl⟩
      go_wp2_with (fail)
      refine (do14 _ _ _ (by unfold Ops; omega) _).mono ?_; rintro e w' ⟨rfl, rfl⟩
      go_wp2_with (fail)
      refine (do14 _ _ _ (by unfold Ops; omega) _).mono ?_; rintro e w' ⟨rfl, rfl⟩
      go_wp2_with (fail)
      refine (do14 _ _ _ (by unfold Ops; omega) _).mono ?_; rintro e w' ⟨rfl, rfl⟩
      go_wp2_with (fail)
      refine (do14 _ _ _ (by unfold Ops; omega) _).mono ?_; rintro e w' ⟨rfl, rfl⟩
      go_wp2_with (fail)
      go_round
      case rel => exact ⟨1, by omega, rfl⟩
      case measure => simp [intOf]
    · obtain ⟨f1, f2⟩ := H3.out
      clear H1 H3 H6 H7 H8 G1 G2 G3 G4
      go_wp2_with (fail)
      refine (do14 _ _ _ (by unfold Ops; omega) _).mono ?_; rintro e w' ⟨rfl, rfl⟩
      go_wp2_with (fail)
      refine (do14 _ _ _ (by unfold Ops; omega) _).mono ?_; rintro e w' ⟨rfl, rfl⟩
      go_wp2_with (fail)
      refine (do14 _ _ _ (by unfold Ops; omega) _).mono ?_; rintro e w' ⟨rfl, rfl⟩
      go_wp2_with (fail)
      refine (do14 _ _ _ (by unfold Ops; omega) _).mono ?_; rintro e w' ⟨rfl, rfl⟩
      go_wp2_with (fail)
      refine (do14 _ _ _ (by unfold Ops; omega) _).mono ?_; rintro e w' ⟨rfl, rfl⟩
      go_wp2_with (fail)
      refine (do14 _ _ _ (by unfold Ops; omega) _).mono ?_; rintro e w' ⟨rfl, rfl⟩
      go_wp2_with (fail)
      go_round
      case rel => exact ⟨2, by omega, rfl⟩
      case measure => simp [intOf]
    · obtain ⟨f1, f2⟩ := H6.out
      clear H1 H3 H6 H7 H8 G1 G2 G3 G4
      go_wp2_with (fail)
      refine (do14 _ _ _ (by unfold Ops; omega) _).mono ?_; rintro e w' ⟨rfl, rfl⟩
      go_wp2_with (fail)
      refine (do14 _ _ _ (by unfold Ops; omega) _).mono ?_; rintro e w' ⟨rfl, rfl⟩
      go_wp2_with (fail)
      refine (do14 _ _ _ (by unfold Ops; omega) _).mono ?_; rintro e w' ⟨rfl, rfl⟩
      go_wp2_with (fail)
      refine (do14 _ _ _ (by unfold Ops; omega) _).mono ?_; rintro e w' ⟨rfl, rfl⟩
      go_wp2_with (fail)
      refine (do14 _ _ _ (by unfold Ops; omega) _).mono ?_; rintro e w' ⟨rfl, rfl⟩
      go_wp2_with (fail)
      refine (do14 _ _ _ (by unfold Ops; omega) _).mono ?_; rintro e w' ⟨rfl, rfl⟩
      go_wp2_with (fail)
      go_round
      case rel => exact ⟨3, by omega, rfl⟩
      case measure => simp [intOf]
    · obtain ⟨f1, f2⟩ := H7.out
      clear H1 H3 H6 H7 H8 G1 G2 G3 G4
      go_wp2_with (fail)
      refine (do14 _ _ _ (by unfold Ops; omega) _).mono ?_; rintro e w' ⟨rfl, rfl⟩
      go_wp2_with (fail)
      refine (do14 _ _ _ (by unfold Ops; omega) _).mono ?_; rintro e w' ⟨rfl, rfl⟩
      go_wp2_with (fail)
      refine (do14 _ _ _ (by unfold Ops; omega) _).mono ?_; rintro e w' ⟨rfl, rfl⟩
      go_wp2_with (fail)
      refine (do14 _ _ _ (by unfold Ops; omega) _).mono ?_; rintro e w' ⟨rfl, rfl⟩
      go_wp2_with (fail)
      refine (do14 _ _ _ (by unfold Ops; omega) _).mono ?_; rintro e w' ⟨rfl, rfl⟩
      go_wp2_with (fail)
      refine (do14 _ _ _ (by unfold Ops; omega) _).mono ?_; rintro e w' ⟨rfl, rfl⟩
      go_wp2_with (fail)
      go_round
      case rel => exact ⟨4, by omega, rfl⟩
      case measure => simp [intOf]
    · obtain ⟨f1, f2⟩ := H8.out
      clear H1 H3 H6 H7 H8 G1 G2 G3 G4
      go_wp2_with (fail)
      refine (do14 _ _ _ (by unfold Ops; omega) _).mono ?_; rintro e w' ⟨rfl, rfl⟩
      go_wp2_with (fail)
      refine (do14 _ _ _ (by unfold Ops; omega) _).mono ?_; rintro e w' ⟨rfl, rfl⟩
      go_wp2_with (fail)
      refine (do14 _ _ _ (by unfold Ops; omega) _).mono ?_; rintro e w' ⟨rfl, rfl⟩
      go_wp2_with (fail)
      refine (do14 _ _ _ (by unfold Ops; omega) _).mono ?_; rintro e w' ⟨rfl, rfl⟩
      go_wp2_with (fail)
      refine (do14 _ _ _ (by unfold Ops; omega) _).mono ?_; rintro e w' ⟨rfl, rfl⟩
      go_wp2_with (fail)
      refine (do14 _ _ _ (by unfold Ops; omega) _).mono ?_; rintro e w' ⟨rfl, rfl⟩
      go_wp2_with (fail)
      go_round
      case rel => exact ⟨5, by omega, rfl⟩
      case measure => simp [intOf]
    · have T1 := G1.out; have T2 := G2.out; have T3 := G3.out; have T4 := G4.out
      clear H1 H3 H6 H7 H8 G1 G2 G3 G4
      go_wp2_with (fail)
      refine (do14 _ _ _ (by unfold Ops; omega) _).mono ?_; rintro e w' ⟨rfl, rfl⟩
      go_wp2_with (fail)
      refine (do14 _ _ _ (by unfold Ops; omega) _).mono ?_; rintro e w' ⟨rfl, rfl⟩
      go_wp2_with (fail)
      refine (do14 _ _ _ (by unfold Ops; omega) _).mono ?_; rintro e w' ⟨rfl, rfl⟩
      go_wp2_with (fail)
      refine (do14 _ _ _ (by unfold Ops; omega) _).mono ?_; rintro e w' ⟨rfl, rfl⟩
      go_wp2_with (fail)
      refine (do14 _ _ _ (by unfold Ops; omega) _).mono ?_; rintro e w' ⟨rfl, rfl⟩
      go_wp2_with (fail)
      refine (do14 _ _ _ (by unfold Ops; omega) _).mono ?_; rintro e w' ⟨rfl, rfl⟩
      go_wp2_with (fail)
      refine (do14 _ _ _ (by unfold Ops; omega) _).mono ?_; rintro e w' ⟨rfl, rfl⟩
      go_wp2_with (fail)
      refine (do14 _ _ _ (by unfold Ops; omega) _).mono ?_; rintro e w' ⟨rfl, rfl⟩
      go_wp2_with (fail)
      refine (do14 _ _ _ (by unfold Ops; omega) _).mono ?_; rintro e w' ⟨rfl, rfl⟩
      go_wp2_with (fail)
      refine (do14 _ _ _ (by unfold Ops; omega) _).mono ?_; rintro e w' ⟨rfl, rfl⟩
      go_wp2_with (fail)
      refine (do14 _ _ _ (by unfold Ops; omega) _).mono ?_; rintro e w' ⟨rfl, rfl⟩
      go_wp2_with (fail)
      refine (do14 _ _ _ (by unfold Ops; omega) _).mono ?_; rintro e w' ⟨rfl, rfl⟩
      go_wp2_with (fail)
      refine (do14 _ _ _ (by unfold Ops; omega) _).mono ?_; rintro e w' ⟨rfl, rfl⟩
      go_wp2_with (fail)
      go_ret
      exact ⟨rfl, (Grown.refl _).alloc _ _⟩
theorem wrap64_bmod (n : Int) : wrap64 n = n.bmod 18446744073709551616 := by
  unfold wrap64; simp only [Int.bmod]; split <;> omega
theorem wrap_add_l (x y : Int) : wrap64 (wrap64 x + y) = wrap64 (x + y) := by simp only [wrap64_bmod, Int.bmod_add_bmod]
theorem wrap_add_r (x y : Int) : wrap64 (x + wrap64 y) = wrap64 (x + y) := by simp only [wrap64_bmod, Int.add_bmod_bmod]
theorem wrap_mul_l (x y : Int) : wrap64 (wrap64 x * y) = wrap64 (x * y) := by simp only [wrap64_bmod, Int.bmod_mul_bmod]
theorem wrap_mul_r (x y : Int) : wrap64 (x * wrap64 y) = wrap64 (x * y) := by simp only [wrap64_bmod, Int.mul_bmod_bmod]
theorem ofInt_wrap64 (n : Int) : BitVec.ofInt 64 (wrap64 n) = BitVec.ofInt 64 n := by
  apply BitVec.eq_of_toInt_eq
  rw [BitVec.toInt_ofInt, BitVec.toInt_ofInt]
  have e2 : (2 ^ 64 : Nat) = 18446744073709551616 := by decide
  rw [e2, wrap64_bmod, Int.bmod_bmod]
theorem ofInt_toNat (v : BitVec 64) : BitVec.ofInt 64 (v.toNat : Int) = v := by
  rw [BitVec.ofInt_natCast, BitVec.ofNat_toNat, BitVec.setWidth_eq]
theorem and_def (a b : Int) : bits .and .i64 a b = wrap64 ((BitVec.ofInt 64 a &&& BitVec.ofInt 64 b).toNat : Int) := by
  show IntKind.i64.wrap ((BitVec.ofInt 64 a &&& BitVec.ofInt 64 b).toNat : Int) = _
  rw [IntWalk.i64_left]
theorem or_def (a b : Int) : bits .or .i64 a b = wrap64 ((BitVec.ofInt 64 a ||| BitVec.ofInt 64 b).toNat : Int) := by
  show IntKind.i64.wrap ((BitVec.ofInt 64 a ||| BitVec.ofInt 64 b).toNat : Int) = _
  rw [IntWalk.i64_left]
theorem xor_def (a b : Int) : bits .xor .i64 a b = wrap64 ((BitVec.ofInt 64 a ^^^ BitVec.ofInt 64 b).toNat : Int) := by
  show IntKind.i64.wrap ((BitVec.ofInt 64 a ^^^ BitVec.ofInt 64 b).toNat : Int) = _
  rw [IntWalk.i64_left]
theorem low6 (b : Int) : (IntKind.u64.wrap (bits .and .i64 b 63)) = b % 64 := by
  have h63 : (BitVec.ofInt 64 63).toNat = 63 := by decide
  have hb : ((BitVec.ofInt 64 b).toNat : Int) = b % 18446744073709551616 := by
    rw [BitVec.toNat_ofInt]
    have e : ((2 ^ 64 : Nat) : Int) = 18446744073709551616 := by decide
    rw [e]; omega
  rw [and_def, IntKind.wrap_u64, BitVec.toNat_and, h63]
  have e : ∀ n : Nat, n &&& 63 = n % 64 := fun n => Nat.and_two_pow_sub_one_eq_mod n 6
  rw [e]
  unfold wrap64
  omega
theorem by63 (y : Int) (h0 : 0 ≤ y) (h : y ≤ 63) : min (IntKind.u64.wrap (bits BinOp.and IntKind.i64 y 63)).toNat 64 = y.toNat := by rw [low6]; omega

theorem swaps (a b c o : Int) (h : o = 1 ∨ o = 3 ∨ o = 6 ∨ o = 7 ∨ o = 8) : Swaps a b c o := by
  unfold Swaps
  rcases h with rfl | rfl | rfl | rfl | rfl
  · simp only [doF, if_true]
    rw [wrap_add_l, wrap_add_r, Int.add_comm b a, Int.add_assoc]; simp
  · have e : ¬ ((3 : Int) = 1) := by decide
    simp only [doF, if_true, if_neg e]
    rw [wrap_mul_l, wrap_mul_r, Int.mul_comm b a, Int.mul_assoc]; simp
  · have e : ¬ ((6 : Int) = 1) := by decide
    have e2 : ¬ ((6 : Int) = 3) := by decide
    simp only [doF, if_true, if_neg e, if_neg e2]
    rw [and_def, and_def, and_def, and_def, and_def, ofInt_wrap64, ofInt_wrap64, ofInt_toNat, ofInt_toNat, BitVec.and_comm (BitVec.ofInt 64 b) (BitVec.ofInt 64 a), BitVec.and_assoc]; simp
  · have e : ¬ ((7 : Int) = 1) := by decide
    have e2 : ¬ ((7 : Int) = 3) := by decide
    have e3 : ¬ ((7 : Int) = 6) := by decide
    simp only [doF, if_true, if_neg e, if_neg e2, if_neg e3]
    rw [or_def, or_def, or_def, or_def, or_def, ofInt_wrap64, ofInt_wrap64, ofInt_toNat, ofInt_toNat, BitVec.or_comm (BitVec.ofInt 64 b) (BitVec.ofInt 64 a), BitVec.or_assoc]; simp
  · have e : ¬ ((8 : Int) = 1) := by decide
    have e2 : ¬ ((8 : Int) = 3) := by decide
    have e3 : ¬ ((8 : Int) = 6) := by decide
    have e4 : ¬ ((8 : Int) = 7) := by decide
    simp only [doF, if_true, if_neg e, if_neg e2, if_neg e3, if_neg e4]
    rw [xor_def, xor_def, xor_def, xor_def, xor_def, ofInt_wrap64, ofInt_wrap64, ofInt_toNat, ofInt_toNat, BitVec.xor_comm (BitVec.ofInt 64 b) (BitVec.ofInt 64 a), BitVec.xor_assoc]; simp

theorem doF1 (x y : Int) : doF 1 x y = wrap64 (x + y) := by simp [doF]
theorem doF3 (x y : Int) : doF 3 x y = wrap64 (x * y) := by simp [doF]
theorem doF9 (x y : Int) (h0 : 0 ≤ y) (h : y ≤ 63) : doF 9 x y = wrap64 (x * 2 ^ y.toNat) := by rw [← by63 y h0 h]; simp [doF]
theorem doF10 (x y : Int) (h0 : 0 ≤ y) (h : y ≤ 63) : doF 10 x y = x / 2 ^ y.toNat := by rw [← by63 y h0 h]; simp [doF]

theorem t1 (a b c : Int) : (doF 3 a (doF 1 b c) == doF 1 (doF 3 a b) (doF 3 a c)) = true := by
  rw [doF3, doF3, doF3, doF1, doF1, wrap_mul_r, wrap_add_l, wrap_add_r, Int.mul_add]; simp
theorem t2 (a n m : Int) : (doF 9 (doF 9 a (n % 32)) (m % 32) == doF 9 a (n % 32 + m % 32)) = true := by
  rw [doF9 _ _ (by omega) (by omega), doF9 _ _ (by omega) (by omega), doF9 _ _ (by omega) (by omega), wrap_mul_l]
  have e : (n % 32 + m % 32).toNat = (n % 32).toNat + (m % 32).toNat := by omega
  rw [e, Int.pow_add, Int.mul_assoc]; simp
theorem t3 (a n m : Int) : (doF 10 (doF 10 a (n % 32)) (m % 32) == doF 10 a (n % 32 + m % 32)) = true := by
  rw [doF10 _ _ (by omega) (by omega), doF10 _ _ (by omega) (by omega), doF10 _ _ (by omega) (by omega)]
  have e : (n % 32 + m % 32).toNat = (n % 32).toNat + (m % 32).toNat := by omega
  rw [e, Int.pow_add, Int.ediv_ediv_of_nonneg (Int.le_of_lt (Int.pow_pos (by decide)))]; simp
theorem t4 (a n : Int) : (doF 9 a (n % 32) == doF 3 a (wrap64 (2 ^ (n % 32).toNat))) = true := by
  rw [doF9 _ _ (by omega) (by omega), doF3, wrap_mul_r]; simp

theorem all (a b c n m : Int) (hn0 : 0 ≤ n) (hn : n ≤ 255) (hm0 : 0 ≤ m) (hm : m ≤ 255) (w : World) :
    Calls Try.prog 7 #[.int .i64 a, .int .i64 b, .int .i64 c, .int .u8 n, .int .u8 m] w fun e w' => e = .returned (.bool true) ∧ Grown w w' :=
  core a b c n m hn0 hn hm0 hm (t1 a b c) (t2 a n m) (t3 a n m) (t4 a n) (swaps a b c 1 (by decide)) (swaps a b c 3 (by decide)) (swaps a b c 6 (by decide)) (swaps a b c 7 (by decide)) (swaps a b c 8 (by decide)) w

theorem walk (a0 : Int) (a1 : Int) (a2 : Int) (a3 : Int) (a4 : Int) (w0 : (Lit.int .i64 a0).wf = true) (w1 : (Lit.int .i64 a1).wf = true) (w2 : (Lit.int .i64 a2).wf = true) (w3 : (Lit.int .u8 a3).wf = true) (w4 : (Lit.int .u8 a4).wf = true) (w : World) :
    Calls Try.prog 7 #[.int .i64 a0, .int .i64 a1, .int .i64 a2, .int .u8 a3, .int .u8 a4] w fun e w' => e = .returned (.bool true) ∧ Grown w w' := by
  have b3 := bounds_u8 w3
  have b4 := bounds_u8 w4
  exact all a0 a1 a2 a3 a4 b3.1 b3.2 b4.1 b4.2 w

/-! ### THE ROW's STEP: WRITTEN OUT: LEAVE IT -/
set_option maxRecDepth 100000 in
theorem lifted (os : Os) (started : os.Started) (H : Type) (enc : TypeId × Value → H) :
    ReturnsInHanded {} Try.checked os 7 .any (Rows.wordLawsSpec.pre6 enc Try.prog Try.f7 Rows.wordLawsRow.domain false) (Rows.wordLawsSpec.post enc Try.prog Try.f7 false true false false) := by
  refine returnsInHanded_of_change (C := Try.checked) own started (by kernel_rfl) Try.func7
    (ChangeSpec.witness6 (enc := enc) (C := Try.checked) false ⟨#[], #[.int .i64 0, .int .i64 0, .int .i64 0, .int .u8 0, .int .u8 0], []⟩ 8 (by kernel_rfl) (by kernel_rfl) (by kernel_rfl) (by kernel_rfl)) ?_
  intro W base args ds gs before hval0 hW hcnd _
  have hval : ∀ (j : Nat) t v, Try.f7.params[j]? = some t → args[j]? = some v → Value.okWide Try.prog W .any base t v := hval0
  have hW' := hW
  obtain ⟨p, q, hA0, hV, rfl, hfz, hnd⟩ := hW
  have hA : DataW.TrodAll enc Try.prog W 0 (fun _ => true) true Try.f7.params.toList args.toList ds p := hA0
  rw [Try.params7] at hA hval
  obtain ⟨v0, vs0, d0, ds0, p0, q0, hargs, rfl, rfl, h0, r0⟩ := trodAll_cons hA
  obtain ⟨v1, vs1, d1, ds1, p1, q1, rfl, rfl, rfl, h1, r1⟩ := trodAll_cons r0
  obtain ⟨v2, vs2, d2, ds2, p2, q2, rfl, rfl, rfl, h2, r2⟩ := trodAll_cons r1
  obtain ⟨v3, vs3, d3, ds3, p3, q3, rfl, rfl, rfl, h3, r3⟩ := trodAll_cons r2
  obtain ⟨v4, vs4, d4, ds4, p4, q4, rfl, rfl, rfl, h4, r4⟩ := trodAll_cons r3
  obtain ⟨rfl, rfl, rfl⟩ := trodAll_nil r4
  obtain rfl : args = #[v0, v1, v2, v3, v4] := by cases args; simp_all
  obtain ⟨rfl, rfl⟩ := trodVars_none hV
  obtain ⟨a0, rfl, rfl, rfl, w0⟩ := open_int Try.underlying2 (hval 0 2 v0 rfl rfl) h0
  obtain ⟨a1, rfl, rfl, rfl, w1⟩ := open_int Try.underlying2 (hval 1 2 v1 rfl rfl) h1
  obtain ⟨a2, rfl, rfl, rfl, w2⟩ := open_int Try.underlying2 (hval 2 2 v2 rfl rfl) h2
  obtain ⟨a3, rfl, rfl, rfl, w3⟩ := open_int Try.underlying5 (hval 3 5 v3 rfl rfl) h3
  obtain ⟨a4, rfl, rfl, rfl, w4⟩ := open_int Try.underlying5 (hval 4 5 v4 rfl rfl) h4
  clear hA0 hval0
  simp only [List.append_nil] at hW'
  refine (walk a0 a1 a2 a3 a4 w0 w1 w2 w3 w4 W).mono fun e W' ⟨he, hg⟩ => ?_
  subst he
  exact ⟨_, rfl, post_of_same (pa := []) (pv := []) hW' (fun _ _ _ => (trodAll_cons_mk (shut_bool Try.underlying4 _) trodAll_mk0)) (fun sp _ => (trodAll_cons_mk (shut_int Try.underlying2 w0) (trodAll_cons_mk (shut_int Try.underlying2 w1) (trodAll_cons_mk (shut_int Try.underlying2 w2) (trodAll_cons_mk (shut_int Try.underlying5 w3) (trodAll_cons_mk (shut_int Try.underlying5 w4) trodAll_mk0)))))) (fun _ _ => rfl) rfl
    (hg.frame _) hg.2.1 (ok_one (by kernel_rfl) rfl (okWide_bool_mk Try.underlying4 _))⟩

theorem over : Rows.wordLawsRow.holds Try.pinned (OpenSpec.ofChange Rows.wordLawsSpec) :=
  OpenClaim.holds_of_wide 7 Try.f7 rfl rfl rfl rfl rfl rfl rfl ⟨rfl, rfl, rfl, rfl, rfl⟩ rfl rfl rfl rfl rfl (by kernel_rfl) Try.func7 (by kernel_rfl)
    (of_decide_eq_true (by kernel_rfl)) (by unfold Func.isWrapper; first | (rw [if_pos (by decide +kernel)]; kernel_rfl) | (rw [if_neg (by decide +kernel)]; exact ⟨rfl, rfl⟩))
    (fun os started H enc _ => lifted os started H enc)

/-- ████ THE STATEMENT ████ -/
theorem proved : Rows.WordLawsSaid :=
  over
#print axioms proved
end Go.Proofs.Ytjpejdjiecfbnaa.wordLaws
