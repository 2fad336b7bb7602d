/-
  WordBits: for every two words the law returns true, and its arguments read as before. No condition.
-/
import Derived.Test.YtjpejdjiecfbnaaRows
import Derived.Test.YtjpejdjiecfbnaaDo
import Derived.Lib.Hide
import Derived.Laws.BitsAll
import Derived.WalkKit
import Derived.ProofKit
import Derived.OpenShut
namespace Go.Proofs.Ytjpejdjiecfbnaa.wordBits
open Go.ChangeShapes Go.WideShapes Go.ChangeAt Go.RowKit
set_option linter.unusedVariables false      -- a walk need not use every 'w<i>' (that an integer argument fits its kind)

theorem own : ownKnob Try.prog.godebug = none := by kernel_rfl

def bit (n j : Int) : Int := if (BitVec.ofInt 64 n).getLsbD j.toNat then 1 else 0

theorem bit01 (n j : Int) : 0 ≤ bit n j ∧ bit n j ≤ 1 := by unfold bit; split <;> omega

theorem ret_int {k : IntKind} {a b : Int} (h : a = b) : Ending.returned (.int k a) = .returned (.int k b) := by rw [h]

theorem bit_at (n : Int) (i : Nat) : bits .and .u64 (IntKind.u64.wrap n / 2 ^ i) 1 = if (BitVec.ofInt 64 n).getLsbD i then 1 else 0 := by
  have hA : IntKind.u64.wrap n = ((BitVec.ofInt 64 n).toNat : Int) := by
    rw [IntKind.wrap_u64, BitVec.toNat_ofInt]
    have e : ((2 ^ 64 : Nat) : Int) = 18446744073709551616 := by decide
    rw [e]
    omega
  have hlt := (BitVec.ofInt 64 n).isLt
  rw [hA, BitVec.getLsbD, Nat.testBit_eq_decide_div_mod_eq]
  generalize (BitVec.ofInt 64 n).toNat = A at *
  have e : (A : Int) / 2 ^ i = ((A / 2 ^ i : Nat) : Int) := by rw [Int.natCast_ediv, Int.natCast_pow]; rfl
  have := Nat.div_le_self A (2 ^ i)
  rw [e]
  generalize A / 2 ^ i = z at this ⊢
  rw [u64_and _ _ (by omega) (by omega) (by decide) (by decide)]
  have h1 : (1 : Int).toNat = 1 := rfl
  rw [Int.toNat_natCast, h1, Nat.and_one_is_mod]
  by_cases hz : z % 2 = 1
  · rw [hz]; simp
  · have : z % 2 = 0 := by omega
    rw [this]; simp

theorem bit_any (n j : Int) (h0 : 0 ≤ j) (h : j ≤ 63) (w : World) :
    Calls Try.prog 11 #[.int .i64 n, .int .i64 j] w fun e w' => e = .returned (.int .i64 (bit n j)) ∧ w = w' := by
  obtain ⟨i, rfl⟩ := Int.eq_ofNat_of_zero_le h0
  go_enter Try.func11, Try.ntmps11
  go_wp2
  go_ret
  refine ⟨ret_int ?_, rfl⟩
  rw [bit_at]
  unfold bit
  rw [Int.toNat_natCast]
  split <;> exact IntWalk.wrap64_in _ (by decide)

def Fits (a b X Y Z L R : Int) (s : Nat) : Prop := ∀ k : Nat, k < 64 →
   (bit X k != wrap64 (bit a k * bit b k)) = false ∧ (bit Y k != wrap64 (bit a k + bit b k - wrap64 (bit a k * bit b k))) = false ∧ (bit Z k != (bit a k + bit b k) % 2) = false ∧
   (s ≤ k → (bit L k != bit a (k - s)) = false) ∧ (k < s → (bit L k != 0) = false) ∧
   (k + s < 64 → (bit R k != bit a (k + s)) = false) ∧ (64 ≤ k + s → (bit R k != bit a 63) = false)

set_option maxRecDepth 100000 in
set_option maxHeartbeats 4000000 in
theorem core (a b X Y Z L R : Int) (s : Nat) (hs : s < 64) (hsb : wrap64 ((IntKind.u64.wrap b).tmod 64) = s) (hF : Fits a b X Y Z L R s)
   (DX : ∀ w, Calls Try.prog 9 #[.int .i64 6, .int .i64 a, .int .i64 b] w fun e w' => e = .returned (.tuple #[.int .i64 X, .bool true]) ∧ w = w')
   (DY : ∀ w, Calls Try.prog 9 #[.int .i64 7, .int .i64 a, .int .i64 b] w fun e w' => e = .returned (.tuple #[.int .i64 Y, .bool true]) ∧ w = w')
   (DZ : ∀ w, Calls Try.prog 9 #[.int .i64 8, .int .i64 a, .int .i64 b] w fun e w' => e = .returned (.tuple #[.int .i64 Z, .bool true]) ∧ w = w')
   (DL : ∀ w, Calls Try.prog 9 #[.int .i64 9, .int .i64 a, .int .i64 b] w fun e w' => e = .returned (.tuple #[.int .i64 L, .bool true]) ∧ w = w')
   (DR : ∀ w, Calls Try.prog 9 #[.int .i64 10, .int .i64 a, .int .i64 b] w fun e w' => e = .returned (.tuple #[.int .i64 R, .bool true]) ∧ w = w')
   (w : World) :
    Calls Try.prog 5 #[.int .i64 a, .int .i64 b] w fun e w' => e = .returned (.bool true) ∧ w = w' := by
  have HX := Lib.hid DX; have HY := Lib.hid DY; have HZ := Lib.hid DZ; have HL := Lib.hid DL; have HR := Lib.hid DR; clear DX DY DZ DL DR
  have HF := Lib.hid hF; clear hF
  have HSB := Lib.hid hsb; clear hsb
  go_enter Try.func5, Try.ntmps5
  go_wp2_with (fail)
  refine (head_any _).mono ?_; rintro e w' ⟨rfl, rfl⟩
  go_wp2_with (fail)
  with_reducible refine (HX.out _).mono ?_
  rintro e w' ⟨rfl, rfl⟩
  go_wp2_with (fail)
  with_reducible refine (HY.out _).mono ?_
  rintro e w' ⟨rfl, rfl⟩
  go_wp2_with (fail)
  with_reducible refine (HZ.out _).mono ?_
  rintro e w' ⟨rfl, rfl⟩
  go_wp2_with (fail)
  with_reducible refine (HL.out _).mono ?_
  rintro e w' ⟨rfl, rfl⟩
  go_wp2_with (fail)
  with_reducible refine (HR.out _).mono ?_
  rintro e w' ⟨rfl, rfl⟩
  clear HX HY HZ HL HR
  go_wp2_with (fail)
  rw [HSB.out]
  clear HSB
  go_loop [17] (fun i => ∃ k : Nat, k ≤ 64 ∧ i = .int .i64 k) (fun i => 64 - (intOf i).toNat)
  case atStart => exact ⟨0, by omega, rfl⟩
  case round =>
    obtain ⟨k, hk, rfl⟩ := hrel
    by_cases hlt : k < 64
    · obtain ⟨f1, f2, f3, f4, f4', f5, f5'⟩ := HF.out k hlt
      have ba := bit01 a k
      have bb := bit01 b k
      clear HF
      by_cases c1 : s ≤ k
      · replace f4 := f4 c1
        clear f4'
        by_cases c2 : k + s < 64
        · replace f5 := f5 c2
          clear f5'
          go_wp2_with (fail)
          refine (bit_any _ _ (by omega) (by omega) _).mono ?_
          rintro e w' ⟨rfl, rfl⟩
          go_wp2_with (fail)
          refine (bit_any _ _ (by omega) (by omega) _).mono ?_
          rintro e w' ⟨rfl, rfl⟩
          go_wp2_with (fail)
          refine (bit_any _ _ (by omega) (by omega) _).mono ?_
          rintro e w' ⟨rfl, rfl⟩
          go_wp2_with (fail)
          refine (bit_any _ _ (by omega) (by omega) _).mono ?_
          rintro e w' ⟨rfl, rfl⟩
          go_wp2_with (fail)
          refine (bit_any _ _ (by omega) (by omega) _).mono ?_
          rintro e w' ⟨rfl, rfl⟩
          go_wp2_with (fail)
          refine (bit_any _ _ (by omega) (by omega) _).mono ?_
          rintro e w' ⟨rfl, rfl⟩
          go_wp2_with (fail)
          refine (bit_any _ _ (by omega) (by omega) _).mono ?_
          rintro e w' ⟨rfl, rfl⟩
          go_wp2_with (fail)
          refine (bit_any _ _ (by omega) (by omega) _).mono ?_
          rintro e w' ⟨rfl, rfl⟩
          go_wp2_with (fail)
          refine (bit_any _ _ (by omega) (by omega) _).mono ?_
          rintro e w' ⟨rfl, rfl⟩
          go_wp2_with (fail)
          refine (bit_any _ _ (by omega) (by omega) _).mono ?_
          rintro e w' ⟨rfl, rfl⟩
          go_wp2_with (fail)
          go_round
          case rel => exact ⟨k + 1, by omega, by go_num⟩
          case measure => simp [intOf]; omega
        · replace f5 := f5' (by omega)
          clear f5'
          go_wp2_with (fail)
          refine (bit_any _ _ (by omega) (by omega) _).mono ?_
          rintro e w' ⟨rfl, rfl⟩
          go_wp2_with (fail)
          refine (bit_any _ _ (by omega) (by omega) _).mono ?_
          rintro e w' ⟨rfl, rfl⟩
          go_wp2_with (fail)
          refine (bit_any _ _ (by omega) (by omega) _).mono ?_
          rintro e w' ⟨rfl, rfl⟩
          go_wp2_with (fail)
          refine (bit_any _ _ (by omega) (by omega) _).mono ?_
          rintro e w' ⟨rfl, rfl⟩
          go_wp2_with (fail)
          refine (bit_any _ _ (by omega) (by omega) _).mono ?_
          rintro e w' ⟨rfl, rfl⟩
          go_wp2_with (fail)
          refine (bit_any _ _ (by omega) (by omega) _).mono ?_
          rintro e w' ⟨rfl, rfl⟩
          go_wp2_with (fail)
          refine (bit_any _ _ (by omega) (by omega) _).mono ?_
          rintro e w' ⟨rfl, rfl⟩
          go_wp2_with (fail)
          refine (bit_any _ _ (by omega) (by omega) _).mono ?_
          rintro e w' ⟨rfl, rfl⟩
          go_wp2_with (fail)
          refine (bit_any _ _ (by omega) (by omega) _).mono ?_
          rintro e w' ⟨rfl, rfl⟩
          go_wp2_with (fail)
          go_round
          case rel => exact ⟨k + 1, by omega, by go_num⟩
          case measure => simp [intOf]; omega
      · replace f4 := f4' (by omega)
        clear f4'
        by_cases c2 : k + s < 64
        · replace f5 := f5 c2
          clear f5'
          go_wp2_with (fail)
          refine (bit_any _ _ (by omega) (by omega) _).mono ?_
          rintro e w' ⟨rfl, rfl⟩
          go_wp2_with (fail)
          refine (bit_any _ _ (by omega) (by omega) _).mono ?_
          rintro e w' ⟨rfl, rfl⟩
          go_wp2_with (fail)
          refine (bit_any _ _ (by omega) (by omega) _).mono ?_
          rintro e w' ⟨rfl, rfl⟩
          go_wp2_with (fail)
          refine (bit_any _ _ (by omega) (by omega) _).mono ?_
          rintro e w' ⟨rfl, rfl⟩
          go_wp2_with (fail)
          refine (bit_any _ _ (by omega) (by omega) _).mono ?_
          rintro e w' ⟨rfl, rfl⟩
          go_wp2_with (fail)
          refine (bit_any _ _ (by omega) (by omega) _).mono ?_
          rintro e w' ⟨rfl, rfl⟩
          go_wp2_with (fail)
          refine (bit_any _ _ (by omega) (by omega) _).mono ?_
          rintro e w' ⟨rfl, rfl⟩
          go_wp2_with (fail)
          refine (bit_any _ _ (by omega) (by omega) _).mono ?_
          rintro e w' ⟨rfl, rfl⟩
          go_wp2_with (fail)
          refine (bit_any _ _ (by omega) (by omega) _).mono ?_
          rintro e w' ⟨rfl, rfl⟩
          go_wp2_with (fail)
          go_round
          case rel => exact ⟨k + 1, by omega, by go_num⟩
          case measure => simp [intOf]; omega
        · replace f5 := f5' (by omega)
          clear f5'
          go_wp2_with (fail)
          refine (bit_any _ _ (by omega) (by omega) _).mono ?_
          rintro e w' ⟨rfl, rfl⟩
          go_wp2_with (fail)
          refine (bit_any _ _ (by omega) (by omega) _).mono ?_
          rintro e w' ⟨rfl, rfl⟩
          go_wp2_with (fail)
          refine (bit_any _ _ (by omega) (by omega) _).mono ?_
          rintro e w' ⟨rfl, rfl⟩
          go_wp2_with (fail)
          refine (bit_any _ _ (by omega) (by omega) _).mono ?_
          rintro e w' ⟨rfl, rfl⟩
          go_wp2_with (fail)
          refine (bit_any _ _ (by omega) (by omega) _).mono ?_
          rintro e w' ⟨rfl, rfl⟩
          go_wp2_with (fail)
          refine (bit_any _ _ (by omega) (by omega) _).mono ?_
          rintro e w' ⟨rfl, rfl⟩
          go_wp2_with (fail)
          refine (bit_any _ _ (by omega) (by omega) _).mono ?_
          rintro e w' ⟨rfl, rfl⟩
          go_wp2_with (fail)
          refine (bit_any _ _ (by omega) (by omega) _).mono ?_
          rintro e w' ⟨rfl, rfl⟩
          go_wp2_with (fail)
          go_round
          case rel => exact ⟨k + 1, by omega, by go_num⟩
          case measure => simp [intOf]; omega
    · obtain rfl : k = 64 := by omega
      go_wp2_with (fail)
      go_ret
      exact ⟨rfl, rfl⟩
theorem ofInt_wrap64 (n : Int) : BitVec.ofInt 64 (wrap64 n) = BitVec.ofInt 64 n := by
  apply BitVec.eq_of_toInt_eq
  rw [BitVec.toInt_ofInt, BitVec.toInt_ofInt]
  have e : wrap64 n = n.bmod (2 ^ 64) := by
    have e2 : (2 ^ 64 : Nat) = 18446744073709551616 := by decide
    rw [e2]
    unfold wrap64; simp only [Int.bmod]; split <;> omega
  rw [e, Int.bmod_bmod]

theorem ofInt_toNat (v : BitVec 64) : BitVec.ofInt 64 (v.toNat : Int) = v := by
  rw [BitVec.ofInt_natCast, BitVec.ofNat_toNat, BitVec.setWidth_eq]

theorem bits_and (a b : Int) : BitVec.ofInt 64 (bits .and .i64 a b) = BitVec.ofInt 64 a &&& BitVec.ofInt 64 b := by
  show BitVec.ofInt 64 (IntKind.i64.wrap ((BitVec.ofInt 64 a &&& BitVec.ofInt 64 b).toNat : Int)) = _
  rw [IntWalk.i64_left, ofInt_wrap64, ofInt_toNat]
theorem bits_or (a b : Int) : BitVec.ofInt 64 (bits .or .i64 a b) = BitVec.ofInt 64 a ||| BitVec.ofInt 64 b := by
  show BitVec.ofInt 64 (IntKind.i64.wrap ((BitVec.ofInt 64 a ||| BitVec.ofInt 64 b).toNat : Int)) = _
  rw [IntWalk.i64_left, ofInt_wrap64, ofInt_toNat]
theorem bits_xor (a b : Int) : BitVec.ofInt 64 (bits .xor .i64 a b) = BitVec.ofInt 64 a ^^^ BitVec.ofInt 64 b := by
  show BitVec.ofInt 64 (IntKind.i64.wrap ((BitVec.ofInt 64 a ^^^ BitVec.ofInt 64 b).toNat : Int)) = _
  rw [IntWalk.i64_left, ofInt_wrap64, ofInt_toNat]

theorem low6 (b : Int) : IntKind.u64.wrap (bits .and .i64 b 63) = b % 64 := by
  show IntKind.u64.wrap (IntKind.i64.wrap ((BitVec.ofInt 64 b &&& BitVec.ofInt 64 63).toNat : Int)) = _
  have h63 : (BitVec.ofInt 64 63).toNat = 63 := by decide
  have hb : ((BitVec.ofInt 64 b).toNat : Int) = b % 18446744073709551616 := by
    rw [BitVec.toNat_ofInt]
    have e : ((2 ^ 64 : Nat) : Int) = 18446744073709551616 := by decide
    rw [e]; omega
  rw [IntWalk.i64_left, IntKind.wrap_u64, BitVec.toNat_and, h63]
  have e : ∀ n : Nat, n &&& 63 = n % 64 := fun n => Nat.and_two_pow_sub_one_eq_mod n 6
  rw [e]
  unfold wrap64
  omega

theorem shl_eq (a : Int) (s : Nat) : BitVec.ofInt 64 (wrap64 (a * 2 ^ s)) = BitVec.ofInt 64 a <<< s := by
  rw [ofInt_wrap64, BitVec.shiftLeft_eq_mul_twoPow]
  apply BitVec.eq_of_toInt_eq
  rw [BitVec.toInt_mul, BitVec.toInt_ofInt, BitVec.toInt_ofInt]
  have e : BitVec.twoPow 64 s = BitVec.ofInt 64 (2 ^ s) := by
    rw [BitVec.twoPow_eq]
    apply BitVec.eq_of_toNat_eq
    rw [BitVec.toNat_shiftLeft, BitVec.toNat_ofInt]
    have : ((2 : Int) ^ s) = ((2 ^ s : Nat) : Int) := by rw [Int.natCast_pow]; rfl
    rw [this, ← Int.natCast_emod, Int.toNat_natCast, Nat.shiftLeft_eq]
    simp
  rw [e, BitVec.toInt_ofInt, Int.bmod_mul_bmod, Int.mul_comm a, Int.mul_comm a, Int.bmod_mul_bmod]

theorem shr_eq (a : Int) (s : Nat) (h1 : -9223372036854775808 ≤ a) (h2 : a ≤ 9223372036854775807) : BitVec.ofInt 64 (a / 2 ^ s) = (BitVec.ofInt 64 a).sshiftRight s := by
  have e : (BitVec.ofInt 64 a).toInt = a := by
    rw [BitVec.toInt_ofInt]
    have e2 : (2 ^ 64 : Nat) = 18446744073709551616 := by decide
    rw [e2]; simp only [Int.bmod]; split <;> omega
  rw [BitVec.sshiftRight, e, Int.shiftRight_eq_div_pow]
  rfl

theorem by_eq (b : Int) : wrap64 ((IntKind.u64.wrap b).tmod 64) = ((b % 64).toNat : Int) := by
  rw [IntKind.wrap_u64, Int.tmod_eq_emod_of_nonneg (by omega)]
  unfold wrap64; omega

theorem bit_of (n : Int) (k : Nat) : bit n k = if (BitVec.ofInt 64 n).getLsbD k then 1 else 0 := by
  unfold bit; rw [Int.toNat_natCast]

theorem b2 (x y : Bool) : wrap64 ((if x then 1 else 0) * (if y then 1 else 0)) = if x && y then 1 else 0 := by
  unfold wrap64; cases x <;> cases y <;> decide
theorem o2 (x y : Bool) : wrap64 ((if x then 1 else 0) + (if y then 1 else 0) - wrap64 ((if x then 1 else 0) * (if y then 1 else 0))) = if x || y then 1 else 0 := by
  unfold wrap64; cases x <;> cases y <;> decide
theorem x2 (x y : Bool) : ((if x then (1 : Int) else 0) + (if y then 1 else 0)) % 2 = if x ^^ y then 1 else 0 := by
  cases x <;> cases y <;> decide

theorem fits (a b : Int) (h1 : -9223372036854775808 ≤ a) (h2 : a ≤ 9223372036854775807) :
    Fits a b (bits .and .i64 a b) (bits .or .i64 a b) (bits .xor .i64 a b)
      (wrap64 (a * 2 ^ min (IntKind.u64.wrap (bits BinOp.and IntKind.i64 b 63)).toNat 64))
      (a / 2 ^ min (IntKind.u64.wrap (bits BinOp.and IntKind.i64 b 63)).toNat 64) (b % 64).toNat := by
  have hm : min (IntKind.u64.wrap (bits BinOp.and IntKind.i64 b 63)).toNat 64 = (b % 64).toNat := by rw [low6]; omega
  rw [hm]
  generalize hs : (b % 64).toNat = s
  have hs64 : s < 64 := by omega
  intro k hk
  refine ⟨?_, ?_, ?_, ?_, ?_, ?_, ?_⟩
  · rw [bit_of, bit_of, bit_of, bits_and, b2, BitVec.getLsbD_and]; simp
  · rw [bit_of, bit_of, bit_of, bits_or, o2, BitVec.getLsbD_or]; simp
  · rw [bit_of, bit_of, bit_of, bits_xor, x2, BitVec.getLsbD_xor]; simp
  · intro c
    have e : (k : Int) - s = ((k - s : Nat) : Int) := by omega
    rw [e, bit_of, bit_of, shl_eq, BitVec.getLsbD_shiftLeft]
    have c' : ¬ k < s := by omega
    simp [hk, c']
  · intro c
    rw [bit_of, shl_eq, BitVec.getLsbD_shiftLeft]
    simp [c]
  · intro c
    have e : (k : Int) + s = ((k + s : Nat) : Int) := by omega
    rw [e, bit_of, bit_of, shr_eq a s h1 h2, BitVec.getLsbD_sshiftRight]
    have c' : s + k < 64 := by omega
    have c2 : ¬ 64 ≤ k := by omega
    simp [c', c2, Nat.add_comm]
  · intro c
    have e : (63 : Int) = ((63 : Nat) : Int) := rfl
    rw [e, bit_of, bit_of, shr_eq a s h1 h2, BitVec.getLsbD_sshiftRight]
    have c' : ¬ s + k < 64 := by omega
    have c2 : ¬ 64 ≤ k := by omega
    simp [c', c2, BitVec.msb_eq_getLsbD_last]

theorem all (a b : Int) (h1 : -9223372036854775808 ≤ a) (h2 : a ≤ 9223372036854775807) (w : World) :
    Calls Try.prog 5 #[.int .i64 a, .int .i64 b] w fun e w' => e = .returned (.bool true) ∧ w = w' :=
  core a b _ _ _ _ _ (b % 64).toNat (by omega) (by_eq b) (fits a b h1 h2) (do_and a b) (do_or a b) (do_xor a b) (do_shl a b) (do_shr a b) w

theorem walk (a0 : Int) (a1 : Int) (w0 : (Lit.int .i64 a0).wf = true) (w1 : (Lit.int .i64 a1).wf = true) (w : World) :
    Calls Try.prog 5 #[.int .i64 a0, .int .i64 a1] w fun e w' => e = .returned (.bool true) ∧ Grown w w' := by
  have b0 := bounds_i64 w0
  exact (all a0 a1 b0.1 b0.2 w).mono fun e w' ⟨he, hw⟩ => ⟨he, hw ▸ Grown.refl _⟩

/-! ### THE ROW's STEP: WRITTEN OUT: LEAVE IT -/
set_option maxRecDepth 100000 in
theorem lifted (os : Os) (started : os.Started) (H : Type) (enc : TypeId × Value → H) :
    ReturnsInHanded {} Try.checked os 5 .any (Rows.wordBitsSpec.pre6 enc Try.prog Try.f5 Rows.wordBitsRow.domain false) (Rows.wordBitsSpec.post enc Try.prog Try.f5 false true false false) := by
  refine returnsInHanded_of_change (C := Try.checked) own started (by kernel_rfl) Try.func5
    (ChangeSpec.witness6 (enc := enc) (C := Try.checked) false ⟨#[], #[.int .i64 0, .int .i64 0], []⟩ 8 (by kernel_rfl) (by kernel_rfl) (by kernel_rfl) (by kernel_rfl)) ?_
  intro W base args ds gs before hval0 hW hcnd _
  have hval : ∀ (j : Nat) t v, Try.f5.params[j]? = some t → args[j]? = some v → Value.okWide Try.prog W .any base t v := hval0
  have hW' := hW
  obtain ⟨p, q, hA0, hV, rfl, hfz, hnd⟩ := hW
  have hA : DataW.TrodAll enc Try.prog W 0 (fun _ => true) true Try.f5.params.toList args.toList ds p := hA0
  rw [Try.params5] at hA hval
  obtain ⟨v0, vs0, d0, ds0, p0, q0, hargs, rfl, rfl, h0, r0⟩ := trodAll_cons hA
  obtain ⟨v1, vs1, d1, ds1, p1, q1, rfl, rfl, rfl, h1, r1⟩ := trodAll_cons r0
  obtain ⟨rfl, rfl, rfl⟩ := trodAll_nil r1
  obtain rfl : args = #[v0, v1] := by cases args; simp_all
  obtain ⟨rfl, rfl⟩ := trodVars_none hV
  obtain ⟨a0, rfl, rfl, rfl, w0⟩ := open_int Try.underlying2 (hval 0 2 v0 rfl rfl) h0
  obtain ⟨a1, rfl, rfl, rfl, w1⟩ := open_int Try.underlying2 (hval 1 2 v1 rfl rfl) h1
  clear hA0 hval0
  simp only [List.append_nil] at hW'
  refine (walk a0 a1 w0 w1 W).mono fun e W' ⟨he, hg⟩ => ?_
  subst he
  exact ⟨_, rfl, post_of_same (pa := []) (pv := []) hW' (fun _ _ _ => (trodAll_cons_mk (shut_bool Try.underlying4 _) trodAll_mk0)) (fun sp _ => (trodAll_cons_mk (shut_int Try.underlying2 w0) (trodAll_cons_mk (shut_int Try.underlying2 w1) trodAll_mk0))) (fun _ _ => rfl) rfl
    (hg.frame _) hg.2.1 (ok_one (by kernel_rfl) rfl (okWide_bool_mk Try.underlying4 _))⟩

theorem over : Rows.wordBitsRow.holds Try.pinned (OpenSpec.ofChange Rows.wordBitsSpec) :=
  OpenClaim.holds_of_wide 5 Try.f5 rfl rfl rfl rfl rfl rfl rfl ⟨rfl, rfl, rfl, rfl, rfl⟩ rfl rfl rfl rfl rfl (by kernel_rfl) Try.func5 (by kernel_rfl)
    (of_decide_eq_true (by kernel_rfl)) (by unfold Func.isWrapper; first | (rw [if_pos (by decide +kernel)]; kernel_rfl) | (rw [if_neg (by decide +kernel)]; exact ⟨rfl, rfl⟩))
    (fun os started H enc _ => lifted os started H enc)

/-- ████ THE STATEMENT ████ -/
theorem proved : Rows.WordBitsSaid :=
  over
#print axioms proved
end Go.Proofs.Ytjpejdjiecfbnaa.wordBits
