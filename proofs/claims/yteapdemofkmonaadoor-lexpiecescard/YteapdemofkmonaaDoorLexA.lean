/-
  Contracts of the lexer's small functions: what bytes they take. No condition but that a text has at most 65536 bytes.
-/
import Derived.Test.YteapdemofkmonaaDoorRows
import Derived.Test.YteapdemofkmonaaDoorShelf
import Derived.WalkKit
import Derived.ProofKit
import Derived.OpenShut
import Derived.Lib.Hide
namespace Go.Proofs.YteapdemofkmonaaDoor
open Go.ChangeShapes Go.WideShapes Go.ChangeAt Go.RowKit

def blankB (c : Int) : Bool := c == 32 || c == 9 || c == 10 || c == 13
def letterB (c : Int) : Bool := (decide (97 ≤ c) && decide (c ≤ 122)) || (decide (65 ≤ c) && decide (c ≤ 90)) || c == 95
def digitB (c : Int) : Bool := decide (48 ≤ c) && decide (c ≤ 57)
def inNameB (c : Int) : Bool := letterB c || digitB c
def inLineB (c : Int) : Bool := c != 10

theorem ret_bool {a b : Bool} (h : a = b) : Ending.returned (.bool a) = .returned (.bool b) := by rw [h]
theorem ret_int {k : IntKind} {a b : Int} (h : a = b) : Ending.returned (.int k a) = .returned (.int k b) := by rw [h]

theorem blank_any (c : Int) (w : World) : Calls Tryd.prog 16 #[.int .u8 c] w fun e w' => e = .returned (.bool (blankB c)) ∧ w = w' := by
  go_enter Tryd.func16, Tryd.ntmps16
  go_wp2
  all_goals go_ret
  all_goals (refine ⟨ret_bool ?_, rfl⟩; unfold blankB; rw [Bool.eq_iff_iff]; try (first | (simp; done) | (simp; omega)))
theorem letter_any (c : Int) (w : World) : Calls Tryd.prog 20 #[.int .u8 c] w fun e w' => e = .returned (.bool (letterB c)) ∧ w = w' := by
  go_enter Tryd.func20, Tryd.ntmps20
  go_wp2
  all_goals go_ret
  all_goals (refine ⟨ret_bool ?_, rfl⟩; unfold letterB; rw [Bool.eq_iff_iff]; try (first | (simp; done) | (simp; omega)))
theorem digit_any (c : Int) (w : World) : Calls Tryd.prog 24 #[.int .u8 c] w fun e w' => e = .returned (.bool (digitB c)) ∧ w = w' := by
  go_enter Tryd.func24, Tryd.ntmps24
  go_wp2
  all_goals go_ret
  all_goals (refine ⟨ret_bool ?_, rfl⟩; unfold digitB; rw [Bool.eq_iff_iff]; try (first | (simp; done) | (simp; omega)))
theorem inLine_any (c : Int) (w : World) : Calls Tryd.prog 19 #[.int .u8 c] w fun e w' => e = .returned (.bool (inLineB c)) ∧ w = w' := by
  go_enter Tryd.func19, Tryd.ntmps19
  go_wp2
  all_goals go_ret
  all_goals exact ⟨rfl, rfl⟩
theorem inName_any (c : Int) (w : World) : Calls Tryd.prog 22 #[.int .u8 c] w fun e w' => e = .returned (.bool (inNameB c)) ∧ w = w' := by
  cases hl : letterB c
  · go_enter Tryd.func22, Tryd.ntmps22
    go_wp2_with (fail)
    refine (letter_any _ _).mono ?_; rintro e w' ⟨rfl, rfl⟩
    go_wp2_with (fail)
    refine (digit_any _ _).mono ?_; rintro e w' ⟨rfl, rfl⟩
    go_wp2_with (fail)
    go_ret
    refine ⟨ret_bool ?_, rfl⟩; simp [inNameB, hl]
  · go_enter Tryd.func22, Tryd.ntmps22
    go_wp2_with (fail)
    refine (letter_any _ _).mono ?_; rintro e w' ⟨rfl, rfl⟩
    go_wp2_with (fail)
    go_ret
    refine ⟨ret_bool ?_, rfl⟩; simp [inNameB, hl]

/-- How many bytes from the beginning on are of a kind. -/
def spanL (p : Int → Bool) : List UInt8 → Nat
  | [] => 0
  | c :: r => if p (c.toNat : Int) then spanL p r + 1 else 0

theorem spanL_le (p : Int → Bool) (l : List UInt8) : spanL p l ≤ l.length := by
  induction l with
  | nil => simp [spanL]
  | cons c r ih => simp only [spanL, List.length_cons]; split <;> omega
theorem spanL_at (p : Int → Bool) : ∀ (l : List UInt8) (k : Nat) (h : k < l.length), (∀ j (hj : j < k), p ((l[j]'(by omega)).toNat : Int) = true) → p (l[k].toNat : Int) = false → spanL p l = k := by
  intro l
  induction l with
  | nil => intro k h; simp at h
  | cons c r ih =>
    intro k h hall hno
    cases k with
    | zero => simp only [List.getElem_cons_zero] at hno; simp [spanL, hno]
    | succ k =>
      have h0 := hall 0 (by omega)
      simp only [List.getElem_cons_zero] at h0
      have := ih k (by simpa using h) (fun j hj => by have := hall (j + 1) (by omega); simpa using this) (by simpa using hno)
      simp [spanL, h0, this]
theorem spanL_all (p : Int → Bool) : ∀ (l : List UInt8), (∀ j (hj : j < l.length), p (l[j].toNat : Int) = true) → spanL p l = l.length := by
  intro l
  induction l with
  | nil => intro _; rfl
  | cons c r ih =>
    intro hall
    have h0 := hall 0 (by simp)
    simp only [List.getElem_cons_zero] at h0
    have := ih (fun j hj => by have := hall (j + 1) (by simpa using hj); simpa using this)
    simp [spanL, h0, this]

def AllAre (p : Int → Bool) (s : ByteArray) (k : Nat) : Prop := ∀ j (_ : j < k) (hs : j < s.size), p ((s[j]'hs).toNat : Int) = true

theorem span_inLine (s : ByteArray) (hs : s.size ≤ 65536) (w : World) :
    Calls Tryd.prog 18 #[.string s, .func (Fn.func 19) #[] #[]] w fun e w' => e = .returned (.int .i64 (spanL inLineB s.data.toList)) ∧ w = w' := by
  go_enter Tryd.func18, Tryd.ntmps18
  go_wp2_with (fail)
  go_loop [8] (fun i => ∃ k : Nat, k ≤ s.size ∧ AllAre inLineB s k ∧ i = .int .i64 k) (fun i => s.size - (intOf i).toNat)
  case atStart => exact ⟨0, Nat.zero_le _, fun j hj => by omega, rfl⟩
  case round =>
    obtain ⟨k, hk, hall, rfl⟩ := hrel
    have HA := Lib.hid hall; clear hall
    by_cases hlt : k < s.size
    · cases hp : inLineB (s[k].toNat : Int)
      · go_wp2_with (fail)
        refine (inLine_any _ _).mono ?_; rintro e w' ⟨rfl, rfl⟩
        go_wp2_with (fail)
        go_ret
        refine ⟨ret_int ?_, rfl⟩
        rw [spanL_at inLineB s.data.toList k (by simpa using hlt) (fun j hj => HA.out j hj (by omega)) hp]
      · go_wp2_with (fail)
        refine (inLine_any _ _).mono ?_; rintro e w' ⟨rfl, rfl⟩
        go_wp2_with (fail)
        go_round
        case rel =>
          refine ⟨k + 1, by omega, fun j hj hjs => ?_, by go_num⟩
          by_cases e : j = k
          · subst e; exact hp
          · exact HA.out j (by omega) hjs
        case measure => simp [intOf]; omega
    · obtain rfl : k = s.size := by omega
      go_wp2_with (fail)
      go_ret
      refine ⟨ret_int ?_, rfl⟩
      rw [spanL_all inLineB s.data.toList (fun j hj => HA.out j (by simpa using hj) (by simpa using hj))]
      simp
theorem span_inName (s : ByteArray) (hs : s.size ≤ 65536) (w : World) :
    Calls Tryd.prog 18 #[.string s, .func (Fn.func 22) #[] #[]] w fun e w' => e = .returned (.int .i64 (spanL inNameB s.data.toList)) ∧ w = w' := by
  go_enter Tryd.func18, Tryd.ntmps18
  go_wp2_with (fail)
  go_loop [8] (fun i => ∃ k : Nat, k ≤ s.size ∧ AllAre inNameB s k ∧ i = .int .i64 k) (fun i => s.size - (intOf i).toNat)
  case atStart => exact ⟨0, Nat.zero_le _, fun j hj => by omega, rfl⟩
  case round =>
    obtain ⟨k, hk, hall, rfl⟩ := hrel
    have HA := Lib.hid hall; clear hall
    by_cases hlt : k < s.size
    · cases hp : inNameB (s[k].toNat : Int)
      · go_wp2_with (fail)
        refine (inName_any _ _).mono ?_; rintro e w' ⟨rfl, rfl⟩
        go_wp2_with (fail)
        go_ret
        refine ⟨ret_int ?_, rfl⟩
        rw [spanL_at inNameB s.data.toList k (by simpa using hlt) (fun j hj => HA.out j hj (by omega)) hp]
      · go_wp2_with (fail)
        refine (inName_any _ _).mono ?_; rintro e w' ⟨rfl, rfl⟩
        go_wp2_with (fail)
        go_round
        case rel =>
          refine ⟨k + 1, by omega, fun j hj hjs => ?_, by go_num⟩
          by_cases e : j = k
          · subst e; exact hp
          · exact HA.out j (by omega) hjs
        case measure => simp [intOf]; omega
    · obtain rfl : k = s.size := by omega
      go_wp2_with (fail)
      go_ret
      refine ⟨ret_int ?_, rfl⟩
      rw [spanL_all inNameB s.data.toList (fun j hj => HA.out j (by simpa using hj) (by simpa using hj))]
      simp
theorem span_digit (s : ByteArray) (hs : s.size ≤ 65536) (w : World) :
    Calls Tryd.prog 18 #[.string s, .func (Fn.func 24) #[] #[]] w fun e w' => e = .returned (.int .i64 (spanL digitB s.data.toList)) ∧ w = w' := by
  go_enter Tryd.func18, Tryd.ntmps18
  go_wp2_with (fail)
  go_loop [8] (fun i => ∃ k : Nat, k ≤ s.size ∧ AllAre digitB s k ∧ i = .int .i64 k) (fun i => s.size - (intOf i).toNat)
  case atStart => exact ⟨0, Nat.zero_le _, fun j hj => by omega, rfl⟩
  case round =>
    obtain ⟨k, hk, hall, rfl⟩ := hrel
    have HA := Lib.hid hall; clear hall
    by_cases hlt : k < s.size
    · cases hp : digitB (s[k].toNat : Int)
      · go_wp2_with (fail)
        refine (digit_any _ _).mono ?_; rintro e w' ⟨rfl, rfl⟩
        go_wp2_with (fail)
        go_ret
        refine ⟨ret_int ?_, rfl⟩
        rw [spanL_at digitB s.data.toList k (by simpa using hlt) (fun j hj => HA.out j hj (by omega)) hp]
      · go_wp2_with (fail)
        refine (digit_any _ _).mono ?_; rintro e w' ⟨rfl, rfl⟩
        go_wp2_with (fail)
        go_round
        case rel =>
          refine ⟨k + 1, by omega, fun j hj hjs => ?_, by go_num⟩
          by_cases e : j = k
          · subst e; exact hp
          · exact HA.out j (by omega) hjs
        case measure => simp [intOf]; omega
    · obtain rfl : k = s.size := by omega
      go_wp2_with (fail)
      go_ret
      refine ⟨ret_int ?_, rfl⟩
      rw [spanL_all digitB s.data.toList (fun j hj => HA.out j (by simpa using hj) (by simpa using hj))]
      simp
end Go.Proofs.YteapdemofkmonaaDoor
