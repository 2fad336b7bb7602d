/-
  Contracts of the lexer's small functions: what bytes they take. No condition but that a text has at most 65536 bytes.
  Contracts of the lexer's functions that find marks, words and gaps. No condition but that a text has at most 65536 bytes, and is not empty.
  Contracts of the lexer's functions that find a mark, and cut a piece off.
  Contracts of the lexer's number, token and place.
  The contract of the lexer's token: the first token of a text that is not empty.
  The contract of the lexer: its tokens, or its error, for every text of at most 65536 bytes; a longer one.
  The lexer's contract at tokens one by one; head: the document's example.
-/
import Derived.Test.YtaomlahphlemdaaGreatDoorRows
import Derived.Test.YtaomlahphlemdaaGreatDoorShelf
import Derived.WalkKit
import Derived.ProofKit
import Derived.OpenShut
import Derived.Lib.Hide
import Derived.Outline
import Derived.Deep.RegionWith
import Derived.Laws.OwnMore
import Derived.Laws.BytesArg
namespace Go.Proofs.YtaomlahphlemdaaGreatDoor
open Go.ChangeShapes Go.WideShapes Go.ChangeAt Go.RowKit

def blankB (c : Int) : Bool := c == 32 || c == 9 || c == 10 || c == 13
def letterB (c : Int) : Bool := (decide (97 ≤ c) && decide (c ≤ 122)) || (decide (65 ≤ c) && decide (c ≤ 90)) || c == 95
def digitB (c : Int) : Bool := decide (48 ≤ c) && decide (c ≤ 57)
def inNameB (c : Int) : Bool := letterB c || digitB c
def inLineB (c : Int) : Bool := c != 10

theorem ret_bool {a b : Bool} (h : a = b) : Ending.returned (.bool a) = .returned (.bool b) := by rw [h]
theorem ret_int {k : IntKind} {a b : Int} (h : a = b) : Ending.returned (.int k a) = .returned (.int k b) := by rw [h]

theorem blank_any (c : Int) (w : World) : Calls Tryz.prog 75 #[.int .u8 c] w fun e w' => e = .returned (.bool (blankB c)) ∧ w = w' := by
  go_enter Tryz.func75, Tryz.ntmps75
  go_wp2
  all_goals go_ret
  all_goals (refine ⟨ret_bool ?_, rfl⟩; unfold blankB; rw [Bool.eq_iff_iff]; try (first | (simp; done) | (simp; omega)))
theorem letter_any (c : Int) (w : World) : Calls Tryz.prog 79 #[.int .u8 c] w fun e w' => e = .returned (.bool (letterB c)) ∧ w = w' := by
  go_enter Tryz.func79, Tryz.ntmps79
  go_wp2
  all_goals go_ret
  all_goals (refine ⟨ret_bool ?_, rfl⟩; unfold letterB; rw [Bool.eq_iff_iff]; try (first | (simp; done) | (simp; omega)))
theorem digit_any (c : Int) (w : World) : Calls Tryz.prog 83 #[.int .u8 c] w fun e w' => e = .returned (.bool (digitB c)) ∧ w = w' := by
  go_enter Tryz.func83, Tryz.ntmps83
  go_wp2
  all_goals go_ret
  all_goals (refine ⟨ret_bool ?_, rfl⟩; unfold digitB; rw [Bool.eq_iff_iff]; try (first | (simp; done) | (simp; omega)))
theorem inLine_any (c : Int) (w : World) : Calls Tryz.prog 78 #[.int .u8 c] w fun e w' => e = .returned (.bool (inLineB c)) ∧ w = w' := by
  go_enter Tryz.func78, Tryz.ntmps78
  go_wp2
  all_goals go_ret
  all_goals exact ⟨rfl, rfl⟩
theorem inName_any (c : Int) (w : World) : Calls Tryz.prog 81 #[.int .u8 c] w fun e w' => e = .returned (.bool (inNameB c)) ∧ w = w' := by
  cases hl : letterB c
  · go_enter Tryz.func81, Tryz.ntmps81
    go_wp2_with (fail)
    refine (letter_any _ _).mono ?_; rintro e w' ⟨rfl, rfl⟩
    go_wp2_with (fail)
    refine (digit_any _ _).mono ?_; rintro e w' ⟨rfl, rfl⟩
    go_wp2_with (fail)
    go_ret
    refine ⟨ret_bool ?_, rfl⟩; simp [inNameB, hl]
  · go_enter Tryz.func81, Tryz.ntmps81
    go_wp2_with (fail)
    refine (letter_any _ _).mono ?_; rintro e w' ⟨rfl, rfl⟩
    go_wp2_with (fail)
    go_ret
    refine ⟨ret_bool ?_, rfl⟩; simp [inNameB, hl]

/-- How many bytes from the beginning on are of a kind. -/
def spanL (p : Int → Bool) : List UInt8 → Nat
  | [] => 0
  | c :: r => if p (c.toNat : Int) then spanL p r + 1 else 0

theorem spanL_le (p : Int → Bool) (l : List UInt8) : spanL p l ≤ l.length := by
  induction l with
  | nil => simp [spanL]
  | cons c r ih => simp only [spanL, List.length_cons]; split <;> omega
theorem spanL_at (p : Int → Bool) : ∀ (l : List UInt8) (k : Nat) (h : k < l.length), (∀ j (hj : j < k), p ((l[j]'(by omega)).toNat : Int) = true) → p (l[k].toNat : Int) = false → spanL p l = k := by
  intro l
  induction l with
  | nil => intro k h; simp at h
  | cons c r ih =>
    intro k h hall hno
    cases k with
    | zero => simp only [List.getElem_cons_zero] at hno; simp [spanL, hno]
    | succ k =>
      have h0 := hall 0 (by omega)
      simp only [List.getElem_cons_zero] at h0
      have := ih k (by simpa using h) (fun j hj => by have := hall (j + 1) (by omega); simpa using this) (by simpa using hno)
      simp [spanL, h0, this]
theorem spanL_all (p : Int → Bool) : ∀ (l : List UInt8), (∀ j (hj : j < l.length), p (l[j].toNat : Int) = true) → spanL p l = l.length := by
  intro l
  induction l with
  | nil => intro _; rfl
  | cons c r ih =>
    intro hall
    have h0 := hall 0 (by simp)
    simp only [List.getElem_cons_zero] at h0
    have := ih (fun j hj => by have := hall (j + 1) (by simpa using hj); simpa using this)
    simp [spanL, h0, this]

def AllAre (p : Int → Bool) (s : ByteArray) (k : Nat) : Prop := ∀ j (_ : j < k) (hs : j < s.size), p ((s[j]'hs).toNat : Int) = true

theorem span_inLine (s : ByteArray) (hs : s.size ≤ 65536) (w : World) :
    Calls Tryz.prog 77 #[.string s, .func (Fn.func 78) #[] #[]] w fun e w' => e = .returned (.int .i64 (spanL inLineB s.data.toList)) ∧ w = w' := by
  go_enter Tryz.func77, Tryz.ntmps77
  go_wp2_with (fail)
  go_loop [8] (fun i => ∃ k : Nat, k ≤ s.size ∧ AllAre inLineB s k ∧ i = .int .i64 k) (fun i => s.size - (intOf i).toNat)
  case atStart => exact ⟨0, Nat.zero_le _, fun j hj => by omega, rfl⟩
  case round =>
    obtain ⟨k, hk, hall, rfl⟩ := hrel
    have HA := Lib.hid hall; clear hall
    by_cases hlt : k < s.size
    · cases hp : inLineB (s[k].toNat : Int)
      · go_wp2_with (fail)
        refine (inLine_any _ _).mono ?_; rintro e w' ⟨rfl, rfl⟩
        go_wp2_with (fail)
        go_ret
        refine ⟨ret_int ?_, rfl⟩
        rw [spanL_at inLineB s.data.toList k (by simpa using hlt) (fun j hj => HA.out j hj (by omega)) hp]
      · go_wp2_with (fail)
        refine (inLine_any _ _).mono ?_; rintro e w' ⟨rfl, rfl⟩
        go_wp2_with (fail)
        go_round
        case rel =>
          refine ⟨k + 1, by omega, fun j hj hjs => ?_, by go_num⟩
          by_cases e : j = k
          · subst e; exact hp
          · exact HA.out j (by omega) hjs
        case measure => simp [intOf]; omega
    · obtain rfl : k = s.size := by omega
      go_wp2_with (fail)
      go_ret
      refine ⟨ret_int ?_, rfl⟩
      rw [spanL_all inLineB s.data.toList (fun j hj => HA.out j (by simpa using hj) (by simpa using hj))]
      simp
theorem span_inName (s : ByteArray) (hs : s.size ≤ 65536) (w : World) :
    Calls Tryz.prog 77 #[.string s, .func (Fn.func 81) #[] #[]] w fun e w' => e = .returned (.int .i64 (spanL inNameB s.data.toList)) ∧ w = w' := by
  go_enter Tryz.func77, Tryz.ntmps77
  go_wp2_with (fail)
  go_loop [8] (fun i => ∃ k : Nat, k ≤ s.size ∧ AllAre inNameB s k ∧ i = .int .i64 k) (fun i => s.size - (intOf i).toNat)
  case atStart => exact ⟨0, Nat.zero_le _, fun j hj => by omega, rfl⟩
  case round =>
    obtain ⟨k, hk, hall, rfl⟩ := hrel
    have HA := Lib.hid hall; clear hall
    by_cases hlt : k < s.size
    · cases hp : inNameB (s[k].toNat : Int)
      · go_wp2_with (fail)
        refine (inName_any _ _).mono ?_; rintro e w' ⟨rfl, rfl⟩
        go_wp2_with (fail)
        go_ret
        refine ⟨ret_int ?_, rfl⟩
        rw [spanL_at inNameB s.data.toList k (by simpa using hlt) (fun j hj => HA.out j hj (by omega)) hp]
      · go_wp2_with (fail)
        refine (inName_any _ _).mono ?_; rintro e w' ⟨rfl, rfl⟩
        go_wp2_with (fail)
        go_round
        case rel =>
          refine ⟨k + 1, by omega, fun j hj hjs => ?_, by go_num⟩
          by_cases e : j = k
          · subst e; exact hp
          · exact HA.out j (by omega) hjs
        case measure => simp [intOf]; omega
    · obtain rfl : k = s.size := by omega
      go_wp2_with (fail)
      go_ret
      refine ⟨ret_int ?_, rfl⟩
      rw [spanL_all inNameB s.data.toList (fun j hj => HA.out j (by simpa using hj) (by simpa using hj))]
      simp
theorem span_digit (s : ByteArray) (hs : s.size ≤ 65536) (w : World) :
    Calls Tryz.prog 77 #[.string s, .func (Fn.func 83) #[] #[]] w fun e w' => e = .returned (.int .i64 (spanL digitB s.data.toList)) ∧ w = w' := by
  go_enter Tryz.func77, Tryz.ntmps77
  go_wp2_with (fail)
  go_loop [8] (fun i => ∃ k : Nat, k ≤ s.size ∧ AllAre digitB s k ∧ i = .int .i64 k) (fun i => s.size - (intOf i).toNat)
  case atStart => exact ⟨0, Nat.zero_le _, fun j hj => by omega, rfl⟩
  case round =>
    obtain ⟨k, hk, hall, rfl⟩ := hrel
    have HA := Lib.hid hall; clear hall
    by_cases hlt : k < s.size
    · cases hp : digitB (s[k].toNat : Int)
      · go_wp2_with (fail)
        refine (digit_any _ _).mono ?_; rintro e w' ⟨rfl, rfl⟩
        go_wp2_with (fail)
        go_ret
        refine ⟨ret_int ?_, rfl⟩
        rw [spanL_at digitB s.data.toList k (by simpa using hlt) (fun j hj => HA.out j hj (by omega)) hp]
      · go_wp2_with (fail)
        refine (digit_any _ _).mono ?_; rintro e w' ⟨rfl, rfl⟩
        go_wp2_with (fail)
        go_round
        case rel =>
          refine ⟨k + 1, by omega, fun j hj hjs => ?_, by go_num⟩
          by_cases e : j = k
          · subst e; exact hp
          · exact HA.out j (by omega) hjs
        case measure => simp [intOf]; omega
    · obtain rfl : k = s.size := by omega
      go_wp2_with (fail)
      go_ret
      refine ⟨ret_int ?_, rfl⟩
      rw [spanL_all digitB s.data.toList (fun j hj => HA.out j (by simpa using hj) (by simpa using hj))]
      simp
end Go.Proofs.YtaomlahphlemdaaGreatDoor

namespace Go.Proofs.YtaomlahphlemdaaGreatDoor
open Go.ChangeShapes Go.WideShapes Go.ChangeAt Go.RowKit
def doubleB (l : List UInt8) : Bool := l == [38, 38] || l == [124, 124] || l == [61, 61] || l == [33, 61] || l == [60, 61] || l == [62, 61] || l == [60, 60] || l == [62, 62]
theorem double_any (s : ByteArray) (w : World) : Calls Tryz.prog 99 #[.string s] w fun e w' => e = .returned (.bool (doubleB s.toList)) ∧ w = w' := by
  rcases Bool.eq_false_or_eq_true (s.toList == [38, 38]) with h0 | h0
  · go_enter Tryz.func99, Tryz.ntmps99
    go_wp2
    go_ret
    exact ⟨ret_bool (by simp only [doubleB, h0]; rfl), rfl⟩
  rcases Bool.eq_false_or_eq_true (s.toList == [124, 124]) with h1 | h1
  · go_enter Tryz.func99, Tryz.ntmps99
    go_wp2
    go_ret
    exact ⟨ret_bool (by simp only [doubleB, h0, h1]; rfl), rfl⟩
  rcases Bool.eq_false_or_eq_true (s.toList == [61, 61]) with h2 | h2
  · go_enter Tryz.func99, Tryz.ntmps99
    go_wp2
    go_ret
    exact ⟨ret_bool (by simp only [doubleB, h0, h1, h2]; rfl), rfl⟩
  rcases Bool.eq_false_or_eq_true (s.toList == [33, 61]) with h3 | h3
  · go_enter Tryz.func99, Tryz.ntmps99
    go_wp2
    go_ret
    exact ⟨ret_bool (by simp only [doubleB, h0, h1, h2, h3]; rfl), rfl⟩
  rcases Bool.eq_false_or_eq_true (s.toList == [60, 61]) with h4 | h4
  · go_enter Tryz.func99, Tryz.ntmps99
    go_wp2
    go_ret
    exact ⟨ret_bool (by simp only [doubleB, h0, h1, h2, h3, h4]; rfl), rfl⟩
  rcases Bool.eq_false_or_eq_true (s.toList == [62, 61]) with h5 | h5
  · go_enter Tryz.func99, Tryz.ntmps99
    go_wp2
    go_ret
    exact ⟨ret_bool (by simp only [doubleB, h0, h1, h2, h3, h4, h5]; rfl), rfl⟩
  rcases Bool.eq_false_or_eq_true (s.toList == [60, 60]) with h6 | h6
  · go_enter Tryz.func99, Tryz.ntmps99
    go_wp2
    go_ret
    exact ⟨ret_bool (by simp only [doubleB, h0, h1, h2, h3, h4, h5, h6]; rfl), rfl⟩
  rcases Bool.eq_false_or_eq_true (s.toList == [62, 62]) with h7 | h7
  · go_enter Tryz.func99, Tryz.ntmps99
    go_wp2
    go_ret
    exact ⟨ret_bool (by simp only [doubleB, h0, h1, h2, h3, h4, h5, h6, h7]; rfl), rfl⟩
  go_enter Tryz.func99, Tryz.ntmps99
  go_wp2
  go_ret
  exact ⟨ret_bool (by simp only [doubleB, h0, h1, h2, h3, h4, h5, h6, h7]; rfl), rfl⟩
def reservedB (l : List UInt8) : Bool := l == [101, 108, 115, 101] || l == [102, 97, 108, 115, 101] || l == [102, 117, 110, 99] || l == [105, 102] || l == [108, 101, 116] || l == [112, 117, 98, 108, 105, 99] || l == [114, 101, 116, 117, 114, 110] || l == [115, 101, 99, 114, 101, 116] || l == [116, 114, 117, 101] || l == [118, 97, 114] || l == [119, 104, 105, 108, 101]
theorem reserved_any (s : ByteArray) (w : World) : Calls Tryz.prog 82 #[.string s] w fun e w' => e = .returned (.bool (reservedB s.toList)) ∧ w = w' := by
  rcases Bool.eq_false_or_eq_true (s.toList == [101, 108, 115, 101]) with h0 | h0
  · go_enter Tryz.func82, Tryz.ntmps82
    go_wp2
    go_ret
    exact ⟨ret_bool (by simp only [reservedB, h0]; rfl), rfl⟩
  rcases Bool.eq_false_or_eq_true (s.toList == [102, 97, 108, 115, 101]) with h1 | h1
  · go_enter Tryz.func82, Tryz.ntmps82
    go_wp2
    go_ret
    exact ⟨ret_bool (by simp only [reservedB, h0, h1]; rfl), rfl⟩
  rcases Bool.eq_false_or_eq_true (s.toList == [102, 117, 110, 99]) with h2 | h2
  · go_enter Tryz.func82, Tryz.ntmps82
    go_wp2
    go_ret
    exact ⟨ret_bool (by simp only [reservedB, h0, h1, h2]; rfl), rfl⟩
  rcases Bool.eq_false_or_eq_true (s.toList == [105, 102]) with h3 | h3
  · go_enter Tryz.func82, Tryz.ntmps82
    go_wp2
    go_ret
    exact ⟨ret_bool (by simp only [reservedB, h0, h1, h2, h3]; rfl), rfl⟩
  rcases Bool.eq_false_or_eq_true (s.toList == [108, 101, 116]) with h4 | h4
  · go_enter Tryz.func82, Tryz.ntmps82
    go_wp2
    go_ret
    exact ⟨ret_bool (by simp only [reservedB, h0, h1, h2, h3, h4]; rfl), rfl⟩
  rcases Bool.eq_false_or_eq_true (s.toList == [112, 117, 98, 108, 105, 99]) with h5 | h5
  · go_enter Tryz.func82, Tryz.ntmps82
    go_wp2
    go_ret
    exact ⟨ret_bool (by simp only [reservedB, h0, h1, h2, h3, h4, h5]; rfl), rfl⟩
  rcases Bool.eq_false_or_eq_true (s.toList == [114, 101, 116, 117, 114, 110]) with h6 | h6
  · go_enter Tryz.func82, Tryz.ntmps82
    go_wp2
    go_ret
    exact ⟨ret_bool (by simp only [reservedB, h0, h1, h2, h3, h4, h5, h6]; rfl), rfl⟩
  rcases Bool.eq_false_or_eq_true (s.toList == [115, 101, 99, 114, 101, 116]) with h7 | h7
  · go_enter Tryz.func82, Tryz.ntmps82
    go_wp2
    go_ret
    exact ⟨ret_bool (by simp only [reservedB, h0, h1, h2, h3, h4, h5, h6, h7]; rfl), rfl⟩
  rcases Bool.eq_false_or_eq_true (s.toList == [116, 114, 117, 101]) with h8 | h8
  · go_enter Tryz.func82, Tryz.ntmps82
    go_wp2
    go_ret
    exact ⟨ret_bool (by simp only [reservedB, h0, h1, h2, h3, h4, h5, h6, h7, h8]; rfl), rfl⟩
  rcases Bool.eq_false_or_eq_true (s.toList == [118, 97, 114]) with h9 | h9
  · go_enter Tryz.func82, Tryz.ntmps82
    go_wp2
    go_ret
    exact ⟨ret_bool (by simp only [reservedB, h0, h1, h2, h3, h4, h5, h6, h7, h8, h9]; rfl), rfl⟩
  rcases Bool.eq_false_or_eq_true (s.toList == [119, 104, 105, 108, 101]) with h10 | h10
  · go_enter Tryz.func82, Tryz.ntmps82
    go_wp2
    go_ret
    exact ⟨ret_bool (by simp only [reservedB, h0, h1, h2, h3, h4, h5, h6, h7, h8, h9, h10]; rfl), rfl⟩
  go_enter Tryz.func82, Tryz.ntmps82
  go_wp2
  go_ret
  exact ⟨ret_bool (by simp only [reservedB, h0, h1, h2, h3, h4, h5, h6, h7, h8, h9, h10]; rfl), rfl⟩

def gapL (l : List UInt8) : Nat :=
  match l with
  | [] => 0
  | c :: r => if blankB (c.toNat : Int) then 1 else if Lib.hasPrefix (c :: r) [47, 47] then spanL inLineB (c :: r) else 0
theorem head_of (s : ByteArray) (h0 : 0 < s.size) : s.data.toList = s[0] :: s.data.toList.tail := by
  have h : 0 < s.data.toList.length := by simpa using h0
  obtain ⟨c, r, e⟩ : ∃ c r, s.data.toList = c :: r := by
    cases hl : s.data.toList with
    | nil => rw [hl] at h; simp at h
    | cons c r => exact ⟨c, r, rfl⟩
  have e2 : s[0] = c := by
    have h1 : s[0] = s.data.toList[0]'h := by simp; rfl
    rw [h1]; simp [e]
  rw [e2, e]; rfl
theorem gap_any (s : ByteArray) (hs : s.size ≤ 65536) (h0 : 0 < s.size) (w : World) :
    Calls Tryz.prog 56 #[.string s] w fun e w' => e = .returned (.int .i64 (gapL s.data.toList)) ∧ w = w' := by
  have hl := head_of s h0
  have HL := Lib.hid hl; clear hl
  have HS := Lib.hid hs; clear hs
  cases hb : blankB (s[0].toNat : Int)
  · cases hp : Lib.hasPrefix s.data.toList [47, 47]
    · go_enter Tryz.func56, Tryz.ntmps56
      go_wp2_with (fail)
      refine (blank_any _ _).mono ?_; rintro e w' ⟨rfl, rfl⟩
      go_wp2_with (fail)
      refine (Tryz.strings_HasPrefix _ _ _).mono ?_; rintro e w' ⟨rfl, rfl⟩
      go_wp2_with (fail)
      go_ret
      refine ⟨ret_int ?_, rfl⟩
      rw [HL.out] at hp ⊢
      simp [gapL, hb, hp]
    · go_enter Tryz.func56, Tryz.ntmps56
      go_wp2_with (fail)
      refine (blank_any _ _).mono ?_; rintro e w' ⟨rfl, rfl⟩
      go_wp2_with (fail)
      refine (Tryz.strings_HasPrefix _ _ _).mono ?_; rintro e w' ⟨rfl, rfl⟩
      go_wp2_with (fail)
      refine (span_inLine _ HS.out _).mono ?_; rintro e w' ⟨rfl, rfl⟩
      go_wp2_with (fail)
      go_ret
      refine ⟨ret_int ?_, rfl⟩
      rw [HL.out] at hp ⊢
      simp [gapL, hb, hp]
  · go_enter Tryz.func56, Tryz.ntmps56
    go_wp2_with (fail)
    refine (blank_any _ _).mono ?_; rintro e w' ⟨rfl, rfl⟩
    go_wp2_with (fail)
    go_ret
    refine ⟨ret_int ?_, rfl⟩
    rw [HL.out]
    simp [gapL, hb]
end Go.Proofs.YtaomlahphlemdaaGreatDoor

namespace Go.Proofs.YtaomlahphlemdaaGreatDoor
open Go.ChangeShapes Go.WideShapes Go.ChangeAt Go.RowKit
set_option linter.unusedVariables false

def marksL : List UInt8 := [43, 45, 42, 47, 37, 38, 124, 94, 60, 62, 61, 33, 40, 41, 123, 125, 91, 93, 44, 59]
def singleB (c : UInt8) : Bool := decide (0 ≤ Lib.indexByte marksL c)
/-- The longest mark at the beginning. -/
def markL (l : List UInt8) : Nat :=
  match l with
  | [] => 0
  | c :: r => if 1 < (c :: r).length && doubleB ((c :: r).take 2) then 2 else if singleB c then 1 else 0

theorem byte_back (c : UInt8) : ((c.toNat : Int)).toNat.toUInt8 = c := by simp

theorem mark_any (s : ByteArray) (hs : s.size ≤ 65536) (h0 : 0 < s.size) (w : World) :
    Calls Tryz.prog 85 #[.string s] w fun e w' => e = .returned (.int .i64 (markL s.data.toList)) ∧ w = w' := by
  have hl := head_of s h0
  have HL := Lib.hid hl; clear hl
  have ht : (s.extract 0 2).toList = s.data.toList.take 2 := by rw [Lib.extract_toList]; simp
  have HT := Lib.hid ht; clear ht
  have len : s.data.toList.length = s.size := by simp
  have HN := Lib.hid len; clear len
  by_cases h1 : 1 < s.size
  · cases hd : doubleB (s.extract 0 2).toList
    · cases hi : singleB s[0]
      · have hi' : Lib.indexByte [43, 45, 42, 47, 37, 38, 124, 94, 60, 62, 61, 33, 40, 41, 123, 125, 91, 93, 44, 59] s[0] < 0 := by have := of_decide_eq_false hi; simpa [marksL] using this
        go_enter Tryz.func85, Tryz.ntmps85
        go_wp2_with (fail)
        refine (double_any _ _).mono ?_; rintro e w' ⟨rfl, rfl⟩
        go_wp2_with (fail)
        refine (Tryz.strings_IndexByte _ _ _).mono ?_; rintro e w' ⟨rfl, rfl⟩
        go_wp2_with (fail)
        go_ret
        refine ⟨ret_int ?_, rfl⟩
        rw [HT.out] at hd
        have hn := HN.out
        rw [HL.out] at hd hn ⊢
        simp only [markL, hd, hi]
        simp
      · have hi' : 0 ≤ Lib.indexByte [43, 45, 42, 47, 37, 38, 124, 94, 60, 62, 61, 33, 40, 41, 123, 125, 91, 93, 44, 59] s[0] := of_decide_eq_true hi
        go_enter Tryz.func85, Tryz.ntmps85
        go_wp2_with (fail)
        refine (double_any _ _).mono ?_; rintro e w' ⟨rfl, rfl⟩
        go_wp2_with (fail)
        refine (Tryz.strings_IndexByte _ _ _).mono ?_; rintro e w' ⟨rfl, rfl⟩
        go_wp2_with (fail)
        go_ret
        refine ⟨ret_int ?_, rfl⟩
        rw [HT.out] at hd
        have hn := HN.out
        rw [HL.out] at hd hn ⊢
        simp only [markL, hd, hi]
        simp
    · go_enter Tryz.func85, Tryz.ntmps85
      go_wp2_with (fail)
      refine (double_any _ _).mono ?_; rintro e w' ⟨rfl, rfl⟩
      go_wp2_with (fail)
      go_ret
      refine ⟨ret_int ?_, rfl⟩
      rw [HT.out] at hd
      have hn := HN.out
      rw [HL.out] at hd hn ⊢
      simp only [markL, hd, hn]
      simp [h1]
  · cases hi : singleB s[0]
    · have hi' : Lib.indexByte [43, 45, 42, 47, 37, 38, 124, 94, 60, 62, 61, 33, 40, 41, 123, 125, 91, 93, 44, 59] s[0] < 0 := by have := of_decide_eq_false hi; simpa [marksL] using this
      go_enter Tryz.func85, Tryz.ntmps85
      go_wp2_with (fail)
      refine (Tryz.strings_IndexByte _ _ _).mono ?_; rintro e w' ⟨rfl, rfl⟩
      go_wp2_with (fail)
      go_ret
      refine ⟨ret_int ?_, rfl⟩
      have hn := HN.out
      rw [HL.out] at hn ⊢
      simp only [markL, hn, hi]
      simp [h1]
    · have hi' : 0 ≤ Lib.indexByte [43, 45, 42, 47, 37, 38, 124, 94, 60, 62, 61, 33, 40, 41, 123, 125, 91, 93, 44, 59] s[0] := of_decide_eq_true hi
      go_enter Tryz.func85, Tryz.ntmps85
      go_wp2_with (fail)
      refine (Tryz.strings_IndexByte _ _ _).mono ?_; rintro e w' ⟨rfl, rfl⟩
      go_wp2_with (fail)
      go_ret
      refine ⟨ret_int ?_, rfl⟩
      have hn := HN.out
      rw [HL.out] at hn ⊢
      simp only [markL, hn, hi]
      simp [h1]

theorem clone_any (s : ByteArray) (hs : s.size ≤ 65536) (w : World) :
    Calls Tryz.prog 98 #[.string s] w fun e w' => e = .returned (.string s) ∧ Below w.heap.size w w' := by
  have HS := Lib.hid hs; clear hs
  go_enter Tryz.func98, Tryz.ntmps98
  go_wp2_with (fail)
  refine (Tryz.stringslite_Clone _ _ (by have := HS.out; omega)).mono ?_; rintro e w' ⟨rfl, hb⟩
  go_wp2_with (fail)
  go_ret
  exact ⟨rfl, hb⟩

theorem piece_any (k : Int) (n : Nat) (s : ByteArray) (hs : s.size ≤ 65536) (h0 : n ≤ s.size) (w : World) :
    Calls Tryz.prog 80 #[.int .i64 k, .string s, .int .i64 n] w fun e w' => e = .returned (.agg #[.int .i64 k, .string (s.extract 0 n), .int .i64 0, .int .i64 0, .int .i64 0]) ∧ Below w.heap.size w w' := by
  go_enter Tryz.func80, Tryz.ntmps80
  go_wp2_with (fail)
  refine (clone_any _ (by simp; omega) _).mono ?_; rintro e w1 ⟨rfl, hb⟩
  have hsz : w.heap.size < w1.heap.size := by have := hb.size; simp at this; omega
  have hc := fun j => hb.cell (p := ⟨w.heap.size, j, none⟩) (by simp)
  have hf := fun j => hb.frozen (p := ⟨w.heap.size, j, none⟩) (by simp)
  go_wp2_with (fail)
  refine bodyPost_ret (v := .agg #[.int .i64 k, .string (s.extract 0 n), .int .i64 0, .int .i64 0, .int .i64 0]) (by simp [results, Tryz.results80, go_sem, hc]) rfl ⟨rfl, ?_⟩
  have h1 := ((Below.refl w.heap.size w).alloc (Nat.le_refl _) (.cells #[Value.int IntKind.i64 0, Value.string { data := #[] }, Value.int IntKind.i64 0, Value.int IntKind.i64 0, Value.int IntKind.i64 0] 132)).trans (hb.mono (by simp))
  exact ((((h1.setCell (Nat.le_refl _) _).setCell (Nat.le_refl _) _).setCell (Nat.le_refl _) _).setCell (Nat.le_refl _) _).setCell (Nat.le_refl _) _
end Go.Proofs.YtaomlahphlemdaaGreatDoor

namespace Go.Proofs.YtaomlahphlemdaaGreatDoor
open Go.ChangeShapes Go.WideShapes Go.ChangeAt Go.RowKit
set_option linter.unusedVariables false

/-- The number that digits are, from a beginning on. -/
def numL (a : Int) : List UInt8 → Option Int
  | [] => some a
  | c :: r => if (9223372036854775807 - ((c.toNat : Int) - 48)) / 10 < a then none else numL (a * 10 + ((c.toNat : Int) - 48)) r

theorem drop_at (x : ByteArray) (k : Nat) (h : k < x.size) : x.data.toList.drop k = x[k] :: x.data.toList.drop (k + 1) := by
  rw [List.drop_eq_getElem_cons (by simpa using h)]; rfl

theorem ret_of {v v' : Value} (h : v = v') : Ending.returned v = .returned v' := by rw [h]

/-- What number answers. -/
def numV (k : Int) (x : ByteArray) (o : Option Int) : Value :=
  match o with
  | none => .tuple #[.agg #[.int .i64 0, .string ⟨#[]⟩, .int .i64 0, .int .i64 0, .int .i64 0], .int .i64 11]
  | some v => .tuple #[.agg #[.int .i64 k, .string x, .int .i64 v, .int .i64 0, .int .i64 0], .int .i64 0]

set_option maxHeartbeats 1000000 in
theorem number_any (k : Int) (x : ByteArray) (hs : x.size ≤ 65536) (hd : AllAre digitB x x.size) (w : World) :
    Calls Tryz.prog 84 #[.agg #[.int .i64 k, .string x, .int .i64 0, .int .i64 0, .int .i64 0]] w fun e w' => e = .returned (numV k x (numL 0 x.data.toList)) ∧ Below w.heap.size w w' := by
  have HD := Lib.hid hd; clear hd
  go_enter Tryz.func84, Tryz.ntmps84
  go_wp2_with (fail)
  go_loopw [9] (fun i wr => ∃ (j : Nat) (v : Int), j ≤ x.size ∧ 0 ≤ v ∧ v ≤ 9223372036854775807 ∧ numL 0 x.data.toList = numL v (x.data.toList.drop j) ∧ i = .int .i64 j ∧
      wr = (w.alloc (.cells #[.int .i64 k, .string x, .int .i64 v, .int .i64 0, .int .i64 0] 132)).alloc (.cells #[.int .i64 0, .string ⟨#[]⟩, .int .i64 0, .int .i64 0, .int .i64 0] 132)) (fun i _ => x.size - (intOf i).toNat)
  case atStart => exact ⟨0, 0, Nat.zero_le _, by omega, by omega, rfl, rfl, rfl⟩
  case round =>
    obtain ⟨j, v, hj, hv0, hv1, hn, rfl, rfl⟩ := hrel
    have HN := Lib.hid hn; clear hn
    by_cases hlt : j < x.size
    · have hdig := HD.out j hlt hlt
      have hlo : 48 ≤ (x[j].toNat : Int) ∧ (x[j].toNat : Int) ≤ 57 := by
        unfold digitB at hdig; simpa using hdig
      have HDR := Lib.hid (drop_at x j hlt)
      clear hdig
      by_cases hbig : (9223372036854775807 - ((x[j].toNat : Int) - 48)) / 10 < v
      · go_wp2_with (fail)
        have e0 : numL 0 x.data.toList = none := by rw [HN.out, HDR.out, numL, if_pos hbig]
        rw [e0]
        exact bodyPost_ret (v := .tuple #[.agg #[.int .i64 0, .string ⟨#[]⟩, .int .i64 0, .int .i64 0, .int .i64 0], .int .i64 11]) (by simp [results, Tryz.results84, go_sem]) rfl ⟨rfl, ((Below.refl _ _).alloc (Nat.le_refl _) _).alloc (by simp) _⟩
      · go_wp2_with (fail)
        go_roundw
        case rel =>
          refine ⟨j + 1, v * 10 + ((x[j].toNat : Int) - 48), by omega, by omega, by omega, ?_, by go_num, rfl⟩
          rw [HN.out, HDR.out, numL, if_neg hbig]
        case measure => simp [intOf]; omega
    · obtain rfl : j = x.size := by omega
      go_wp2_with (fail)
      have e0 : numL 0 x.data.toList = some v := by
        rw [HN.out, List.drop_of_length_le (by simp), numL]
      rw [e0]
      exact bodyPost_ret (v := .tuple #[.agg #[.int .i64 k, .string x, .int .i64 v, .int .i64 0, .int .i64 0], .int .i64 0]) (by simp [results, Tryz.results84, go_sem]) rfl ⟨rfl, ((Below.refl _ _).alloc (Nat.le_refl _) _).alloc (by simp) _⟩
end Go.Proofs.YtaomlahphlemdaaGreatDoor

namespace Go.Proofs.YtaomlahphlemdaaGreatDoor
open Go.ChangeShapes Go.WideShapes Go.ChangeAt Go.RowKit
set_option linter.unusedVariables false

structure T0 where
  err : Int
  n : Nat
  kind : Int
  num : Int

/-- The first token of a text: its error, or its length, kind and number. -/
def tokL (l : List UInt8) : T0 :=
  match l with
  | [] => ⟨10, 0, 0, 0⟩
  | c :: r =>
    if letterB (c.toNat : Int) then ⟨0, spanL inNameB (c :: r), if reservedB ((c :: r).take (spanL inNameB (c :: r))) then 3 else 1, 0⟩
    else if digitB (c.toNat : Int) then
      match numL 0 ((c :: r).take (spanL digitB (c :: r))) with
      | none => ⟨11, 0, 0, 0⟩
      | some v => ⟨0, spanL digitB (c :: r), 2, v⟩
    else if 0 < markL (c :: r) then ⟨0, markL (c :: r), 4, 0⟩ else ⟨10, 0, 0, 0⟩

/-- What token answers. -/
def tokV (s : ByteArray) (t : T0) : Value :=
  .tuple #[.agg #[.int .i64 t.kind, .string (s.extract 0 t.n), .int .i64 t.num, .int .i64 0, .int .i64 0], .int .i64 t.err]

theorem tokL_letter {l : List UInt8} {c : UInt8} {r : List UInt8} (e : l = c :: r) (h : letterB (c.toNat : Int) = true) : tokL l = ⟨0, spanL inNameB l, if reservedB (l.take (spanL inNameB l)) then 3 else 1, 0⟩ := by
  subst e; simp only [tokL, h, if_true]
theorem tokL_none {l : List UInt8} {c : UInt8} {r : List UInt8} (e : l = c :: r) (h : letterB (c.toNat : Int) = false) (hd : digitB (c.toNat : Int) = true) (hn : numL 0 (l.take (spanL digitB l)) = none) : tokL l = ⟨11, 0, 0, 0⟩ := by
  subst e; simp only [tokL, h, hd, hn, if_true]; rfl
theorem tokL_some {l : List UInt8} {c : UInt8} {r : List UInt8} {v : Int} (e : l = c :: r) (h : letterB (c.toNat : Int) = false) (hd : digitB (c.toNat : Int) = true) (hn : numL 0 (l.take (spanL digitB l)) = some v) : tokL l = ⟨0, spanL digitB l, 2, v⟩ := by
  subst e; simp only [tokL, h, hd, hn, if_true]; rfl
theorem tokL_mark {l : List UInt8} {c : UInt8} {r : List UInt8} (e : l = c :: r) (h : letterB (c.toNat : Int) = false) (hd : digitB (c.toNat : Int) = false) (hm : 0 < markL l) : tokL l = ⟨0, markL l, 4, 0⟩ := by
  subst e; simp only [tokL, h, hd, if_pos hm]; rfl
theorem tokL_sign {l : List UInt8} {c : UInt8} {r : List UInt8} (e : l = c :: r) (h : letterB (c.toNat : Int) = false) (hd : digitB (c.toNat : Int) = false) (hm : ¬ 0 < markL l) : tokL l = ⟨10, 0, 0, 0⟩ := by
  subst e; simp only [tokL, h, hd, if_neg hm]; rfl

theorem extract_none (s : ByteArray) : s.extract 0 0 = ⟨#[]⟩ := by
  apply bytes_inj
  rw [Lib.extract_data]; simp
theorem spanL_pre (p : Int → Bool) : ∀ (l : List UInt8) (j : Nat) (h : j < spanL p l) (hl : j < l.length), p (l[j].toNat : Int) = true := by
  intro l
  induction l with
  | nil => intro j h; simp [spanL] at h
  | cons c r ih =>
    intro j h hl
    simp only [spanL] at h
    split at h
    · rename_i hc
      cases j with
      | zero => simpa using hc
      | succ j => have := ih j (by omega) (by simpa using hl); simpa using this
    · omega
theorem markL_le (l : List UInt8) : markL l ≤ l.length := by
  unfold markL
  cases l with
  | nil => simp
  | cons c r =>
    simp only
    split
    · rename_i h; simp at h; simp; omega
    · split <;> simp
theorem get_list (x : ByteArray) (j : Nat) (h : j < x.size) : x[j] = x.data.toList[j]'(by simpa using h) := by simp; rfl
theorem take_extract (s : ByteArray) (n : Nat) : (s.extract 0 n).data.toList = s.data.toList.take n := by rw [Lib.extract_data]; simp
theorem digits_all (s : ByteArray) : AllAre digitB (s.extract 0 (spanL digitB s.data.toList)) (s.extract 0 (spanL digitB s.data.toList)).size := by
  intro j hj hjs
  have hl := spanL_le digitB s.data.toList
  have e1 : (s.extract 0 (spanL digitB s.data.toList)).data.toList.length = spanL digitB s.data.toList := by
    rw [take_extract, List.length_take]; omega
  have hj2 : j < spanL digitB s.data.toList := by
    have : j < (s.extract 0 (spanL digitB s.data.toList)).data.toList.length := by simpa using hjs
    omega
  have e2 : (s.extract 0 (spanL digitB s.data.toList))[j] = s.data.toList[j]'(by omega) := by
    rw [get_list]
    simp only [take_extract, List.getElem_take]
  rw [e2]
  exact spanL_pre digitB s.data.toList j hj2 (by omega)


set_option maxHeartbeats 1000000 in
theorem token_any (s : ByteArray) (hs : s.size ≤ 65536) (h0 : 0 < s.size) (w : World) :
    Calls Tryz.prog 57 #[.string s] w fun e w' => e = .returned (tokV s (tokL s.data.toList)) ∧ Below w.heap.size w w' := by
  have HL := Lib.hid (head_of s h0)
  have HS := Lib.hid hs
  have HN := Lib.hid (spanL_le inNameB s.data.toList)
  have HG := Lib.hid (spanL_le digitB s.data.toList)
  have HM := Lib.hid (markL_le s.data.toList)
  have hlen : s.data.toList.length = s.size := by simp
  have HE := Lib.hid hlen
  clear hs hlen
  cases hl : letterB (s[0].toNat : Int)
  · cases hd : digitB (s[0].toNat : Int)
    · by_cases hm : 0 < markL s.data.toList
      · go_enter Tryz.func57, Tryz.ntmps57
        go_wp2_with (fail)
        refine (letter_any _ _).mono ?_; rintro e w' ⟨rfl, rfl⟩
        go_wp2_with (fail)
        refine (digit_any _ _).mono ?_; rintro e w' ⟨rfl, rfl⟩
        go_wp2_with (fail)
        refine (mark_any _ HS.out h0 _).mono ?_; rintro e w' ⟨rfl, rfl⟩
        go_wp2_with (fail)
        refine (piece_any _ _ _ HS.out (by have := HM.out; have := HE.out; omega) _).mono ?_; rintro e w1 ⟨rfl, hb⟩
        have hsz : w.heap.size < w1.heap.size := by have := hb.size; simp at this; omega
        have hc := fun j => hb.cell (p := ⟨w.heap.size, j, none⟩) (by simp)
        have hf := fun j => hb.frozen (p := ⟨w.heap.size, j, none⟩) (by simp)
        go_wp2_with (fail)
        rw [tokL_mark HL.out hl hd hm]
        refine bodyPost_ret (v := tokV s ⟨0, markL s.data.toList, 4, 0⟩) (by simp [results, Tryz.results57, go_sem, hc, tokV]) rfl ⟨rfl, ?_⟩
        have h1 := ((Below.refl w.heap.size w).alloc (Nat.le_refl _) (.cells #[Value.int IntKind.i64 0, Value.string { data := #[] }, Value.int IntKind.i64 0, Value.int IntKind.i64 0, Value.int IntKind.i64 0] 132)).trans (hb.mono (by simp))
        exact ((((h1.setCell (Nat.le_refl _) _).setCell (Nat.le_refl _) _).setCell (Nat.le_refl _) _).setCell (Nat.le_refl _) _).setCell (Nat.le_refl _) _
      · go_enter Tryz.func57, Tryz.ntmps57
        go_wp2_with (fail)
        refine (letter_any _ _).mono ?_; rintro e w' ⟨rfl, rfl⟩
        go_wp2_with (fail)
        refine (digit_any _ _).mono ?_; rintro e w' ⟨rfl, rfl⟩
        go_wp2_with (fail)
        refine (mark_any _ HS.out h0 _).mono ?_; rintro e w' ⟨rfl, rfl⟩
        go_wp2_with (fail)
        rw [tokL_sign HL.out hl hd hm]
        exact bodyPost_ret (v := tokV s ⟨10, 0, 0, 0⟩) (by simp [results, Tryz.results57, go_sem, tokV]; rfl) rfl ⟨rfl, (Below.refl _ _).alloc (Nat.le_refl _) _⟩
    · have hnum := fun w => number_any 2 (s.extract 0 (spanL digitB s.data.toList)) (by have := HS.out; simp; omega) (digits_all s) w
      cases hq : numL 0 (s.extract 0 (spanL digitB s.data.toList)).data.toList
      · simp only [hq, numV] at hnum
        have HQ := Lib.hid hnum; clear hnum
        go_enter Tryz.func57, Tryz.ntmps57
        go_wp2_with (fail)
        refine (letter_any _ _).mono ?_; rintro e w' ⟨rfl, rfl⟩
        go_wp2_with (fail)
        refine (digit_any _ _).mono ?_; rintro e w' ⟨rfl, rfl⟩
        go_wp2_with (fail)
        refine (span_digit _ HS.out _).mono ?_; rintro e w' ⟨rfl, rfl⟩
        go_wp2_with (fail)
        refine (piece_any _ _ _ HS.out (by have := HG.out; have := HE.out; omega) _).mono ?_; rintro e w1 ⟨rfl, hb⟩
        have hsz : w.heap.size < w1.heap.size := by have := hb.size; simp at this; omega
        have hc := fun j => hb.cell (p := ⟨w.heap.size, j, none⟩) (by simp)
        have hf := fun j => hb.frozen (p := ⟨w.heap.size, j, none⟩) (by simp)
        go_wp2_with (fail)
        refine (HQ.out _).mono ?_; rintro e w2 ⟨rfl, hb2⟩
        have hsz2 : w.heap.size < w2.heap.size := by have := hb2.size; omega
        have hc2 := fun j => hb2.cell (p := ⟨w.heap.size, j, none⟩) hsz
        have hf2 := fun j => hb2.frozen (p := ⟨w.heap.size, j, none⟩) hsz
        go_wp2_with (fail)
        rw [tokL_none HL.out hl hd (by rw [← take_extract]; exact hq)]
        refine bodyPost_ret (v := tokV s ⟨11, 0, 0, 0⟩) (by simp [results, Tryz.results57, go_sem, hc, hc2, tokV]; rfl) rfl ⟨rfl, ?_⟩
        have h1 := (((Below.refl w.heap.size w).alloc (Nat.le_refl _) (.cells #[Value.int IntKind.i64 0, Value.string { data := #[] }, Value.int IntKind.i64 0, Value.int IntKind.i64 0, Value.int IntKind.i64 0] 132)).trans (hb.mono (by simp))).trans (hb2.mono (Nat.le_of_lt hsz))
        exact ((((h1.setCell (Nat.le_refl _) _).setCell (Nat.le_refl _) _).setCell (Nat.le_refl _) _).setCell (Nat.le_refl _) _).setCell (Nat.le_refl _) _
      · simp only [hq, numV] at hnum
        have HQ := Lib.hid hnum; clear hnum
        go_enter Tryz.func57, Tryz.ntmps57
        go_wp2_with (fail)
        refine (letter_any _ _).mono ?_; rintro e w' ⟨rfl, rfl⟩
        go_wp2_with (fail)
        refine (digit_any _ _).mono ?_; rintro e w' ⟨rfl, rfl⟩
        go_wp2_with (fail)
        refine (span_digit _ HS.out _).mono ?_; rintro e w' ⟨rfl, rfl⟩
        go_wp2_with (fail)
        refine (piece_any _ _ _ HS.out (by have := HG.out; have := HE.out; omega) _).mono ?_; rintro e w1 ⟨rfl, hb⟩
        have hsz : w.heap.size < w1.heap.size := by have := hb.size; simp at this; omega
        have hc := fun j => hb.cell (p := ⟨w.heap.size, j, none⟩) (by simp)
        have hf := fun j => hb.frozen (p := ⟨w.heap.size, j, none⟩) (by simp)
        go_wp2_with (fail)
        refine (HQ.out _).mono ?_; rintro e w2 ⟨rfl, hb2⟩
        have hsz2 : w.heap.size < w2.heap.size := by have := hb2.size; omega
        have hc2 := fun j => hb2.cell (p := ⟨w.heap.size, j, none⟩) hsz
        have hf2 := fun j => hb2.frozen (p := ⟨w.heap.size, j, none⟩) hsz
        go_wp2_with (fail)
        rw [tokL_some HL.out hl hd (by rw [← take_extract]; exact hq)]
        refine bodyPost_ret (v := tokV s ⟨0, spanL digitB s.data.toList, 2, _⟩) (by simp [results, Tryz.results57, go_sem, hc, hc2, tokV]) rfl ⟨rfl, ?_⟩
        have h1 := (((Below.refl w.heap.size w).alloc (Nat.le_refl _) (.cells #[Value.int IntKind.i64 0, Value.string { data := #[] }, Value.int IntKind.i64 0, Value.int IntKind.i64 0, Value.int IntKind.i64 0] 132)).trans (hb.mono (by simp))).trans (hb2.mono (Nat.le_of_lt hsz))
        exact ((((h1.setCell (Nat.le_refl _) _).setCell (Nat.le_refl _) _).setCell (Nat.le_refl _) _).setCell (Nat.le_refl _) _).setCell (Nat.le_refl _) _
  · cases hr : reservedB (s.extract 0 (spanL inNameB s.data.toList)).toList
    · go_enter Tryz.func57, Tryz.ntmps57
      go_wp2_with (fail)
      refine (letter_any _ _).mono ?_; rintro e w' ⟨rfl, rfl⟩
      go_wp2_with (fail)
      refine (span_inName _ HS.out _).mono ?_; rintro e w' ⟨rfl, rfl⟩
      go_wp2_with (fail)
      refine (piece_any _ _ _ HS.out (by have := HN.out; have := HE.out; omega) _).mono ?_; rintro e w1 ⟨rfl, hb⟩
      have hsz : w.heap.size < w1.heap.size := by have := hb.size; simp at this; omega
      have hc := fun j => hb.cell (p := ⟨w.heap.size, j, none⟩) (by simp)
      have hf := fun j => hb.frozen (p := ⟨w.heap.size, j, none⟩) (by simp)
      go_wp2_with (fail)
      refine (reserved_any _ _).mono ?_; rintro e w2 ⟨rfl, rfl⟩
      go_wp2_with (fail)
      have e1 : tokL s.data.toList = ⟨0, spanL inNameB s.data.toList, 1, 0⟩ := by
        have hr' := hr
        rw [Lib.toList_data, take_extract] at hr'
        rw [tokL_letter HL.out hl, hr']; rfl
      rw [e1]
      refine bodyPost_ret (v := tokV s ⟨0, spanL inNameB s.data.toList, 1, 0⟩) (by simp [results, Tryz.results57, go_sem, hc, hsz, tokV]) rfl ⟨rfl, ?_⟩
      have h1 := ((Below.refl w.heap.size w).alloc (Nat.le_refl _) (.cells #[Value.int IntKind.i64 0, Value.string { data := #[] }, Value.int IntKind.i64 0, Value.int IntKind.i64 0, Value.int IntKind.i64 0] 132)).trans (hb.mono (by simp))
      exact Below.alloc (((((h1.setCell (Nat.le_refl _) _).setCell (Nat.le_refl _) _).setCell (Nat.le_refl _) _).setCell (Nat.le_refl _) _).setCell (Nat.le_refl _) _) (by simp; omega) _
    · go_enter Tryz.func57, Tryz.ntmps57
      go_wp2_with (fail)
      refine (letter_any _ _).mono ?_; rintro e w' ⟨rfl, rfl⟩
      go_wp2_with (fail)
      refine (span_inName _ HS.out _).mono ?_; rintro e w' ⟨rfl, rfl⟩
      go_wp2_with (fail)
      refine (piece_any _ _ _ HS.out (by have := HN.out; have := HE.out; omega) _).mono ?_; rintro e w1 ⟨rfl, hb⟩
      have hsz : w.heap.size < w1.heap.size := by have := hb.size; simp at this; omega
      have hc := fun j => hb.cell (p := ⟨w.heap.size, j, none⟩) (by simp)
      have hf := fun j => hb.frozen (p := ⟨w.heap.size, j, none⟩) (by simp)
      go_wp2_with (fail)
      refine (reserved_any _ _).mono ?_; rintro e w2 ⟨rfl, rfl⟩
      go_wp2_with (fail)
      have e1 : tokL s.data.toList = ⟨0, spanL inNameB s.data.toList, 3, 0⟩ := by
        have hr' := hr
        rw [Lib.toList_data, take_extract] at hr'
        rw [tokL_letter HL.out hl, hr']; rfl
      rw [e1]
      refine bodyPost_ret (v := tokV s ⟨0, spanL inNameB s.data.toList, 3, 0⟩) (by simp [results, Tryz.results57, go_sem, hc, hsz, tokV]) rfl ⟨rfl, ?_⟩
      have h1 := ((Below.refl w.heap.size w).alloc (Nat.le_refl _) (.cells #[Value.int IntKind.i64 0, Value.string { data := #[] }, Value.int IntKind.i64 0, Value.int IntKind.i64 0, Value.int IntKind.i64 0] 132)).trans (hb.mono (by simp))
      exact Below.alloc (((((h1.setCell (Nat.le_refl _) _).setCell (Nat.le_refl _) _).setCell (Nat.le_refl _) _).setCell (Nat.le_refl _) _).setCell (Nat.le_refl _) _) (by simp; omega) _
end Go.Proofs.YtaomlahphlemdaaGreatDoor

namespace Go.Proofs.YtaomlahphlemdaaGreatDoor
open Go.ChangeShapes Go.WideShapes Go.ChangeAt Go.RowKit
set_option linter.unusedVariables false

structure Tok where
  kind : Int
  text : List UInt8
  num : Int
  line : Int
  col : Int

def Tok.cells (t : Tok) : List Value := [.int .i64 t.kind, .string ⟨t.text.toArray⟩, .int .i64 t.num, .int .i64 t.line, .int .i64 t.col]

def lineB (line : Int) (c : UInt8) : Int := if ((c.toNat : Int) == 10) then line + 1 else line
def colB (col : Int) (c : UInt8) : Int := if ((c.toNat : Int) == 10) then 1 else col + 1

/-- The text from a place on, whose next piece begins d bytes further; what was found so far. -/
def goL : List UInt8 → Nat → Int → Int → List Tok → Except (Int × Int × Int) (List Tok)
  | [], _, line, col, acc => .ok (acc ++ [⟨0, [], 0, line, col⟩])
  | c :: r, d + 1, line, col, acc => goL r d (lineB line c) (colB col c) acc
  | c :: r, 0, line, col, acc =>
    if gapL (c :: r) = 0 then
      if (tokL (c :: r)).err = 0 then
        goL r ((tokL (c :: r)).n - 1) (lineB line c) (colB col c) (acc ++ [⟨(tokL (c :: r)).kind, (c :: r).take (tokL (c :: r)).n, (tokL (c :: r)).num, line, col⟩])
      else .error ((tokL (c :: r)).err, line, col)
    else goL r (gapL (c :: r) - 1) (lineB line c) (colB col c) acc

def lexL (l : List UInt8) : Except (Int × Int × Int) (List Tok) := goL l 0 1 1 []

theorem behind_any (line col : Int) (c : Int) (h1 : 0 ≤ line) (h2 : line ≤ 1000000) (h3 : 0 ≤ col) (h4 : col ≤ 1000000) (w : World) :
    Calls Tryz.prog 58 #[.agg #[.int .i64 line, .int .i64 col], .int .u8 c] w fun e w' => e = .returned (.agg #[.int .i64 (if c == 10 then line + 1 else line), .int .i64 (if c == 10 then 1 else col + 1)]) ∧ Below w.heap.size w w' := by
  rcases Bool.eq_false_or_eq_true (c == 10) with h | h
  · rw [h]
    go_enter Tryz.func58, Tryz.ntmps58
    go_wp2
    exact bodyPost_ret (v := .agg #[.int .i64 (line + 1), .int .i64 1]) (by simp [results, Tryz.results58, go_sem]) rfl ⟨rfl, ((Below.refl _ _).alloc (Nat.le_refl _) _).alloc (by simp) _⟩
  · rw [h]
    go_enter Tryz.func58, Tryz.ntmps58
    go_wp2
    exact bodyPost_ret (v := .agg #[.int .i64 line, .int .i64 (col + 1)]) (by simp [results, Tryz.results58, go_sem]) rfl ⟨rfl, ((Below.refl _ _).alloc (Nat.le_refl _) _).alloc (by simp) _⟩
theorem behind_at (line col : Int) (c : UInt8) (h1 : 0 ≤ line) (h2 : line ≤ 1000000) (h3 : 0 ≤ col) (h4 : col ≤ 1000000) (w : World) :
    Calls Tryz.prog 58 #[.agg #[.int .i64 line, .int .i64 col], .int .u8 (c.toNat : Int)] w fun e w' => e = .returned (.agg #[.int .i64 (lineB line c), .int .i64 (colB col c)]) ∧ Below w.heap.size w w' :=
  behind_any line col _ h1 h2 h3 h4 w

/-- The place behind a byte, told of a world that lies behind another: the two cells of the place stay. -/
theorem behind_in (B : Nat) (line col : Int) (c : UInt8) (h1 : 0 ≤ line) (h2 : line ≤ 1000000) (h3 : 0 ≤ col) (h4 : col ≤ 1000000) (wr : World) (hB : B < wr.heap.size)
    (ca0 : wr.cell? ⟨B, 0, none⟩ = some (.int .i64 line)) (ca1 : wr.cell? ⟨B, 1, none⟩ = some (.int .i64 col)) (fa : ∀ j, wr.frozen? ⟨B, j, none⟩ = false) :
    ∀ W, Below wr.heap.size wr W → Calls Tryz.prog 58 #[.agg #[.int .i64 line, .int .i64 col], .int .u8 (c.toNat : Int)] W fun e w' => e = .returned (.agg #[.int .i64 (lineB line c), .int .i64 (colB col c)]) ∧ Below wr.heap.size wr w' ∧
      w'.cell? ⟨B, 0, none⟩ = some (.int .i64 line) ∧ w'.cell? ⟨B, 1, none⟩ = some (.int .i64 col) ∧ (∀ j, w'.frozen? ⟨B, j, none⟩ = false) := by
  intro W hW
  refine (behind_at line col c h1 h2 h3 h4 W).mono ?_
  rintro e w' ⟨rfl, hb⟩
  have hb' := hW.trans (hb.mono hW.size)
  exact ⟨rfl, hb', (hb'.cell hB).trans ca0, (hb'.cell hB).trans ca1, fun j => (hb'.frozen hB).trans (fa j)⟩

theorem all_long (s : ByteArray) (hs : 65536 < s.size) (hm : s.size ≤ maxLen) (w : World) :
    Calls Tryz.prog 35 #[.string s] w fun e w' => e = .returned (.tuple #[.slice none 0 0, .agg #[.int .i64 14, .int .i64 1, .int .i64 1]]) ∧ Below w.heap.size w w' := by
  unfold maxLen at hm
  go_enter Tryz.func35, Tryz.ntmps35
  go_wp2_with (fail)
  go_region
  go_wp2_with (fail)
  refine bodyPost_ret (v := .tuple #[.slice none 0 0, .agg #[.int .i64 14, .int .i64 1, .int .i64 1]]) (by simp [results, Tryz.results35, go_sem]) rfl ⟨rfl, ?_⟩
  exact (((Below.refl _ _).alloc (Nat.le_refl _) _).alloc (by simp) _).drew


theorem info34 : (Tryz.prog.info? 132).map (fun i => (i.zero, i.size, i.bytes)) = some (some (.agg #[.int .i64 0, .string ⟨#[]⟩, .int .i64 0, .int .i64 0, .int .i64 0]), 5, 48) := by kernel_rfl

/-- What lies in memory on the way. -/
structure Mem (w : World) (v : Value) (ts : List Tok) (line col : Int) (wr : World) : Prop where
  own : wr.ownsRow (w.heap.size + 2) 132 5 v ts.length (ts.flatMap Tok.cells)
  below : Below w.heap.size w wr
  size : w.heap.size + 2 ≤ wr.heap.size
  cf0 : wr.cell? ⟨w.heap.size, 0, none⟩ = some (.int .i64 0)
  cf1 : wr.cell? ⟨w.heap.size, 1, none⟩ = some (.int .i64 0)
  cf2 : wr.cell? ⟨w.heap.size, 2, none⟩ = some (.int .i64 0)
  ff : ∀ j, wr.frozen? ⟨w.heap.size, j, none⟩ = false
  ca0 : wr.cell? ⟨w.heap.size + 1, 0, none⟩ = some (.int .i64 line)
  ca1 : wr.cell? ⟨w.heap.size + 1, 1, none⟩ = some (.int .i64 col)
  fa : ∀ j, wr.frozen? ⟨w.heap.size + 1, j, none⟩ = false

theorem grown_of {wr w1 : World} (hb : Below wr.heap.size wr w1) : wr.grownBy w1 none := ⟨hb.os, hb.tape, hb.output, hb.size, fun k hk _ => hb.block k hk⟩

section
variable {w : World} {v : Value} {ts : List Tok} {line col : Int} {wr w1 : World}
theorem Mem.later (h : Mem w v ts line col wr) (hb : Below wr.heap.size wr w1) : Mem w v ts line col w1 := by
  have sz := h.size
  have hF : w.heap.size < wr.heap.size := by omega
  have hA : w.heap.size + 1 < wr.heap.size := by omega
  exact ⟨h.own.kept (grown_of hb) (by cases hv : v.ownBlock <;> simp), h.below.trans (hb.mono (by omega)), by have := hb.size; omega,
    (hb.cell hF).trans h.cf0, (hb.cell hF).trans h.cf1, (hb.cell hF).trans h.cf2, fun j => (hb.frozen hF).trans (h.ff j),
    (hb.cell hA).trans h.ca0, (hb.cell hA).trans h.ca1, fun j => (hb.frozen hA).trans (h.fa j)⟩
theorem Mem.grown (h : Mem w v ts line col wr) {v' : Value} {ts' : List Tok} {row : Option Nat} (hg : wr.grownBy w1 row) (hr : ∀ k, row = some k → w.heap.size + 2 ≤ k)
    (ho : w1.ownsRow (w.heap.size + 2) 132 5 v' ts'.length (ts'.flatMap Tok.cells)) : Mem w v' ts' line col w1 := by
  have sz := h.size
  have hb : Below (w.heap.size + 2) wr w1 := ⟨hg.os, hg.tape, hg.output, hg.size, fun k hk => hg.block k (by omega) (fun e => by have := hr k e.symm; omega)⟩
  have hF : w.heap.size < w.heap.size + 2 := by omega
  have hA : w.heap.size + 1 < w.heap.size + 2 := by omega
  exact ⟨ho, h.below.trans (hb.mono (by omega)), by have := hb.size; omega,
    (hb.cell hF).trans h.cf0, (hb.cell hF).trans h.cf1, (hb.cell hF).trans h.cf2, fun j => (hb.frozen hF).trans (h.ff j),
    (hb.cell hA).trans h.ca0, (hb.cell hA).trans h.ca1, fun j => (hb.frozen hA).trans (h.fa j)⟩
theorem Mem.put (h : Mem w v ts line col wr) (l c : Int) :
    Mem w v ts l c ((wr.setCell ⟨w.heap.size + 1, 0, none⟩ (.int .i64 l)).setCell ⟨w.heap.size + 1, 1, none⟩ (.int .i64 c)) := by
  have sz := h.size
  have hb : ∀ k, k ≠ w.heap.size + 1 → ((wr.setCell ⟨w.heap.size + 1, 0, none⟩ (.int .i64 l)).setCell ⟨w.heap.size + 1, 1, none⟩ (.int .i64 c)).heap[k]? = wr.heap[k]? := fun k hk =>
    (Below.heap_setCell _ _ _ k hk).trans (Below.heap_setCell _ _ _ k hk)
  have hg : wr.grownBy ((wr.setCell ⟨w.heap.size + 1, 0, none⟩ (.int .i64 l)).setCell ⟨w.heap.size + 1, 1, none⟩ (.int .i64 c)) (some (w.heap.size + 1)) :=
    ⟨rfl, rfl, rfl, by simp, fun k _ hk => hb k (fun e => hk (by rw [e]))⟩
  have hF : w.heap.size ≠ w.heap.size + 1 := by omega
  have one : (wr.setCell ⟨w.heap.size + 1, 0, none⟩ (.int .i64 l)).cell? ⟨w.heap.size + 1, 1, none⟩ = some (.int .i64 col) := by
    rw [World.cell?_setCell_other _ _ _ _ (by simp)]; exact h.ca1
  have two : ((wr.setCell ⟨w.heap.size + 1, 0, none⟩ (.int .i64 l)).setCell ⟨w.heap.size + 1, 1, none⟩ (.int .i64 c)).cell? ⟨w.heap.size + 1, 0, none⟩ = some (.int .i64 l) := by
    rw [World.cell?_setCell_other _ _ _ _ (by simp)]; exact World.cell?_setCell_same _ _ _ h.ca0
  refine ⟨h.own.kept hg (.inr ?_), (h.below.setCell (by simp) _).setCell (by simp) _, by simpa using sz,
    (World.cell?_of_block (hb _ hF)).trans h.cf0, (World.cell?_of_block (hb _ hF)).trans h.cf1, (World.cell?_of_block (hb _ hF)).trans h.cf2, fun j => (World.frozen?_of_block (hb _ hF)).trans (h.ff j),
    two, World.cell?_setCell_same _ _ _ one, fun j => ?_⟩
  · intro e
    have := h.own.lt _ e
    omega
  · rw [World.frozen?_setCell, World.frozen?_setCell]; exact h.fa j
end

def Res (s : ByteArray) (k next : Nat) (line col : Int) (ts : List Tok) : Prop := lexL s.data.toList = goL (s.data.toList.drop k) (next - k) line col ts

theorem Res.inside {s : ByteArray} {k next : Nat} {line col : Int} {ts : List Tok} (h : Res s k next line col ts) (hk : k < s.size) (hn : k < next) :
    Res s (k + 1) next (lineB line s[k]) (colB col s[k]) ts := by
  unfold Res at *
  have e : next - k = (next - (k + 1)) + 1 := by omega
  rw [h, drop_at s k hk, e, goL]
theorem Res.gap {s : ByteArray} {k : Nat} {line col : Int} {ts : List Tok} (h : Res s k k line col ts) (hk : k < s.size) (hg : gapL (s.data.toList.drop k) ≠ 0) :
    Res s (k + 1) (k + gapL (s.data.toList.drop k)) (lineB line s[k]) (colB col s[k]) ts := by
  unfold Res at *
  have e : k - k = 0 := by omega
  have e2 : k + gapL (s.data.toList.drop k) - (k + 1) = gapL (s.data.toList.drop k) - 1 := by omega
  rw [e2, h, e]
  rw [drop_at s k hk] at hg ⊢
  rw [goL, if_neg hg]
theorem Res.tok {s : ByteArray} {k : Nat} {line col : Int} {ts : List Tok} (h : Res s k k line col ts) (hk : k < s.size) (hg : gapL (s.data.toList.drop k) = 0) (he : (tokL (s.data.toList.drop k)).err = 0) :
    Res s (k + 1) (k + (tokL (s.data.toList.drop k)).n) (lineB line s[k]) (colB col s[k]) (ts ++ [⟨(tokL (s.data.toList.drop k)).kind, (s.data.toList.drop k).take (tokL (s.data.toList.drop k)).n, (tokL (s.data.toList.drop k)).num, line, col⟩]) := by
  unfold Res at *
  have e : k - k = 0 := by omega
  have e2 : k + (tokL (s.data.toList.drop k)).n - (k + 1) = (tokL (s.data.toList.drop k)).n - 1 := by omega
  rw [e2, h, e]
  rw [drop_at s k hk] at hg he ⊢
  rw [goL, if_pos hg, if_pos he]
theorem Res.bad {s : ByteArray} {k : Nat} {line col : Int} {ts : List Tok} (h : Res s k k line col ts) (hk : k < s.size) (hg : gapL (s.data.toList.drop k) = 0) (he : (tokL (s.data.toList.drop k)).err ≠ 0) :
    lexL s.data.toList = .error ((tokL (s.data.toList.drop k)).err, line, col) := by
  unfold Res at *
  have e : k - k = 0 := by omega
  rw [h, e]
  rw [drop_at s k hk] at hg he ⊢
  rw [goL, if_pos hg, if_neg he]
theorem Res.done {s : ByteArray} {next : Nat} {line col : Int} {ts : List Tok} (h : Res s s.size next line col ts) : lexL s.data.toList = .ok (ts ++ [⟨0, [], 0, line, col⟩]) := by
  unfold Res at h
  rw [h, List.drop_of_length_le (by simp), goL]

theorem gapL_le (l : List UInt8) : gapL l ≤ l.length := by
  unfold gapL
  cases l with
  | nil => simp
  | cons c r =>
    simp only
    split
    · simp
    · split
      · exact spanL_le inLineB (c :: r)
      · simp
theorem tokL_n (l : List UInt8) (h : (tokL l).err = 0) : 1 ≤ (tokL l).n ∧ (tokL l).n ≤ l.length := by
  cases l with
  | nil => simp [tokL] at h
  | cons c r =>
    by_cases hl : letterB (c.toNat : Int) = true
    · rw [tokL_letter rfl hl]
      exact ⟨by have : inNameB (c.toNat : Int) = true := by simp [inNameB, hl]
                simp [spanL, this], spanL_le _ _⟩
    · have hl' : letterB (c.toNat : Int) = false := by simpa using hl
      by_cases hd : digitB (c.toNat : Int) = true
      · cases hq : numL 0 ((c :: r).take (spanL digitB (c :: r))) with
        | none => rw [tokL_none rfl hl' hd hq] at h; simp at h
        | some v =>
          rw [tokL_some rfl hl' hd hq]
          exact ⟨by simp [spanL, hd], spanL_le _ _⟩
      · have hd' : digitB (c.toNat : Int) = false := by simpa using hd
        by_cases hm : 0 < markL (c :: r)
        · rw [tokL_mark rfl hl' hd' hm]
          show 1 ≤ markL (c :: r) ∧ markL (c :: r) ≤ (c :: r).length
          exact ⟨hm, markL_le (c :: r)⟩
        · rw [tokL_sign rfl hl' hd' hm] at h; simp at h

theorem line_le {line : Int} {c : UInt8} {k : Nat} (h1 : 1 ≤ line) (h2 : line ≤ k + 1) : 1 ≤ lineB line c ∧ lineB line c ≤ ((k + 1 : Nat) : Int) + 1 := by unfold lineB; split <;> omega
theorem col_le {col : Int} {c : UInt8} {k : Nat} (h1 : 1 ≤ col) (h2 : col ≤ k + 1) : 1 ≤ colB col c ∧ colB col c ≤ ((k + 1 : Nat) : Int) + 1 := by unfold colB; split <;> omega

def AllPost (s : ByteArray) (w : World) (e : Ending) (w' : World) : Prop :=
  match lexL s.data.toList with
  | .ok ts => ∃ v, e = .returned (.tuple #[v, .agg #[.int .i64 0, .int .i64 0, .int .i64 0]]) ∧ Below w.heap.size w w' ∧ w'.ownsRow (w.heap.size + 2) 132 5 v ts.length (ts.flatMap Tok.cells)
  | .error x => e = .returned (.tuple #[.slice none 0 0, .agg #[.int .i64 x.1, .int .i64 x.2.1, .int .i64 x.2.2]]) ∧ Below w.heap.size w w'

theorem cells_new (w : World) (c : List Value) (t : TypeId) : ∀ j u, c[j]? = some u → (w.alloc (.cells c.toArray t)).cell? ((⟨w.heap.size, 0, none⟩ : Addr).add j) = some u := by
  intro j u hj
  have e : (⟨w.heap.size, 0, none⟩ : Addr).add j = ⟨w.heap.size, j, none⟩ := by unfold Addr.add; split <;> simp_all
  rw [e, World.cell?_alloc_new]
  simpa using hj

theorem own_snoc {w2 : World} {B : Nat} {v2 : Value} {ts : List Tok} {k n l c : Int} {x : ByteArray} {txt : List UInt8} (hx : x.data.toList = txt)
    (h : w2.ownsRow B 132 5 v2 (ts.length + 1) (ts.flatMap Tok.cells ++ [.int .i64 k, .string x, .int .i64 n, .int .i64 l, .int .i64 c])) :
    w2.ownsRow B 132 5 v2 (ts ++ [(⟨k, txt, n, l, c⟩ : Tok)]).length ((ts ++ [(⟨k, txt, n, l, c⟩ : Tok)]).flatMap Tok.cells) := by
  have e : (⟨txt.toArray⟩ : ByteArray) = x := bytes_inj (by rw [← hx])
  simp only [List.length_append, List.length_cons, List.length_nil, List.flatMap_append, List.flatMap_cons, List.flatMap_nil, Tok.cells, List.append_nil, e]
  exact h
theorem Mem.fault {w w2 : World} {v : Value} {ts : List Tok} {line col : Int} (h : Mem w v ts line col w2) (a b c : Value) :
    Below w.heap.size w (((w2.setCell ⟨w.heap.size, 0, none⟩ a).setCell ⟨w.heap.size, 1, none⟩ b).setCell ⟨w.heap.size, 2, none⟩ c) ∧
    (((w2.setCell ⟨w.heap.size, 0, none⟩ a).setCell ⟨w.heap.size, 1, none⟩ b).setCell ⟨w.heap.size, 2, none⟩ c).ownsRow (w.heap.size + 2) 132 5 v ts.length (ts.flatMap Tok.cells) := by
  refine ⟨((h.below.setCell (Nat.le_refl _) _).setCell (Nat.le_refl _) _).setCell (Nat.le_refl _) _, ?_⟩
  refine h.own.kept (row := some w.heap.size) ⟨rfl, rfl, rfl, by simp, fun k _ hk => ?_⟩ (.inr fun e => by have := h.own.lt _ e; omega)
  have hk' : k ≠ w.heap.size := fun e => hk (by rw [e])
  exact (Below.heap_setCell _ _ _ k hk').trans ((Below.heap_setCell _ _ _ k hk').trans (Below.heap_setCell _ _ _ k hk'))

theorem cells_at (w : World) (c : List Value) (t : TypeId) (b : Nat) (hb : b = w.heap.size) : ∀ j u, c[j]? = some u → (w.alloc (.cells c.toArray t)).cell? ((⟨b, 0, none⟩ : Addr).add j) = some u := by
  subst hb; exact cells_new w c t
theorem five_one (a : Int) (x : ByteArray) (b c d : Int) : ∀ u ∈ [Value.int .i64 a, .string x, .int .i64 b, .int .i64 c, .int .i64 d], u.oneCell' = true := by
  intro u hu
  simp only [List.mem_cons, List.not_mem_nil, or_false] at hu
  rcases hu with rfl | rfl | rfl | rfl | rfl <;> rfl

theorem token_at (x : ByteArray) (hs : x.size ≤ 65536) (h0 : 0 < x.size) (t : T0) (ht : tokL x.data.toList = t) (y : ByteArray) (hy : x.extract 0 t.n = y) (w : World) :
    Calls Tryz.prog 57 #[.string x] w fun e w' => e = .returned (.tuple #[.agg #[.int .i64 t.kind, .string y, .int .i64 t.num, .int .i64 0, .int .i64 0], .int .i64 t.err]) ∧ Below w.heap.size w w' := by
  subst ht
  subst hy
  exact token_any x hs h0 w

theorem gap_at (x : ByteArray) (hs : x.size ≤ 65536) (h0 : 0 < x.size) (g : Nat) (hg : gapL x.data.toList = g) (w : World) :
    Calls Tryz.prog 56 #[.string x] w fun e w' => e = .returned (.int .i64 g) ∧ w = w' := by
  subst hg
  exact gap_any x hs h0 w

set_option maxHeartbeats 4000000 in
set_option maxRecDepth 100000 in
theorem all_any (s : ByteArray) (hs : s.size ≤ 65536) (w : World) :
    Calls Tryz.prog 35 #[.string s] w (AllPost s w) := by
  obtain ⟨i0, hi, hz0, hz1, hz2⟩ := info_parts info34
  have HI0 := Lib.hid hi; have HZ0 := Lib.hid hz0; have HZ1 := Lib.hid hz1; have HZ2 := Lib.hid hz2
  clear hi hz0 hz1 hz2
  go_enter Tryz.func35, Tryz.ntmps35
  go_wp2_with (fail)
  go_loopw [5, 6, 19] (fun out nx i wr => ∃ (k next : Nat) (line col : Int) (ts : List Tok), k ≤ s.size ∧ k ≤ next ∧ next ≤ s.size ∧ Res s k next line col ts ∧ Mem w out ts line col wr ∧ (1 ≤ line ∧ line ≤ k + 1 ∧ 1 ≤ col ∧ col ≤ k + 1 ∧ ts.length ≤ k) ∧ nx = .int .i64 next ∧ i = .int .i64 k) (fun _ _ i _ => s.size - (intOf i).toNat)
  case atStart =>
    refine ⟨0, 0, 1, 1, [], Nat.zero_le _, Nat.le_refl _, Nat.zero_le _, rfl, ⟨World.ownsRow_nil _ _ _ _, ((Below.refl _ _).alloc (Nat.le_refl _) _).alloc (by simp) _, by simp, ?_, ?_, ?_, ?_, ?_, ?_, ?_⟩, ⟨by decide, by decide, by decide, by decide, by simp⟩, rfl, rfl⟩
    all_goals first | (simp; done) | (intro j; simp; done) | trace_state
  case round =>
    obtain ⟨k, next, line, col, ts, hk, hkn, hns, hres, hmem, ⟨l1, l2, c1, c2, hfew⟩, rfl, rfl⟩ := hrel
    have HR := Lib.hid hres; have HM := Lib.hid hmem
    have sz := hmem.size
    have szA : w.heap.size + 1 < wr.heap.size := by omega
    have szF : w.heap.size < wr.heap.size := by omega
    have cf0 := hmem.cf0; have cf1 := hmem.cf1; have cf2 := hmem.cf2; have ff := hmem.ff
    have ca0 := hmem.ca0; have ca1 := hmem.ca1; have fa := hmem.fa
    clear hres hmem
    by_cases hlt : k < s.size
    · by_cases heq : k = next
      · obtain rfl : next = k := heq.symm
        have hxd : (s.extract next s.size).data.toList = s.data.toList.drop next := by
          rw [Lib.extract_data, List.take_of_length_le (by simp)]
        have hxs : (s.extract next s.size).size = s.size - next := by simp
        have hgl := gapL_le (s.extract next s.size).data.toList
        have hgl2 : gapL (s.extract next s.size).data.toList ≤ s.size - next := by rw [← hxs]; simpa using hgl
        have HX := Lib.hid hxd; have HXS := Lib.hid hxs
        clear hxd hxs hgl
        generalize hgg : gapL (s.extract next s.size).data.toList = g at hgl2
        have HGG := Lib.hid hgg; clear hgg
        by_cases hg : g = 0
        · have hg' : ((g : Int) == 0) = true := by rw [hg]; rfl
          have HG := Lib.hid hg
          clear hg
          generalize ht : tokL (s.extract next s.size).data.toList = t
          have HT := Lib.hid ht
          clear ht
          generalize hyy : (s.extract next s.size).extract 0 t.n = y
          have HY := Lib.hid hyy
          clear hyy
          by_cases he : t.err = 0
          · have he' : (t.err != 0) = false := by simpa using he
            have hyn : y.size = t.n ∧ 1 ≤ t.n ∧ t.n ≤ s.size - next := by
              have h1 := tokL_n (s.extract next s.size).data.toList (by rw [HT.out]; exact he)
              rw [HT.out] at h1
              have h2 : (s.extract next s.size).data.toList.length = s.size - next := by rw [HX.out]; simp
              rw [h2] at h1
              refine ⟨?_, h1⟩
              rw [← HY.out]
              have := HXS.out
              simp
              omega
            have hy1 : 1 ≤ y.size := by omega
            have hy2 : y.size ≤ s.size - next := by omega
            have HYN := Lib.hid hyn.1
            clear hyn
            go_wp2_with (fail)
            refine (gap_at _ (by have := HXS.out; omega) (by have := HXS.out; omega) g HGG.out _).mono ?_; rintro e w' ⟨rfl, rfl⟩
            go_wp2_with (fail)
            refine (token_at _ (by have := HXS.out; omega) (by have := HXS.out; omega) t HT.out y HY.out _).mono ?_; rintro e w1 ⟨rfl, hb⟩
            have HM1 := Lib.hid (HM.out.later hb)
            have szA1 : w.heap.size + 1 < w1.heap.size := by have := HM1.out.size; omega
            have szF1 : w.heap.size < w1.heap.size := by omega
            have cg0 := HM1.out.cf0; have cg1 := HM1.out.cf1; have cg2 := HM1.out.cf2; have fg := HM1.out.ff
            have cb0 := HM1.out.ca0; have cb1 := HM1.out.ca1; have fb := HM1.out.fa
            have hbs := hb.size
            clear hb cf0 cf1 cf2 ff ca0 ca1 fa
            go_wp2_with (first | (at_builtin; refine wpList_append_own _ rfl _ _ 97 rfl (w.heap.size + 2) 132 i0 (.agg #[.int .i64 0, .string ⟨#[]⟩, .int .i64 0, .int .i64 0, .int .i64 0]) 5 48 Tryz.underlying97 HI0.out HZ0.out HZ1.out HZ2.out rfl (by decide) _ ts.length (ts.flatMap Tok.cells) rfl ?hown ⟨w1.heap.size + 1, 0, none⟩ 1 1 [.int .i64 t.kind, .string y, .int .i64 t.num, .int .i64 line, .int .i64 col] rfl rfl ?hnews ?h1 ?h63 ?hby ?hba ?_))
            case hown => exact (HM1.out.own.alloc _).alloc _
            case hnews => exact cells_at _ [.int .i64 t.kind, .string y, .int .i64 t.num, .int .i64 line, .int .i64 col] _ _ (by simp)
            case h1 => exact five_one _ _ _ _ _
            case h63 => unfold maxLen; omega
            case hby => omega
            case hba => simp; omega
            intro v2 w2 hown2 hgrow2 hnil2
            have hT : y.data.toList = (s.data.toList.drop next).take t.n := by rw [← HY.out, take_extract, HX.out]
            have hrow : ∀ j, Value.ownBlock u5 = some j → w.heap.size + 2 ≤ j ∧ j < wr.heap.size := HM.out.own.lt
            have hct : w2.cell? ⟨w1.heap.size, 1, none⟩ = some (.string y) := hgrow2.cell (by simp) (fun e => by have := hrow _ e.symm; simp only at this; omega)
            have HM2 := Lib.hid (((HM1.out.later ((Below.refl _ _).alloc (Nat.le_refl _) _)).later ((Below.refl _ _).alloc (Nat.le_refl _) _)).grown hgrow2 (fun j hj => (hrow j hj).1) (own_snoc hT hown2))
            have szA2 : w.heap.size + 1 < w2.heap.size := by have := HM2.out.size; omega
            have cb0 := HM2.out.ca0; have cb1 := HM2.out.ca1; have fb := HM2.out.fa
            have HB := Lib.hid (behind_in (w.heap.size + 1) line col s[next] (by omega) (by omega) (by omega) (by omega) w2 (by omega) cb0 cb1 fb)
            have HTX := Lib.hid hT
            clear hT hrow hown2 hgrow2 hnil2 cg0 cg1 cg2 fg
            go_wp2_with (fail)
            go_region_with ((go_at_call 58; refine (HB.out _ (by repeat (first | exact Below.refl _ _ | apply Below.drew))).mono ?_; rintro e w9 ⟨rfl, hb9, ca0', ca1', fa'⟩))
            all_goals
              go_wp2_with (fail)
              go_roundw
              case rel =>
                have hl := line_le (c := s[next]) l1 l2
                have hc := col_le (c := s[next]) c1 c2
                have hyn := HYN.out
                refine ⟨next + 1, next + y.size, lineB line s[next], colB col s[next], ts ++ [⟨t.kind, (s.data.toList.drop next).take t.n, t.num, line, col⟩], by omega, by omega, by omega, ?_, (HM2.out.later hb9).put _ _, ⟨hl.1, hl.2, hc.1, hc.2, by simp; omega⟩, by go_num, by go_num⟩
                have h1 := HT.out
                rw [HX.out] at h1
                have h2 := HGG.out
                rw [HX.out, HG.out] at h2
                have h3 := HR.out.tok hlt h2 (by rw [h1]; exact he)
                rw [h1] at h3
                rw [hyn]
                exact h3
              case measure => simp [intOf]; omega
          · have he' : (t.err != 0) = true := by simpa using he
            go_wp2_with (fail)
            refine (gap_at _ (by have := HXS.out; omega) (by have := HXS.out; omega) g HGG.out _).mono ?_; rintro e w' ⟨rfl, rfl⟩
            go_wp2_with (fail)
            refine (token_at _ (by have := HXS.out; omega) (by have := HXS.out; omega) t HT.out y HY.out _).mono ?_; rintro e w1 ⟨rfl, hb⟩
            have HM1 := Lib.hid (HM.out.later hb)
            have szA1 : w.heap.size + 1 < w1.heap.size := by have := HM1.out.size; omega
            have szF1 : w.heap.size < w1.heap.size := by omega
            have cg0 := HM1.out.cf0; have cg1 := HM1.out.cf1; have cg2 := HM1.out.cf2; have fg := HM1.out.ff
            have cb0 := HM1.out.ca0; have cb1 := HM1.out.ca1; have fb := HM1.out.fa
            have hbs := hb.size
            clear hb cf0 cf1 cf2 ff ca0 ca1 fa
            go_wp2_with (fail)
            go_region
            go_wp2_with (fail)
            refine bodyPost_ret (v := .tuple #[.slice none 0 0, .agg #[.int .i64 t.err, .int .i64 line, .int .i64 col]]) (by simp [results, Tryz.results35, go_sem, szF1, cg0, cg1, cg2]) rfl ?_
            have h1 := HT.out
            rw [HX.out] at h1
            have h2 := HGG.out
            rw [HX.out, HG.out] at h2
            have h3 := HR.out.bad hlt h2 (by rw [h1]; exact he)
            rw [h1] at h3
            unfold AllPost
            rw [h3]
            refine ⟨rfl, ?_⟩
            have hz := HM1.out.below.size
            exact (Below.alloc (((HM1.out.below.setCell (Nat.le_refl _) _).setCell (Nat.le_refl _) _).setCell (Nat.le_refl _) _) (by simp; omega) _).drew
        · have hg' : ((g : Int) == 0) = false := by simp; omega
          have hg0 : 1 ≤ g := by omega
          clear hg
          have HB := Lib.hid (behind_in (w.heap.size + 1) line col s[next] (by omega) (by omega) (by omega) (by omega) wr (by omega) ca0 ca1 fa)
          go_wp2_with (fail)
          refine (gap_at _ (by have := HXS.out; omega) (by have := HXS.out; omega) g HGG.out _).mono ?_; rintro e w' ⟨rfl, rfl⟩
          go_wp2_with (fail)
          go_region_with ((go_at_call 58; refine (HB.out _ (by repeat (first | exact Below.refl _ _ | apply Below.drew))).mono ?_; rintro e w9 ⟨rfl, hb9, ca0', ca1', fa'⟩))
          all_goals
            go_wp2_with (fail)
            go_roundw
            case rel =>
              have hl := line_le (c := s[next]) l1 l2
              have hc := col_le (c := s[next]) c1 c2
              refine ⟨next + 1, next + g, lineB line s[next], colB col s[next], ts, by omega, by omega, by omega, ?_, (HM.out.later hb9).put _ _, ⟨hl.1, hl.2, hc.1, hc.2, by omega⟩, by go_num, by go_num⟩
              have h1 := HGG.out
              rw [HX.out] at h1
              subst h1
              exact HR.out.gap hlt (by omega)
            case measure => simp [intOf]; omega
      · have hne : ((k : Int) == (next : Int)) = false := by simp; omega
        have hkn' : k < next := by omega
        have HB := Lib.hid (behind_in (w.heap.size + 1) line col s[k] (by omega) (by omega) (by omega) (by omega) wr (by omega) ca0 ca1 fa)
        go_wp2_with (fail)
        go_region_with ((go_at_call 58; refine (HB.out _ (by repeat (first | exact Below.refl _ _ | apply Below.drew))).mono ?_; rintro e w9 ⟨rfl, hb9, ca0', ca1', fa'⟩))
        all_goals
          go_wp2_with (fail)
          go_roundw
          case rel =>
            have hl := line_le (c := s[k]) l1 l2
            have hc := col_le (c := s[k]) c1 c2
            exact ⟨k + 1, next, lineB line s[k], colB col s[k], ts, by omega, by omega, hns, HR.out.inside hlt hkn', (HM.out.later hb9).put _ _, ⟨hl.1, hl.2, hc.1, hc.2, by omega⟩, rfl, by go_num⟩
          case measure => simp [intOf]; omega
    · obtain rfl : k = s.size := by omega
      go_wp2_with (first | (at_builtin; refine wpList_append_own _ rfl _ _ 97 rfl (w.heap.size + 2) 132 i0 (.agg #[.int .i64 0, .string ⟨#[]⟩, .int .i64 0, .int .i64 0, .int .i64 0]) 5 48 Tryz.underlying97 HI0.out HZ0.out HZ1.out HZ2.out rfl (by decide) _ ts.length (ts.flatMap Tok.cells) rfl ?hown ⟨wr.heap.size, 0, none⟩ 1 1 [.int .i64 0, .string (⟨#[]⟩), .int .i64 0, .int .i64 line, .int .i64 col] rfl rfl ?hnews ?h1 ?h63 ?hby ?hba ?_))
      case hown => exact HM.out.own.alloc _
      case hnews => exact cells_at _ [.int .i64 0, .string (⟨#[]⟩), .int .i64 0, .int .i64 line, .int .i64 col] _ _ (by simp)
      case h1 => exact five_one _ _ _ _ _
      case h63 => unfold maxLen; omega
      case hby => omega
      case hba => simp; omega
      intro v2 w2 hown2 hgrow2 hnil2
      have hrow : ∀ j, Value.ownBlock u5 = some j → w.heap.size + 2 ≤ j ∧ j < wr.heap.size := HM.out.own.lt
      have HM2 := Lib.hid ((HM.out.later ((Below.refl _ _).alloc (Nat.le_refl _) _)).grown hgrow2 (fun j hj => (hrow j hj).1) (own_snoc (txt := []) rfl hown2))
      have szA2 : w.heap.size + 1 < w2.heap.size := by have := HM2.out.size; omega
      have szF2 : w.heap.size < w2.heap.size := by omega
      have cg0 := HM2.out.cf0; have cg1 := HM2.out.cf1; have cg2 := HM2.out.cf2; have fg := HM2.out.ff
      clear hrow hown2 hgrow2 hnil2 cf0 cf1 cf2 ff
      go_wp2_with (fail)
      refine bodyPost_ret (v := .tuple #[v2, .agg #[.int .i64 0, .int .i64 0, .int .i64 0]]) (by simp [results, Tryz.results35, go_sem, cg0, cg1, cg2]) rfl ?_
      unfold AllPost
      rw [HR.out.done]
      have hfin := HM2.out.fault (.int .i64 0) (.int .i64 0) (.int .i64 0)
      exact ⟨v2, rfl, hfin.1, hfin.2⟩
end Go.Proofs.YtaomlahphlemdaaGreatDoor

namespace Go.Proofs.YtaomlahphlemdaaGreatDoor
open Go.ChangeShapes Go.WideShapes Go.ChangeAt Go.RowKit
set_option linter.unusedVariables false

/-- The row's last step for a law whose arguments lie in no memory: what was there is as it was; new blocks may bear any marks. -/
theorem post_new {H : Type} {enc : TypeId × Value → H} {P : Program} {f : Func} {s : ChangeSpec} {apart fresh handsOn again : Bool} {W W' : World} {args : Array Value} {v : Value} {ds gs : List (DataW H)}
    (hW : DataW.Whole enc P f.params.toList s.vars apart W args.toList ds gs [])
    (hres : ∀ (b : Nat) (sp : Nat → Bool) (hd : Bool), DataW.TrodAll enc P W' b sp hd f.resultTypes.toList (v.resultList f.resultTypes.size) (s.fn H (ds ++ gs)).results [])
    (hargs : ∀ sp : Nat → Bool, DataW.TrodAll enc P W' 0 sp true f.params.toList args.toList (s.fn H (ds ++ gs)).args [])
    (hvars : ∀ sp : Nat → Bool, DataW.TrodVars enc P W' sp s.vars (s.fn H (ds ++ gs)).vars [])
    (hb : Below W.heap.size W W')
    (hok : ∀ (j : Nat) (t : TypeId) (r : Value), f.resultTypes[j]? = some t → (v.resultList f.resultTypes.size)[j]? = some r → Value.okWide P W' .any 0 t r) :
    s.post enc P f apart fresh handsOn again W args v W' := by
  refine ⟨ds, gs, [], [], [], [], hW, hres _ _ _, hargs _, hvars _, World.keptBut_mono (fun p hp => absurd hp List.not_mem_nil) (hb.frame (· ∈ [])), fun _ => ?_⟩
  refine ⟨hok, _, _, [], ⟨[], [], trodAll_append (hargs _) (hres _ _ _), hvars _, rfl, fun b off hp => absurd hp List.not_mem_nil, fun _ => List.nodup_nil⟩, fun p hp _ => hp⟩

def OkPost (ts : List Tok) (w : World) (e : Ending) (w' : World) : Prop :=
  ∃ g cap, e = .returned (.tuple #[.slice (some ⟨g, 0, none⟩) ts.length cap, .agg #[.int .i64 0, .int .i64 0, .int .i64 0]]) ∧ Below w.heap.size w w' ∧ w.heap.size ≤ g ∧ g < w'.heap.size ∧ ts.length ≤ cap ∧
    ∀ (i : Nat) (t : Tok), ts[i]? = some t → w'.cell? ⟨g, 5 * i, none⟩ = some (.int .i64 t.kind) ∧ w'.cell? ⟨g, 5 * i + 1, none⟩ = some (.string ⟨t.text.toArray⟩) ∧ w'.cell? ⟨g, 5 * i + 2, none⟩ = some (.int .i64 t.num) ∧
      w'.cell? ⟨g, 5 * i + 3, none⟩ = some (.int .i64 t.line) ∧ w'.cell? ⟨g, 5 * i + 4, none⟩ = some (.int .i64 t.col)

theorem flat_at : ∀ (ts : List Tok) (i : Nat) (t : Tok), ts[i]? = some t → ∀ j, j < 5 → (ts.flatMap Tok.cells)[5 * i + j]? = t.cells[j]? := by
  intro ts
  induction ts with
  | nil => intro i t h; simp at h
  | cons a r ih =>
    intro i t h j hj
    have hl : a.cells.length = 5 := rfl
    rw [List.flatMap_cons]
    cases i with
    | zero =>
      simp at h
      subst h
      rw [List.getElem?_append_left (by omega)]
      simp
    | succ i =>
      rw [List.getElem?_append_right (by omega), hl]
      have e : 5 * (i + 1) + j - 5 = 5 * i + j := by omega
      rw [e]
      exact ih i t (by simpa using h) j hj

theorem all_ok (s : ByteArray) (hs : s.size ≤ 65536) (ts : List Tok) (h : lexL s.data.toList = .ok ts) (hne : 0 < ts.length) (w : World) :
    Calls Tryz.prog 35 #[.string s] w (OkPost ts w) := by
  refine (all_any s hs w).mono ?_
  intro e w' hp
  unfold AllPost at hp
  rw [h] at hp
  obtain ⟨v, rfl, hb, hown⟩ := hp
  have hshape : ∃ g cap, v = .slice (some ⟨g, 0, none⟩) ts.length cap ∧ w.heap.size + 2 ≤ g ∧ ts.length ≤ cap := by
    rcases hown.2 with ⟨_, h1⟩ | ⟨g', cap', cur, hv, hb', _, hle, _⟩
    · omega
    · exact ⟨g', cap', hv, hb', hle⟩
  obtain ⟨g, cap, rfl, hg, hcap⟩ := hshape
  have hlt := (hown.lt g rfl).2
  refine ⟨g, cap, rfl, hb, by omega, hlt, hcap, fun i t ht => ?_⟩
  have hc := hown.cells (g := g) rfl
  have add : ∀ j, (⟨g, 0, none⟩ : Addr).add j = ⟨g, j, none⟩ := fun j => by unfold Addr.add; split <;> simp_all
  have at_ : ∀ j, j < 5 → ∀ u, t.cells[j]? = some u → w'.cell? ⟨g, 5 * i + j, none⟩ = some u := fun j hj u hu => by
    have := hc (5 * i + j) u (by rw [flat_at ts i t ht j hj]; exact hu)
    rwa [add] at this
  exact ⟨at_ 0 (by decide) _ rfl, at_ 1 (by decide) _ rfl, at_ 2 (by decide) _ rfl, at_ 3 (by decide) _ rfl, at_ 4 (by decide) _ rfl⟩
theorem all_bad (s : ByteArray) (hs : s.size ≤ 65536) (a b c : Int) (h : lexL s.data.toList = .error (a, b, c)) (w : World) :
    Calls Tryz.prog 35 #[.string s] w fun e w' => e = .returned (.tuple #[.slice none 0 0, .agg #[.int .i64 a, .int .i64 b, .int .i64 c]]) ∧ Below w.heap.size w w' := by
  refine (all_any s hs w).mono ?_
  intro e w' hp
  unfold AllPost at hp
  rw [h] at hp
  exact hp

end Go.Proofs.YtaomlahphlemdaaGreatDoor
