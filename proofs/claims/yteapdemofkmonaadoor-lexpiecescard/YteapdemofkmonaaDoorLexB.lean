/-
  Contracts of the lexer's functions that find marks, words and gaps. No condition but that a text has at most 65536 bytes, and is not empty.
-/
import Derived.Test.YteapdemofkmonaaDoorLexA
namespace Go.Proofs.YteapdemofkmonaaDoor
open Go.ChangeShapes Go.WideShapes Go.ChangeAt Go.RowKit
def doubleB (l : List UInt8) : Bool := l == [38, 38] || l == [124, 124] || l == [61, 61] || l == [33, 61] || l == [60, 61] || l == [62, 61] || l == [60, 60] || l == [62, 62]
theorem double_any (s : ByteArray) (w : World) : Calls Tryd.prog 33 #[.string s] w fun e w' => e = .returned (.bool (doubleB s.toList)) ∧ w = w' := by
  rcases Bool.eq_false_or_eq_true (s.toList == [38, 38]) with h0 | h0
  · go_enter Tryd.func33, Tryd.ntmps33
    go_wp2
    go_ret
    exact ⟨ret_bool (by simp only [doubleB, h0]; rfl), rfl⟩
  rcases Bool.eq_false_or_eq_true (s.toList == [124, 124]) with h1 | h1
  · go_enter Tryd.func33, Tryd.ntmps33
    go_wp2
    go_ret
    exact ⟨ret_bool (by simp only [doubleB, h0, h1]; rfl), rfl⟩
  rcases Bool.eq_false_or_eq_true (s.toList == [61, 61]) with h2 | h2
  · go_enter Tryd.func33, Tryd.ntmps33
    go_wp2
    go_ret
    exact ⟨ret_bool (by simp only [doubleB, h0, h1, h2]; rfl), rfl⟩
  rcases Bool.eq_false_or_eq_true (s.toList == [33, 61]) with h3 | h3
  · go_enter Tryd.func33, Tryd.ntmps33
    go_wp2
    go_ret
    exact ⟨ret_bool (by simp only [doubleB, h0, h1, h2, h3]; rfl), rfl⟩
  rcases Bool.eq_false_or_eq_true (s.toList == [60, 61]) with h4 | h4
  · go_enter Tryd.func33, Tryd.ntmps33
    go_wp2
    go_ret
    exact ⟨ret_bool (by simp only [doubleB, h0, h1, h2, h3, h4]; rfl), rfl⟩
  rcases Bool.eq_false_or_eq_true (s.toList == [62, 61]) with h5 | h5
  · go_enter Tryd.func33, Tryd.ntmps33
    go_wp2
    go_ret
    exact ⟨ret_bool (by simp only [doubleB, h0, h1, h2, h3, h4, h5]; rfl), rfl⟩
  rcases Bool.eq_false_or_eq_true (s.toList == [60, 60]) with h6 | h6
  · go_enter Tryd.func33, Tryd.ntmps33
    go_wp2
    go_ret
    exact ⟨ret_bool (by simp only [doubleB, h0, h1, h2, h3, h4, h5, h6]; rfl), rfl⟩
  rcases Bool.eq_false_or_eq_true (s.toList == [62, 62]) with h7 | h7
  · go_enter Tryd.func33, Tryd.ntmps33
    go_wp2
    go_ret
    exact ⟨ret_bool (by simp only [doubleB, h0, h1, h2, h3, h4, h5, h6, h7]; rfl), rfl⟩
  go_enter Tryd.func33, Tryd.ntmps33
  go_wp2
  go_ret
  exact ⟨ret_bool (by simp only [doubleB, h0, h1, h2, h3, h4, h5, h6, h7]; rfl), rfl⟩
def reservedB (l : List UInt8) : Bool := l == [101, 108, 115, 101] || l == [102, 97, 108, 115, 101] || l == [102, 117, 110, 99] || l == [105, 102] || l == [108, 101, 116] || l == [112, 117, 98, 108, 105, 99] || l == [114, 101, 116, 117, 114, 110] || l == [115, 101, 99, 114, 101, 116] || l == [116, 114, 117, 101] || l == [118, 97, 114] || l == [119, 104, 105, 108, 101]
theorem reserved_any (s : ByteArray) (w : World) : Calls Tryd.prog 23 #[.string s] w fun e w' => e = .returned (.bool (reservedB s.toList)) ∧ w = w' := by
  rcases Bool.eq_false_or_eq_true (s.toList == [101, 108, 115, 101]) with h0 | h0
  · go_enter Tryd.func23, Tryd.ntmps23
    go_wp2
    go_ret
    exact ⟨ret_bool (by simp only [reservedB, h0]; rfl), rfl⟩
  rcases Bool.eq_false_or_eq_true (s.toList == [102, 97, 108, 115, 101]) with h1 | h1
  · go_enter Tryd.func23, Tryd.ntmps23
    go_wp2
    go_ret
    exact ⟨ret_bool (by simp only [reservedB, h0, h1]; rfl), rfl⟩
  rcases Bool.eq_false_or_eq_true (s.toList == [102, 117, 110, 99]) with h2 | h2
  · go_enter Tryd.func23, Tryd.ntmps23
    go_wp2
    go_ret
    exact ⟨ret_bool (by simp only [reservedB, h0, h1, h2]; rfl), rfl⟩
  rcases Bool.eq_false_or_eq_true (s.toList == [105, 102]) with h3 | h3
  · go_enter Tryd.func23, Tryd.ntmps23
    go_wp2
    go_ret
    exact ⟨ret_bool (by simp only [reservedB, h0, h1, h2, h3]; rfl), rfl⟩
  rcases Bool.eq_false_or_eq_true (s.toList == [108, 101, 116]) with h4 | h4
  · go_enter Tryd.func23, Tryd.ntmps23
    go_wp2
    go_ret
    exact ⟨ret_bool (by simp only [reservedB, h0, h1, h2, h3, h4]; rfl), rfl⟩
  rcases Bool.eq_false_or_eq_true (s.toList == [112, 117, 98, 108, 105, 99]) with h5 | h5
  · go_enter Tryd.func23, Tryd.ntmps23
    go_wp2
    go_ret
    exact ⟨ret_bool (by simp only [reservedB, h0, h1, h2, h3, h4, h5]; rfl), rfl⟩
  rcases Bool.eq_false_or_eq_true (s.toList == [114, 101, 116, 117, 114, 110]) with h6 | h6
  · go_enter Tryd.func23, Tryd.ntmps23
    go_wp2
    go_ret
    exact ⟨ret_bool (by simp only [reservedB, h0, h1, h2, h3, h4, h5, h6]; rfl), rfl⟩
  rcases Bool.eq_false_or_eq_true (s.toList == [115, 101, 99, 114, 101, 116]) with h7 | h7
  · go_enter Tryd.func23, Tryd.ntmps23
    go_wp2
    go_ret
    exact ⟨ret_bool (by simp only [reservedB, h0, h1, h2, h3, h4, h5, h6, h7]; rfl), rfl⟩
  rcases Bool.eq_false_or_eq_true (s.toList == [116, 114, 117, 101]) with h8 | h8
  · go_enter Tryd.func23, Tryd.ntmps23
    go_wp2
    go_ret
    exact ⟨ret_bool (by simp only [reservedB, h0, h1, h2, h3, h4, h5, h6, h7, h8]; rfl), rfl⟩
  rcases Bool.eq_false_or_eq_true (s.toList == [118, 97, 114]) with h9 | h9
  · go_enter Tryd.func23, Tryd.ntmps23
    go_wp2
    go_ret
    exact ⟨ret_bool (by simp only [reservedB, h0, h1, h2, h3, h4, h5, h6, h7, h8, h9]; rfl), rfl⟩
  rcases Bool.eq_false_or_eq_true (s.toList == [119, 104, 105, 108, 101]) with h10 | h10
  · go_enter Tryd.func23, Tryd.ntmps23
    go_wp2
    go_ret
    exact ⟨ret_bool (by simp only [reservedB, h0, h1, h2, h3, h4, h5, h6, h7, h8, h9, h10]; rfl), rfl⟩
  go_enter Tryd.func23, Tryd.ntmps23
  go_wp2
  go_ret
  exact ⟨ret_bool (by simp only [reservedB, h0, h1, h2, h3, h4, h5, h6, h7, h8, h9, h10]; rfl), rfl⟩

def gapL (l : List UInt8) : Nat :=
  match l with
  | [] => 0
  | c :: r => if blankB (c.toNat : Int) then 1 else if Lib.hasPrefix (c :: r) [47, 47] then spanL inLineB (c :: r) else 0
theorem head_of (s : ByteArray) (h0 : 0 < s.size) : s.data.toList = s[0] :: s.data.toList.tail := by
  have h : 0 < s.data.toList.length := by simpa using h0
  obtain ⟨c, r, e⟩ : ∃ c r, s.data.toList = c :: r := by
    cases hl : s.data.toList with
    | nil => rw [hl] at h; simp at h
    | cons c r => exact ⟨c, r, rfl⟩
  have e2 : s[0] = c := by
    have h1 : s[0] = s.data.toList[0]'h := by simp; rfl
    rw [h1]; simp [e]
  rw [e2, e]; rfl
theorem gap_any (s : ByteArray) (hs : s.size ≤ 65536) (h0 : 0 < s.size) (w : World) :
    Calls Tryd.prog 11 #[.string s] w fun e w' => e = .returned (.int .i64 (gapL s.data.toList)) ∧ w = w' := by
  have hl := head_of s h0
  have HL := Lib.hid hl; clear hl
  have HS := Lib.hid hs; clear hs
  cases hb : blankB (s[0].toNat : Int)
  · cases hp : Lib.hasPrefix s.data.toList [47, 47]
    · go_enter Tryd.func11, Tryd.ntmps11
      go_wp2_with (fail)
      refine (blank_any _ _).mono ?_; rintro e w' ⟨rfl, rfl⟩
      go_wp2_with (fail)
      refine (Tryd.strings_HasPrefix _ _ _).mono ?_; rintro e w' ⟨rfl, rfl⟩
      go_wp2_with (fail)
      go_ret
      refine ⟨ret_int ?_, rfl⟩
      rw [HL.out] at hp ⊢
      simp [gapL, hb, hp]
    · go_enter Tryd.func11, Tryd.ntmps11
      go_wp2_with (fail)
      refine (blank_any _ _).mono ?_; rintro e w' ⟨rfl, rfl⟩
      go_wp2_with (fail)
      refine (Tryd.strings_HasPrefix _ _ _).mono ?_; rintro e w' ⟨rfl, rfl⟩
      go_wp2_with (fail)
      refine (span_inLine _ HS.out _).mono ?_; rintro e w' ⟨rfl, rfl⟩
      go_wp2_with (fail)
      go_ret
      refine ⟨ret_int ?_, rfl⟩
      rw [HL.out] at hp ⊢
      simp [gapL, hb, hp]
  · go_enter Tryd.func11, Tryd.ntmps11
    go_wp2_with (fail)
    refine (blank_any _ _).mono ?_; rintro e w' ⟨rfl, rfl⟩
    go_wp2_with (fail)
    go_ret
    refine ⟨ret_int ?_, rfl⟩
    rw [HL.out]
    simp [gapL, hb]
end Go.Proofs.YteapdemofkmonaaDoor
