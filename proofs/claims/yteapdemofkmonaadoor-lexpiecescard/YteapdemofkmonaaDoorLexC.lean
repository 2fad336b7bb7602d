/-
  Contracts of the lexer's functions that find a mark, and cut a piece off.
-/
import Derived.Test.YteapdemofkmonaaDoorLexB
namespace Go.Proofs.YteapdemofkmonaaDoor
open Go.ChangeShapes Go.WideShapes Go.ChangeAt Go.RowKit
set_option linter.unusedVariables false

def marksL : List UInt8 := [43, 45, 42, 47, 37, 38, 124, 94, 60, 62, 61, 33, 40, 41, 123, 125, 91, 93, 44, 59]
def singleB (c : UInt8) : Bool := decide (0 ≤ Lib.indexByte marksL c)
/-- The longest mark at the beginning. -/
def markL (l : List UInt8) : Nat :=
  match l with
  | [] => 0
  | c :: r => if 1 < (c :: r).length && doubleB ((c :: r).take 2) then 2 else if singleB c then 1 else 0

theorem byte_back (c : UInt8) : ((c.toNat : Int)).toNat.toUInt8 = c := by simp

theorem mark_any (s : ByteArray) (hs : s.size ≤ 65536) (h0 : 0 < s.size) (w : World) :
    Calls Tryd.prog 26 #[.string s] w fun e w' => e = .returned (.int .i64 (markL s.data.toList)) ∧ w = w' := by
  have hl := head_of s h0
  have HL := Lib.hid hl; clear hl
  have ht : (s.extract 0 2).toList = s.data.toList.take 2 := by rw [Lib.extract_toList]; simp
  have HT := Lib.hid ht; clear ht
  have len : s.data.toList.length = s.size := by simp
  have HN := Lib.hid len; clear len
  by_cases h1 : 1 < s.size
  · cases hd : doubleB (s.extract 0 2).toList
    · cases hi : singleB s[0]
      · have hi' : Lib.indexByte [43, 45, 42, 47, 37, 38, 124, 94, 60, 62, 61, 33, 40, 41, 123, 125, 91, 93, 44, 59] s[0] < 0 := by have := of_decide_eq_false hi; simpa [marksL] using this
        go_enter Tryd.func26, Tryd.ntmps26
        go_wp2_with (fail)
        refine (double_any _ _).mono ?_; rintro e w' ⟨rfl, rfl⟩
        go_wp2_with (fail)
        refine (Tryd.strings_IndexByte _ _ _).mono ?_; rintro e w' ⟨rfl, rfl⟩
        go_wp2_with (fail)
        go_ret
        refine ⟨ret_int ?_, rfl⟩
        rw [HT.out] at hd
        have hn := HN.out
        rw [HL.out] at hd hn ⊢
        simp only [markL, hd, hi]
        simp
      · have hi' : 0 ≤ Lib.indexByte [43, 45, 42, 47, 37, 38, 124, 94, 60, 62, 61, 33, 40, 41, 123, 125, 91, 93, 44, 59] s[0] := of_decide_eq_true hi
        go_enter Tryd.func26, Tryd.ntmps26
        go_wp2_with (fail)
        refine (double_any _ _).mono ?_; rintro e w' ⟨rfl, rfl⟩
        go_wp2_with (fail)
        refine (Tryd.strings_IndexByte _ _ _).mono ?_; rintro e w' ⟨rfl, rfl⟩
        go_wp2_with (fail)
        go_ret
        refine ⟨ret_int ?_, rfl⟩
        rw [HT.out] at hd
        have hn := HN.out
        rw [HL.out] at hd hn ⊢
        simp only [markL, hd, hi]
        simp
    · go_enter Tryd.func26, Tryd.ntmps26
      go_wp2_with (fail)
      refine (double_any _ _).mono ?_; rintro e w' ⟨rfl, rfl⟩
      go_wp2_with (fail)
      go_ret
      refine ⟨ret_int ?_, rfl⟩
      rw [HT.out] at hd
      have hn := HN.out
      rw [HL.out] at hd hn ⊢
      simp only [markL, hd, hn]
      simp [h1]
  · cases hi : singleB s[0]
    · have hi' : Lib.indexByte [43, 45, 42, 47, 37, 38, 124, 94, 60, 62, 61, 33, 40, 41, 123, 125, 91, 93, 44, 59] s[0] < 0 := by have := of_decide_eq_false hi; simpa [marksL] using this
      go_enter Tryd.func26, Tryd.ntmps26
      go_wp2_with (fail)
      refine (Tryd.strings_IndexByte _ _ _).mono ?_; rintro e w' ⟨rfl, rfl⟩
      go_wp2_with (fail)
      go_ret
      refine ⟨ret_int ?_, rfl⟩
      have hn := HN.out
      rw [HL.out] at hn ⊢
      simp only [markL, hn, hi]
      simp [h1]
    · have hi' : 0 ≤ Lib.indexByte [43, 45, 42, 47, 37, 38, 124, 94, 60, 62, 61, 33, 40, 41, 123, 125, 91, 93, 44, 59] s[0] := of_decide_eq_true hi
      go_enter Tryd.func26, Tryd.ntmps26
      go_wp2_with (fail)
      refine (Tryd.strings_IndexByte _ _ _).mono ?_; rintro e w' ⟨rfl, rfl⟩
      go_wp2_with (fail)
      go_ret
      refine ⟨ret_int ?_, rfl⟩
      have hn := HN.out
      rw [HL.out] at hn ⊢
      simp only [markL, hn, hi]
      simp [h1]

theorem clone_any (s : ByteArray) (hs : s.size ≤ 65536) (w : World) :
    Calls Tryd.prog 32 #[.string s] w fun e w' => e = .returned (.string s) ∧ Below w.heap.size w w' := by
  have HS := Lib.hid hs; clear hs
  go_enter Tryd.func32, Tryd.ntmps32
  go_wp2_with (fail)
  refine (Tryd.stringslite_Clone _ _ (by have := HS.out; omega)).mono ?_; rintro e w' ⟨rfl, hb⟩
  go_wp2_with (fail)
  go_ret
  exact ⟨rfl, hb⟩

theorem piece_any (k : Int) (n : Nat) (s : ByteArray) (hs : s.size ≤ 65536) (h0 : n ≤ s.size) (w : World) :
    Calls Tryd.prog 21 #[.int .i64 k, .string s, .int .i64 n] w fun e w' => e = .returned (.agg #[.int .i64 k, .string (s.extract 0 n), .int .i64 0, .int .i64 0, .int .i64 0]) ∧ Below w.heap.size w w' := by
  go_enter Tryd.func21, Tryd.ntmps21
  go_wp2_with (fail)
  refine (clone_any _ (by simp; omega) _).mono ?_; rintro e w1 ⟨rfl, hb⟩
  have hsz : w.heap.size < w1.heap.size := by have := hb.size; simp at this; omega
  have hc := fun j => hb.cell (p := ⟨w.heap.size, j, none⟩) (by simp)
  have hf := fun j => hb.frozen (p := ⟨w.heap.size, j, none⟩) (by simp)
  go_wp2_with (fail)
  refine bodyPost_ret (v := .agg #[.int .i64 k, .string (s.extract 0 n), .int .i64 0, .int .i64 0, .int .i64 0]) (by simp [results, Tryd.results21, go_sem, hc]) rfl ⟨rfl, ?_⟩
  have h1 := ((Below.refl w.heap.size w).alloc (Nat.le_refl _) (.cells #[Value.int IntKind.i64 0, Value.string { data := #[] }, Value.int IntKind.i64 0, Value.int IntKind.i64 0, Value.int IntKind.i64 0] 31)).trans (hb.mono (by simp))
  exact ((((h1.setCell (Nat.le_refl _) _).setCell (Nat.le_refl _) _).setCell (Nat.le_refl _) _).setCell (Nat.le_refl _) _).setCell (Nat.le_refl _) _
end Go.Proofs.YteapdemofkmonaaDoor
