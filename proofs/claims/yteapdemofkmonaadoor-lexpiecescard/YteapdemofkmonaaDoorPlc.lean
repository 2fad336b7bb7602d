/-
  The law's place: line and column of a place in a text.
-/
import Derived.Test.YteapdemofkmonaaDoorPcMath
namespace Go.Proofs.YteapdemofkmonaaDoor
open Go.ChangeShapes Go.WideShapes Go.ChangeAt Go.RowKit
set_option linter.unusedVariables false

theorem take_snoc (s : ByteArray) (k : Nat) (h : k < s.size) : s.data.toList.take (k + 1) = s.data.toList.take k ++ [s[k]] := by
  rw [List.take_succ_eq_append_getElem (by simpa using h)]; rfl

set_option maxHeartbeats 1000000 in
theorem place_any (s : ByteArray) (n : Nat) (hn : n ≤ s.size) (hs : s.size ≤ 65536) (w : World) :
    Calls Tryd.prog 7 #[.string s, .int .i64 n] w fun e w' => e = .returned (.agg #[.int .i64 (posFrom 1 1 (s.data.toList.take n)).1, .int .i64 (posFrom 1 1 (s.data.toList.take n)).2]) ∧ Below w.heap.size w w' := by
  go_enter Tryd.func7, Tryd.ntmps7
  go_wp2_with (fail)
  go_loopw [6] (fun i wr => ∃ (k : Nat) (line col : Int), k ≤ n ∧ posFrom 1 1 (s.data.toList.take k) = (line, col) ∧ (1 ≤ line ∧ line ≤ k + 1 ∧ 1 ≤ col ∧ col ≤ k + 1) ∧ i = .int .i64 k ∧
      wr = (w.alloc (.cells #[.int .i64 0, .int .i64 0] 29)).alloc (.cells #[.int .i64 line, .int .i64 col] 29)) (fun i _ => n - (intOf i).toNat)
  case atStart => exact ⟨0, 1, 1, Nat.zero_le _, rfl, ⟨by decide, by decide, by decide, by decide⟩, rfl, rfl⟩
  case round =>
    obtain ⟨k, line, col, hk, hp, ⟨l1, l2, c1, c2⟩, rfl, rfl⟩ := hrel
    have HP := Lib.hid hp; clear hp
    by_cases hlt : k < n
    · have hks : k < s.size := by omega
      have hl := line_le (c := s[k]) l1 l2
      have hc := col_le (c := s[k]) c1 c2
      have HSN := Lib.hid (take_snoc s k hks)
      have HLC := Lib.hid hl; have HCC := Lib.hid hc
      clear hl hc
      rcases Bool.eq_false_or_eq_true ((s[k].toNat : Int) == 10) with ht | ht
      · go_wp2_with (fail)
        go_roundw
        case rel =>
          refine ⟨k + 1, line + 1, 1, by omega, ?_, ?_, by go_num, rfl⟩
          · rw [HSN.out, posFrom_snoc, HP.out]; simp [lineB, colB, ht]
          · refine ⟨by omega, by omega, by omega, by omega⟩
        case measure => simp [intOf]; omega
      · go_wp2_with (fail)
        go_roundw
        case rel =>
          refine ⟨k + 1, line, col + 1, by omega, ?_, ?_, by go_num, rfl⟩
          · rw [HSN.out, posFrom_snoc, HP.out]; simp [lineB, colB, ht]
          · refine ⟨by omega, by omega, by omega, by omega⟩
        case measure => simp [intOf]; omega
    · obtain rfl : n = k := by omega
      go_wp2_with (fail)
      rw [HP.out]
      exact bodyPost_ret (v := .agg #[.int .i64 line, .int .i64 col]) (by simp [results, Tryd.results7, go_sem]) rfl ⟨rfl, ((Below.refl _ _).alloc (Nat.le_refl _) _).alloc (by simp) _⟩
end Go.Proofs.YteapdemofkmonaaDoor
