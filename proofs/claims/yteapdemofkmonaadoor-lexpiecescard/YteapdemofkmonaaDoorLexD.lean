/-
  Contracts of the lexer's number, token and place.
-/
import Derived.Test.YteapdemofkmonaaDoorLexC
namespace Go.Proofs.YteapdemofkmonaaDoor
open Go.ChangeShapes Go.WideShapes Go.ChangeAt Go.RowKit
set_option linter.unusedVariables false

/-- The number that digits are, from a beginning on. -/
def numL (a : Int) : List UInt8 → Option Int
  | [] => some a
  | c :: r => if (9223372036854775807 - ((c.toNat : Int) - 48)) / 10 < a then none else numL (a * 10 + ((c.toNat : Int) - 48)) r

theorem drop_at (x : ByteArray) (k : Nat) (h : k < x.size) : x.data.toList.drop k = x[k] :: x.data.toList.drop (k + 1) := by
  rw [List.drop_eq_getElem_cons (by simpa using h)]; rfl

theorem ret_of {v v' : Value} (h : v = v') : Ending.returned v = .returned v' := by rw [h]

/-- What number answers. -/
def numV (k : Int) (x : ByteArray) (o : Option Int) : Value :=
  match o with
  | none => .tuple #[.agg #[.int .i64 0, .string ⟨#[]⟩, .int .i64 0, .int .i64 0, .int .i64 0], .int .i64 11]
  | some v => .tuple #[.agg #[.int .i64 k, .string x, .int .i64 v, .int .i64 0, .int .i64 0], .int .i64 0]

set_option maxHeartbeats 1000000 in
theorem number_any (k : Int) (x : ByteArray) (hs : x.size ≤ 65536) (hd : AllAre digitB x x.size) (w : World) :
    Calls Tryd.prog 25 #[.agg #[.int .i64 k, .string x, .int .i64 0, .int .i64 0, .int .i64 0]] w fun e w' => e = .returned (numV k x (numL 0 x.data.toList)) ∧ Below w.heap.size w w' := by
  have HD := Lib.hid hd; clear hd
  go_enter Tryd.func25, Tryd.ntmps25
  go_wp2_with (fail)
  go_loopw [9] (fun i wr => ∃ (j : Nat) (v : Int), j ≤ x.size ∧ 0 ≤ v ∧ v ≤ 9223372036854775807 ∧ numL 0 x.data.toList = numL v (x.data.toList.drop j) ∧ i = .int .i64 j ∧
      wr = (w.alloc (.cells #[.int .i64 k, .string x, .int .i64 v, .int .i64 0, .int .i64 0] 31)).alloc (.cells #[.int .i64 0, .string ⟨#[]⟩, .int .i64 0, .int .i64 0, .int .i64 0] 31)) (fun i _ => x.size - (intOf i).toNat)
  case atStart => exact ⟨0, 0, Nat.zero_le _, by omega, by omega, rfl, rfl, rfl⟩
  case round =>
    obtain ⟨j, v, hj, hv0, hv1, hn, rfl, rfl⟩ := hrel
    have HN := Lib.hid hn; clear hn
    by_cases hlt : j < x.size
    · have hdig := HD.out j hlt hlt
      have hlo : 48 ≤ (x[j].toNat : Int) ∧ (x[j].toNat : Int) ≤ 57 := by
        unfold digitB at hdig; simpa using hdig
      have HDR := Lib.hid (drop_at x j hlt)
      clear hdig
      by_cases hbig : (9223372036854775807 - ((x[j].toNat : Int) - 48)) / 10 < v
      · go_wp2_with (fail)
        have e0 : numL 0 x.data.toList = none := by rw [HN.out, HDR.out, numL, if_pos hbig]
        rw [e0]
        exact bodyPost_ret (v := .tuple #[.agg #[.int .i64 0, .string ⟨#[]⟩, .int .i64 0, .int .i64 0, .int .i64 0], .int .i64 11]) (by simp [results, Tryd.results25, go_sem]) rfl ⟨rfl, ((Below.refl _ _).alloc (Nat.le_refl _) _).alloc (by simp) _⟩
      · go_wp2_with (fail)
        go_roundw
        case rel =>
          refine ⟨j + 1, v * 10 + ((x[j].toNat : Int) - 48), by omega, by omega, by omega, ?_, by go_num, rfl⟩
          rw [HN.out, HDR.out, numL, if_neg hbig]
        case measure => simp [intOf]; omega
    · obtain rfl : j = x.size := by omega
      go_wp2_with (fail)
      have e0 : numL 0 x.data.toList = some v := by
        rw [HN.out, List.drop_of_length_le (by simp), numL]
      rw [e0]
      exact bodyPost_ret (v := .tuple #[.agg #[.int .i64 k, .string x, .int .i64 v, .int .i64 0, .int .i64 0], .int .i64 0]) (by simp [results, Tryd.results25, go_sem]) rfl ⟨rfl, ((Below.refl _ _).alloc (Nat.le_refl _) _).alloc (by simp) _⟩
end Go.Proofs.YteapdemofkmonaaDoor
