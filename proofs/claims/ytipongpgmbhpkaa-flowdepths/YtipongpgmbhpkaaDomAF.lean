/-
  The law's few.
-/
import Derived.Test.YtipongpgmbhpkaaDomAD
namespace Go.Proofs.Ytipongpgmbhpkaa
open Go.ChangeShapes Go.WideShapes Go.ChangeAt Go.RowKit
set_option linter.unusedVariables false

def fewL (ways : List (List Int)) : Bool := decide (ways.length ≤ 12) && ways.all (fun r => decide (r.length ≤ 6))
set_option maxHeartbeats 8000000 in
set_option maxRecDepth 100000 in
theorem few_any {w : World} {ways : List (List Int)} {a : Option Addr} {cap : Nat} (hat : ways.length ≤ 12 → WaysAt w.heap.size w a ways) :
    Calls Try.prog 9 #[.slice a ways.length cap] w fun e w' => e = .returned (.bool (fewL ways)) ∧ w' = w := by
  have HAT := Lib.hid hat
  obtain ⟨n, hnn⟩ : ∃ n, n = ways.length := ⟨_, rfl⟩
  have HN := Lib.hid hnn
  rw [← hnn] at hat ⊢
  clear hat hnn
  go_enter Try.func9, Try.ntmps9
  go_wp2_with (fail)
  · have hh : 12 < n := by omega
    go_ret
    refine ⟨congrArg (fun x => Ending.returned (Value.bool x)) ?_, rfl⟩
    unfold fewL
    rw [← HN.out, decide_eq_false (by omega)]
    rfl
  · have hn12 : n ≤ 12 := by omega
    have hat := HAT.out (by rw [← HN.out]; omega)
    have HAT2 := Lib.hid hat
    clear hat
    go_loopw [10] (fun iv wr => ∃ (j : Nat), j ≤ n ∧ iv = .int .i64 j ∧ wr = w ∧ (ways.take j).all (fun r => decide (r.length ≤ 6)) = true) (fun iv _ => n - (intOf iv).toNat)
    case atStart => exact ⟨0, Nat.zero_le _, rfl, rfl, rfl⟩
    case round =>
      rename World => wr
      obtain ⟨j, hj, rfl, rfl, hall⟩ := hrel
      by_cases hjn : j < n
      · have hji : (j : Int) < (n : Int) := by omega
        obtain ⟨row, hrow⟩ : ∃ r, ways[j]? = some r := ⟨_, List.getElem?_eq_getElem (by rw [← HN.out]; exact hjn)⟩
        obtain ⟨b, off, cap2, rfl, hat⟩ := HAT2.out (fun e => by rw [e] at hrow; cases hrow)
        obtain ⟨rv, hc, hrv⟩ := hat.rows j row hrow
        have hbl := hat.lt
        obtain ⟨ra, rc, rfl⟩ := hrv.slice
        have HROW := Lib.hid hrow; have HALL := Lib.hid hall
        clear hrv hrow hat hall
        go_wp2_with (fail)
        · have hh : 6 < row.length := by omega
          go_ret
          refine ⟨congrArg (fun x => Ending.returned (Value.bool x)) ?_, rfl⟩
          unfold fewL
          have h1 : row ∈ ways := List.mem_of_getElem? HROW.out
          rw [List.all_eq_false.2 ⟨row, h1, by rw [decide_eq_false (by omega)]; decide⟩, Bool.and_false]
        · have hh : row.length ≤ 6 := by omega
          go_wp2_with (fail)
          go_roundw
          case rel => exact ⟨j + 1, by omega, by go_num, trivial, by
            have hlt := (List.getElem?_eq_some_iff.1 HROW.out)
            rw [List.take_succ_eq_append_getElem hlt.1, List.all_append, HALL.out, hlt.2]
            simp [hh]⟩
          case measure => simp [intOf]; omega
      · obtain rfl : n = j := by omega
        have HALL := Lib.hid hall
        clear hall
        go_wp2_with (fail)
        go_ret
        refine ⟨congrArg (fun x => Ending.returned (Value.bool x)) ?_, rfl⟩
        have := HALL.out
        rw [HN.out, List.take_length] at this
        unfold fewL
        rw [this, decide_eq_true (by rw [← HN.out]; omega)]
        rfl
end Go.Proofs.Ytipongpgmbhpkaa
