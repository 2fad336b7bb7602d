/-
  What WordKinds' walk comes to, op by op: it returns true. The names' table holds the ops' names (its cells are asked for).
-/
import Derived.Test.YtjpejdjiecfbnaaDoorDo
import Derived.Lib.Hide
namespace Go.Proofs.YtjpejdjiecfbnaaDoor.wordKinds
open Go.ChangeShapes Go.WideShapes Go.ChangeAt Go.RowKit
theorem cell_on {w : World} {a : Addr} {v : Value} (o : Obj) (h : w.cell? a = some v) : (w.alloc o).cell? a = some v := by
  rw [World.cell?_alloc_lt (h := World.block_lt_of_cell? _ _ h)]; exact h
theorem undef_ne {b : Bool} (h : some undef = some (Value.bool b)) : False := by cases h
theorem known_1 (w : World) : Calls Tryd.prog 6 #[.int .i64 1] w fun e w' => e = .returned (.bool true) ∧ w = w' := by
  go_enter Tryd.func6, Tryd.ntmps6
  go_wp2
  go_ret
  exact ⟨rfl, rfl⟩
theorem string_1 (w : World) (h : w.cell? ⟨0, 0, none⟩ = some (.string { data := #[97, 100, 100] })) : Calls Tryd.prog 7 #[.int .i64 1] w fun e w' => e = .returned (.string { data := #[97, 100, 100] }) ∧ w = w' := by
  go_enter Tryd.func7, Tryd.ntmps7
  go_wp2
  go_ret
  exact ⟨rfl, rfl⟩
theorem truth_1 (w : World) : Calls Tryd.prog 8 #[.int .i64 1] w fun e w' => e = .returned (.bool false) ∧ w = w' := by
  go_enter Tryd.func8, Tryd.ntmps8
  go_wp2
  go_ret
  exact ⟨rfl, rfl⟩
theorem divides_1 (w : World) : Calls Tryd.prog 9 #[.int .i64 1] w fun e w' => e = .returned (.bool false) ∧ w = w' := by
  go_enter Tryd.func9, Tryd.ntmps9
  go_wp2
  go_ret
  exact ⟨rfl, rfl⟩
theorem swaps_1 (w : World) : Calls Tryd.prog 10 #[.int .i64 1] w fun e w' => e = .returned (.bool true) ∧ w = w' := by
  go_enter Tryd.func10, Tryd.ntmps10
  go_wp2
  go_ret
  exact ⟨rfl, rfl⟩
theorem known_2 (w : World) : Calls Tryd.prog 6 #[.int .i64 2] w fun e w' => e = .returned (.bool true) ∧ w = w' := by
  go_enter Tryd.func6, Tryd.ntmps6
  go_wp2
  go_ret
  exact ⟨rfl, rfl⟩
theorem string_2 (w : World) (h : w.cell? ⟨0, 1, none⟩ = some (.string { data := #[115, 117, 98] })) : Calls Tryd.prog 7 #[.int .i64 2] w fun e w' => e = .returned (.string { data := #[115, 117, 98] }) ∧ w = w' := by
  go_enter Tryd.func7, Tryd.ntmps7
  go_wp2
  go_ret
  exact ⟨rfl, rfl⟩
theorem truth_2 (w : World) : Calls Tryd.prog 8 #[.int .i64 2] w fun e w' => e = .returned (.bool false) ∧ w = w' := by
  go_enter Tryd.func8, Tryd.ntmps8
  go_wp2
  go_ret
  exact ⟨rfl, rfl⟩
theorem divides_2 (w : World) : Calls Tryd.prog 9 #[.int .i64 2] w fun e w' => e = .returned (.bool false) ∧ w = w' := by
  go_enter Tryd.func9, Tryd.ntmps9
  go_wp2
  go_ret
  exact ⟨rfl, rfl⟩
theorem swaps_2 (w : World) : Calls Tryd.prog 10 #[.int .i64 2] w fun e w' => e = .returned (.bool false) ∧ w = w' := by
  go_enter Tryd.func10, Tryd.ntmps10
  go_wp2
  go_ret
  exact ⟨rfl, rfl⟩
theorem known_3 (w : World) : Calls Tryd.prog 6 #[.int .i64 3] w fun e w' => e = .returned (.bool true) ∧ w = w' := by
  go_enter Tryd.func6, Tryd.ntmps6
  go_wp2
  go_ret
  exact ⟨rfl, rfl⟩
theorem string_3 (w : World) (h : w.cell? ⟨0, 2, none⟩ = some (.string { data := #[109, 117, 108] })) : Calls Tryd.prog 7 #[.int .i64 3] w fun e w' => e = .returned (.string { data := #[109, 117, 108] }) ∧ w = w' := by
  go_enter Tryd.func7, Tryd.ntmps7
  go_wp2
  go_ret
  exact ⟨rfl, rfl⟩
theorem truth_3 (w : World) : Calls Tryd.prog 8 #[.int .i64 3] w fun e w' => e = .returned (.bool false) ∧ w = w' := by
  go_enter Tryd.func8, Tryd.ntmps8
  go_wp2
  go_ret
  exact ⟨rfl, rfl⟩
theorem divides_3 (w : World) : Calls Tryd.prog 9 #[.int .i64 3] w fun e w' => e = .returned (.bool false) ∧ w = w' := by
  go_enter Tryd.func9, Tryd.ntmps9
  go_wp2
  go_ret
  exact ⟨rfl, rfl⟩
theorem swaps_3 (w : World) : Calls Tryd.prog 10 #[.int .i64 3] w fun e w' => e = .returned (.bool true) ∧ w = w' := by
  go_enter Tryd.func10, Tryd.ntmps10
  go_wp2
  go_ret
  exact ⟨rfl, rfl⟩
theorem known_4 (w : World) : Calls Tryd.prog 6 #[.int .i64 4] w fun e w' => e = .returned (.bool true) ∧ w = w' := by
  go_enter Tryd.func6, Tryd.ntmps6
  go_wp2
  go_ret
  exact ⟨rfl, rfl⟩
theorem string_4 (w : World) (h : w.cell? ⟨0, 3, none⟩ = some (.string { data := #[100, 105, 118] })) : Calls Tryd.prog 7 #[.int .i64 4] w fun e w' => e = .returned (.string { data := #[100, 105, 118] }) ∧ w = w' := by
  go_enter Tryd.func7, Tryd.ntmps7
  go_wp2
  go_ret
  exact ⟨rfl, rfl⟩
theorem truth_4 (w : World) : Calls Tryd.prog 8 #[.int .i64 4] w fun e w' => e = .returned (.bool false) ∧ w = w' := by
  go_enter Tryd.func8, Tryd.ntmps8
  go_wp2
  go_ret
  exact ⟨rfl, rfl⟩
theorem divides_4 (w : World) : Calls Tryd.prog 9 #[.int .i64 4] w fun e w' => e = .returned (.bool true) ∧ w = w' := by
  go_enter Tryd.func9, Tryd.ntmps9
  go_wp2
  go_ret
  exact ⟨rfl, rfl⟩
theorem swaps_4 (w : World) : Calls Tryd.prog 10 #[.int .i64 4] w fun e w' => e = .returned (.bool false) ∧ w = w' := by
  go_enter Tryd.func10, Tryd.ntmps10
  go_wp2
  go_ret
  exact ⟨rfl, rfl⟩
theorem known_5 (w : World) : Calls Tryd.prog 6 #[.int .i64 5] w fun e w' => e = .returned (.bool true) ∧ w = w' := by
  go_enter Tryd.func6, Tryd.ntmps6
  go_wp2
  go_ret
  exact ⟨rfl, rfl⟩
theorem string_5 (w : World) (h : w.cell? ⟨0, 4, none⟩ = some (.string { data := #[109, 111, 100] })) : Calls Tryd.prog 7 #[.int .i64 5] w fun e w' => e = .returned (.string { data := #[109, 111, 100] }) ∧ w = w' := by
  go_enter Tryd.func7, Tryd.ntmps7
  go_wp2
  go_ret
  exact ⟨rfl, rfl⟩
theorem truth_5 (w : World) : Calls Tryd.prog 8 #[.int .i64 5] w fun e w' => e = .returned (.bool false) ∧ w = w' := by
  go_enter Tryd.func8, Tryd.ntmps8
  go_wp2
  go_ret
  exact ⟨rfl, rfl⟩
theorem divides_5 (w : World) : Calls Tryd.prog 9 #[.int .i64 5] w fun e w' => e = .returned (.bool true) ∧ w = w' := by
  go_enter Tryd.func9, Tryd.ntmps9
  go_wp2
  go_ret
  exact ⟨rfl, rfl⟩
theorem swaps_5 (w : World) : Calls Tryd.prog 10 #[.int .i64 5] w fun e w' => e = .returned (.bool false) ∧ w = w' := by
  go_enter Tryd.func10, Tryd.ntmps10
  go_wp2
  go_ret
  exact ⟨rfl, rfl⟩
theorem known_6 (w : World) : Calls Tryd.prog 6 #[.int .i64 6] w fun e w' => e = .returned (.bool true) ∧ w = w' := by
  go_enter Tryd.func6, Tryd.ntmps6
  go_wp2
  go_ret
  exact ⟨rfl, rfl⟩
theorem string_6 (w : World) (h : w.cell? ⟨0, 5, none⟩ = some (.string { data := #[97, 110, 100] })) : Calls Tryd.prog 7 #[.int .i64 6] w fun e w' => e = .returned (.string { data := #[97, 110, 100] }) ∧ w = w' := by
  go_enter Tryd.func7, Tryd.ntmps7
  go_wp2
  go_ret
  exact ⟨rfl, rfl⟩
theorem truth_6 (w : World) : Calls Tryd.prog 8 #[.int .i64 6] w fun e w' => e = .returned (.bool false) ∧ w = w' := by
  go_enter Tryd.func8, Tryd.ntmps8
  go_wp2
  go_ret
  exact ⟨rfl, rfl⟩
theorem divides_6 (w : World) : Calls Tryd.prog 9 #[.int .i64 6] w fun e w' => e = .returned (.bool false) ∧ w = w' := by
  go_enter Tryd.func9, Tryd.ntmps9
  go_wp2
  go_ret
  exact ⟨rfl, rfl⟩
theorem swaps_6 (w : World) : Calls Tryd.prog 10 #[.int .i64 6] w fun e w' => e = .returned (.bool true) ∧ w = w' := by
  go_enter Tryd.func10, Tryd.ntmps10
  go_wp2
  go_ret
  exact ⟨rfl, rfl⟩
theorem known_7 (w : World) : Calls Tryd.prog 6 #[.int .i64 7] w fun e w' => e = .returned (.bool true) ∧ w = w' := by
  go_enter Tryd.func6, Tryd.ntmps6
  go_wp2
  go_ret
  exact ⟨rfl, rfl⟩
theorem string_7 (w : World) (h : w.cell? ⟨0, 6, none⟩ = some (.string { data := #[111, 114] })) : Calls Tryd.prog 7 #[.int .i64 7] w fun e w' => e = .returned (.string { data := #[111, 114] }) ∧ w = w' := by
  go_enter Tryd.func7, Tryd.ntmps7
  go_wp2
  go_ret
  exact ⟨rfl, rfl⟩
theorem truth_7 (w : World) : Calls Tryd.prog 8 #[.int .i64 7] w fun e w' => e = .returned (.bool false) ∧ w = w' := by
  go_enter Tryd.func8, Tryd.ntmps8
  go_wp2
  go_ret
  exact ⟨rfl, rfl⟩
theorem divides_7 (w : World) : Calls Tryd.prog 9 #[.int .i64 7] w fun e w' => e = .returned (.bool false) ∧ w = w' := by
  go_enter Tryd.func9, Tryd.ntmps9
  go_wp2
  go_ret
  exact ⟨rfl, rfl⟩
theorem swaps_7 (w : World) : Calls Tryd.prog 10 #[.int .i64 7] w fun e w' => e = .returned (.bool true) ∧ w = w' := by
  go_enter Tryd.func10, Tryd.ntmps10
  go_wp2
  go_ret
  exact ⟨rfl, rfl⟩
theorem known_8 (w : World) : Calls Tryd.prog 6 #[.int .i64 8] w fun e w' => e = .returned (.bool true) ∧ w = w' := by
  go_enter Tryd.func6, Tryd.ntmps6
  go_wp2
  go_ret
  exact ⟨rfl, rfl⟩
theorem string_8 (w : World) (h : w.cell? ⟨0, 7, none⟩ = some (.string { data := #[120, 111, 114] })) : Calls Tryd.prog 7 #[.int .i64 8] w fun e w' => e = .returned (.string { data := #[120, 111, 114] }) ∧ w = w' := by
  go_enter Tryd.func7, Tryd.ntmps7
  go_wp2
  go_ret
  exact ⟨rfl, rfl⟩
theorem truth_8 (w : World) : Calls Tryd.prog 8 #[.int .i64 8] w fun e w' => e = .returned (.bool false) ∧ w = w' := by
  go_enter Tryd.func8, Tryd.ntmps8
  go_wp2
  go_ret
  exact ⟨rfl, rfl⟩
theorem divides_8 (w : World) : Calls Tryd.prog 9 #[.int .i64 8] w fun e w' => e = .returned (.bool false) ∧ w = w' := by
  go_enter Tryd.func9, Tryd.ntmps9
  go_wp2
  go_ret
  exact ⟨rfl, rfl⟩
theorem swaps_8 (w : World) : Calls Tryd.prog 10 #[.int .i64 8] w fun e w' => e = .returned (.bool true) ∧ w = w' := by
  go_enter Tryd.func10, Tryd.ntmps10
  go_wp2
  go_ret
  exact ⟨rfl, rfl⟩
theorem known_9 (w : World) : Calls Tryd.prog 6 #[.int .i64 9] w fun e w' => e = .returned (.bool true) ∧ w = w' := by
  go_enter Tryd.func6, Tryd.ntmps6
  go_wp2
  go_ret
  exact ⟨rfl, rfl⟩
theorem string_9 (w : World) (h : w.cell? ⟨0, 8, none⟩ = some (.string { data := #[115, 104, 108] })) : Calls Tryd.prog 7 #[.int .i64 9] w fun e w' => e = .returned (.string { data := #[115, 104, 108] }) ∧ w = w' := by
  go_enter Tryd.func7, Tryd.ntmps7
  go_wp2
  go_ret
  exact ⟨rfl, rfl⟩
theorem truth_9 (w : World) : Calls Tryd.prog 8 #[.int .i64 9] w fun e w' => e = .returned (.bool false) ∧ w = w' := by
  go_enter Tryd.func8, Tryd.ntmps8
  go_wp2
  go_ret
  exact ⟨rfl, rfl⟩
theorem divides_9 (w : World) : Calls Tryd.prog 9 #[.int .i64 9] w fun e w' => e = .returned (.bool false) ∧ w = w' := by
  go_enter Tryd.func9, Tryd.ntmps9
  go_wp2
  go_ret
  exact ⟨rfl, rfl⟩
theorem swaps_9 (w : World) : Calls Tryd.prog 10 #[.int .i64 9] w fun e w' => e = .returned (.bool false) ∧ w = w' := by
  go_enter Tryd.func10, Tryd.ntmps10
  go_wp2
  go_ret
  exact ⟨rfl, rfl⟩
theorem known_10 (w : World) : Calls Tryd.prog 6 #[.int .i64 10] w fun e w' => e = .returned (.bool true) ∧ w = w' := by
  go_enter Tryd.func6, Tryd.ntmps6
  go_wp2
  go_ret
  exact ⟨rfl, rfl⟩
theorem string_10 (w : World) (h : w.cell? ⟨0, 9, none⟩ = some (.string { data := #[115, 104, 114] })) : Calls Tryd.prog 7 #[.int .i64 10] w fun e w' => e = .returned (.string { data := #[115, 104, 114] }) ∧ w = w' := by
  go_enter Tryd.func7, Tryd.ntmps7
  go_wp2
  go_ret
  exact ⟨rfl, rfl⟩
theorem truth_10 (w : World) : Calls Tryd.prog 8 #[.int .i64 10] w fun e w' => e = .returned (.bool false) ∧ w = w' := by
  go_enter Tryd.func8, Tryd.ntmps8
  go_wp2
  go_ret
  exact ⟨rfl, rfl⟩
theorem divides_10 (w : World) : Calls Tryd.prog 9 #[.int .i64 10] w fun e w' => e = .returned (.bool false) ∧ w = w' := by
  go_enter Tryd.func9, Tryd.ntmps9
  go_wp2
  go_ret
  exact ⟨rfl, rfl⟩
theorem swaps_10 (w : World) : Calls Tryd.prog 10 #[.int .i64 10] w fun e w' => e = .returned (.bool false) ∧ w = w' := by
  go_enter Tryd.func10, Tryd.ntmps10
  go_wp2
  go_ret
  exact ⟨rfl, rfl⟩
theorem known_11 (w : World) : Calls Tryd.prog 6 #[.int .i64 11] w fun e w' => e = .returned (.bool true) ∧ w = w' := by
  go_enter Tryd.func6, Tryd.ntmps6
  go_wp2
  go_ret
  exact ⟨rfl, rfl⟩
theorem string_11 (w : World) (h : w.cell? ⟨0, 10, none⟩ = some (.string { data := #[101, 113] })) : Calls Tryd.prog 7 #[.int .i64 11] w fun e w' => e = .returned (.string { data := #[101, 113] }) ∧ w = w' := by
  go_enter Tryd.func7, Tryd.ntmps7
  go_wp2
  go_ret
  exact ⟨rfl, rfl⟩
theorem truth_11 (w : World) : Calls Tryd.prog 8 #[.int .i64 11] w fun e w' => e = .returned (.bool true) ∧ w = w' := by
  go_enter Tryd.func8, Tryd.ntmps8
  go_wp2
  go_ret
  exact ⟨rfl, rfl⟩
theorem divides_11 (w : World) : Calls Tryd.prog 9 #[.int .i64 11] w fun e w' => e = .returned (.bool false) ∧ w = w' := by
  go_enter Tryd.func9, Tryd.ntmps9
  go_wp2
  go_ret
  exact ⟨rfl, rfl⟩
theorem swaps_11 (w : World) : Calls Tryd.prog 10 #[.int .i64 11] w fun e w' => e = .returned (.bool true) ∧ w = w' := by
  go_enter Tryd.func10, Tryd.ntmps10
  go_wp2
  go_ret
  exact ⟨rfl, rfl⟩
theorem known_12 (w : World) : Calls Tryd.prog 6 #[.int .i64 12] w fun e w' => e = .returned (.bool true) ∧ w = w' := by
  go_enter Tryd.func6, Tryd.ntmps6
  go_wp2
  go_ret
  exact ⟨rfl, rfl⟩
theorem string_12 (w : World) (h : w.cell? ⟨0, 11, none⟩ = some (.string { data := #[110, 101] })) : Calls Tryd.prog 7 #[.int .i64 12] w fun e w' => e = .returned (.string { data := #[110, 101] }) ∧ w = w' := by
  go_enter Tryd.func7, Tryd.ntmps7
  go_wp2
  go_ret
  exact ⟨rfl, rfl⟩
theorem truth_12 (w : World) : Calls Tryd.prog 8 #[.int .i64 12] w fun e w' => e = .returned (.bool true) ∧ w = w' := by
  go_enter Tryd.func8, Tryd.ntmps8
  go_wp2
  go_ret
  exact ⟨rfl, rfl⟩
theorem divides_12 (w : World) : Calls Tryd.prog 9 #[.int .i64 12] w fun e w' => e = .returned (.bool false) ∧ w = w' := by
  go_enter Tryd.func9, Tryd.ntmps9
  go_wp2
  go_ret
  exact ⟨rfl, rfl⟩
theorem swaps_12 (w : World) : Calls Tryd.prog 10 #[.int .i64 12] w fun e w' => e = .returned (.bool true) ∧ w = w' := by
  go_enter Tryd.func10, Tryd.ntmps10
  go_wp2
  go_ret
  exact ⟨rfl, rfl⟩
theorem known_13 (w : World) : Calls Tryd.prog 6 #[.int .i64 13] w fun e w' => e = .returned (.bool true) ∧ w = w' := by
  go_enter Tryd.func6, Tryd.ntmps6
  go_wp2
  go_ret
  exact ⟨rfl, rfl⟩
theorem string_13 (w : World) (h : w.cell? ⟨0, 12, none⟩ = some (.string { data := #[108, 116] })) : Calls Tryd.prog 7 #[.int .i64 13] w fun e w' => e = .returned (.string { data := #[108, 116] }) ∧ w = w' := by
  go_enter Tryd.func7, Tryd.ntmps7
  go_wp2
  go_ret
  exact ⟨rfl, rfl⟩
theorem truth_13 (w : World) : Calls Tryd.prog 8 #[.int .i64 13] w fun e w' => e = .returned (.bool true) ∧ w = w' := by
  go_enter Tryd.func8, Tryd.ntmps8
  go_wp2
  go_ret
  exact ⟨rfl, rfl⟩
theorem divides_13 (w : World) : Calls Tryd.prog 9 #[.int .i64 13] w fun e w' => e = .returned (.bool false) ∧ w = w' := by
  go_enter Tryd.func9, Tryd.ntmps9
  go_wp2
  go_ret
  exact ⟨rfl, rfl⟩
theorem swaps_13 (w : World) : Calls Tryd.prog 10 #[.int .i64 13] w fun e w' => e = .returned (.bool false) ∧ w = w' := by
  go_enter Tryd.func10, Tryd.ntmps10
  go_wp2
  go_ret
  exact ⟨rfl, rfl⟩
theorem known_14 (w : World) : Calls Tryd.prog 6 #[.int .i64 14] w fun e w' => e = .returned (.bool true) ∧ w = w' := by
  go_enter Tryd.func6, Tryd.ntmps6
  go_wp2
  go_ret
  exact ⟨rfl, rfl⟩
theorem string_14 (w : World) (h : w.cell? ⟨0, 13, none⟩ = some (.string { data := #[108, 101] })) : Calls Tryd.prog 7 #[.int .i64 14] w fun e w' => e = .returned (.string { data := #[108, 101] }) ∧ w = w' := by
  go_enter Tryd.func7, Tryd.ntmps7
  go_wp2
  go_ret
  exact ⟨rfl, rfl⟩
theorem truth_14 (w : World) : Calls Tryd.prog 8 #[.int .i64 14] w fun e w' => e = .returned (.bool true) ∧ w = w' := by
  go_enter Tryd.func8, Tryd.ntmps8
  go_wp2
  go_ret
  exact ⟨rfl, rfl⟩
theorem divides_14 (w : World) : Calls Tryd.prog 9 #[.int .i64 14] w fun e w' => e = .returned (.bool false) ∧ w = w' := by
  go_enter Tryd.func9, Tryd.ntmps9
  go_wp2
  go_ret
  exact ⟨rfl, rfl⟩
theorem swaps_14 (w : World) : Calls Tryd.prog 10 #[.int .i64 14] w fun e w' => e = .returned (.bool false) ∧ w = w' := by
  go_enter Tryd.func10, Tryd.ntmps10
  go_wp2
  go_ret
  exact ⟨rfl, rfl⟩
theorem known_15 (w : World) : Calls Tryd.prog 6 #[.int .i64 15] w fun e w' => e = .returned (.bool true) ∧ w = w' := by
  go_enter Tryd.func6, Tryd.ntmps6
  go_wp2
  go_ret
  exact ⟨rfl, rfl⟩
theorem string_15 (w : World) (h : w.cell? ⟨0, 14, none⟩ = some (.string { data := #[98, 101, 108, 111, 119] })) : Calls Tryd.prog 7 #[.int .i64 15] w fun e w' => e = .returned (.string { data := #[98, 101, 108, 111, 119] }) ∧ w = w' := by
  go_enter Tryd.func7, Tryd.ntmps7
  go_wp2
  go_ret
  exact ⟨rfl, rfl⟩
theorem truth_15 (w : World) : Calls Tryd.prog 8 #[.int .i64 15] w fun e w' => e = .returned (.bool true) ∧ w = w' := by
  go_enter Tryd.func8, Tryd.ntmps8
  go_wp2
  go_ret
  exact ⟨rfl, rfl⟩
theorem divides_15 (w : World) : Calls Tryd.prog 9 #[.int .i64 15] w fun e w' => e = .returned (.bool false) ∧ w = w' := by
  go_enter Tryd.func9, Tryd.ntmps9
  go_wp2
  go_ret
  exact ⟨rfl, rfl⟩
theorem swaps_15 (w : World) : Calls Tryd.prog 10 #[.int .i64 15] w fun e w' => e = .returned (.bool false) ∧ w = w' := by
  go_enter Tryd.func10, Tryd.ntmps10
  go_wp2
  go_ret
  exact ⟨rfl, rfl⟩
theorem known_lo (o : Int) (ho : o < 1) (w : World) : Calls Tryd.prog 6 #[.int .i64 o] w fun e w' => e = .returned (.bool false) ∧ w = w' := by
  have e1 : (o == 1) = false := by simp; omega
  have e3 : (o == 3) = false := by simp; omega
  have e4 : (o == 4) = false := by simp; omega
  have e5 : (o == 5) = false := by simp; omega
  have e6 : (o == 6) = false := by simp; omega
  have e7 : (o == 7) = false := by simp; omega
  have e8 : (o == 8) = false := by simp; omega
  have e11 : (o == 11) = false := by simp; omega
  have e12 : (o == 12) = false := by simp; omega
  have d6 : decide (6 ≤ o) = false := by simp; omega
  have d1 : decide (1 ≤ o) = false := by simp; omega
  have d11 : decide (11 ≤ o) = false := by simp; omega
  go_enter Tryd.func6, Tryd.ntmps6
  go_wp2
  go_ret
  exact ⟨rfl, rfl⟩
theorem string_lo (o : Int) (ho : o < 1) (w : World) : Calls Tryd.prog 7 #[.int .i64 o] w fun e w' => e = .returned (.string { data := #[63] }) ∧ w = w' := by
  have e1 : (o == 1) = false := by simp; omega
  have e3 : (o == 3) = false := by simp; omega
  have e4 : (o == 4) = false := by simp; omega
  have e5 : (o == 5) = false := by simp; omega
  have e6 : (o == 6) = false := by simp; omega
  have e7 : (o == 7) = false := by simp; omega
  have e8 : (o == 8) = false := by simp; omega
  have e11 : (o == 11) = false := by simp; omega
  have e12 : (o == 12) = false := by simp; omega
  have d6 : decide (6 ≤ o) = false := by simp; omega
  have d1 : decide (1 ≤ o) = false := by simp; omega
  have d11 : decide (11 ≤ o) = false := by simp; omega
  go_enter Tryd.func7, Tryd.ntmps7
  go_wp2
  go_ret
  exact ⟨rfl, rfl⟩
theorem truth_lo (o : Int) (ho : o < 1) (w : World) : Calls Tryd.prog 8 #[.int .i64 o] w fun e w' => e = .returned (.bool false) ∧ w = w' := by
  have e1 : (o == 1) = false := by simp; omega
  have e3 : (o == 3) = false := by simp; omega
  have e4 : (o == 4) = false := by simp; omega
  have e5 : (o == 5) = false := by simp; omega
  have e6 : (o == 6) = false := by simp; omega
  have e7 : (o == 7) = false := by simp; omega
  have e8 : (o == 8) = false := by simp; omega
  have e11 : (o == 11) = false := by simp; omega
  have e12 : (o == 12) = false := by simp; omega
  have d6 : decide (6 ≤ o) = false := by simp; omega
  have d1 : decide (1 ≤ o) = false := by simp; omega
  have d11 : decide (11 ≤ o) = false := by simp; omega
  go_enter Tryd.func8, Tryd.ntmps8
  go_wp2
  go_ret
  exact ⟨rfl, rfl⟩
theorem divides_lo (o : Int) (ho : o < 1) (w : World) : Calls Tryd.prog 9 #[.int .i64 o] w fun e w' => e = .returned (.bool false) ∧ w = w' := by
  have e1 : (o == 1) = false := by simp; omega
  have e3 : (o == 3) = false := by simp; omega
  have e4 : (o == 4) = false := by simp; omega
  have e5 : (o == 5) = false := by simp; omega
  have e6 : (o == 6) = false := by simp; omega
  have e7 : (o == 7) = false := by simp; omega
  have e8 : (o == 8) = false := by simp; omega
  have e11 : (o == 11) = false := by simp; omega
  have e12 : (o == 12) = false := by simp; omega
  have d6 : decide (6 ≤ o) = false := by simp; omega
  have d1 : decide (1 ≤ o) = false := by simp; omega
  have d11 : decide (11 ≤ o) = false := by simp; omega
  go_enter Tryd.func9, Tryd.ntmps9
  go_wp2
  go_ret
  exact ⟨rfl, rfl⟩
theorem swaps_lo (o : Int) (ho : o < 1) (w : World) : Calls Tryd.prog 10 #[.int .i64 o] w fun e w' => e = .returned (.bool false) ∧ w = w' := by
  have e1 : (o == 1) = false := by simp; omega
  have e3 : (o == 3) = false := by simp; omega
  have e4 : (o == 4) = false := by simp; omega
  have e5 : (o == 5) = false := by simp; omega
  have e6 : (o == 6) = false := by simp; omega
  have e7 : (o == 7) = false := by simp; omega
  have e8 : (o == 8) = false := by simp; omega
  have e11 : (o == 11) = false := by simp; omega
  have e12 : (o == 12) = false := by simp; omega
  have d6 : decide (6 ≤ o) = false := by simp; omega
  have d1 : decide (1 ≤ o) = false := by simp; omega
  have d11 : decide (11 ≤ o) = false := by simp; omega
  go_enter Tryd.func10, Tryd.ntmps10
  go_wp2
  go_ret
  exact ⟨rfl, rfl⟩
theorem do_lo (o : Int) (ho : o < 1) (a b : Int) (w : World) : Calls Tryd.prog 5 #[.int .i64 o, .int .i64 a, .int .i64 b] w fun e w' => e = .returned (.tuple #[.int .i64 0, .bool false]) ∧ w = w' := by
  have e1 : (o == 1) = false := by simp; omega
  have e3 : (o == 3) = false := by simp; omega
  have e4 : (o == 4) = false := by simp; omega
  have e5 : (o == 5) = false := by simp; omega
  have e6 : (o == 6) = false := by simp; omega
  have e7 : (o == 7) = false := by simp; omega
  have e8 : (o == 8) = false := by simp; omega
  have e11 : (o == 11) = false := by simp; omega
  have e12 : (o == 12) = false := by simp; omega
  have d6 : decide (6 ≤ o) = false := by simp; omega
  have d1 : decide (1 ≤ o) = false := by simp; omega
  have d11 : decide (11 ≤ o) = false := by simp; omega
  go_enter Tryd.func5, Tryd.ntmps5
  go_wp2
  go_ret2
  exact ⟨rfl, rfl⟩
theorem known_hi (o : Int) (ho : 15 < o) (w : World) : Calls Tryd.prog 6 #[.int .i64 o] w fun e w' => e = .returned (.bool false) ∧ w = w' := by
  have e1 : (o == 1) = false := by simp; omega
  have e3 : (o == 3) = false := by simp; omega
  have e4 : (o == 4) = false := by simp; omega
  have e5 : (o == 5) = false := by simp; omega
  have e6 : (o == 6) = false := by simp; omega
  have e7 : (o == 7) = false := by simp; omega
  have e8 : (o == 8) = false := by simp; omega
  have e11 : (o == 11) = false := by simp; omega
  have e12 : (o == 12) = false := by simp; omega
  have d1 : decide (1 ≤ o) = true := by simp; omega
  have d11 : decide (11 ≤ o) = true := by simp; omega
  have d15 : decide (o ≤ 15) = false := by simp; omega
  have d8 : decide (o ≤ 8) = false := by simp; omega
  have d6 : decide (6 ≤ o) = true := by simp; omega
  go_enter Tryd.func6, Tryd.ntmps6
  go_wp2
  go_ret
  exact ⟨rfl, rfl⟩
theorem string_hi (o : Int) (ho : 15 < o) (w : World) : Calls Tryd.prog 7 #[.int .i64 o] w fun e w' => e = .returned (.string { data := #[63] }) ∧ w = w' := by
  have e1 : (o == 1) = false := by simp; omega
  have e3 : (o == 3) = false := by simp; omega
  have e4 : (o == 4) = false := by simp; omega
  have e5 : (o == 5) = false := by simp; omega
  have e6 : (o == 6) = false := by simp; omega
  have e7 : (o == 7) = false := by simp; omega
  have e8 : (o == 8) = false := by simp; omega
  have e11 : (o == 11) = false := by simp; omega
  have e12 : (o == 12) = false := by simp; omega
  have d1 : decide (1 ≤ o) = true := by simp; omega
  have d11 : decide (11 ≤ o) = true := by simp; omega
  have d15 : decide (o ≤ 15) = false := by simp; omega
  have d8 : decide (o ≤ 8) = false := by simp; omega
  have d6 : decide (6 ≤ o) = true := by simp; omega
  go_enter Tryd.func7, Tryd.ntmps7
  go_wp2
  go_ret
  exact ⟨rfl, rfl⟩
theorem truth_hi (o : Int) (ho : 15 < o) (w : World) : Calls Tryd.prog 8 #[.int .i64 o] w fun e w' => e = .returned (.bool false) ∧ w = w' := by
  have e1 : (o == 1) = false := by simp; omega
  have e3 : (o == 3) = false := by simp; omega
  have e4 : (o == 4) = false := by simp; omega
  have e5 : (o == 5) = false := by simp; omega
  have e6 : (o == 6) = false := by simp; omega
  have e7 : (o == 7) = false := by simp; omega
  have e8 : (o == 8) = false := by simp; omega
  have e11 : (o == 11) = false := by simp; omega
  have e12 : (o == 12) = false := by simp; omega
  have d1 : decide (1 ≤ o) = true := by simp; omega
  have d11 : decide (11 ≤ o) = true := by simp; omega
  have d15 : decide (o ≤ 15) = false := by simp; omega
  have d8 : decide (o ≤ 8) = false := by simp; omega
  have d6 : decide (6 ≤ o) = true := by simp; omega
  go_enter Tryd.func8, Tryd.ntmps8
  go_wp2
  go_ret
  exact ⟨rfl, rfl⟩
theorem divides_hi (o : Int) (ho : 15 < o) (w : World) : Calls Tryd.prog 9 #[.int .i64 o] w fun e w' => e = .returned (.bool false) ∧ w = w' := by
  have e1 : (o == 1) = false := by simp; omega
  have e3 : (o == 3) = false := by simp; omega
  have e4 : (o == 4) = false := by simp; omega
  have e5 : (o == 5) = false := by simp; omega
  have e6 : (o == 6) = false := by simp; omega
  have e7 : (o == 7) = false := by simp; omega
  have e8 : (o == 8) = false := by simp; omega
  have e11 : (o == 11) = false := by simp; omega
  have e12 : (o == 12) = false := by simp; omega
  have d1 : decide (1 ≤ o) = true := by simp; omega
  have d11 : decide (11 ≤ o) = true := by simp; omega
  have d15 : decide (o ≤ 15) = false := by simp; omega
  have d8 : decide (o ≤ 8) = false := by simp; omega
  have d6 : decide (6 ≤ o) = true := by simp; omega
  go_enter Tryd.func9, Tryd.ntmps9
  go_wp2
  go_ret
  exact ⟨rfl, rfl⟩
theorem swaps_hi (o : Int) (ho : 15 < o) (w : World) : Calls Tryd.prog 10 #[.int .i64 o] w fun e w' => e = .returned (.bool false) ∧ w = w' := by
  have e1 : (o == 1) = false := by simp; omega
  have e3 : (o == 3) = false := by simp; omega
  have e4 : (o == 4) = false := by simp; omega
  have e5 : (o == 5) = false := by simp; omega
  have e6 : (o == 6) = false := by simp; omega
  have e7 : (o == 7) = false := by simp; omega
  have e8 : (o == 8) = false := by simp; omega
  have e11 : (o == 11) = false := by simp; omega
  have e12 : (o == 12) = false := by simp; omega
  have d1 : decide (1 ≤ o) = true := by simp; omega
  have d11 : decide (11 ≤ o) = true := by simp; omega
  have d15 : decide (o ≤ 15) = false := by simp; omega
  have d8 : decide (o ≤ 8) = false := by simp; omega
  have d6 : decide (6 ≤ o) = true := by simp; omega
  go_enter Tryd.func10, Tryd.ntmps10
  go_wp2
  go_ret
  exact ⟨rfl, rfl⟩
theorem do_hi (o : Int) (ho : o > 15) (a b : Int) (w : World) : Calls Tryd.prog 5 #[.int .i64 o, .int .i64 a, .int .i64 b] w fun e w' => e = .returned (.tuple #[.int .i64 0, .bool false]) ∧ w = w' := by
  have e1 : (o == 1) = false := by simp; omega
  have e3 : (o == 3) = false := by simp; omega
  have e4 : (o == 4) = false := by simp; omega
  have e5 : (o == 5) = false := by simp; omega
  have e6 : (o == 6) = false := by simp; omega
  have e7 : (o == 7) = false := by simp; omega
  have e8 : (o == 8) = false := by simp; omega
  have e11 : (o == 11) = false := by simp; omega
  have e12 : (o == 12) = false := by simp; omega
  have d1 : decide (1 ≤ o) = true := by simp; omega
  have d11 : decide (11 ≤ o) = true := by simp; omega
  have d15 : decide (o ≤ 15) = false := by simp; omega
  have d8 : decide (o ≤ 8) = false := by simp; omega
  have d6 : decide (6 ≤ o) = true := by simp; omega
  go_enter Tryd.func5, Tryd.ntmps5
  go_wp2
  go_ret2
  exact ⟨rfl, rfl⟩
set_option maxRecDepth 100000 in
set_option maxHeartbeats 2000000 in
theorem kind_1_tt (a b x y : Int) (w : World) (h : w.cell? ⟨0, 0, none⟩ = some (.string { data := #[97, 100, 100] }))
   (hxy : (x == y) = true)
   (D : ∀ w, Calls Tryd.prog 5 #[.int .i64 1, .int .i64 a, .int .i64 b] w fun e w' => e = .returned (.tuple #[.int .i64 x, .bool true]) ∧ w = w')
   (E : ∀ w, Calls Tryd.prog 5 #[.int .i64 1, .int .i64 b, .int .i64 a] w fun e w' => e = .returned (.tuple #[.int .i64 y, .bool true]) ∧ w = w') :
    Calls Tryd.prog 3 #[.int .i64 1, .int .i64 a, .int .i64 b] w fun e w' => e = .returned (.bool true) ∧ Grown w w' := by
  have HD := Lib.hid D; have HE := Lib.hid E; have HC := Lib.hid h; clear D E h
  go_enter Tryd.func3, Tryd.ntmps3
  dsimp only [List.append]
  go_wp2_with (fail)
  with_reducible refine (head_any _).mono ?_
  rintro e w' ⟨rfl, rfl⟩
  go_wp2_with (fail)
  with_reducible refine (HD.out _).mono ?_
  rintro e w' ⟨rfl, rfl⟩
  go_wp2_with (fail)
  with_reducible refine (HE.out _).mono ?_
  rintro e w' ⟨rfl, rfl⟩
  go_wp2_with (fail)
  with_reducible refine (known_1 _).mono ?_
  rintro e w' ⟨rfl, rfl⟩
  go_wp2_with (fail)
  with_reducible refine (string_1 _ (cell_on _ HC.out)).mono ?_
  rintro e w' ⟨rfl, rfl⟩
  go_wp2_with (fail)
  with_reducible refine (truth_1 _).mono ?_
  rintro e w' ⟨rfl, rfl⟩
  go_wp2_with (fail)
  with_reducible refine (divides_1 _).mono ?_
  rintro e w' ⟨rfl, rfl⟩
  go_wp2_with (fail)
  try any_goals (exfalso; exact undef_ne ‹_›)
  with_reducible refine (swaps_1 _).mono ?_
  rintro e w' ⟨rfl, rfl⟩
  go_wp2_with (fail)
  with_reducible refine (swaps_1 _).mono ?_
  rintro e w' ⟨rfl, rfl⟩
  by_cases hz : b = 0
  · have hb : (b != 0) = false := by simpa using hz
    clear hz
    go_wp2_with (fail)
    with_reducible refine (divides_1 _).mono ?_
    rintro e w' ⟨rfl, rfl⟩
    go_wp2_with (fail)
    go_ret
    exact ⟨rfl, by repeat (first | exact Grown.refl _ | apply Grown.drew | apply Grown.alloc)⟩
  · have hb : (b != 0) = true := by simpa using hz
    clear hz
    go_wp2_with (fail)
    try any_goals (exfalso; exact undef_ne ‹_›)
    go_ret
    exact ⟨rfl, by repeat (first | exact Grown.refl _ | apply Grown.drew | apply Grown.alloc)⟩
set_option maxRecDepth 100000 in
set_option maxHeartbeats 2000000 in
theorem kind_2_tt (a b x y : Int) (w : World) (h : w.cell? ⟨0, 1, none⟩ = some (.string { data := #[115, 117, 98] }))
   (D : ∀ w, Calls Tryd.prog 5 #[.int .i64 2, .int .i64 a, .int .i64 b] w fun e w' => e = .returned (.tuple #[.int .i64 x, .bool true]) ∧ w = w')
   (E : ∀ w, Calls Tryd.prog 5 #[.int .i64 2, .int .i64 b, .int .i64 a] w fun e w' => e = .returned (.tuple #[.int .i64 y, .bool true]) ∧ w = w') :
    Calls Tryd.prog 3 #[.int .i64 2, .int .i64 a, .int .i64 b] w fun e w' => e = .returned (.bool true) ∧ Grown w w' := by
  have HD := Lib.hid D; have HE := Lib.hid E; have HC := Lib.hid h; clear D E h
  go_enter Tryd.func3, Tryd.ntmps3
  dsimp only [List.append]
  go_wp2_with (fail)
  with_reducible refine (head_any _).mono ?_
  rintro e w' ⟨rfl, rfl⟩
  go_wp2_with (fail)
  with_reducible refine (HD.out _).mono ?_
  rintro e w' ⟨rfl, rfl⟩
  go_wp2_with (fail)
  with_reducible refine (HE.out _).mono ?_
  rintro e w' ⟨rfl, rfl⟩
  go_wp2_with (fail)
  with_reducible refine (known_2 _).mono ?_
  rintro e w' ⟨rfl, rfl⟩
  go_wp2_with (fail)
  with_reducible refine (string_2 _ (cell_on _ HC.out)).mono ?_
  rintro e w' ⟨rfl, rfl⟩
  go_wp2_with (fail)
  with_reducible refine (truth_2 _).mono ?_
  rintro e w' ⟨rfl, rfl⟩
  go_wp2_with (fail)
  with_reducible refine (divides_2 _).mono ?_
  rintro e w' ⟨rfl, rfl⟩
  go_wp2_with (fail)
  try any_goals (exfalso; exact undef_ne ‹_›)
  with_reducible refine (swaps_2 _).mono ?_
  rintro e w' ⟨rfl, rfl⟩
  go_wp2_with (fail)
  with_reducible refine (swaps_2 _).mono ?_
  rintro e w' ⟨rfl, rfl⟩
  by_cases hz : b = 0
  · have hb : (b != 0) = false := by simpa using hz
    clear hz
    go_wp2_with (fail)
    with_reducible refine (divides_2 _).mono ?_
    rintro e w' ⟨rfl, rfl⟩
    go_wp2_with (fail)
    go_ret
    exact ⟨rfl, by repeat (first | exact Grown.refl _ | apply Grown.drew | apply Grown.alloc)⟩
  · have hb : (b != 0) = true := by simpa using hz
    clear hz
    go_wp2_with (fail)
    go_ret
    exact ⟨rfl, by repeat (first | exact Grown.refl _ | apply Grown.drew | apply Grown.alloc)⟩
set_option maxRecDepth 100000 in
set_option maxHeartbeats 2000000 in
theorem kind_3_tt (a b x y : Int) (w : World) (h : w.cell? ⟨0, 2, none⟩ = some (.string { data := #[109, 117, 108] }))
   (hxy : (x == y) = true)
   (D : ∀ w, Calls Tryd.prog 5 #[.int .i64 3, .int .i64 a, .int .i64 b] w fun e w' => e = .returned (.tuple #[.int .i64 x, .bool true]) ∧ w = w')
   (E : ∀ w, Calls Tryd.prog 5 #[.int .i64 3, .int .i64 b, .int .i64 a] w fun e w' => e = .returned (.tuple #[.int .i64 y, .bool true]) ∧ w = w') :
    Calls Tryd.prog 3 #[.int .i64 3, .int .i64 a, .int .i64 b] w fun e w' => e = .returned (.bool true) ∧ Grown w w' := by
  have HD := Lib.hid D; have HE := Lib.hid E; have HC := Lib.hid h; clear D E h
  go_enter Tryd.func3, Tryd.ntmps3
  dsimp only [List.append]
  go_wp2_with (fail)
  with_reducible refine (head_any _).mono ?_
  rintro e w' ⟨rfl, rfl⟩
  go_wp2_with (fail)
  with_reducible refine (HD.out _).mono ?_
  rintro e w' ⟨rfl, rfl⟩
  go_wp2_with (fail)
  with_reducible refine (HE.out _).mono ?_
  rintro e w' ⟨rfl, rfl⟩
  go_wp2_with (fail)
  with_reducible refine (known_3 _).mono ?_
  rintro e w' ⟨rfl, rfl⟩
  go_wp2_with (fail)
  with_reducible refine (string_3 _ (cell_on _ HC.out)).mono ?_
  rintro e w' ⟨rfl, rfl⟩
  go_wp2_with (fail)
  with_reducible refine (truth_3 _).mono ?_
  rintro e w' ⟨rfl, rfl⟩
  go_wp2_with (fail)
  with_reducible refine (divides_3 _).mono ?_
  rintro e w' ⟨rfl, rfl⟩
  go_wp2_with (fail)
  try any_goals (exfalso; exact undef_ne ‹_›)
  with_reducible refine (swaps_3 _).mono ?_
  rintro e w' ⟨rfl, rfl⟩
  go_wp2_with (fail)
  with_reducible refine (swaps_3 _).mono ?_
  rintro e w' ⟨rfl, rfl⟩
  by_cases hz : b = 0
  · have hb : (b != 0) = false := by simpa using hz
    clear hz
    go_wp2_with (fail)
    with_reducible refine (divides_3 _).mono ?_
    rintro e w' ⟨rfl, rfl⟩
    go_wp2_with (fail)
    go_ret
    exact ⟨rfl, by repeat (first | exact Grown.refl _ | apply Grown.drew | apply Grown.alloc)⟩
  · have hb : (b != 0) = true := by simpa using hz
    clear hz
    go_wp2_with (fail)
    try any_goals (exfalso; exact undef_ne ‹_›)
    go_ret
    exact ⟨rfl, by repeat (first | exact Grown.refl _ | apply Grown.drew | apply Grown.alloc)⟩
set_option maxRecDepth 100000 in
set_option maxHeartbeats 2000000 in
theorem kind_4_tt (a b x y : Int) (w : World) (h : w.cell? ⟨0, 3, none⟩ = some (.string { data := #[100, 105, 118] }))
   (hb : (b != 0) = true)
   (D : ∀ w, Calls Tryd.prog 5 #[.int .i64 4, .int .i64 a, .int .i64 b] w fun e w' => e = .returned (.tuple #[.int .i64 x, .bool true]) ∧ w = w')
   (E : ∀ w, Calls Tryd.prog 5 #[.int .i64 4, .int .i64 b, .int .i64 a] w fun e w' => e = .returned (.tuple #[.int .i64 y, .bool true]) ∧ w = w') :
    Calls Tryd.prog 3 #[.int .i64 4, .int .i64 a, .int .i64 b] w fun e w' => e = .returned (.bool true) ∧ Grown w w' := by
  have HD := Lib.hid D; have HE := Lib.hid E; have HC := Lib.hid h; clear D E h
  go_enter Tryd.func3, Tryd.ntmps3
  dsimp only [List.append]
  go_wp2_with (fail)
  with_reducible refine (head_any _).mono ?_
  rintro e w' ⟨rfl, rfl⟩
  go_wp2_with (fail)
  with_reducible refine (HD.out _).mono ?_
  rintro e w' ⟨rfl, rfl⟩
  go_wp2_with (fail)
  with_reducible refine (HE.out _).mono ?_
  rintro e w' ⟨rfl, rfl⟩
  go_wp2_with (fail)
  with_reducible refine (known_4 _).mono ?_
  rintro e w' ⟨rfl, rfl⟩
  go_wp2_with (fail)
  with_reducible refine (string_4 _ (cell_on _ HC.out)).mono ?_
  rintro e w' ⟨rfl, rfl⟩
  go_wp2_with (fail)
  with_reducible refine (truth_4 _).mono ?_
  rintro e w' ⟨rfl, rfl⟩
  go_wp2_with (fail)
  with_reducible refine (divides_4 _).mono ?_
  rintro e w' ⟨rfl, rfl⟩
  go_wp2_with (fail)
  try any_goals (exfalso; exact undef_ne ‹_›)
  with_reducible refine (swaps_4 _).mono ?_
  rintro e w' ⟨rfl, rfl⟩
  go_wp2_with (fail)
  with_reducible refine (swaps_4 _).mono ?_
  rintro e w' ⟨rfl, rfl⟩
  go_wp2_with (fail)
  go_ret
  exact ⟨rfl, by repeat (first | exact Grown.refl _ | apply Grown.drew | apply Grown.alloc)⟩
set_option maxRecDepth 100000 in
set_option maxHeartbeats 2000000 in
theorem kind_4_tf (a b x y : Int) (w : World) (h : w.cell? ⟨0, 3, none⟩ = some (.string { data := #[100, 105, 118] }))
   (hb : (b != 0) = true)
   (D : ∀ w, Calls Tryd.prog 5 #[.int .i64 4, .int .i64 a, .int .i64 b] w fun e w' => e = .returned (.tuple #[.int .i64 x, .bool true]) ∧ w = w')
   (E : ∀ w, Calls Tryd.prog 5 #[.int .i64 4, .int .i64 b, .int .i64 a] w fun e w' => e = .returned (.tuple #[.int .i64 y, .bool false]) ∧ w = w') :
    Calls Tryd.prog 3 #[.int .i64 4, .int .i64 a, .int .i64 b] w fun e w' => e = .returned (.bool true) ∧ Grown w w' := by
  have HD := Lib.hid D; have HE := Lib.hid E; have HC := Lib.hid h; clear D E h
  go_enter Tryd.func3, Tryd.ntmps3
  dsimp only [List.append]
  go_wp2_with (fail)
  with_reducible refine (head_any _).mono ?_
  rintro e w' ⟨rfl, rfl⟩
  go_wp2_with (fail)
  with_reducible refine (HD.out _).mono ?_
  rintro e w' ⟨rfl, rfl⟩
  go_wp2_with (fail)
  with_reducible refine (HE.out _).mono ?_
  rintro e w' ⟨rfl, rfl⟩
  go_wp2_with (fail)
  with_reducible refine (known_4 _).mono ?_
  rintro e w' ⟨rfl, rfl⟩
  go_wp2_with (fail)
  with_reducible refine (string_4 _ (cell_on _ HC.out)).mono ?_
  rintro e w' ⟨rfl, rfl⟩
  go_wp2_with (fail)
  with_reducible refine (truth_4 _).mono ?_
  rintro e w' ⟨rfl, rfl⟩
  go_wp2_with (fail)
  with_reducible refine (divides_4 _).mono ?_
  rintro e w' ⟨rfl, rfl⟩
  go_wp2_with (fail)
  try any_goals (exfalso; exact undef_ne ‹_›)
  with_reducible refine (swaps_4 _).mono ?_
  rintro e w' ⟨rfl, rfl⟩
  go_wp2_with (fail)
  with_reducible refine (swaps_4 _).mono ?_
  rintro e w' ⟨rfl, rfl⟩
  go_wp2_with (fail)
  go_ret
  exact ⟨rfl, by repeat (first | exact Grown.refl _ | apply Grown.drew | apply Grown.alloc)⟩
set_option maxRecDepth 100000 in
set_option maxHeartbeats 2000000 in
theorem kind_4_ft (a b x y : Int) (w : World) (h : w.cell? ⟨0, 3, none⟩ = some (.string { data := #[100, 105, 118] }))
   (hb : (b != 0) = false)
   (D : ∀ w, Calls Tryd.prog 5 #[.int .i64 4, .int .i64 a, .int .i64 b] w fun e w' => e = .returned (.tuple #[.int .i64 x, .bool false]) ∧ w = w')
   (E : ∀ w, Calls Tryd.prog 5 #[.int .i64 4, .int .i64 b, .int .i64 a] w fun e w' => e = .returned (.tuple #[.int .i64 y, .bool true]) ∧ w = w') :
    Calls Tryd.prog 3 #[.int .i64 4, .int .i64 a, .int .i64 b] w fun e w' => e = .returned (.bool true) ∧ Grown w w' := by
  have HD := Lib.hid D; have HE := Lib.hid E; have HC := Lib.hid h; clear D E h
  go_enter Tryd.func3, Tryd.ntmps3
  dsimp only [List.append]
  go_wp2_with (fail)
  with_reducible refine (head_any _).mono ?_
  rintro e w' ⟨rfl, rfl⟩
  go_wp2_with (fail)
  with_reducible refine (HD.out _).mono ?_
  rintro e w' ⟨rfl, rfl⟩
  go_wp2_with (fail)
  with_reducible refine (HE.out _).mono ?_
  rintro e w' ⟨rfl, rfl⟩
  go_wp2_with (fail)
  with_reducible refine (known_4 _).mono ?_
  rintro e w' ⟨rfl, rfl⟩
  go_wp2_with (fail)
  with_reducible refine (string_4 _ (cell_on _ HC.out)).mono ?_
  rintro e w' ⟨rfl, rfl⟩
  go_wp2_with (fail)
  with_reducible refine (truth_4 _).mono ?_
  rintro e w' ⟨rfl, rfl⟩
  go_wp2_with (fail)
  with_reducible refine (divides_4 _).mono ?_
  rintro e w' ⟨rfl, rfl⟩
  go_wp2_with (fail)
  try any_goals (exfalso; exact undef_ne ‹_›)
  with_reducible refine (swaps_4 _).mono ?_
  rintro e w' ⟨rfl, rfl⟩
  go_wp2_with (fail)
  with_reducible refine (swaps_4 _).mono ?_
  rintro e w' ⟨rfl, rfl⟩
  go_wp2_with (fail)
  with_reducible refine (divides_4 _).mono ?_
  rintro e w' ⟨rfl, rfl⟩
  go_wp2_with (fail)
  go_ret
  exact ⟨rfl, by repeat (first | exact Grown.refl _ | apply Grown.drew | apply Grown.alloc)⟩
set_option maxRecDepth 100000 in
set_option maxHeartbeats 2000000 in
theorem kind_4_ff (a b x y : Int) (w : World) (h : w.cell? ⟨0, 3, none⟩ = some (.string { data := #[100, 105, 118] }))
   (hb : (b != 0) = false)
   (D : ∀ w, Calls Tryd.prog 5 #[.int .i64 4, .int .i64 a, .int .i64 b] w fun e w' => e = .returned (.tuple #[.int .i64 x, .bool false]) ∧ w = w')
   (E : ∀ w, Calls Tryd.prog 5 #[.int .i64 4, .int .i64 b, .int .i64 a] w fun e w' => e = .returned (.tuple #[.int .i64 y, .bool false]) ∧ w = w') :
    Calls Tryd.prog 3 #[.int .i64 4, .int .i64 a, .int .i64 b] w fun e w' => e = .returned (.bool true) ∧ Grown w w' := by
  have HD := Lib.hid D; have HE := Lib.hid E; have HC := Lib.hid h; clear D E h
  go_enter Tryd.func3, Tryd.ntmps3
  dsimp only [List.append]
  go_wp2_with (fail)
  with_reducible refine (head_any _).mono ?_
  rintro e w' ⟨rfl, rfl⟩
  go_wp2_with (fail)
  with_reducible refine (HD.out _).mono ?_
  rintro e w' ⟨rfl, rfl⟩
  go_wp2_with (fail)
  with_reducible refine (HE.out _).mono ?_
  rintro e w' ⟨rfl, rfl⟩
  go_wp2_with (fail)
  with_reducible refine (known_4 _).mono ?_
  rintro e w' ⟨rfl, rfl⟩
  go_wp2_with (fail)
  with_reducible refine (string_4 _ (cell_on _ HC.out)).mono ?_
  rintro e w' ⟨rfl, rfl⟩
  go_wp2_with (fail)
  with_reducible refine (truth_4 _).mono ?_
  rintro e w' ⟨rfl, rfl⟩
  go_wp2_with (fail)
  with_reducible refine (divides_4 _).mono ?_
  rintro e w' ⟨rfl, rfl⟩
  go_wp2_with (fail)
  try any_goals (exfalso; exact undef_ne ‹_›)
  with_reducible refine (swaps_4 _).mono ?_
  rintro e w' ⟨rfl, rfl⟩
  go_wp2_with (fail)
  with_reducible refine (swaps_4 _).mono ?_
  rintro e w' ⟨rfl, rfl⟩
  go_wp2_with (fail)
  with_reducible refine (divides_4 _).mono ?_
  rintro e w' ⟨rfl, rfl⟩
  go_wp2_with (fail)
  go_ret
  exact ⟨rfl, by repeat (first | exact Grown.refl _ | apply Grown.drew | apply Grown.alloc)⟩
set_option maxRecDepth 100000 in
set_option maxHeartbeats 2000000 in
theorem kind_5_tt (a b x y : Int) (w : World) (h : w.cell? ⟨0, 4, none⟩ = some (.string { data := #[109, 111, 100] }))
   (hb : (b != 0) = true)
   (D : ∀ w, Calls Tryd.prog 5 #[.int .i64 5, .int .i64 a, .int .i64 b] w fun e w' => e = .returned (.tuple #[.int .i64 x, .bool true]) ∧ w = w')
   (E : ∀ w, Calls Tryd.prog 5 #[.int .i64 5, .int .i64 b, .int .i64 a] w fun e w' => e = .returned (.tuple #[.int .i64 y, .bool true]) ∧ w = w') :
    Calls Tryd.prog 3 #[.int .i64 5, .int .i64 a, .int .i64 b] w fun e w' => e = .returned (.bool true) ∧ Grown w w' := by
  have HD := Lib.hid D; have HE := Lib.hid E; have HC := Lib.hid h; clear D E h
  go_enter Tryd.func3, Tryd.ntmps3
  dsimp only [List.append]
  go_wp2_with (fail)
  with_reducible refine (head_any _).mono ?_
  rintro e w' ⟨rfl, rfl⟩
  go_wp2_with (fail)
  with_reducible refine (HD.out _).mono ?_
  rintro e w' ⟨rfl, rfl⟩
  go_wp2_with (fail)
  with_reducible refine (HE.out _).mono ?_
  rintro e w' ⟨rfl, rfl⟩
  go_wp2_with (fail)
  with_reducible refine (known_5 _).mono ?_
  rintro e w' ⟨rfl, rfl⟩
  go_wp2_with (fail)
  with_reducible refine (string_5 _ (cell_on _ HC.out)).mono ?_
  rintro e w' ⟨rfl, rfl⟩
  go_wp2_with (fail)
  with_reducible refine (truth_5 _).mono ?_
  rintro e w' ⟨rfl, rfl⟩
  go_wp2_with (fail)
  with_reducible refine (divides_5 _).mono ?_
  rintro e w' ⟨rfl, rfl⟩
  go_wp2_with (fail)
  try any_goals (exfalso; exact undef_ne ‹_›)
  with_reducible refine (swaps_5 _).mono ?_
  rintro e w' ⟨rfl, rfl⟩
  go_wp2_with (fail)
  with_reducible refine (swaps_5 _).mono ?_
  rintro e w' ⟨rfl, rfl⟩
  go_wp2_with (fail)
  go_ret
  exact ⟨rfl, by repeat (first | exact Grown.refl _ | apply Grown.drew | apply Grown.alloc)⟩
set_option maxRecDepth 100000 in
set_option maxHeartbeats 2000000 in
theorem kind_5_tf (a b x y : Int) (w : World) (h : w.cell? ⟨0, 4, none⟩ = some (.string { data := #[109, 111, 100] }))
   (hb : (b != 0) = true)
   (D : ∀ w, Calls Tryd.prog 5 #[.int .i64 5, .int .i64 a, .int .i64 b] w fun e w' => e = .returned (.tuple #[.int .i64 x, .bool true]) ∧ w = w')
   (E : ∀ w, Calls Tryd.prog 5 #[.int .i64 5, .int .i64 b, .int .i64 a] w fun e w' => e = .returned (.tuple #[.int .i64 y, .bool false]) ∧ w = w') :
    Calls Tryd.prog 3 #[.int .i64 5, .int .i64 a, .int .i64 b] w fun e w' => e = .returned (.bool true) ∧ Grown w w' := by
  have HD := Lib.hid D; have HE := Lib.hid E; have HC := Lib.hid h; clear D E h
  go_enter Tryd.func3, Tryd.ntmps3
  dsimp only [List.append]
  go_wp2_with (fail)
  with_reducible refine (head_any _).mono ?_
  rintro e w' ⟨rfl, rfl⟩
  go_wp2_with (fail)
  with_reducible refine (HD.out _).mono ?_
  rintro e w' ⟨rfl, rfl⟩
  go_wp2_with (fail)
  with_reducible refine (HE.out _).mono ?_
  rintro e w' ⟨rfl, rfl⟩
  go_wp2_with (fail)
  with_reducible refine (known_5 _).mono ?_
  rintro e w' ⟨rfl, rfl⟩
  go_wp2_with (fail)
  with_reducible refine (string_5 _ (cell_on _ HC.out)).mono ?_
  rintro e w' ⟨rfl, rfl⟩
  go_wp2_with (fail)
  with_reducible refine (truth_5 _).mono ?_
  rintro e w' ⟨rfl, rfl⟩
  go_wp2_with (fail)
  with_reducible refine (divides_5 _).mono ?_
  rintro e w' ⟨rfl, rfl⟩
  go_wp2_with (fail)
  try any_goals (exfalso; exact undef_ne ‹_›)
  with_reducible refine (swaps_5 _).mono ?_
  rintro e w' ⟨rfl, rfl⟩
  go_wp2_with (fail)
  with_reducible refine (swaps_5 _).mono ?_
  rintro e w' ⟨rfl, rfl⟩
  go_wp2_with (fail)
  go_ret
  exact ⟨rfl, by repeat (first | exact Grown.refl _ | apply Grown.drew | apply Grown.alloc)⟩
set_option maxRecDepth 100000 in
set_option maxHeartbeats 2000000 in
theorem kind_5_ft (a b x y : Int) (w : World) (h : w.cell? ⟨0, 4, none⟩ = some (.string { data := #[109, 111, 100] }))
   (hb : (b != 0) = false)
   (D : ∀ w, Calls Tryd.prog 5 #[.int .i64 5, .int .i64 a, .int .i64 b] w fun e w' => e = .returned (.tuple #[.int .i64 x, .bool false]) ∧ w = w')
   (E : ∀ w, Calls Tryd.prog 5 #[.int .i64 5, .int .i64 b, .int .i64 a] w fun e w' => e = .returned (.tuple #[.int .i64 y, .bool true]) ∧ w = w') :
    Calls Tryd.prog 3 #[.int .i64 5, .int .i64 a, .int .i64 b] w fun e w' => e = .returned (.bool true) ∧ Grown w w' := by
  have HD := Lib.hid D; have HE := Lib.hid E; have HC := Lib.hid h; clear D E h
  go_enter Tryd.func3, Tryd.ntmps3
  dsimp only [List.append]
  go_wp2_with (fail)
  with_reducible refine (head_any _).mono ?_
  rintro e w' ⟨rfl, rfl⟩
  go_wp2_with (fail)
  with_reducible refine (HD.out _).mono ?_
  rintro e w' ⟨rfl, rfl⟩
  go_wp2_with (fail)
  with_reducible refine (HE.out _).mono ?_
  rintro e w' ⟨rfl, rfl⟩
  go_wp2_with (fail)
  with_reducible refine (known_5 _).mono ?_
  rintro e w' ⟨rfl, rfl⟩
  go_wp2_with (fail)
  with_reducible refine (string_5 _ (cell_on _ HC.out)).mono ?_
  rintro e w' ⟨rfl, rfl⟩
  go_wp2_with (fail)
  with_reducible refine (truth_5 _).mono ?_
  rintro e w' ⟨rfl, rfl⟩
  go_wp2_with (fail)
  with_reducible refine (divides_5 _).mono ?_
  rintro e w' ⟨rfl, rfl⟩
  go_wp2_with (fail)
  try any_goals (exfalso; exact undef_ne ‹_›)
  with_reducible refine (swaps_5 _).mono ?_
  rintro e w' ⟨rfl, rfl⟩
  go_wp2_with (fail)
  with_reducible refine (swaps_5 _).mono ?_
  rintro e w' ⟨rfl, rfl⟩
  go_wp2_with (fail)
  with_reducible refine (divides_5 _).mono ?_
  rintro e w' ⟨rfl, rfl⟩
  go_wp2_with (fail)
  go_ret
  exact ⟨rfl, by repeat (first | exact Grown.refl _ | apply Grown.drew | apply Grown.alloc)⟩
set_option maxRecDepth 100000 in
set_option maxHeartbeats 2000000 in
theorem kind_5_ff (a b x y : Int) (w : World) (h : w.cell? ⟨0, 4, none⟩ = some (.string { data := #[109, 111, 100] }))
   (hb : (b != 0) = false)
   (D : ∀ w, Calls Tryd.prog 5 #[.int .i64 5, .int .i64 a, .int .i64 b] w fun e w' => e = .returned (.tuple #[.int .i64 x, .bool false]) ∧ w = w')
   (E : ∀ w, Calls Tryd.prog 5 #[.int .i64 5, .int .i64 b, .int .i64 a] w fun e w' => e = .returned (.tuple #[.int .i64 y, .bool false]) ∧ w = w') :
    Calls Tryd.prog 3 #[.int .i64 5, .int .i64 a, .int .i64 b] w fun e w' => e = .returned (.bool true) ∧ Grown w w' := by
  have HD := Lib.hid D; have HE := Lib.hid E; have HC := Lib.hid h; clear D E h
  go_enter Tryd.func3, Tryd.ntmps3
  dsimp only [List.append]
  go_wp2_with (fail)
  with_reducible refine (head_any _).mono ?_
  rintro e w' ⟨rfl, rfl⟩
  go_wp2_with (fail)
  with_reducible refine (HD.out _).mono ?_
  rintro e w' ⟨rfl, rfl⟩
  go_wp2_with (fail)
  with_reducible refine (HE.out _).mono ?_
  rintro e w' ⟨rfl, rfl⟩
  go_wp2_with (fail)
  with_reducible refine (known_5 _).mono ?_
  rintro e w' ⟨rfl, rfl⟩
  go_wp2_with (fail)
  with_reducible refine (string_5 _ (cell_on _ HC.out)).mono ?_
  rintro e w' ⟨rfl, rfl⟩
  go_wp2_with (fail)
  with_reducible refine (truth_5 _).mono ?_
  rintro e w' ⟨rfl, rfl⟩
  go_wp2_with (fail)
  with_reducible refine (divides_5 _).mono ?_
  rintro e w' ⟨rfl, rfl⟩
  go_wp2_with (fail)
  try any_goals (exfalso; exact undef_ne ‹_›)
  with_reducible refine (swaps_5 _).mono ?_
  rintro e w' ⟨rfl, rfl⟩
  go_wp2_with (fail)
  with_reducible refine (swaps_5 _).mono ?_
  rintro e w' ⟨rfl, rfl⟩
  go_wp2_with (fail)
  with_reducible refine (divides_5 _).mono ?_
  rintro e w' ⟨rfl, rfl⟩
  go_wp2_with (fail)
  go_ret
  exact ⟨rfl, by repeat (first | exact Grown.refl _ | apply Grown.drew | apply Grown.alloc)⟩
set_option maxRecDepth 100000 in
set_option maxHeartbeats 2000000 in
theorem kind_6_tt (a b x y : Int) (w : World) (h : w.cell? ⟨0, 5, none⟩ = some (.string { data := #[97, 110, 100] }))
   (hxy : (x == y) = true)
   (D : ∀ w, Calls Tryd.prog 5 #[.int .i64 6, .int .i64 a, .int .i64 b] w fun e w' => e = .returned (.tuple #[.int .i64 x, .bool true]) ∧ w = w')
   (E : ∀ w, Calls Tryd.prog 5 #[.int .i64 6, .int .i64 b, .int .i64 a] w fun e w' => e = .returned (.tuple #[.int .i64 y, .bool true]) ∧ w = w') :
    Calls Tryd.prog 3 #[.int .i64 6, .int .i64 a, .int .i64 b] w fun e w' => e = .returned (.bool true) ∧ Grown w w' := by
  have HD := Lib.hid D; have HE := Lib.hid E; have HC := Lib.hid h; clear D E h
  go_enter Tryd.func3, Tryd.ntmps3
  dsimp only [List.append]
  go_wp2_with (fail)
  with_reducible refine (head_any _).mono ?_
  rintro e w' ⟨rfl, rfl⟩
  go_wp2_with (fail)
  with_reducible refine (HD.out _).mono ?_
  rintro e w' ⟨rfl, rfl⟩
  go_wp2_with (fail)
  with_reducible refine (HE.out _).mono ?_
  rintro e w' ⟨rfl, rfl⟩
  go_wp2_with (fail)
  with_reducible refine (known_6 _).mono ?_
  rintro e w' ⟨rfl, rfl⟩
  go_wp2_with (fail)
  with_reducible refine (string_6 _ (cell_on _ HC.out)).mono ?_
  rintro e w' ⟨rfl, rfl⟩
  go_wp2_with (fail)
  with_reducible refine (truth_6 _).mono ?_
  rintro e w' ⟨rfl, rfl⟩
  go_wp2_with (fail)
  with_reducible refine (divides_6 _).mono ?_
  rintro e w' ⟨rfl, rfl⟩
  go_wp2_with (fail)
  try any_goals (exfalso; exact undef_ne ‹_›)
  with_reducible refine (swaps_6 _).mono ?_
  rintro e w' ⟨rfl, rfl⟩
  go_wp2_with (fail)
  with_reducible refine (swaps_6 _).mono ?_
  rintro e w' ⟨rfl, rfl⟩
  by_cases hz : b = 0
  · have hb : (b != 0) = false := by simpa using hz
    clear hz
    go_wp2_with (fail)
    with_reducible refine (divides_6 _).mono ?_
    rintro e w' ⟨rfl, rfl⟩
    go_wp2_with (fail)
    go_ret
    exact ⟨rfl, by repeat (first | exact Grown.refl _ | apply Grown.drew | apply Grown.alloc)⟩
  · have hb : (b != 0) = true := by simpa using hz
    clear hz
    go_wp2_with (fail)
    go_ret
    exact ⟨rfl, by repeat (first | exact Grown.refl _ | apply Grown.drew | apply Grown.alloc)⟩
set_option maxRecDepth 100000 in
set_option maxHeartbeats 2000000 in
theorem kind_7_tt (a b x y : Int) (w : World) (h : w.cell? ⟨0, 6, none⟩ = some (.string { data := #[111, 114] }))
   (hxy : (x == y) = true)
   (D : ∀ w, Calls Tryd.prog 5 #[.int .i64 7, .int .i64 a, .int .i64 b] w fun e w' => e = .returned (.tuple #[.int .i64 x, .bool true]) ∧ w = w')
   (E : ∀ w, Calls Tryd.prog 5 #[.int .i64 7, .int .i64 b, .int .i64 a] w fun e w' => e = .returned (.tuple #[.int .i64 y, .bool true]) ∧ w = w') :
    Calls Tryd.prog 3 #[.int .i64 7, .int .i64 a, .int .i64 b] w fun e w' => e = .returned (.bool true) ∧ Grown w w' := by
  have HD := Lib.hid D; have HE := Lib.hid E; have HC := Lib.hid h; clear D E h
  go_enter Tryd.func3, Tryd.ntmps3
  dsimp only [List.append]
  go_wp2_with (fail)
  with_reducible refine (head_any _).mono ?_
  rintro e w' ⟨rfl, rfl⟩
  go_wp2_with (fail)
  with_reducible refine (HD.out _).mono ?_
  rintro e w' ⟨rfl, rfl⟩
  go_wp2_with (fail)
  with_reducible refine (HE.out _).mono ?_
  rintro e w' ⟨rfl, rfl⟩
  go_wp2_with (fail)
  with_reducible refine (known_7 _).mono ?_
  rintro e w' ⟨rfl, rfl⟩
  go_wp2_with (fail)
  with_reducible refine (string_7 _ (cell_on _ HC.out)).mono ?_
  rintro e w' ⟨rfl, rfl⟩
  go_wp2_with (fail)
  with_reducible refine (truth_7 _).mono ?_
  rintro e w' ⟨rfl, rfl⟩
  go_wp2_with (fail)
  with_reducible refine (divides_7 _).mono ?_
  rintro e w' ⟨rfl, rfl⟩
  go_wp2_with (fail)
  try any_goals (exfalso; exact undef_ne ‹_›)
  with_reducible refine (swaps_7 _).mono ?_
  rintro e w' ⟨rfl, rfl⟩
  go_wp2_with (fail)
  with_reducible refine (swaps_7 _).mono ?_
  rintro e w' ⟨rfl, rfl⟩
  by_cases hz : b = 0
  · have hb : (b != 0) = false := by simpa using hz
    clear hz
    go_wp2_with (fail)
    with_reducible refine (divides_7 _).mono ?_
    rintro e w' ⟨rfl, rfl⟩
    go_wp2_with (fail)
    go_ret
    exact ⟨rfl, by repeat (first | exact Grown.refl _ | apply Grown.drew | apply Grown.alloc)⟩
  · have hb : (b != 0) = true := by simpa using hz
    clear hz
    go_wp2_with (fail)
    go_ret
    exact ⟨rfl, by repeat (first | exact Grown.refl _ | apply Grown.drew | apply Grown.alloc)⟩
set_option maxRecDepth 100000 in
set_option maxHeartbeats 2000000 in
theorem kind_8_tt (a b x y : Int) (w : World) (h : w.cell? ⟨0, 7, none⟩ = some (.string { data := #[120, 111, 114] }))
   (hxy : (x == y) = true)
   (D : ∀ w, Calls Tryd.prog 5 #[.int .i64 8, .int .i64 a, .int .i64 b] w fun e w' => e = .returned (.tuple #[.int .i64 x, .bool true]) ∧ w = w')
   (E : ∀ w, Calls Tryd.prog 5 #[.int .i64 8, .int .i64 b, .int .i64 a] w fun e w' => e = .returned (.tuple #[.int .i64 y, .bool true]) ∧ w = w') :
    Calls Tryd.prog 3 #[.int .i64 8, .int .i64 a, .int .i64 b] w fun e w' => e = .returned (.bool true) ∧ Grown w w' := by
  have HD := Lib.hid D; have HE := Lib.hid E; have HC := Lib.hid h; clear D E h
  go_enter Tryd.func3, Tryd.ntmps3
  dsimp only [List.append]
  go_wp2_with (fail)
  with_reducible refine (head_any _).mono ?_
  rintro e w' ⟨rfl, rfl⟩
  go_wp2_with (fail)
  with_reducible refine (HD.out _).mono ?_
  rintro e w' ⟨rfl, rfl⟩
  go_wp2_with (fail)
  with_reducible refine (HE.out _).mono ?_
  rintro e w' ⟨rfl, rfl⟩
  go_wp2_with (fail)
  with_reducible refine (known_8 _).mono ?_
  rintro e w' ⟨rfl, rfl⟩
  go_wp2_with (fail)
  with_reducible refine (string_8 _ (cell_on _ HC.out)).mono ?_
  rintro e w' ⟨rfl, rfl⟩
  go_wp2_with (fail)
  with_reducible refine (truth_8 _).mono ?_
  rintro e w' ⟨rfl, rfl⟩
  go_wp2_with (fail)
  with_reducible refine (divides_8 _).mono ?_
  rintro e w' ⟨rfl, rfl⟩
  go_wp2_with (fail)
  try any_goals (exfalso; exact undef_ne ‹_›)
  with_reducible refine (swaps_8 _).mono ?_
  rintro e w' ⟨rfl, rfl⟩
  go_wp2_with (fail)
  with_reducible refine (swaps_8 _).mono ?_
  rintro e w' ⟨rfl, rfl⟩
  by_cases hz : b = 0
  · have hb : (b != 0) = false := by simpa using hz
    clear hz
    go_wp2_with (fail)
    with_reducible refine (divides_8 _).mono ?_
    rintro e w' ⟨rfl, rfl⟩
    go_wp2_with (fail)
    go_ret
    exact ⟨rfl, by repeat (first | exact Grown.refl _ | apply Grown.drew | apply Grown.alloc)⟩
  · have hb : (b != 0) = true := by simpa using hz
    clear hz
    go_wp2_with (fail)
    go_ret
    exact ⟨rfl, by repeat (first | exact Grown.refl _ | apply Grown.drew | apply Grown.alloc)⟩
set_option maxRecDepth 100000 in
set_option maxHeartbeats 2000000 in
theorem kind_9_tt (a b x y : Int) (w : World) (h : w.cell? ⟨0, 8, none⟩ = some (.string { data := #[115, 104, 108] }))
   (D : ∀ w, Calls Tryd.prog 5 #[.int .i64 9, .int .i64 a, .int .i64 b] w fun e w' => e = .returned (.tuple #[.int .i64 x, .bool true]) ∧ w = w')
   (E : ∀ w, Calls Tryd.prog 5 #[.int .i64 9, .int .i64 b, .int .i64 a] w fun e w' => e = .returned (.tuple #[.int .i64 y, .bool true]) ∧ w = w') :
    Calls Tryd.prog 3 #[.int .i64 9, .int .i64 a, .int .i64 b] w fun e w' => e = .returned (.bool true) ∧ Grown w w' := by
  have HD := Lib.hid D; have HE := Lib.hid E; have HC := Lib.hid h; clear D E h
  go_enter Tryd.func3, Tryd.ntmps3
  dsimp only [List.append]
  go_wp2_with (fail)
  with_reducible refine (head_any _).mono ?_
  rintro e w' ⟨rfl, rfl⟩
  go_wp2_with (fail)
  with_reducible refine (HD.out _).mono ?_
  rintro e w' ⟨rfl, rfl⟩
  go_wp2_with (fail)
  with_reducible refine (HE.out _).mono ?_
  rintro e w' ⟨rfl, rfl⟩
  go_wp2_with (fail)
  with_reducible refine (known_9 _).mono ?_
  rintro e w' ⟨rfl, rfl⟩
  go_wp2_with (fail)
  with_reducible refine (string_9 _ (cell_on _ HC.out)).mono ?_
  rintro e w' ⟨rfl, rfl⟩
  go_wp2_with (fail)
  with_reducible refine (truth_9 _).mono ?_
  rintro e w' ⟨rfl, rfl⟩
  go_wp2_with (fail)
  with_reducible refine (divides_9 _).mono ?_
  rintro e w' ⟨rfl, rfl⟩
  go_wp2_with (fail)
  try any_goals (exfalso; exact undef_ne ‹_›)
  with_reducible refine (swaps_9 _).mono ?_
  rintro e w' ⟨rfl, rfl⟩
  go_wp2_with (fail)
  with_reducible refine (swaps_9 _).mono ?_
  rintro e w' ⟨rfl, rfl⟩
  by_cases hz : b = 0
  · have hb : (b != 0) = false := by simpa using hz
    clear hz
    go_wp2_with (fail)
    with_reducible refine (divides_9 _).mono ?_
    rintro e w' ⟨rfl, rfl⟩
    go_wp2_with (fail)
    go_ret
    exact ⟨rfl, by repeat (first | exact Grown.refl _ | apply Grown.drew | apply Grown.alloc)⟩
  · have hb : (b != 0) = true := by simpa using hz
    clear hz
    go_wp2_with (fail)
    go_ret
    exact ⟨rfl, by repeat (first | exact Grown.refl _ | apply Grown.drew | apply Grown.alloc)⟩
set_option maxRecDepth 100000 in
set_option maxHeartbeats 2000000 in
theorem kind_10_tt (a b x y : Int) (w : World) (h : w.cell? ⟨0, 9, none⟩ = some (.string { data := #[115, 104, 114] }))
   (D : ∀ w, Calls Tryd.prog 5 #[.int .i64 10, .int .i64 a, .int .i64 b] w fun e w' => e = .returned (.tuple #[.int .i64 x, .bool true]) ∧ w = w')
   (E : ∀ w, Calls Tryd.prog 5 #[.int .i64 10, .int .i64 b, .int .i64 a] w fun e w' => e = .returned (.tuple #[.int .i64 y, .bool true]) ∧ w = w') :
    Calls Tryd.prog 3 #[.int .i64 10, .int .i64 a, .int .i64 b] w fun e w' => e = .returned (.bool true) ∧ Grown w w' := by
  have HD := Lib.hid D; have HE := Lib.hid E; have HC := Lib.hid h; clear D E h
  go_enter Tryd.func3, Tryd.ntmps3
  dsimp only [List.append]
  go_wp2_with (fail)
  with_reducible refine (head_any _).mono ?_
  rintro e w' ⟨rfl, rfl⟩
  go_wp2_with (fail)
  with_reducible refine (HD.out _).mono ?_
  rintro e w' ⟨rfl, rfl⟩
  go_wp2_with (fail)
  with_reducible refine (HE.out _).mono ?_
  rintro e w' ⟨rfl, rfl⟩
  go_wp2_with (fail)
  with_reducible refine (known_10 _).mono ?_
  rintro e w' ⟨rfl, rfl⟩
  go_wp2_with (fail)
  with_reducible refine (string_10 _ (cell_on _ HC.out)).mono ?_
  rintro e w' ⟨rfl, rfl⟩
  go_wp2_with (fail)
  with_reducible refine (truth_10 _).mono ?_
  rintro e w' ⟨rfl, rfl⟩
  go_wp2_with (fail)
  with_reducible refine (divides_10 _).mono ?_
  rintro e w' ⟨rfl, rfl⟩
  go_wp2_with (fail)
  try any_goals (exfalso; exact undef_ne ‹_›)
  with_reducible refine (swaps_10 _).mono ?_
  rintro e w' ⟨rfl, rfl⟩
  go_wp2_with (fail)
  with_reducible refine (swaps_10 _).mono ?_
  rintro e w' ⟨rfl, rfl⟩
  by_cases hz : b = 0
  · have hb : (b != 0) = false := by simpa using hz
    clear hz
    go_wp2_with (fail)
    with_reducible refine (divides_10 _).mono ?_
    rintro e w' ⟨rfl, rfl⟩
    go_wp2_with (fail)
    go_ret
    exact ⟨rfl, by repeat (first | exact Grown.refl _ | apply Grown.drew | apply Grown.alloc)⟩
  · have hb : (b != 0) = true := by simpa using hz
    clear hz
    go_wp2_with (fail)
    go_ret
    exact ⟨rfl, by repeat (first | exact Grown.refl _ | apply Grown.drew | apply Grown.alloc)⟩
set_option maxRecDepth 100000 in
set_option maxHeartbeats 2000000 in
theorem kind_11_tt (a b x y : Int) (w : World) (h : w.cell? ⟨0, 10, none⟩ = some (.string { data := #[101, 113] }))
   (hxy : (x == y) = true)
   (D : ∀ w, Calls Tryd.prog 5 #[.int .i64 11, .int .i64 a, .int .i64 b] w fun e w' => e = .returned (.tuple #[.int .i64 x, .bool true]) ∧ w = w')
   (E : ∀ w, Calls Tryd.prog 5 #[.int .i64 11, .int .i64 b, .int .i64 a] w fun e w' => e = .returned (.tuple #[.int .i64 y, .bool true]) ∧ w = w') :
    Calls Tryd.prog 3 #[.int .i64 11, .int .i64 a, .int .i64 b] w fun e w' => e = .returned (.bool true) ∧ Grown w w' := by
  have HD := Lib.hid D; have HE := Lib.hid E; have HC := Lib.hid h; clear D E h
  go_enter Tryd.func3, Tryd.ntmps3
  dsimp only [List.append]
  go_wp2_with (fail)
  with_reducible refine (head_any _).mono ?_
  rintro e w' ⟨rfl, rfl⟩
  go_wp2_with (fail)
  with_reducible refine (HD.out _).mono ?_
  rintro e w' ⟨rfl, rfl⟩
  go_wp2_with (fail)
  with_reducible refine (HE.out _).mono ?_
  rintro e w' ⟨rfl, rfl⟩
  go_wp2_with (fail)
  with_reducible refine (known_11 _).mono ?_
  rintro e w' ⟨rfl, rfl⟩
  go_wp2_with (fail)
  with_reducible refine (string_11 _ (cell_on _ HC.out)).mono ?_
  rintro e w' ⟨rfl, rfl⟩
  go_wp2_with (fail)
  with_reducible refine (truth_11 _).mono ?_
  rintro e w' ⟨rfl, rfl⟩
  go_wp2_with (fail)
  with_reducible refine (divides_11 _).mono ?_
  rintro e w' ⟨rfl, rfl⟩
  go_wp2_with (fail)
  try any_goals (exfalso; exact undef_ne ‹_›)
  with_reducible refine (swaps_11 _).mono ?_
  rintro e w' ⟨rfl, rfl⟩
  go_wp2_with (fail)
  with_reducible refine (swaps_11 _).mono ?_
  rintro e w' ⟨rfl, rfl⟩
  by_cases hz : b = 0
  · have hb : (b != 0) = false := by simpa using hz
    clear hz
    go_wp2_with (fail)
    with_reducible refine (divides_11 _).mono ?_
    rintro e w' ⟨rfl, rfl⟩
    go_wp2_with (fail)
    go_ret
    exact ⟨rfl, by repeat (first | exact Grown.refl _ | apply Grown.drew | apply Grown.alloc)⟩
  · have hb : (b != 0) = true := by simpa using hz
    clear hz
    go_wp2_with (fail)
    go_ret
    exact ⟨rfl, by repeat (first | exact Grown.refl _ | apply Grown.drew | apply Grown.alloc)⟩
set_option maxRecDepth 100000 in
set_option maxHeartbeats 2000000 in
theorem kind_12_tt (a b x y : Int) (w : World) (h : w.cell? ⟨0, 11, none⟩ = some (.string { data := #[110, 101] }))
   (hxy : (x == y) = true)
   (D : ∀ w, Calls Tryd.prog 5 #[.int .i64 12, .int .i64 a, .int .i64 b] w fun e w' => e = .returned (.tuple #[.int .i64 x, .bool true]) ∧ w = w')
   (E : ∀ w, Calls Tryd.prog 5 #[.int .i64 12, .int .i64 b, .int .i64 a] w fun e w' => e = .returned (.tuple #[.int .i64 y, .bool true]) ∧ w = w') :
    Calls Tryd.prog 3 #[.int .i64 12, .int .i64 a, .int .i64 b] w fun e w' => e = .returned (.bool true) ∧ Grown w w' := by
  have HD := Lib.hid D; have HE := Lib.hid E; have HC := Lib.hid h; clear D E h
  go_enter Tryd.func3, Tryd.ntmps3
  dsimp only [List.append]
  go_wp2_with (fail)
  with_reducible refine (head_any _).mono ?_
  rintro e w' ⟨rfl, rfl⟩
  go_wp2_with (fail)
  with_reducible refine (HD.out _).mono ?_
  rintro e w' ⟨rfl, rfl⟩
  go_wp2_with (fail)
  with_reducible refine (HE.out _).mono ?_
  rintro e w' ⟨rfl, rfl⟩
  go_wp2_with (fail)
  with_reducible refine (known_12 _).mono ?_
  rintro e w' ⟨rfl, rfl⟩
  go_wp2_with (fail)
  with_reducible refine (string_12 _ (cell_on _ HC.out)).mono ?_
  rintro e w' ⟨rfl, rfl⟩
  go_wp2_with (fail)
  with_reducible refine (truth_12 _).mono ?_
  rintro e w' ⟨rfl, rfl⟩
  go_wp2_with (fail)
  with_reducible refine (divides_12 _).mono ?_
  rintro e w' ⟨rfl, rfl⟩
  go_wp2_with (fail)
  try any_goals (exfalso; exact undef_ne ‹_›)
  with_reducible refine (swaps_12 _).mono ?_
  rintro e w' ⟨rfl, rfl⟩
  go_wp2_with (fail)
  with_reducible refine (swaps_12 _).mono ?_
  rintro e w' ⟨rfl, rfl⟩
  by_cases hz : b = 0
  · have hb : (b != 0) = false := by simpa using hz
    clear hz
    go_wp2_with (fail)
    with_reducible refine (divides_12 _).mono ?_
    rintro e w' ⟨rfl, rfl⟩
    go_wp2_with (fail)
    go_ret
    exact ⟨rfl, by repeat (first | exact Grown.refl _ | apply Grown.drew | apply Grown.alloc)⟩
  · have hb : (b != 0) = true := by simpa using hz
    clear hz
    go_wp2_with (fail)
    go_ret
    exact ⟨rfl, by repeat (first | exact Grown.refl _ | apply Grown.drew | apply Grown.alloc)⟩
set_option maxRecDepth 100000 in
set_option maxHeartbeats 2000000 in
theorem kind_13_tt (a b x y : Int) (w : World) (h : w.cell? ⟨0, 12, none⟩ = some (.string { data := #[108, 116] }))
   (D : ∀ w, Calls Tryd.prog 5 #[.int .i64 13, .int .i64 a, .int .i64 b] w fun e w' => e = .returned (.tuple #[.int .i64 x, .bool true]) ∧ w = w')
   (E : ∀ w, Calls Tryd.prog 5 #[.int .i64 13, .int .i64 b, .int .i64 a] w fun e w' => e = .returned (.tuple #[.int .i64 y, .bool true]) ∧ w = w') :
    Calls Tryd.prog 3 #[.int .i64 13, .int .i64 a, .int .i64 b] w fun e w' => e = .returned (.bool true) ∧ Grown w w' := by
  have HD := Lib.hid D; have HE := Lib.hid E; have HC := Lib.hid h; clear D E h
  go_enter Tryd.func3, Tryd.ntmps3
  dsimp only [List.append]
  go_wp2_with (fail)
  with_reducible refine (head_any _).mono ?_
  rintro e w' ⟨rfl, rfl⟩
  go_wp2_with (fail)
  with_reducible refine (HD.out _).mono ?_
  rintro e w' ⟨rfl, rfl⟩
  go_wp2_with (fail)
  with_reducible refine (HE.out _).mono ?_
  rintro e w' ⟨rfl, rfl⟩
  go_wp2_with (fail)
  with_reducible refine (known_13 _).mono ?_
  rintro e w' ⟨rfl, rfl⟩
  go_wp2_with (fail)
  with_reducible refine (string_13 _ (cell_on _ HC.out)).mono ?_
  rintro e w' ⟨rfl, rfl⟩
  go_wp2_with (fail)
  with_reducible refine (truth_13 _).mono ?_
  rintro e w' ⟨rfl, rfl⟩
  go_wp2_with (fail)
  with_reducible refine (divides_13 _).mono ?_
  rintro e w' ⟨rfl, rfl⟩
  go_wp2_with (fail)
  try any_goals (exfalso; exact undef_ne ‹_›)
  with_reducible refine (swaps_13 _).mono ?_
  rintro e w' ⟨rfl, rfl⟩
  go_wp2_with (fail)
  with_reducible refine (swaps_13 _).mono ?_
  rintro e w' ⟨rfl, rfl⟩
  by_cases hz : b = 0
  · have hb : (b != 0) = false := by simpa using hz
    clear hz
    go_wp2_with (fail)
    with_reducible refine (divides_13 _).mono ?_
    rintro e w' ⟨rfl, rfl⟩
    go_wp2_with (fail)
    go_ret
    exact ⟨rfl, by repeat (first | exact Grown.refl _ | apply Grown.drew | apply Grown.alloc)⟩
  · have hb : (b != 0) = true := by simpa using hz
    clear hz
    go_wp2_with (fail)
    go_ret
    exact ⟨rfl, by repeat (first | exact Grown.refl _ | apply Grown.drew | apply Grown.alloc)⟩
set_option maxRecDepth 100000 in
set_option maxHeartbeats 2000000 in
theorem kind_14_tt (a b x y : Int) (w : World) (h : w.cell? ⟨0, 13, none⟩ = some (.string { data := #[108, 101] }))
   (D : ∀ w, Calls Tryd.prog 5 #[.int .i64 14, .int .i64 a, .int .i64 b] w fun e w' => e = .returned (.tuple #[.int .i64 x, .bool true]) ∧ w = w')
   (E : ∀ w, Calls Tryd.prog 5 #[.int .i64 14, .int .i64 b, .int .i64 a] w fun e w' => e = .returned (.tuple #[.int .i64 y, .bool true]) ∧ w = w') :
    Calls Tryd.prog 3 #[.int .i64 14, .int .i64 a, .int .i64 b] w fun e w' => e = .returned (.bool true) ∧ Grown w w' := by
  have HD := Lib.hid D; have HE := Lib.hid E; have HC := Lib.hid h; clear D E h
  go_enter Tryd.func3, Tryd.ntmps3
  dsimp only [List.append]
  go_wp2_with (fail)
  with_reducible refine (head_any _).mono ?_
  rintro e w' ⟨rfl, rfl⟩
  go_wp2_with (fail)
  with_reducible refine (HD.out _).mono ?_
  rintro e w' ⟨rfl, rfl⟩
  go_wp2_with (fail)
  with_reducible refine (HE.out _).mono ?_
  rintro e w' ⟨rfl, rfl⟩
  go_wp2_with (fail)
  with_reducible refine (known_14 _).mono ?_
  rintro e w' ⟨rfl, rfl⟩
  go_wp2_with (fail)
  with_reducible refine (string_14 _ (cell_on _ HC.out)).mono ?_
  rintro e w' ⟨rfl, rfl⟩
  go_wp2_with (fail)
  with_reducible refine (truth_14 _).mono ?_
  rintro e w' ⟨rfl, rfl⟩
  go_wp2_with (fail)
  with_reducible refine (divides_14 _).mono ?_
  rintro e w' ⟨rfl, rfl⟩
  go_wp2_with (fail)
  try any_goals (exfalso; exact undef_ne ‹_›)
  with_reducible refine (swaps_14 _).mono ?_
  rintro e w' ⟨rfl, rfl⟩
  go_wp2_with (fail)
  with_reducible refine (swaps_14 _).mono ?_
  rintro e w' ⟨rfl, rfl⟩
  by_cases hz : b = 0
  · have hb : (b != 0) = false := by simpa using hz
    clear hz
    go_wp2_with (fail)
    with_reducible refine (divides_14 _).mono ?_
    rintro e w' ⟨rfl, rfl⟩
    go_wp2_with (fail)
    go_ret
    exact ⟨rfl, by repeat (first | exact Grown.refl _ | apply Grown.drew | apply Grown.alloc)⟩
  · have hb : (b != 0) = true := by simpa using hz
    clear hz
    go_wp2_with (fail)
    go_ret
    exact ⟨rfl, by repeat (first | exact Grown.refl _ | apply Grown.drew | apply Grown.alloc)⟩
set_option maxRecDepth 100000 in
set_option maxHeartbeats 2000000 in
theorem kind_15_tt (a b x y : Int) (w : World) (h : w.cell? ⟨0, 14, none⟩ = some (.string { data := #[98, 101, 108, 111, 119] }))
   (D : ∀ w, Calls Tryd.prog 5 #[.int .i64 15, .int .i64 a, .int .i64 b] w fun e w' => e = .returned (.tuple #[.int .i64 x, .bool true]) ∧ w = w')
   (E : ∀ w, Calls Tryd.prog 5 #[.int .i64 15, .int .i64 b, .int .i64 a] w fun e w' => e = .returned (.tuple #[.int .i64 y, .bool true]) ∧ w = w') :
    Calls Tryd.prog 3 #[.int .i64 15, .int .i64 a, .int .i64 b] w fun e w' => e = .returned (.bool true) ∧ Grown w w' := by
  have HD := Lib.hid D; have HE := Lib.hid E; have HC := Lib.hid h; clear D E h
  go_enter Tryd.func3, Tryd.ntmps3
  dsimp only [List.append]
  go_wp2_with (fail)
  with_reducible refine (head_any _).mono ?_
  rintro e w' ⟨rfl, rfl⟩
  go_wp2_with (fail)
  with_reducible refine (HD.out _).mono ?_
  rintro e w' ⟨rfl, rfl⟩
  go_wp2_with (fail)
  with_reducible refine (HE.out _).mono ?_
  rintro e w' ⟨rfl, rfl⟩
  go_wp2_with (fail)
  with_reducible refine (known_15 _).mono ?_
  rintro e w' ⟨rfl, rfl⟩
  go_wp2_with (fail)
  with_reducible refine (string_15 _ (cell_on _ HC.out)).mono ?_
  rintro e w' ⟨rfl, rfl⟩
  go_wp2_with (fail)
  with_reducible refine (truth_15 _).mono ?_
  rintro e w' ⟨rfl, rfl⟩
  go_wp2_with (fail)
  with_reducible refine (divides_15 _).mono ?_
  rintro e w' ⟨rfl, rfl⟩
  go_wp2_with (fail)
  try any_goals (exfalso; exact undef_ne ‹_›)
  with_reducible refine (swaps_15 _).mono ?_
  rintro e w' ⟨rfl, rfl⟩
  go_wp2_with (fail)
  with_reducible refine (swaps_15 _).mono ?_
  rintro e w' ⟨rfl, rfl⟩
  by_cases hz : b = 0
  · have hb : (b != 0) = false := by simpa using hz
    clear hz
    go_wp2_with (fail)
    with_reducible refine (divides_15 _).mono ?_
    rintro e w' ⟨rfl, rfl⟩
    go_wp2_with (fail)
    go_ret
    exact ⟨rfl, by repeat (first | exact Grown.refl _ | apply Grown.drew | apply Grown.alloc)⟩
  · have hb : (b != 0) = true := by simpa using hz
    clear hz
    go_wp2_with (fail)
    go_ret
    exact ⟨rfl, by repeat (first | exact Grown.refl _ | apply Grown.drew | apply Grown.alloc)⟩
set_option maxRecDepth 100000 in
set_option maxHeartbeats 2000000 in
theorem kind_lo (o : Int) (ho : o < 1) (a b : Int) (w : World) :
    Calls Tryd.prog 3 #[.int .i64 o, .int .i64 a, .int .i64 b] w fun e w' => e = .returned (.bool true) ∧ Grown w w' := by
  have e1 : (o == 1) = false := by simp; omega
  have e3 : (o == 3) = false := by simp; omega
  have e4 : (o == 4) = false := by simp; omega
  have e5 : (o == 5) = false := by simp; omega
  have e6 : (o == 6) = false := by simp; omega
  have e7 : (o == 7) = false := by simp; omega
  have e8 : (o == 8) = false := by simp; omega
  have e11 : (o == 11) = false := by simp; omega
  have e12 : (o == 12) = false := by simp; omega
  have d6 : decide (6 ≤ o) = false := by simp; omega
  have d1 : decide (1 ≤ o) = false := by simp; omega
  have d11 : decide (11 ≤ o) = false := by simp; omega
  go_enter Tryd.func3, Tryd.ntmps3
  dsimp only [List.append]
  go_wp2_with (fail)
  with_reducible refine (head_any _).mono ?_
  rintro e w' ⟨rfl, rfl⟩
  go_wp2_with (fail)
  with_reducible refine (do_lo _ ho _ _ _).mono ?_
  rintro e w' ⟨rfl, rfl⟩
  go_wp2_with (fail)
  with_reducible refine (do_lo _ ho _ _ _).mono ?_
  rintro e w' ⟨rfl, rfl⟩
  go_wp2_with (fail)
  with_reducible refine (known_lo _ ho _).mono ?_
  rintro e w' ⟨rfl, rfl⟩
  go_wp2_with (fail)
  with_reducible refine (string_lo _ ho _).mono ?_
  rintro e w' ⟨rfl, rfl⟩
  go_wp2_with (fail)
  with_reducible refine (truth_lo _ ho _).mono ?_
  rintro e w' ⟨rfl, rfl⟩
  go_wp2_with (fail)
  with_reducible refine (divides_lo _ ho _).mono ?_
  rintro e w' ⟨rfl, rfl⟩
  go_wp2_with (fail)
  with_reducible refine (swaps_lo _ ho _).mono ?_
  rintro e w' ⟨rfl, rfl⟩
  go_wp2_with (fail)
  with_reducible refine (swaps_lo _ ho _).mono ?_
  rintro e w' ⟨rfl, rfl⟩
  go_wp2_with (fail)
  try any_goals (exfalso; exact undef_ne ‹_›)
  go_ret
  exact ⟨rfl, by repeat (first | exact Grown.refl _ | apply Grown.drew | apply Grown.alloc)⟩
set_option maxRecDepth 100000 in
set_option maxHeartbeats 2000000 in
theorem kind_hi (o : Int) (ho : 15 < o) (a b : Int) (w : World) :
    Calls Tryd.prog 3 #[.int .i64 o, .int .i64 a, .int .i64 b] w fun e w' => e = .returned (.bool true) ∧ Grown w w' := by
  have e1 : (o == 1) = false := by simp; omega
  have e3 : (o == 3) = false := by simp; omega
  have e4 : (o == 4) = false := by simp; omega
  have e5 : (o == 5) = false := by simp; omega
  have e6 : (o == 6) = false := by simp; omega
  have e7 : (o == 7) = false := by simp; omega
  have e8 : (o == 8) = false := by simp; omega
  have e11 : (o == 11) = false := by simp; omega
  have e12 : (o == 12) = false := by simp; omega
  have d1 : decide (1 ≤ o) = true := by simp; omega
  have d11 : decide (11 ≤ o) = true := by simp; omega
  have d15 : decide (o ≤ 15) = false := by simp; omega
  have d8 : decide (o ≤ 8) = false := by simp; omega
  have d6 : decide (6 ≤ o) = true := by simp; omega
  go_enter Tryd.func3, Tryd.ntmps3
  dsimp only [List.append]
  go_wp2_with (fail)
  with_reducible refine (head_any _).mono ?_
  rintro e w' ⟨rfl, rfl⟩
  go_wp2_with (fail)
  with_reducible refine (do_hi _ ho _ _ _).mono ?_
  rintro e w' ⟨rfl, rfl⟩
  go_wp2_with (fail)
  with_reducible refine (do_hi _ ho _ _ _).mono ?_
  rintro e w' ⟨rfl, rfl⟩
  go_wp2_with (fail)
  with_reducible refine (known_hi _ ho _).mono ?_
  rintro e w' ⟨rfl, rfl⟩
  go_wp2_with (fail)
  with_reducible refine (string_hi _ ho _).mono ?_
  rintro e w' ⟨rfl, rfl⟩
  go_wp2_with (fail)
  with_reducible refine (truth_hi _ ho _).mono ?_
  rintro e w' ⟨rfl, rfl⟩
  go_wp2_with (fail)
  with_reducible refine (divides_hi _ ho _).mono ?_
  rintro e w' ⟨rfl, rfl⟩
  go_wp2_with (fail)
  with_reducible refine (swaps_hi _ ho _).mono ?_
  rintro e w' ⟨rfl, rfl⟩
  go_wp2_with (fail)
  with_reducible refine (swaps_hi _ ho _).mono ?_
  rintro e w' ⟨rfl, rfl⟩
  go_wp2_with (fail)
  try any_goals (exfalso; exact undef_ne ‹_›)
  go_ret
  exact ⟨rfl, by repeat (first | exact Grown.refl _ | apply Grown.drew | apply Grown.alloc)⟩
end Go.Proofs.YtjpejdjiecfbnaaDoor.wordKinds
