/-
  RunWays: choices, loops, both and one of two.
-/
import Derived.Test.YtaomlahphlemdaaGreatDoorRunTr
import Derived.IntWalk
namespace Go.Proofs.YtaomlahphlemdaaGreatDoor
open Go.ChangeShapes Go.WideShapes Go.ChangeAt Go.RowKit
set_option linter.unusedVariables false

def waysT : List UInt8 := [112, 117, 98, 108, 105, 99, 32, 97, 59, 32, 112, 117, 98, 108, 105, 99, 32, 98, 59, 32, 112, 117, 98, 108, 105, 99, 32, 110, 59, 32, 118, 97, 114, 32, 99, 59, 32, 118, 97, 114, 32, 100, 59, 32, 102, 117, 110, 99, 32, 116, 40, 120, 41, 32, 123, 32, 99, 32, 61, 32, 99, 32, 43, 32, 120, 59, 32, 114, 101, 116, 117, 114, 110, 32, 99, 59, 32, 125, 32, 102, 117, 110, 99, 32, 109, 97, 105, 110, 40, 41, 32, 123, 32, 105, 102, 32, 97, 32, 61, 61, 32, 49, 32, 38, 38, 32, 116, 40, 49, 41, 32, 62, 32, 48, 32, 124, 124, 32, 98, 32, 61, 61, 32, 49, 32, 123, 32, 100, 32, 61, 32, 49, 48, 59, 32, 125, 32, 101, 108, 115, 101, 32, 123, 32, 100, 32, 61, 32, 50, 48, 59, 32, 125, 32, 108, 101, 116, 32, 105, 32, 61, 32, 48, 59, 32, 119, 104, 105, 108, 101, 32, 105, 32, 60, 32, 110, 32, 123, 32, 105, 32, 61, 32, 105, 32, 43, 32, 49, 59, 32, 105, 102, 32, 105, 32, 61, 61, 32, 55, 32, 123, 32, 114, 101, 116, 117, 114, 110, 32, 49, 48, 48, 32, 43, 32, 100, 32, 43, 32, 99, 59, 32, 125, 32, 125, 32, 114, 101, 116, 117, 114, 110, 32, 105, 32, 43, 32, 100, 32, 43, 32, 99, 59, 32, 125]
theorem waysT_fit : prFit (parseL waysT).1 = true := by kernel_rfl
theorem waysT_good : prGood (parseL waysT).1 = true := by kernel_rfl
theorem waysT_err : (parseL waysT).2 = (0, 0, 0) := by kernel_rfl
theorem waysT_ck : (ckProg (parseL waysT).1).err = 0 := by kernel_rfl
theorem waysT_n : (parseL waysT).1.globals.length = 5 := by kernel_rfl
def wayL (b : Bool) : Lk := ⟨1, boolI b, 0⟩
/-- What becomes known of the loop, from i on. -/
def lp : Nat → Nat → Nat → List Lk
  | 0, _, _ => []
  | k + 1, n, i => if i < n then wayL true :: (if i + 1 = 7 then [wayL true] else wayL false :: lp k n (i + 1)) else [wayL false]
def lv : Nat → Nat → Nat → Int → Int → Int
  | 0, _, _, _, _ => 0
  | k + 1, n, i, d, c => if i < n then (if i + 1 = 7 then 100 + d + c else lv k n (i + 1) d c) else (i : Int) + d + c
def waysLeaks (a b : Bool) (n : Nat) : List Lk := [wayL a, wayL a, wayL (a || b)] ++ lp 7 n 0
def waysVal (a b : Bool) (n : Nat) : Int := lv 7 n 0 (if a || b then 10 else 20) (boolI a)
def waysO : List Od := [⟨0, 0⟩, ⟨0, 0⟩, ⟨0, 0⟩, ⟨4, 3⟩, ⟨0, 0⟩, ⟨2, 0⟩, ⟨8, 1⟩, ⟨5, 3⟩, ⟨0, 0⟩, ⟨0, 0⟩, ⟨4, 3⟩, ⟨16, 0⟩, ⟨1, 0⟩, ⟨16, 0⟩, ⟨0, 0⟩, ⟨0, 0⟩, ⟨0, 0⟩, ⟨0, 0⟩, ⟨0, 0⟩, ⟨4, 0⟩, ⟨0, 0⟩, ⟨1, 1⟩, ⟨8, 11⟩, ⟨13, 32⟩, ⟨0, 0⟩, ⟨0, 0⟩, ⟨1, 0⟩, ⟨0, 0⟩, ⟨0, 0⟩, ⟨1, 1⟩, ⟨15, 0⟩, ⟨8, 13⟩, ⟨14, 39⟩, ⟨0, 0⟩, ⟨0, 0⟩, ⟨4, 1⟩, ⟨0, 0⟩, ⟨1, 1⟩, ⟨8, 11⟩, ⟨12, 45⟩, ⟨0, 0⟩, ⟨0, 0⟩, ⟨1, 10⟩, ⟨5, 4⟩, ⟨11, 49⟩, ⟨0, 0⟩, ⟨0, 0⟩, ⟨1, 20⟩, ⟨5, 4⟩, ⟨0, 0⟩, ⟨0, 0⟩, ⟨1, 0⟩, ⟨3, 0⟩, ⟨0, 0⟩, ⟨0, 0⟩, ⟨0, 0⟩, ⟨2, 0⟩, ⟨0, 0⟩, ⟨4, 2⟩, ⟨8, 13⟩, ⟨12, 91⟩, ⟨0, 0⟩, ⟨0, 0⟩, ⟨0, 0⟩, ⟨2, 0⟩, ⟨0, 0⟩, ⟨1, 1⟩, ⟨8, 1⟩, ⟨3, 0⟩, ⟨0, 0⟩, ⟨0, 0⟩, ⟨0, 0⟩, ⟨2, 0⟩, ⟨0, 0⟩, ⟨1, 7⟩, ⟨8, 11⟩, ⟨12, 90⟩, ⟨0, 0⟩, ⟨0, 0⟩, ⟨0, 0⟩, ⟨0, 0⟩, ⟨1, 100⟩, ⟨0, 0⟩, ⟨4, 4⟩, ⟨8, 1⟩, ⟨0, 0⟩, ⟨4, 3⟩, ⟨8, 1⟩, ⟨16, 0⟩, ⟨11, 90⟩, ⟨11, 54⟩, ⟨0, 0⟩, ⟨0, 0⟩, ⟨0, 0⟩, ⟨0, 0⟩, ⟨2, 0⟩, ⟨0, 0⟩, ⟨4, 4⟩, ⟨8, 1⟩, ⟨0, 0⟩, ⟨4, 3⟩, ⟨8, 1⟩, ⟨16, 0⟩, ⟨1, 0⟩, ⟨16, 0⟩]
def waysB : List Bo := [⟨0, 1, 1⟩, ⟨14, 0, 1⟩]
theorem waysT_o : (planOf (parseL waysT).1 (ckProg (parseL waysT).1).gm (ckProg (parseL waysT).1).fm).orders = waysO := by kernel_rfl
theorem waysT_b : (planOf (parseL waysT).1 (ckProg (parseL waysT).1).gm (ckProg (parseL waysT).1).fm).bodies = waysB := by kernel_rfl
theorem waysT_m : (look (ckProg (parseL waysT).1).fm mainL).getD 0 = 1 := by kernel_rfl
theorem waysT_g : (parseL waysT).1.globals = [⟨[97], 1, 0, 1, 8⟩, ⟨[98], 1, 0, 1, 18⟩, ⟨[110], 1, 0, 1, 28⟩, ⟨[99], 0, 0, 1, 35⟩, ⟨[100], 0, 0, 1, 42⟩] := by kernel_rfl
def waysS (a b : Bool) (n : Nat) : Rn := ⟨waysO, waysB, 14, [0], [(0, 0)], 4000, 0, 0, [], 0, 1, [[boolI a], [boolI b], [(n : Int)], [0], [0]], 0, false⟩
theorem ways_into (a b : Bool) (n : Nat) : (rn0 (parseL waysT).1 [[boolI a], [boolI b], [(n : Int)]] 4000).into ((look (ckProg (parseL waysT).1).fm mainL).getD 0) = some (waysS a b n) := by
  unfold rn0
  rw [waysT_o, waysT_b, waysT_m, waysT_g]
  rfl
def waysOk (a b : Bool) (n : Nat) : Bool := ranOk (goes 300 (waysS a b n)) (fun r => decide (r.fault = 0) && decide (r.trap = 0) && decide (r.val = waysVal a b n) && decide (r.leaks = waysLeaks a b n) && decide (r.deep = 1 + boolI a))
def wyAll (f : Nat → Bool) : Bool := (List.range 32).all f
theorem wyAll_of {f : Nat → Bool} (h : wyAll f = true) {n : Nat} (hn : n < 32) : f n = true := List.all_eq_true.1 h n (List.mem_range.2 hn)
set_option maxRecDepth 100000 in
theorem ways_tt : wyAll (fun n => waysOk true true n) = true := by kernel_rfl
set_option maxRecDepth 100000 in
theorem ways_tf : wyAll (fun n => waysOk true false n) = true := by kernel_rfl
set_option maxRecDepth 100000 in
theorem ways_ft : wyAll (fun n => waysOk false true n) = true := by kernel_rfl
set_option maxRecDepth 100000 in
theorem ways_ff : wyAll (fun n => waysOk false false n) = true := by kernel_rfl
theorem ways_run (a b : Bool) (n : Nat) (hn : n < 32) : ∃ rz, runL (parseL waysT).1 [[boolI a], [boolI b], [(n : Int)]] 4000 300 = some rz ∧ rz.fault = 0 ∧ rz.trap = 0 ∧ rz.val = waysVal a b n ∧ rz.leaks = waysLeaks a b n ∧ rz.deep = 1 + boolI a := by
  have hok : waysOk a b n = true := by
    cases a <;> cases b
    · exact wyAll_of ways_ff hn
    · exact wyAll_of ways_ft hn
    · exact wyAll_of ways_tf hn
    · exact wyAll_of ways_tt hn
  obtain ⟨rz, hr, hq⟩ := ran_of hok
  simp only [Bool.and_eq_true, decide_eq_true_eq] at hq
  obtain ⟨⟨⟨⟨q1, q2⟩, q3⟩, q4⟩, q5⟩ := hq
  exact ⟨rz, runL_of (ways_into a b n) hr, q1, q2, q3, q4, q5⟩
end Go.Proofs.YtaomlahphlemdaaGreatDoor
