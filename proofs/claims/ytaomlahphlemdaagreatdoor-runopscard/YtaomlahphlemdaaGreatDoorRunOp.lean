/-
  RunOps: an op of two inputs.
-/
import Derived.Test.YtaomlahphlemdaaGreatDoorRunTr
import Derived.IntWalk
namespace Go.Proofs.YtaomlahphlemdaaGreatDoor
open Go.ChangeShapes Go.WideShapes Go.ChangeAt Go.RowKit
set_option linter.unusedVariables false

theorem inI_wrap (x : Int) : inI (wrap64 x) = true := by unfold inI wrap64; simp only [Bool.and_eq_true, decide_eq_true_eq]; omega
theorem inI_mk {x : Int} (h : InI64 x) : inI x = true := by unfold inI; unfold InI64 at h; simp only [Bool.and_eq_true, decide_eq_true_eq]; exact h
theorem inI_bits (o : BinOp) (a b : Int) (h : o = .and ∨ o = .or ∨ o = .xor) : inI (bits o .i64 a b) = true := by
  rcases h with rfl | rfl | rfl
  · show inI (IntKind.i64.wrap ((BitVec.ofInt 64 a &&& BitVec.ofInt 64 b).toNat : Int)) = true
    rw [IntWalk.i64_left]; exact inI_wrap _
  · show inI (IntKind.i64.wrap ((BitVec.ofInt 64 a ||| BitVec.ofInt 64 b).toNat : Int)) = true
    rw [IntWalk.i64_left]; exact inI_wrap _
  · show inI (IntKind.i64.wrap ((BitVec.ofInt 64 a ^^^ BitVec.ofInt 64 b).toNat : Int)) = true
    rw [IntWalk.i64_left]; exact inI_wrap _
theorem inI_tmod {a b : Int} (ha : InI64 a) : inI (a.tmod b) = true := by
  obtain ⟨h1, h2⟩ := ha
  refine inI_mk ?_
  have key : ∀ x : Int, 0 ≤ x → 0 ≤ x.tmod b ∧ x.tmod b ≤ x := by
    intro x hx
    refine ⟨Int.tmod_nonneg _ hx, ?_⟩
    have := Int.natAbs_tmod x b
    have h3 := Nat.mod_le x.natAbs b.natAbs
    have h4 := Int.tmod_nonneg b hx
    omega
  by_cases h0 : 0 ≤ a
  · obtain ⟨k1, k2⟩ := key a h0
    exact ⟨by omega, by omega⟩
  · obtain ⟨k1, k2⟩ := key (-a) (by omega)
    rw [Int.neg_tmod] at k1 k2
    exact ⟨by omega, by omega⟩
theorem inI_shr {a : Int} (ha : InI64 a) (k : Nat) : inI (a / 2 ^ k) = true := by
  obtain ⟨h1, h2⟩ := ha
  refine inI_mk ?_
  have hp : (0 : Int) < 2 ^ k := Int.pow_pos (by decide)
  by_cases h0 : 0 ≤ a
  · have k1 := Int.ediv_nonneg h0 (Int.le_of_lt hp)
    have k2 := Int.ediv_le_self (2 ^ k) h0
    exact ⟨by omega, by omega⟩
  · have k1 : a ≤ a / 2 ^ k := by
      rw [Int.le_ediv_iff_mul_le hp]
      have := Int.mul_le_mul_of_nonpos_left (show a ≤ 0 by omega) (show (1 : Int) ≤ 2 ^ k by omega)
      omega
    have k2 : a / 2 ^ k < 0 := Int.ediv_neg_of_neg_of_pos (by omega) hp
    exact ⟨by omega, by omega⟩
theorem inI_doI {o a b : Int} (ho : 1 ≤ o ∧ o ≤ 10) (ha : InI64 a) : inI (doI o a b) = true := by
  have h : o = 1 ∨ o = 2 ∨ o = 3 ∨ o = 4 ∨ o = 5 ∨ o = 6 ∨ o = 7 ∨ o = 8 ∨ o = 9 ∨ o = 10 := by omega
  unfold doI
  rcases h with rfl | rfl | rfl | rfl | rfl | rfl | rfl | rfl | rfl | rfl
  · rw [if_pos rfl]
    exact inI_wrap _
  · rw [if_neg (by decide), if_pos rfl]
    exact inI_wrap _
  · rw [if_neg (by decide), if_neg (by decide), if_pos rfl]
    exact inI_wrap _
  · rw [if_neg (by decide), if_neg (by decide), if_neg (by decide), if_pos rfl]
    exact inI_wrap _
  · rw [if_neg (by decide), if_neg (by decide), if_neg (by decide), if_neg (by decide), if_pos rfl]
    exact inI_tmod ha
  · rw [if_neg (by decide), if_neg (by decide), if_neg (by decide), if_neg (by decide), if_neg (by decide), if_pos rfl]
    exact inI_bits _ _ _ (by simp)
  · rw [if_neg (by decide), if_neg (by decide), if_neg (by decide), if_neg (by decide), if_neg (by decide), if_neg (by decide), if_pos rfl]
    exact inI_bits _ _ _ (by simp)
  · rw [if_neg (by decide), if_neg (by decide), if_neg (by decide), if_neg (by decide), if_neg (by decide), if_neg (by decide), if_neg (by decide), if_pos rfl]
    exact inI_bits _ _ _ (by simp)
  · rw [if_neg (by decide), if_neg (by decide), if_neg (by decide), if_neg (by decide), if_neg (by decide), if_neg (by decide), if_neg (by decide), if_neg (by decide), if_pos rfl]
    exact inI_wrap _
  · rw [if_neg (by decide), if_neg (by decide), if_neg (by decide), if_neg (by decide), if_neg (by decide), if_neg (by decide), if_neg (by decide), if_neg (by decide), if_neg (by decide), if_pos rfl]
    exact inI_shr ha _
theorem does_both {r : Rn} {o : Int} (h : r.orders[r.next]? = some ⟨8, o⟩) : r.does = ({ r with next := r.next + 1 } : Rn).both o := by
  unfold Rn.does
  rw [h]
  rfl
def opO (o : Int) : List Od := [⟨0, 0⟩, ⟨0, 0⟩, ⟨0, 0⟩, ⟨4, 0⟩, ⟨0, 0⟩, ⟨4, 1⟩, ⟨8, o⟩, ⟨16, 0⟩, ⟨1, 0⟩, ⟨16, 0⟩]
/-- The runner of an op of two inputs, at its beginning. -/
def opS (o a b : Int) (next : Nat) (pile : List Int) (steps : Int) : Rn := ⟨opO o, [⟨0, 0, 0⟩], next, pile, [(0, 0)], 100, 0, 0, [], steps, 1, [[a], [b]], 0, false⟩
theorem op_to (o a b : Int) (ha : InI64 a) (hb : InI64 b) : Hop (opS o a b 0 [] 0) (opS o a b 6 [a, b] 4) := by
  have qa := inI_mk ha
  have qb := inI_mk hb
  have s1 : Hop (opS o a b 0 [] 0) (opS o a b 1 [] 1) := Hop.one rfl rfl rfl
  have s2 : Hop (opS o a b 1 [] 1) (opS o a b 2 [] 2) := Hop.one rfl rfl rfl
  have s3 : Hop (opS o a b 2 [] 2) (opS o a b 3 [] 3) := Hop.one rfl rfl rfl
  have s4 : Hop (opS o a b 3 [] 3) (opS o a b 4 [a] 3) := Hop.one rfl rfl rfl
  have s5 : Hop (opS o a b 4 [a] 3) (opS o a b 5 [a] 4) := Hop.one rfl (by simp [okR, opS, qa]) rfl
  have s6 : Hop (opS o a b 5 [a] 4) (opS o a b 6 [a, b] 4) := Hop.one rfl (by simp [okR, opS, qa]) rfl
  exact s1.trans (s2.trans (s3.trans (s4.trans (s5.trans s6))))
/-- What is left at the end: an op that doesn't divide. -/
def opZ (o a b v : Int) (leaks : List Lk) : Rn := ⟨opO o, [⟨0, 0, 0⟩], 0, [], [], 100, v, 0, leaks, 4, 1, [[a], [b]], 0, true⟩
theorem op_plain (o a b : Int) (ho : 1 ≤ o ∧ o ≤ 10) (hd : ¬ (o = 4 ∨ o = 5)) (ha : InI64 a) (hb : InI64 b) : ∃ k, goes k (opS o a b 0 [] 0) = some (opZ o a b (doI o a b) []) := by
  have qa := inI_mk ha
  have qb := inI_mk hb
  have qd := inI_doI (b := b) ho ha
  have d1 : (opS o a b 6 [a, b] 4).does = some (opS o a b 7 [doI o a b] 4) := by
    rw [does_both (o := o) rfl]
    unfold Rn.both
    show (if 1 ≤ o ∧ o ≤ 15 then _ else _) = _
    rw [if_pos (by omega), if_neg hd]
    rfl
  refine ((op_to o a b ha hb).trans (Hop.one rfl (by simp [okR, opS, qa, qb]) d1)).goes (n := 1) ?_
  rw [goes, if_neg (by simp [opS]), if_pos (by simp [okR, opS, qd])]
  rfl
theorem op_div (o a b : Int) (ho : o = 4 ∨ o = 5) (h0 : b ≠ 0) (ha : InI64 a) (hb : InI64 b) : ∃ k, goes k (opS o a b 0 [] 0) = some (opZ o a b (doI o a b) [⟨1, 1, 0⟩, ⟨3, a, b⟩]) := by
  have qa := inI_mk ha
  have qb := inI_mk hb
  have qd := inI_doI (o := o) (b := b) (by omega) ha
  have d1 : (opS o a b 6 [a, b] 4).does = some { opS o a b 7 [doI o a b] 4 with leaks := [⟨1, 1, 0⟩, ⟨3, a, b⟩] } := by
    rw [does_both (o := o) rfl]
    unfold Rn.both
    show (if 1 ≤ o ∧ o ≤ 15 then _ else _) = _
    rw [if_pos (by omega), if_pos ho]
    show (if b = 0 then _ else _) = _
    rw [if_neg h0]
    rfl
  refine ((op_to o a b ha hb).trans (Hop.one rfl (by simp [okR, opS, qa, qb]) d1)).goes (n := 1) ?_
  rw [goes, if_neg (by simp [opS]), if_pos (by simp [okR, opS, qd])]
  rfl
def opT (o a : Int) : Rn := ⟨opO o, [⟨0, 0, 0⟩], 7, [], [(0, 0)], 100, 0, 2, [⟨1, 0, 0⟩], 4, 1, [[a], [0]], 0, true⟩
theorem op_zero (o a : Int) (ho : o = 4 ∨ o = 5) (ha : InI64 a) : ∃ k, goes k (opS o a 0 0 [] 0) = some (opT o a) := by
  have qa := inI_mk ha
  have d1 : (opS o a 0 6 [a, 0] 4).does = some (opT o a) := by
    rw [does_both (o := o) rfl]
    unfold Rn.both
    show (if 1 ≤ o ∧ o ≤ 15 then _ else _) = _
    rw [if_pos (by omega), if_pos ho]
    rfl
  refine (op_to o a 0 ha ⟨by decide, by decide⟩).goes (n := 1) ?_
  rw [goes, if_neg (by simp [opS]), if_pos (by simp [okR, opS, qa]; rfl), d1]
  rfl
def opRaw (op : Int) : Int := wrap64 (IntKind.u64.wrap (1 + (IntKind.u64.wrap op).tmod 10))
theorem opRaw_in (op : Int) : 1 ≤ opRaw op ∧ opRaw op ≤ 10 := by
  unfold opRaw
  rw [IntKind.wrap_u64, IntKind.wrap_u64]
  have h : ∀ x : Int, (x % 18446744073709551616).tmod 10 = (x % 18446744073709551616) % 10 := fun x => Int.tmod_eq_emod_of_nonneg (by omega)
  rw [h]
  unfold wrap64
  omega
def exVar (x : List UInt8) : Ex := .mk 3 0 0 0 x 0 []
theorem num_any (s : ByteArray) (w : World) : Calls Tryz.prog 16 #[.string s] w fun e w' => e = .returned (.agg #[.int .i64 3, .int .i64 0, .int .i64 0, .int .i64 0, .string s, .int .i64 0, .slice none 0 0]) ∧ w' = w.alloc (.cells #[.int .i64 3, .int .i64 0, .int .i64 0, .int .i64 0, .string s, .int .i64 0, .slice none 0 0] 47) := by
  go_enter Tryz.func16, Tryz.ntmps16
  go_wp2_with (fail)
  have hb : (w.alloc (.cells #[.int .i64 3, .int .i64 0, .int .i64 0, .int .i64 0, .string s, .int .i64 0, .slice none 0 0] 47)).heap[w.heap.size]? = some (.cells #[.int .i64 3, .int .i64 0, .int .i64 0, .int .i64 0, .string s, .int .i64 0, .slice none 0 0] 47 (0, 0)) := alloc_at _ _ _ rfl
  have hx : ∀ j, (w.alloc (.cells #[.int .i64 3, .int .i64 0, .int .i64 0, .int .i64 0, .string s, .int .i64 0, .slice none 0 0] 47)).cell? ⟨w.heap.size, j, none⟩ = (#[.int .i64 3, .int .i64 0, .int .i64 0, .int .i64 0, .string s, .int .i64 0, .slice none 0 0] : Array Value)[j]? := fun j => Lib.cell_of_heap hb j
  generalize hW : (w.alloc (.cells #[.int .i64 3, .int .i64 0, .int .i64 0, .int .i64 0, .string s, .int .i64 0, .slice none 0 0] 47)) = W at *
  refine bodyPost_ret (v := .agg #[.int .i64 3, .int .i64 0, .int .i64 0, .int .i64 0, .string s, .int .i64 0, .slice none 0 0]) (by simp [results, Tryz.results16, go_sem, hx 0, hx 1, hx 2, hx 3, hx 4, hx 5, hx 6]) rfl ?_
  exact ⟨rfl, rfl⟩
def opsP (o : Int) : Pr := ⟨[⟨[97], 1, 0, 0, 0⟩, ⟨[98], 2, 0, 0, 0⟩], [⟨[109, 97, 105, 110], [], [.mk 6 0 0 [] [.mk 6 0 0 0 [] o [exVar [97], exVar [98]]] [] []], 0, 0⟩]⟩
/-- What RunOps lays ahead of Run. -/
def opsL (o a b : Int) (n : Nat) : List Obj :=
  [.cells #[.string ⟨#[97]⟩, .int .i64 1, .int .i64 0, .int .i64 0, .int .i64 0, .string ⟨#[98]⟩, .int .i64 2, .int .i64 0, .int .i64 0, .int .i64 0] 51,
   .cells #[.int .i64 3, .int .i64 0, .int .i64 0, .int .i64 0, .string ⟨#[97]⟩, .int .i64 0, .slice none 0 0] 47,
   .cells #[.int .i64 3, .int .i64 0, .int .i64 0, .int .i64 0, .string ⟨#[98]⟩, .int .i64 0, .slice none 0 0] 47,
   .cells #[.int .i64 3, .int .i64 0, .int .i64 0, .int .i64 0, .string ⟨#[97]⟩, .int .i64 0, .slice none 0 0, .int .i64 3, .int .i64 0, .int .i64 0, .int .i64 0, .string ⟨#[98]⟩, .int .i64 0, .slice none 0 0] 47,
   .cells #[.int .i64 6, .int .i64 0, .int .i64 0, .int .i64 0, .string ⟨#[]⟩, .int .i64 o, .slice (some ⟨n + 3, 0, none⟩) 2 2] 47,
   .cells #[.int .i64 6, .int .i64 0, .int .i64 0, .string ⟨#[]⟩, .slice (some ⟨n + 4, 0, none⟩) 1 1, .slice none 0 0, .slice none 0 0] 55,
   .cells #[.string ⟨#[109, 97, 105, 110]⟩, .slice none 0 0, .slice (some ⟨n + 5, 0, none⟩) 1 1, .int .i64 0, .int .i64 0] 58,
   .cells #[.slice (some ⟨n, 0, none⟩) 2 2, .slice (some ⟨n + 6, 0, none⟩) 1 1] 25,
   .cells #[.int .i64 a] 2,
   .cells #[.int .i64 b] 2,
   .cells #[.slice (some ⟨n + 8, 0, none⟩) 1 1, .slice (some ⟨n + 9, 0, none⟩) 1 1] 59]
theorem opsP_at (o a b : Int) (ho : InI64 o) (w : World) : (opsP o).At ((opsL o a b w.heap.size).foldl World.alloc w) (· < ((opsL o a b w.heap.size).foldl World.alloc w).heap.size) #[.slice (some ⟨w.heap.size, 0, none⟩) 2 2, .slice (some ⟨w.heap.size + 6, 0, none⟩) 1 1] := by
  have h := laid_at (opsL o a b w.heap.size) w
  generalize (opsL o a b w.heap.size).foldl World.alloc w = W at *
  have h0 := h 0 _ rfl; have h3 := h 3 _ rfl; have h4 := h 4 _ rfl; have h5 := h 5 _ rfl; have h6 := h 6 _ rfl
  have lt : ∀ {q : Nat} {x : Obj}, W.heap[q]? = some x → q < W.heap.size := fun hq => (Array.getElem?_eq_some_iff.1 hq).1
  have z : InI64 0 := ⟨by decide, by decide⟩
  refine ⟨_, _, rfl, gls_lay h0 (lt h0) (by simp [opsP]) (by simp [opsP]) ?_, fns_lay h6 (lt h6) ⟨_, _, rfl, .inl ⟨rfl, none, 0, rfl⟩, body_sole h5 (lt h5) (sm_at (kids_sole h4 (lt h4) (at_kids 6 0 0 0 [] o z ho
    (kids_pair (ca := cells7 3 0 0 0 [97] 0 (.slice none 0 0)) (cb := cells7 3 0 0 0 [98] 0 (.slice none 0 0)) h3 rfl (lt h3) (ex_leaf 3 [97] 0 z) (ex_leaf 3 [98] 0 z)))) (.inl ⟨rfl, none, 0, rfl⟩) (.inl ⟨rfl, none, 0, rfl⟩))⟩⟩
  intro j x hj i hi
  have hj2 : j = 0 ∨ j = 1 := by have := (List.getElem?_eq_some_iff.1 hj).1; simp [opsP] at this; omega
  rcases hj2 with rfl | rfl
  · obtain rfl : (⟨[97], 1, 0, 0, 0⟩ : Gl) = x := by simpa [opsP] using hj
    have hi2 : i = 0 ∨ i = 1 ∨ i = 2 ∨ i = 3 ∨ i = 4 := by omega
    rcases hi2 with rfl | rfl | rfl | rfl | rfl <;> rfl
  · obtain rfl : (⟨[98], 2, 0, 0, 0⟩ : Gl) = x := by simpa [opsP] using hj
    have hi2 : i = 0 ∨ i = 1 ∨ i = 2 ∨ i = 3 ∨ i = 4 := by omega
    rcases hi2 with rfl | rfl | rfl | rfl | rfl <;> rfl
theorem opsP_in (o a b : Int) (w : World) : InsAt ((opsL o a b w.heap.size).foldl World.alloc w) (· < ((opsL o a b w.heap.size).foldl World.alloc w).heap.size) [[a], [b]] (.slice (some ⟨w.heap.size + 10, 0, none⟩) 2 2) := by
  have h := laid_at (opsL o a b w.heap.size) w
  generalize (opsL o a b w.heap.size).foldl World.alloc w = W at *
  have h8 := h 8 _ rfl; have h9 := h 9 _ rfl; have h10 := h 10 _ rfl
  refine insAt_rows (ins := [[a], [b]]) [w.heap.size + 8, w.heap.size + 9] rfl (by simp) h10 (fun i x ws h1 h2 => ?_)
  have hi2 : i = 0 ∨ i = 1 := by have := (List.getElem?_eq_some_iff.1 h2).1; simp at this; omega
  rcases hi2 with rfl | rfl
  · obtain rfl : w.heap.size + 8 = x := by simpa using h1
    obtain rfl : [a] = ws := by simpa using h2
    exact ⟨h8, by simp⟩
  · obtain rfl : w.heap.size + 9 = x := by simpa using h1
    obtain rfl : [b] = ws := by simpa using h2
    exact ⟨h9, by simp⟩
def opsAll (f : Int → Bool) : Bool := f 1 && f 2 && f 3 && f 4 && f 5 && f 6 && f 7 && f 8 && f 9 && f 10
theorem opsAll_of {f : Int → Bool} (h : opsAll f = true) {o : Int} (ho : 1 ≤ o ∧ o ≤ 10) : f o = true := by
  unfold opsAll at h
  simp only [Bool.and_eq_true] at h
  obtain ⟨⟨⟨⟨⟨⟨⟨⟨⟨h1, h2⟩, h3⟩, h4⟩, h5⟩, h6⟩, h7⟩, h8⟩, h9⟩, h10⟩ := h
  have : o = 1 ∨ o = 2 ∨ o = 3 ∨ o = 4 ∨ o = 5 ∨ o = 6 ∨ o = 7 ∨ o = 8 ∨ o = 9 ∨ o = 10 := by omega
  rcases this with rfl | rfl | rfl | rfl | rfl | rfl | rfl | rfl | rfl | rfl <;> assumption
theorem opsP_fit : opsAll (fun o => prFit (opsP o)) = true := by kernel_rfl
theorem opsP_good : opsAll (fun o => prGood (opsP o)) = true := by kernel_rfl
theorem opsP_ck : opsAll (fun o => decide ((ckProg (opsP o)).err = 0)) = true := by kernel_rfl
theorem opsP_m : opsAll (fun o => decide ((look (ckProg (opsP o)).fm mainL).getD 0 = 0)) = true := by kernel_rfl
theorem opsP_o (o : Int) (ho : 1 ≤ o ∧ o ≤ 10) : (planOf (opsP o) (ckProg (opsP o)).gm (ckProg (opsP o)).fm).orders = opO o ∧ (planOf (opsP o) (ckProg (opsP o)).gm (ckProg (opsP o)).fm).bodies = [⟨0, 0, 0⟩] := by
  have : o = 1 ∨ o = 2 ∨ o = 3 ∨ o = 4 ∨ o = 5 ∨ o = 6 ∨ o = 7 ∨ o = 8 ∨ o = 9 ∨ o = 10 := by omega
  rcases this with rfl | rfl | rfl | rfl | rfl | rfl | rfl | rfl | rfl | rfl <;> exact ⟨by kernel_rfl, by kernel_rfl⟩
theorem ops_into (o a b : Int) (ho : 1 ≤ o ∧ o ≤ 10) : (rn0 (opsP o) [[a], [b]] 100).into ((look (ckProg (opsP o)).fm mainL).getD 0) = some (opS o a b 0 [] 0) := by
  obtain ⟨h1, h2⟩ := opsP_o o ho
  have hm := of_decide_eq_true (opsAll_of opsP_m ho)
  unfold rn0
  rw [h1, h2, hm]
  rfl
theorem ops_run {o a b : Int} (ho : 1 ≤ o ∧ o ≤ 10) {z : Rn} (h : ∃ k, goes k (opS o a b 0 [] 0) = some z) : ∃ k, runL (opsP o) [[a], [b]] 100 k = some z := by
  obtain ⟨k, hk⟩ := h
  refine ⟨k, ?_⟩
  unfold runL
  rw [ops_into o a b ho]
  exact hk
set_option maxHeartbeats 4000000 in
set_option maxRecDepth 100000 in
theorem ops_core (op a b : Int) (ha : InI64 a) (hb : InI64 b) (w : World) (hg : Ground w) :
    Calls Tryz.prog 4 #[.int .i64 op, .int .i64 a, .int .i64 b] w fun e w' => e = .returned (.bool true) ∧ Below w.heap.size w w' := by
  have HO := Lib.hid (opRaw_in op); have HA := Lib.hid ha; have HB := Lib.hid hb
  have HX := Lib.hid (show wrap64 (IntKind.u64.wrap (1 + (IntKind.u64.wrap op).tmod 10)) = opRaw op from rfl)
  have HG := Lib.hid hg
  clear hg ha hb
  go_enter Tryz.func4, Tryz.ntmps4
  go_wp2_with (fail)
  refine (head6_any _ HG.out).mono ?_
  rintro e w0 ⟨rfl, hg0⟩
  have HG0 := Lib.hid hg0
  clear hg0
  go_wp2_with (go_at_call 16; refine (num_any _ _).mono ?_; rintro e w' ⟨rfl, rfl⟩)
  rw [HX.out]
  generalize opRaw op = o at *
  clear HX
  have hoi : InI64 o := ⟨by have := HO.out; omega, by have := HO.out; omega⟩
  have HAT := Lib.hid (opsP_at o a b hoi w0); have HIN := Lib.hid (opsP_in o a b w0); have HGL := Lib.hid (laid_grown (opsL o a b w0.heap.size) w0)
  clear hoi
  change Calls Tryz.prog 13 #[.agg #[.slice (some ⟨w0.heap.size, 0, none⟩) 2 2, .slice (some ⟨w0.heap.size + 6, 0, none⟩) 1 1], .slice (some ⟨w0.heap.size + 10, 0, none⟩) 2 2, .int .i64 100] ((opsL o a b w0.heap.size).foldl World.alloc w0) _
  generalize (opsL o a b w0.heap.size).foldl World.alloc w0 = W2 at *
  have HG2 := Lib.hid (grown_trans HG0.out HGL.out)
  clear HGL
  have HFIT := Lib.hid (opsAll_of opsP_fit HO.out); have HGD := Lib.hid (opsAll_of opsP_good HO.out); have HCK := Lib.hid (of_decide_eq_true (opsAll_of opsP_ck HO.out))
  have hcase : ¬ (o = 4 ∨ o = 5) ∨ ((o = 4 ∨ o = 5) ∧ b ≠ 0) ∨ ((o = 4 ∨ o = 5) ∧ b = 0) := by omega
  rcases hcase with hd | ⟨hd, hb0⟩ | ⟨hd, rfl⟩
  · obtain ⟨k, hk⟩ := ops_run (a := a) (b := b) HO.out (op_plain o a b HO.out hd HA.out HB.out)
    refine (run_good HFIT.out HGD.out HCK.out (by simp [opsP]) HAT.out [[a], [b]] _ HIN.out 100 k _ hk).mono ?_
    rintro e w3 ⟨hg3, hr3⟩
    rcases hr3 with ⟨h, _⟩ | ⟨_, rs, rfl, hrs⟩
    · exact absurd rfl h
    obtain ⟨⟨lv, mg, gs, rfl, hlv, hm⟩⟩ := hrs
    obtain ⟨la, lcap, rfl, _⟩ := own_slice hlv
    have HG3 := Lib.hid (grown_trans HG2.out hg3)
    clear hg3 hm hlv hk
    dsimp only [opZ, List.length_nil]
    have HDO := Lib.hid (fun w => do_run o a b (by have := HO.out; omega) (by have := HO.out; omega) (fun h => absurd h hd) w)
    have HDV := Lib.hid (fun w => divides_run o (by have := HO.out; omega) (by have := HO.out; omega) w)
    have hdf : decide (o = 4 ∨ o = 5) = false := by simpa using hd
    rw [hdf] at HDV
    generalize doI o a b = v at *
    have q1 : (v != v) = false := by simp
    have q2 : (v == v) = true := by simp
    clear hd hdf
    go_wp2_with (first | (go_at_call 17; refine (HDO.out _).mono ?_; rintro e w' ⟨rfl, rfl⟩) | (go_at_call 18; refine (HDV.out _).mono ?_; rintro e w' ⟨rfl, rfl⟩))
    go_ret
    exact ⟨rfl, below_grown (grown_trans HG3.out (grown_alloc _ _)) (Nat.le_refl _)⟩
  · obtain ⟨k, hk⟩ := ops_run (a := a) (b := b) HO.out (op_div o a b hd hb0 HA.out HB.out)
    refine (run_good HFIT.out HGD.out HCK.out (by simp [opsP]) HAT.out [[a], [b]] _ HIN.out 100 k _ hk).mono ?_
    rintro e w3 ⟨hg3, hr3⟩
    rcases hr3 with ⟨h, _⟩ | ⟨_, rs, rfl, hrs⟩
    · exact absurd rfl h
    obtain ⟨⟨lv, mg, gs, rfl, hlv, hm⟩⟩ := hrs
    have HL := Lib.hid (lksAt_own hlv)
    obtain ⟨la, lcap, rfl, _⟩ := own_slice hlv
    have HG3 := Lib.hid (grown_trans HG2.out hg3)
    clear hg3 hm hlv hk
    dsimp only [opZ, List.length_nil, List.length_cons] at HL ⊢
    have HDO := Lib.hid (fun w => do_run o a b (by have := HO.out; omega) (by have := HO.out; omega) (fun _ => hb0) w)
    have HDV := Lib.hid (fun w => divides_run o (by have := HO.out; omega) (by have := HO.out; omega) w)
    have hdf : decide (o = 4 ∨ o = 5) = true := by simpa using hd
    rw [hdf] at HDV
    generalize doI o a b = v at *
    have q1 : (v != v) = false := by simp
    have q2 : (v == v) = true := by simp
    clear hd hdf
    go_wp2_with (first | (go_at_call 17; refine (HDO.out _).mono ?_; rintro e w' ⟨rfl, rfl⟩) | (go_at_call 18; refine (HDV.out _).mono ?_; rintro e w' ⟨rfl, rfl⟩))
    have hg4 := grown_alloc w3 (.cells #[.int .i64 v, .int .i64 0, .slice la 2 lcap, .int .i64 4, .int .i64 1, .slice (some ⟨mg, 0, none⟩) gs.length gs.length] 33)
    have hz4 : (w3.alloc (.cells #[.int .i64 v, .int .i64 0, .slice la 2 lcap, .int .i64 4, .int .i64 1, .slice (some ⟨mg, 0, none⟩) gs.length gs.length] 33)).heap.size = w3.heap.size + 1 := by simp
    generalize w3.alloc (.cells #[.int .i64 v, .int .i64 0, .slice la 2 lcap, .int .i64 4, .int .i64 1, .slice (some ⟨mg, 0, none⟩) gs.length gs.length] 33) = W4 at *
    have hl1 := (HL.out.keep hg4).keep (grown_alloc W4 (.cells #[.int .i64 1, .int .i64 1, .int .i64 0, .int .i64 3, .int .i64 a, .int .i64 b] 64))
    have hl2 : LksAt (W4.alloc (.cells #[.int .i64 1, .int .i64 1, .int .i64 0, .int .i64 3, .int .i64 a, .int .i64 b] 64)) [⟨1, 1, 0⟩, ⟨3, a, b⟩] (.slice (some ⟨w3.heap.size + 1, 0, none⟩) 2 2) := lksAt_cells (alloc_at _ _ _ hz4.symm) rfl (Nat.le_refl _)
    refine (same_yes hl1 hl2 (by simp)).mono ?_
    rintro e w5 ⟨rfl, hg5⟩
    have HG5 := Lib.hid (grown_trans (grown_trans (grown_trans HG3.out hg4) (grown_alloc _ _)) hg5)
    clear hg4 hz4 hl1 hl2 hg5
    go_wp2_with (fail)
    go_ret
    exact ⟨rfl, below_grown HG5.out (Nat.le_refl _)⟩
  · obtain ⟨k, hk⟩ := ops_run (a := a) (b := 0) HO.out (op_zero o a hd HA.out)
    refine (run_good HFIT.out HGD.out HCK.out (by simp [opsP]) HAT.out [[a], [0]] _ HIN.out 100 k _ hk).mono ?_
    rintro e w3 ⟨hg3, hr3⟩
    rcases hr3 with ⟨h, _⟩ | ⟨_, rs, rfl, hrs⟩
    · exact absurd rfl h
    obtain ⟨⟨lv, mg, gs, rfl, hlv, hm⟩⟩ := hrs
    have HL := Lib.hid (lksAt_own hlv)
    obtain ⟨la, lcap, rfl, _⟩ := own_slice hlv
    have HG3 := Lib.hid (grown_trans HG2.out hg3)
    clear hg3 hm hlv hk
    dsimp only [opT, List.length_nil, List.length_cons] at HL ⊢
    have HDO : Hid (∀ w, Calls Tryz.prog 17 #[.int .i64 o, .int .i64 a, .int .i64 0] w fun e w' => e = .returned (.tuple #[.int .i64 0, .bool false]) ∧ w = w') := Lib.hid (fun w => by
      rcases hd with rfl | rfl
      · exact do_div_zero a w
      · exact do_mod_zero a w)
    have HDV := Lib.hid (fun w => divides_run o (by have := HO.out; omega) (by have := HO.out; omega) w)
    have hdf : decide (o = 4 ∨ o = 5) = true := by simpa using hd
    rw [hdf] at HDV
    clear hd hdf
    go_wp2_with (first | (go_at_call 17; refine (HDO.out _).mono ?_; rintro e w' ⟨rfl, rfl⟩) | (go_at_call 18; refine (HDV.out _).mono ?_; rintro e w' ⟨rfl, rfl⟩))
    have hg4 := grown_alloc w3 (.cells #[.int .i64 0, .int .i64 2, .slice la 1 lcap, .int .i64 4, .int .i64 1, .slice (some ⟨mg, 0, none⟩) gs.length gs.length] 33)
    have hz4 : (w3.alloc (.cells #[.int .i64 0, .int .i64 2, .slice la 1 lcap, .int .i64 4, .int .i64 1, .slice (some ⟨mg, 0, none⟩) gs.length gs.length] 33)).heap.size = w3.heap.size + 1 := by simp
    generalize w3.alloc (.cells #[.int .i64 0, .int .i64 2, .slice la 1 lcap, .int .i64 4, .int .i64 1, .slice (some ⟨mg, 0, none⟩) gs.length gs.length] 33) = W4 at *
    have hl1 := (HL.out.keep hg4).keep (grown_alloc W4 (.cells #[.int .i64 1, .int .i64 0, .int .i64 0] 64))
    have hl2 : LksAt (W4.alloc (.cells #[.int .i64 1, .int .i64 0, .int .i64 0] 64)) [⟨1, 0, 0⟩] (.slice (some ⟨w3.heap.size + 1, 0, none⟩) 1 1) := lksAt_cells (alloc_at _ _ _ hz4.symm) rfl (Nat.le_refl _)
    refine (same_yes hl1 hl2 (by simp)).mono ?_
    rintro e w5 ⟨rfl, hg5⟩
    have HG5 := Lib.hid (grown_trans (grown_trans (grown_trans HG3.out hg4) (grown_alloc _ _)) hg5)
    clear hg4 hz4 hl1 hl2 hg5
    go_wp2_with (fail)
    go_ret
    exact ⟨rfl, below_grown HG5.out (Nat.le_refl _)⟩
end Go.Proofs.YtaomlahphlemdaaGreatDoor
